package source

import "paling/api"

// thread is one that runs.
type thread struct {
	locals frame
	open   []block // those that it is in, the last one innermost; none: it has ended
}

// block is what a thread has still to do of one.
type block struct {
	rest []stmt
	lock int // that is given back behind it, or none
}

// turn is a thread's way to its next event.
type turn struct {
	run    *Run
	thread *thread
	number int
	fuel   int
}

// step does a statement, or ends a block; true: the turn is over, with what it comes to.
func (t *turn) step() (api.Event, int, bool) {
	if len(t.thread.open) == 0 {
		return api.Event{}, Ended, true
	}
	if s := t.ahead(); s != nil {
		return t.do(s)
	}
	return t.leave()
}

// ahead is the statement ahead of which the thread stands; nil: it stands at a block's end.
func (t *turn) ahead() *stmt {
	b := t.inner()
	if len(b.rest) == 0 {
		return nil
	}
	return &b.rest[0]
}

// inner is the innermost block.
func (t *turn) inner() *block { return &t.thread.open[len(t.thread.open)-1] }

// pass goes behind the statement ahead of which the thread stands.
func (t *turn) pass() {
	b := t.inner()
	b.rest = b.rest[1:]
}

// enter begins a block.
func (t *turn) enter(l []stmt, lock int) { t.thread.open = append(t.thread.open, block{l, lock}) }

// leave ends the innermost block: its lock is given back, and the thread ends with its outermost one.
func (t *turn) leave() (api.Event, int, bool) {
	lock := t.inner().lock
	t.thread.open = t.thread.open[:len(t.thread.open)-1]
	if lock != none {
		t.run.owners[lock] = none
		return t.did(api.DidUnlock, int64(lock))
	}
	if len(t.thread.open) == 0 {
		return t.did(api.DidHalt, 0)
	}
	return t.on()
}

// did ends the turn with an event.
func (t *turn) did(kind int, n int64) (api.Event, int, bool) {
	return api.Event{Kind: kind, Thread: t.number, N: n}, Did, true
}

// on goes on with the turn.
func (t *turn) on() (api.Event, int, bool) { return api.Event{}, Did, false }

// do does a statement. A trap, or too little fuel, ends it where that is come to;
// as a thread goes on, and changes things, only when all was evaluated, it then is as if it hadn't begun.
func (t *turn) do(s *stmt) (event api.Event, what int, over bool) {
	defer func() {
		switch x := recover().(type) {
		case nil:
		case trap:
			t.thread.open = nil
			event, what, over = t.did(api.DidTrap, int64(x))
		case tired:
			event, what, over = api.Event{}, Tired, true
		default: // nothing of a program's: nothing here may answer for it
			panic(x)
		}
	}()
	t.burn()
	return t.carryOut(s)
}

// carryOut does a statement, as is told of its kind.
func (t *turn) carryOut(s *stmt) (api.Event, int, bool) {
	f := t.thread.locals
	switch s.kind {
	case api.Let, api.Assign:
		t.change(s, f)
	case api.If:
		way := s.way(t.eval(&s.e, f))
		t.pass()
		t.enter(way, none)
		return t.on()
	case api.While:
		if t.eval(&s.e, f) == 1 { // it is done once more behind Body
			t.enter(s.body, none)
			return t.on()
		}
	case api.Hold:
		return t.hold(s)
	case api.Put:
		n := t.eval(&s.e, f)
		t.pass()
		return t.did(api.DidOut, n)
	}
	t.pass()
	return t.on()
}

// hold takes a lock, if nobody has it.
func (t *turn) hold(s *stmt) (api.Event, int, bool) {
	if s.lock == none { // no program holds what is no lock
		t.pass()
		return t.on()
	}
	if t.run.owners[s.lock] != none {
		return api.Event{}, Waits, true
	}
	t.run.owners[s.lock] = t.number
	t.pass()
	t.enter(s.body, s.lock)
	return t.did(api.DidLock, int64(s.lock))
}
