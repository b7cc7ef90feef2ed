package seq

import (
	"paling/api"
	"paling/calc"
)

// kinds is what each kind does.
func (t *thread) kinds() map[int]doing {
	return map[int]doing{
		api.Set:   t.set,
		api.Move:  t.move,
		api.Calc:  t.calc,
		api.Pick:  t.pick,
		api.Load:  t.load,
		api.Store: t.store,
		api.Jump:  t.jump,
		api.Zero:  t.zero,
		api.Fence: t.nothing,
		api.Take:  t.take,
		api.Give:  t.give,
		api.Out:   t.out,
		api.Trap:  t.trap,
		api.Halt:  t.halt,
	}
}

// set does a Set.
func (t *thread) set(i api.Ins) (api.Event, int, bool) {
	t.write(i.D, i.N)
	return t.on()
}

// move does a Move.
func (t *thread) move(i api.Ins) (api.Event, int, bool) {
	t.write(i.D, t.read(i.A))
	return t.on()
}

// calc does a Calc.
func (t *thread) calc(i api.Ins) (api.Event, int, bool) {
	t.write(i.D, calc.Eval(i.Op, t.read(i.A), t.read(i.B)))
	return t.on()
}

// pick does a Pick.
func (t *thread) pick(i api.Ins) (api.Event, int, bool) {
	if t.read(i.A) != 0 {
		t.write(i.D, t.read(i.B))
	}
	return t.on()
}

// load does a Load.
func (t *thread) load(i api.Ins) (api.Event, int, bool) {
	n := int64(0)
	if at := t.word(i); t.run.has(at) {
		n = t.run.memory[at]
	}
	t.write(i.D, n)
	return t.on()
}

// store does a Store.
func (t *thread) store(i api.Ins) (api.Event, int, bool) {
	if at := t.word(i); t.run.has(at) {
		t.run.memory[at] = t.read(i.B)
	}
	return t.on()
}

// jump does a Jump.
func (t *thread) jump(i api.Ins) (api.Event, int, bool) { return t.to(i.To) }

// zero does a Zero.
func (t *thread) zero(i api.Ins) (api.Event, int, bool) {
	if t.read(i.A) == 0 {
		return t.to(i.To)
	}
	return t.on()
}

// nothing does a Fence, as nothing is guessed here, and what is of no kind.
func (t *thread) nothing(api.Ins) (api.Event, int, bool) { return t.on() }

// take does a Take. A thread waits for what it owns itself, too.
func (t *thread) take(i api.Ins) (api.Event, int, bool) {
	if t.run.Owner(i.N) != none {
		return api.Event{}, Waits, true
	}
	t.run.owners[i.N] = t.number
	return t.did(api.DidLock, i.N)
}

// give does a Give, whoever owns the lock.
func (t *thread) give(i api.Ins) (api.Event, int, bool) {
	delete(t.run.owners, i.N)
	return t.did(api.DidUnlock, i.N)
}

// out does an Out.
func (t *thread) out(i api.Ins) (api.Event, int, bool) { return t.did(api.DidOut, t.read(i.A)) }

// trap does a Trap.
func (t *thread) trap(i api.Ins) (api.Event, int, bool) { return t.end(api.DidTrap, i.N) }

// halt does a Halt.
func (t *thread) halt(api.Ins) (api.Event, int, bool) { return t.end(api.DidHalt, 0) }
