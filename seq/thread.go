package seq

import (
	"slices"

	"paling/api"
)

// doing is what a kind does of an instruction; true: the turn is over, with what it comes to.
type doing func(i api.Ins) (api.Event, int, bool)

// thread is one that runs.
type thread struct {
	run    *Run
	number int
	code   api.Code
	does   map[int]doing // what each kind does, made but once: a turn may be a single instruction
	regs   map[int]int64 // those that were written
	place  int           // of the instruction ahead of which it stands, or of its last one
	over   bool
}

// newThread is one at its beginning.
func newThread(r *Run, number int, c api.Code) *thread {
	t := &thread{run: r, number: number, code: slices.Clone(c), regs: map[int]int64{}}
	t.does = t.kinds()
	return t
}

// step does an instruction; true: the turn is over, with what it comes to.
func (t *thread) step() (api.Event, int, bool) {
	i := t.ahead()
	do, is := t.does[i.Kind]
	if !is {
		return t.nothing(i)
	}
	return do(i)
}

// ahead is the instruction ahead of which the thread stands: where there is none, one that ends it.
func (t *thread) ahead() api.Ins {
	if t.place < 0 || t.place >= len(t.code) {
		return api.Ins{Kind: api.Halt}
	}
	return t.code[t.place]
}

// read is what a register has. One below 0 was never written, and so has 0.
func (t *thread) read(n int) int64 { return t.regs[n] }

// write lets a register have a number.
func (t *thread) write(n int, to int64) {
	if n >= 0 {
		t.regs[n] = to
	}
}

// word is the place of an instruction's word. No A, too, is a register below 0.
func (t *thread) word(i api.Ins) int64 { return i.N + t.read(i.A) }

// on goes on at the next place.
func (t *thread) on() (api.Event, int, bool) { return t.to(t.place + 1) }

// to goes on at a place.
func (t *thread) to(place int) (api.Event, int, bool) {
	t.place = place
	return api.Event{}, Did, false
}

// did ends the turn with an event, and stands ahead of the next place.
func (t *thread) did(kind int, n int64) (api.Event, int, bool) {
	t.place++
	return t.event(kind, n), Did, true
}

// end ends the turn, and the thread, with an event.
func (t *thread) end(kind int, n int64) (api.Event, int, bool) {
	t.over = true
	return t.event(kind, n), Did, true
}

// event is one of the thread's.
func (t *thread) event(kind int, n int64) api.Event {
	return api.Event{Kind: kind, Thread: t.number, N: n}
}
