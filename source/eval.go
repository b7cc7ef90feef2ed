package source

import (
	"paling/api"
	"paling/calc"
)

// trap is thrown where a thread is trapped: why.
type trap int64

// tired is thrown where there is no fuel left.
type tired struct{}

// frame is what the locals of a thread, or of a call, have.
type frame []int64

// burn takes one of the fuel.
func (t *turn) burn() {
	if t.fuel <= 0 {
		panic(tired{})
	}
	t.fuel--
}

// eval is what an expression comes to.
func (t *turn) eval(e *expr, f frame) int64 {
	switch e.kind {
	case api.Num, api.Truth:
		return e.n
	case api.Var:
		return *t.thing(e.at, f)
	case api.Elem:
		return t.run.memory[t.word(e.at, t.eval(&e.kids[0], f))]
	case api.Neg:
		return calc.Eval(api.Sub, 0, t.eval(&e.kids[0], f))
	case api.Not:
		return calc.Eval(api.Sub, 1, t.eval(&e.kids[0], f))
	case api.Two:
		return t.two(e, f)
	case api.Call:
		return t.call(e, f)
	}
	return 0
}

// thing is the local, or the word, that has a name.
func (t *turn) thing(at spot, f frame) *int64 {
	if at.local >= 0 {
		return &f[at.local]
	}
	if at.len == 0 { // what isn't known is a thing of nobody's
		return new(int64)
	}
	return &t.run.memory[at.base]
}

// word is the one that an array has at a place.
func (t *turn) word(at spot, place int64) int {
	if place < 0 || place >= int64(at.len) {
		panic(trap(api.TrapPlace))
	}
	return at.base + int(place)
}

// two does an operator.
func (t *turn) two(e *expr, f frame) int64 {
	left := t.eval(&e.kids[0], f)
	right := t.eval(&e.kids[1], f)
	if right == 0 && (e.op == api.Div || e.op == api.Rem) {
		panic(trap(api.TrapDivide))
	}
	return calc.Eval(e.op, left, right)
}

// call does a function, with locals of its own.
func (t *turn) call(e *expr, f frame) int64 {
	own := make(frame, max(e.calls.locals, len(e.kids)))
	for i := range e.kids {
		own[i] = t.eval(&e.kids[i], f)
	}
	t.burn()
	t.row(e.calls.body, own)
	return t.eval(&e.calls.ret, own)
}

// row does a function's statements.
func (t *turn) row(l []stmt, f frame) {
	for i := range l {
		t.within(&l[i], f)
	}
}

// within does a statement of a function, all of it.
func (t *turn) within(s *stmt, f frame) {
	t.burn()
	switch s.kind {
	case api.Let, api.Assign:
		t.change(s, f)
	case api.If:
		t.row(s.way(t.eval(&s.e, f)), f)
	case api.While:
		for t.eval(&s.e, f) == 1 {
			t.row(s.body, f)
			t.burn()
		}
	}
}

// change does a Let, or an Assign.
func (t *turn) change(s *stmt, f frame) {
	if len(s.index) > 0 {
		word := t.word(s.at, t.eval(&s.index[0], f))
		t.run.memory[word] = t.eval(&s.e, f)
		return
	}
	n := t.eval(&s.e, f)
	*t.thing(s.at, f) = n
}

// way is what an If does, if it comes to a truth.
func (s *stmt) way(truth int64) []stmt {
	if truth == 1 {
		return s.body
	}
	return s.other
}
