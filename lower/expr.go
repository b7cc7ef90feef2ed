package lower

import (
	"paling/api"
	"paling/layout"
)

// alone stands for a register, where a word's place is a number alone.
const alone = -1

// expr puts what an expression does, and tells the register that it comes to. What no program has comes to 0.
func (w *work) expr(e api.Expr) int {
	switch e.Kind {
	case api.Num, api.Truth:
		return w.set(e.N)
	case api.Var:
		return w.variable(e)
	case api.Elem:
		return w.element(e)
	case api.Neg:
		return w.less(0, e)
	case api.Not:
		return w.less(1, e)
	case api.Two:
		return w.two(e)
	case api.Call:
		return w.call(e)
	}
	return w.set(0)
}

// nth puts what one of some expressions does.
func (w *work) nth(l []api.Expr, n int) int {
	if n >= len(l) { // no program has so few
		return w.set(0)
	}
	return w.expr(l[n])
}

// variable is a local's own register, or a new one with a global.
func (w *work) variable(e api.Expr) int {
	if own, is := w.locals[e.Name]; is {
		return own
	}
	return w.load(alone, w.globals[e.Name])
}

// load is a new register with a word of a global.
func (w *work) load(a int, g layout.Place) int {
	return w.into(api.Ins{Kind: api.Load, A: a, N: int64(g.Base)})
}

// element is a new register with what stands at a place of an array.
func (w *work) element(e api.Expr) int {
	g := w.globals[e.Name]
	t := w.nth(e.Kids, 0)
	if cuttable(g) {
		w.look(t, g)
		return w.load(w.cut(t, g), g)
	}
	u := w.move(t)
	w.look(u, g)
	return w.load(u, g)
}

// cuttable tells whether the bits of a place alone can keep it within an array.
func cuttable(g layout.Place) bool { return g.Len&(g.Len-1) == 0 }

// cut is a new register with a place that the array has, whatever is guessed.
func (w *work) cut(t int, g layout.Place) int {
	k := w.set(int64(g.Len) - 1)
	return w.calc(api.And, t, k)
}

// below is a new register that tells whether an array has a place.
func (w *work) below(t int, g layout.Place) int {
	b := w.set(int64(g.Len))
	return w.calc(api.Below, t, b)
}

// look traps, unless an array has a place.
func (w *work) look(t int, g layout.Place) { w.trapIfZero(w.below(t, g), api.TrapPlace) }

// less is a new register with a number less what the kid comes to.
func (w *work) less(n int64, e api.Expr) int {
	a := w.nth(e.Kids, 0)
	return w.calc(api.Sub, w.set(n), a)
}

// two is a new register with what an operator comes to.
func (w *work) two(e api.Expr) int {
	a := w.nth(e.Kids, 0)
	b := w.nth(e.Kids, 1)
	if e.Op == api.Div || e.Op == api.Rem {
		w.trapIfZero(b, api.TrapDivide)
	}
	return w.calc(e.Op, a, b)
}

// call puts what a function does, with registers of its own, and tells the one that it comes to.
func (w *work) call(e api.Expr) int {
	place, is := w.funcs[e.Name]
	if !is || place >= w.ahead || len(e.Kids) != len(w.row[place].Params) { // no program calls it
		return w.set(0)
	}
	var kids []int
	for _, kid := range e.Kids {
		kids = append(kids, w.expr(kid))
	}
	locals, ahead := w.locals, w.ahead
	w.locals, w.ahead = map[string]int{}, place
	ret := w.function(w.row[place], kids)
	w.locals, w.ahead = locals, ahead
	return ret
}

// function puts what a function does of what some registers have.
func (w *work) function(f api.Func, kids []int) int {
	for i, p := range f.Params {
		w.locals[p.Name] = w.move(kids[i])
	}
	w.stmts(f.Body)
	return w.expr(f.Ret)
}
