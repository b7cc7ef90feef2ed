package lower

import (
	"paling/api"
	"paling/layout"
)

// stmts puts what statements do, one behind the other.
func (w *work) stmts(l []api.Stmt) {
	for _, s := range l {
		w.stmt(s)
	}
}

// stmt puts what a statement does.
func (w *work) stmt(s api.Stmt) {
	switch s.Kind {
	case api.Let: // the local is known behind its own expression only
		w.locals[s.Name] = w.move(w.nth(s.E, 0))
	case api.Assign:
		w.assign(s)
	case api.If:
		w.branch(s)
	case api.While:
		w.loop(s)
	case api.Hold:
		w.hold(s)
	case api.Put:
		w.put(api.Ins{Kind: api.Out, A: w.nth(s.E, 0)})
	}
}

// assign changes a local, or a word of a global.
func (w *work) assign(s api.Stmt) {
	g := w.globals[s.Name]
	if len(s.Index) > 0 {
		w.assignElement(s, g)
		return
	}
	e := w.nth(s.E, 0)
	if own, is := w.locals[s.Name]; is {
		w.put(api.Ins{Kind: api.Move, D: own, A: e})
		return
	}
	w.store(alone, g, e)
}

// assignElement changes a place of an array. It is looked at ahead of what it is to be, as that may be trapped, too.
func (w *work) assignElement(s api.Stmt, g layout.Place) {
	t := w.nth(s.Index, 0)
	w.look(t, g)
	e := w.nth(s.E, 0)
	if cuttable(g) {
		w.store(w.cut(t, g), g, e)
		return
	}
	w.store(w.picked(t, g), g, e)
}

// picked is a new register with a place that the array has, whatever is guessed: another one is 0.
func (w *work) picked(t int, g layout.Place) int {
	u := w.move(t)
	c := w.below(u, g)
	m := w.set(0)
	w.put(api.Ins{Kind: api.Pick, D: m, A: c, B: u})
	return m
}

// store lets a word of a global be what a register has.
func (w *work) store(a int, g layout.Place, b int) {
	w.put(api.Ins{Kind: api.Store, A: a, B: b, N: int64(g.Base)})
}

// branch does Body, or Else.
func (w *work) branch(s api.Stmt) {
	other := w.zero(w.nth(s.E, 0))
	w.stmts(s.Body)
	if len(s.Else) == 0 {
		other(w.here())
		return
	}
	behind := w.jump()
	other(w.here())
	w.stmts(s.Else)
	behind(w.here())
}

// loop does Body while a truth holds.
func (w *work) loop(s api.Stmt) {
	first := w.here()
	behind := w.zero(w.nth(s.E, 0))
	w.stmts(s.Body)
	again := w.jump()
	again(first)
	behind(w.here())
}

// hold does Body with a lock.
func (w *work) hold(s api.Stmt) {
	lock := int64(w.locks[s.Name])
	w.put(api.Ins{Kind: api.Take, N: lock})
	w.stmts(s.Body)
	w.put(api.Ins{Kind: api.Give, N: lock})
}
