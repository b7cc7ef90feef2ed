package check

import (
	"paling/api"
	"paling/names"
	"paling/types"
)

// block looks at statements that see their own locals alone.
func (w *work) block(l []api.Stmt) {
	w.scope.Enter()
	w.row(l)
	w.scope.Leave()
}

// row looks at statements, one behind the other.
func (w *work) row(l []api.Stmt) {
	for _, s := range l {
		w.stmt(s)
	}
}

// stmt looks at a statement.
func (w *work) stmt(s api.Stmt) {
	switch s.Kind {
	case api.Let:
		w.let(s)
	case api.Assign:
		w.assign(s)
	case api.If, api.While:
		w.branch(s)
	case api.Hold:
		w.hold(s)
	case api.Put:
		w.put(s)
	default: // no text tells one
		fail(api.ErrType, s.At)
	}
}

// only is a statement's expression.
func only(s api.Stmt) api.Expr {
	if len(s.E) != 1 { // no text tells another number
		fail(api.ErrType, s.At)
	}
	return s.E[0]
}

// known tells what a statement's name is, which must be known.
func (w *work) known(s api.Stmt) int {
	kind := w.scope.Kind(s.Name)
	if kind == names.None {
		fail(api.ErrName, s.At)
	}
	return kind
}

// let looks at a statement that makes a local.
func (w *work) let(s api.Stmt) {
	w.fit(only(s), s.Type)
	failOn(w.scope.Let(s.Name, s.Type), s.At)
}

// assign looks at a statement that changes something.
func (w *work) assign(s api.Stmt) {
	kind := w.known(s)
	if !w.changeable(kind, s) {
		fail(api.ErrType, s.At)
	}
	for _, place := range s.Index { // the place can be seen, so it must be public
		w.fit(place, api.Type{})
	}
	w.fit(only(s), w.scope.Type(s.Name))
	if kind == names.Global {
		w.use(s.Name, s.At)
		w.change(s.Name)
	}
}

// changeable tells whether what a statement changes, whose name is of a kind, is one thing: a place of an array, or what has no places.
func (w *work) changeable(kind int, s api.Stmt) bool {
	g, _ := w.scope.Global(s.Name)
	if len(s.Index) > 0 {
		return kind == names.Global && g.Len != 0 && len(s.Index) == 1
	}
	return kind == names.Local || kind == names.Global && g.Len == 0
}

// branch looks at a statement that goes one way or the other; which one can be seen, so what is asked must be public.
func (w *work) branch(s api.Stmt) {
	w.fit(only(s), api.Type{Truth: true})
	w.block(s.Body)
	w.block(s.Else)
}

// hold looks at a statement that holds a lock: once, as it would wait for itself else.
func (w *work) hold(s api.Stmt) {
	if w.known(s) != names.Lock {
		fail(api.ErrType, s.At)
	}
	if _, open := w.open[s.Name]; open || w.function != none {
		fail(api.ErrGuard, s.At)
	}
	w.open[s.Name] = struct{}{}
	w.block(s.Body)
	delete(w.open, s.Name)
}

// put looks at a statement that puts something out, which can be seen, so it must be public.
func (w *work) put(s api.Stmt) {
	if w.function != none {
		fail(api.ErrGuard, s.At)
	}
	e := only(s)
	t := w.look(e)
	failOn(types.Fits(t, api.Type{Truth: t.Truth}), e.At)
}
