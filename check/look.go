package check

import (
	"paling/api"
	"paling/names"
	"paling/types"
)

// look is the type of an expression, which calls and uses nothing but what may be where we are.
func (w *work) look(e api.Expr) api.Type {
	t, bad, at := types.Of(w.scope, e)
	failOn(bad, at)
	if w.function != none {
		w.calls(e)
	}
	w.reads(e)
	return t
}

// fit looks at an expression whose type must fit another one.
func (w *work) fit(e api.Expr, want api.Type) {
	t := w.look(e)
	failOn(types.Fits(t, want), e.At)
}

// calls looks at an expression's calls: only functions ahead of this one, so that each ends.
func (w *work) calls(e api.Expr) {
	if e.Kind == api.Call {
		if _, place := w.scope.Func(e.Name); place >= w.function {
			fail(api.ErrName, e.At)
		}
	}
	for _, kid := range e.Kids {
		w.calls(kid)
	}
}

// reads uses the globals of an expression.
func (w *work) reads(e api.Expr) {
	if (e.Kind == api.Var || e.Kind == api.Elem) && w.scope.Kind(e.Name) == names.Global {
		w.use(e.Name, e.At)
	}
	for _, kid := range e.Kids {
		w.reads(kid)
	}
}
