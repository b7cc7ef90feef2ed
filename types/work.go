package types

import (
	"paling/api"
	"paling/calc"
	"paling/names"
)

// work is that of one expression, in a scope.
type work struct {
	scope  *names.Scope
	asks   map[int]func(e api.Expr) api.Type // what each kind asks, and its type
	called map[string]api.Func               // a scope tells each function as a copy of the whole of it, so none is asked for twice
}

// newWork is one in a scope.
func newWork(s *names.Scope) *work {
	w := &work{scope: s, called: map[string]api.Func{}}
	w.asks = map[int]func(e api.Expr) api.Type{
		api.Num:   func(api.Expr) api.Type { return api.Type{} },
		api.Truth: func(api.Expr) api.Type { return api.Type{Truth: true} },
		api.Var:   func(e api.Expr) api.Type { return w.variable(e) },
		api.Elem:  func(e api.Expr) api.Type { return w.element(e) },
		api.Neg:   func(e api.Expr) api.Type { return w.fitting(kids(e, 1)[0], number()) },
		api.Not:   func(e api.Expr) api.Type { return w.fitting(kids(e, 1)[0], truth()) },
		api.Two:   func(e api.Expr) api.Type { return w.two(e) },
		api.Call:  func(e api.Expr) api.Type { return w.call(e) },
	}
	return w
}

// number is what each number fits, whether it is secret or not.
func number() api.Type { return api.Type{Secret: true} }

// truth is what each truth fits, whether it is secret or not.
func truth() api.Type { return api.Type{Truth: true, Secret: true} }

// of is an expression's type.
func (w *work) of(e api.Expr) api.Type {
	ask, is := w.asks[e.Kind]
	if !is {
		fail(api.ErrType, e)
	}
	return ask(e)
}

// fitting is an expression's type, which must fit another one.
func (w *work) fitting(e api.Expr, want api.Type) api.Type {
	t := w.of(e)
	hold(e, t, want)
	return t
}

// kids are an expression's, of which there must be just so many.
func kids(e api.Expr, many int) []api.Expr {
	if len(e.Kids) != many {
		fail(api.ErrType, e)
	}
	return e.Kids
}

// kind is what an expression's name is, which must be known.
func (w *work) kind(e api.Expr) int {
	kind := w.scope.Kind(e.Name)
	if kind == names.None {
		fail(api.ErrName, e)
	}
	return kind
}

// array tells whether an expression's name is that of a global with places.
func (w *work) array(e api.Expr) bool {
	g, _ := w.scope.Global(e.Name)
	return g.Len != 0
}

// variable is the type of a name alone.
func (w *work) variable(e api.Expr) api.Type {
	kind := w.kind(e)
	if kind != names.Local && (kind != names.Global || w.array(e)) {
		fail(api.ErrType, e)
	}
	return w.scope.Type(e.Name)
}

// element is the type of what stands at a place of an array; the place can be seen, so it must be public.
func (w *work) element(e api.Expr) api.Type {
	if w.kind(e) != names.Global || !w.array(e) {
		fail(api.ErrType, e)
	}
	w.fitting(kids(e, 1)[0], api.Type{})
	return w.scope.Type(e.Name)
}

// two is the type of an operator of two kids.
func (w *work) two(e api.Expr) api.Type {
	both := kids(e, 2)
	left, right := w.of(both[0]), w.of(both[1])
	first, second, is := wants(e.Op, left)
	if !is {
		fail(api.ErrType, e)
	}
	hold(both[0], left, first)
	hold(both[1], right, second)
	return Join(Join(api.Type{Truth: calc.Truth(e.Op)}, left), right)
}

// wants is what an operator's kids must fit, if the left one is of a type; false: there is no such operator.
func wants(op int, left api.Type) (api.Type, api.Type, bool) {
	switch op {
	case api.Div, api.Rem: // how long it takes tells of what divides
		return number(), api.Type{}, true
	case api.Add, api.Sub, api.Mul, api.And, api.Or, api.Xor, api.Shl, api.Shr, api.Lt, api.Le, api.Gt, api.Ge:
		return number(), number(), true
	case api.Eq, api.Ne:
		like := Join(left, api.Type{Secret: true})
		return like, like, true
	case api.Both, api.Any:
		return truth(), truth(), true
	}
	return api.Type{}, api.Type{}, false
}

// call is the type of what a function comes to.
func (w *work) call(e api.Expr) api.Type {
	f := w.function(e)
	for i, kid := range kids(e, len(f.Params)) {
		w.fitting(kid, f.Params[i].Type)
	}
	return f.Type
}

// function is the one that is called.
func (w *work) function(e api.Expr) api.Func {
	f, is := w.called[e.Name]
	if is {
		return f
	}
	if w.kind(e) != names.Func {
		fail(api.ErrType, e)
	}
	f, _ = w.scope.Func(e.Name)
	w.called[e.Name] = f
	return f
}
