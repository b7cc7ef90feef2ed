package check_test

import (
	"slices"
	"strconv"

	"paling/api"
	"paling/check"
)

// writer writes programs that may be, and who uses what of them. What it writes hangs on its seed alone.
type writer struct {
	n             uint64
	p             api.Program
	owner         []int // for each global: the thread that alone uses it; below 0: all do, and none changes it
	uses, changes [][4]bool
}

// write is one that has written.
func write(seed int) *writer {
	w := &writer{n: uint64(seed)*2 + 1}
	for i := range w.roll(4) {
		w.p.Locks = append(w.p.Locks, api.Lock{Name: "m" + strconv.Itoa(i)})
	}
	many := w.roll(5)
	for i := range w.roll(12) {
		w.p.Globals = append(w.p.Globals, w.global("g"+strconv.Itoa(i)))
		w.owner = append(w.owner, w.roll(5)-1)
	}
	w.uses, w.changes = make([][4]bool, len(w.owner)), make([][4]bool, len(w.owner))
	for i := range w.roll(5) {
		w.p.Funcs = append(w.p.Funcs, w.function("f"+strconv.Itoa(i), i))
	}
	for i := range many {
		w.p.Threads = append(w.p.Threads, w.row(4, place{function: -1, thread: i}))
	}
	return w
}

// told is what Uses is to tell.
func (w *writer) told() []check.Use {
	var l []check.Use
	for i := range w.uses {
		l = append(l, check.Use{Uses: threads(w.uses[i]), Changes: threads(w.changes[i])})
	}
	return l
}

// roll is the next of its numbers below another.
func (w *writer) roll(below int) int {
	w.n = w.n*6364136223846793005 + 1442695040888963407
	return int(w.n>>33) % below
}

// kind is any type.
func (w *writer) kind() api.Type { return api.Type{Truth: w.roll(2) == 0, Secret: w.roll(2) == 0} }

// fitting is a type that fits one.
func (w *writer) fitting(t api.Type) api.Type {
	t.Secret = t.Secret && w.roll(3) > 0
	return t
}

// global is one.
func (w *writer) global(name string) api.Global {
	g := api.Global{Name: name, Type: w.kind()}
	if w.roll(2) == 0 {
		g.Len = 1 + w.roll(64)
	}
	if n := len(w.p.Locks); n > 0 && w.roll(2) == 0 {
		g.By = w.p.Locks[w.roll(n)].Name
	}
	return g
}

// function is one, that stands at some place of the row.
func (w *writer) function(name string, at int) api.Func {
	f := api.Func{Name: name, Type: w.kind()}
	x := place{function: at}
	for i := range w.roll(4) {
		l := api.Param{Name: "v" + strconv.Itoa(i), Type: w.kind()}
		f.Params = append(f.Params, l)
		x = x.with(l)
	}
	for _, s := range w.row(3, x) {
		f.Body = append(f.Body, s)
		if s.Kind == api.Let {
			x = x.with(api.Param{Name: s.Name, Type: s.Type})
		}
	}
	f.Ret = w.value(f.Type, x, 1+w.roll(4))
	return f
}

// row is statements, with others within up to some depth.
func (w *writer) row(deep int, x place) []api.Stmt {
	var l []api.Stmt
	for range 1 + w.roll(4) {
		s, is := w.stmt(deep, x)
		if !is {
			continue
		}
		l = append(l, s)
		if s.Kind == api.Let {
			x = x.with(api.Param{Name: s.Name, Type: s.Type})
		}
	}
	return l
}

// stmt is one; false: there is nothing that may be.
func (w *writer) stmt(deep int, x place) (api.Stmt, bool) {
	kind := w.roll(6)
	s := api.Stmt{Kind: kind}
	if deep == 0 && (kind == api.If || kind == api.While || kind == api.Hold) {
		return s, false
	}
	switch kind {
	case api.Let:
		s.Type, s.Name = w.kind(), "v"+strconv.Itoa(len(x.locals))
		s.E = w.one(s.Type, x)
	case api.Assign:
		return w.assign(x)
	case api.If, api.While:
		s.E = w.one(api.Type{Truth: true}, x)
		s.Body = w.row(deep-1, x)
		if kind == api.If && w.roll(2) == 0 {
			s.Else = w.row(deep-1, x)
		}
	case api.Hold:
		return w.hold(deep, x)
	case api.Put:
		if x.function >= 0 {
			return s, false
		}
		s.E = w.one(api.Type{Truth: w.roll(2) == 0}, x)
	}
	return s, true
}

// hold holds a lock that isn't held.
func (w *writer) hold(deep int, x place) (api.Stmt, bool) {
	if x.function >= 0 || len(w.p.Locks) == 0 {
		return api.Stmt{}, false
	}
	s := api.Stmt{Kind: api.Hold, Name: w.p.Locks[w.roll(len(w.p.Locks))].Name}
	if slices.Contains(x.held, s.Name) {
		return api.Stmt{}, false
	}
	s.Body = w.row(deep-1, x.holding(s.Name))
	return s, true
}

// assign changes a local, or a global that may be changed.
func (w *writer) assign(x place) (api.Stmt, bool) {
	s := api.Stmt{Kind: api.Assign}
	if len(x.locals) > 0 && w.roll(2) == 0 {
		l := x.locals[w.roll(len(x.locals))]
		s.Name, s.E = l.Name, w.one(l.Type, x)
		return s, true
	}
	i, is := w.usable(x, func(i int) bool { return w.p.Globals[i].By != "" || w.owner[i] == x.thread })
	if !is {
		return s, false
	}
	g := w.p.Globals[i]
	if s.Name = g.Name; g.Len > 0 {
		s.Index = w.one(api.Type{}, x)
	}
	s.E = w.one(g.Type, x)
	w.uses[i][x.thread], w.changes[i][x.thread] = true, true
	return s, true
}

// usable is a global that may be used at a place, and is as it is asked; false: there is none.
func (w *writer) usable(x place, is func(i int) bool) (int, bool) {
	if x.function >= 0 {
		return 0, false
	}
	var l []int
	for i, g := range w.p.Globals {
		alone := g.By == "" && (w.owner[i] < 0 || w.owner[i] == x.thread)
		if (alone || slices.Contains(x.held, g.By)) && is(i) {
			l = append(l, i)
		}
	}
	if len(l) == 0 {
		return 0, false
	}
	return l[w.roll(len(l))], true
}

// one is an expression that fits a type, as statements have it.
func (w *writer) one(t api.Type, x place) []api.Expr {
	return []api.Expr{w.value(w.fitting(t), x, 1+w.roll(5))}
}

// leaf is an expression without kids: of a type, or the public one that fits it.
func (w *writer) leaf(t api.Type, x place) api.Expr {
	var l []string
	for _, v := range x.locals {
		if v.Type == t {
			l = append(l, v.Name)
		}
	}
	if len(l) > 0 && w.roll(3) > 0 {
		return api.Expr{Kind: api.Var, Name: l[w.roll(len(l))]}
	}
	if i, is := w.usable(x, func(i int) bool { return w.p.Globals[i].Type == t && w.p.Globals[i].Len == 0 }); is {
		w.uses[i][x.thread] = true
		return api.Expr{Kind: api.Var, Name: w.p.Globals[i].Name}
	}
	kind := api.Num
	if t.Truth {
		kind = api.Truth
	}
	return api.Expr{Kind: kind, N: int64(w.roll(2))}
}

// value is an expression that fits a type, of some size.
func (w *writer) value(t api.Type, x place, size int) api.Expr {
	if size <= 1 {
		return w.leaf(t, x)
	}
	switch w.roll(5) {
	case 0:
		kind := api.Neg
		if t.Truth {
			kind = api.Not
		}
		return api.Expr{Kind: kind, Kids: []api.Expr{w.value(t, x, size-1)}}
	case 1:
		if i, is := w.usable(x, func(i int) bool { return w.p.Globals[i].Type == t && w.p.Globals[i].Len > 0 }); is {
			w.uses[i][x.thread] = true
			return api.Expr{Kind: api.Elem, Name: w.p.Globals[i].Name, Kids: []api.Expr{w.value(api.Type{}, x, size-1)}}
		}
	case 2:
		if e, is := w.call(t, x, size); is {
			return e
		}
	}
	return w.two(t, x, size)
}

// call is one of a function of a type; false: there is none ahead.
func (w *writer) call(t api.Type, x place, size int) (api.Expr, bool) {
	var l []api.Func
	for i, f := range w.p.Funcs {
		if f.Type == t && (x.function < 0 || i < x.function) {
			l = append(l, f)
		}
	}
	if len(l) == 0 {
		return api.Expr{}, false
	}
	f := l[w.roll(len(l))]
	e := api.Expr{Kind: api.Call, Name: f.Name}
	for _, p := range f.Params {
		e.Kids = append(e.Kids, w.value(w.fitting(p.Type), x, size/len(f.Params)))
	}
	return e, true
}

// two is an operator that comes to what fits a type.
func (w *writer) two(t api.Type, x place, size int) api.Expr {
	ops := []int{api.Add, api.Sub, api.Mul, api.And, api.Or, api.Xor, api.Shl, api.Shr, api.Div, api.Rem}
	left := t
	if t.Truth {
		ops = []int{api.Eq, api.Ne, api.Lt, api.Le, api.Gt, api.Ge, api.Both, api.Any}
	}
	op := ops[w.roll(len(ops))]
	if op >= api.Eq && op <= api.Ge {
		left.Truth = op <= api.Ne && w.roll(2) == 0
	}
	right := left
	if op == api.Div || op == api.Rem {
		right.Secret = false
	}
	part := 1 + w.roll(size-1)
	return api.Expr{Kind: api.Two, Op: op, Kids: []api.Expr{w.value(w.fitting(left), x, part), w.value(right, x, size-part)}}
}
