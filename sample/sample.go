// Package sample writes programs, and codes, that may be, for the tests of other packages.
package sample

import (
	"slices"
	"strconv"

	"paling/api"
)

// Dice roll numbers that hang on their seed alone.
type Dice struct{ n uint64 }

// Rolls is dice of a seed.
func Rolls(seed int) *Dice { return &Dice{uint64(seed)} }

// Roll is the next of its numbers below another, which is above 0.
func (d *Dice) Roll(below int) int {
	d.n = d.n*6364136223846793005 + 1442695040888963407
	return int(d.n>>33) % below
}

// Writer writes a program that may be. What it writes hangs on its seed alone.
type Writer struct {
	*Dice
	Program api.Program
	owner   []int // for each global: the thread that alone uses it; below 0: all do, and none changes it
}

// place is where something is written.
type place struct {
	function int // below 0: in a thread
	thread   int
	locals   []local
	held     []string
}

// local is one that is known; one that counts is changed by its loop alone.
type local struct {
	name   string
	kind   api.Type
	counts bool
}

// with is a place at which one more local is known.
func (x place) with(l local) place {
	x.locals = append(slices.Clip(x.locals), l)
	return x
}

// fresh is a name that no local has there.
func (x place) fresh() string { return "v" + strconv.Itoa(len(x.locals)) }

// Write is one that has written.
func Write(seed int) *Writer {
	w := &Writer{Dice: Rolls(seed*2 + 1)}
	for i := range w.Roll(4) {
		w.Program.Locks = append(w.Program.Locks, api.Lock{Name: "m" + strconv.Itoa(i)})
	}
	many := 1 + w.Roll(4)
	for i := range 1 + w.Roll(10) {
		w.Program.Globals = append(w.Program.Globals, w.global("g"+strconv.Itoa(i)))
		w.owner = append(w.owner, w.Roll(many+1)-1)
	}
	for i := range w.Roll(5) {
		w.Program.Funcs = append(w.Program.Funcs, w.function("f"+strconv.Itoa(i), i))
	}
	for i := range many {
		w.Program.Threads = append(w.Program.Threads, w.row(4, place{function: -1, thread: i}))
	}
	return w
}

// Words are some, for a memory.
func (w *Writer) Words() []int64 {
	m := make([]int64, w.Roll(120))
	for i := range m {
		if m[i] = int64(w.Roll(7) - 2); w.Roll(6) == 0 {
			m[i] = int64(w.Roll(1<<30)) << w.Roll(34) * int64(1-2*w.Roll(2))
		}
	}
	return m
}

// kind is any type.
func (w *Writer) kind() api.Type { return api.Type{Truth: w.Roll(2) == 0, Secret: w.Roll(3) == 0} }

// fitting is a type that fits one.
func (w *Writer) fitting(t api.Type) api.Type {
	t.Secret = t.Secret && w.Roll(3) > 0
	return t
}

// global is one.
func (w *Writer) global(name string) api.Global {
	g := api.Global{Name: name, Type: w.kind()}
	if w.Roll(2) == 0 {
		g.Len = 1 + w.Roll(9)
	}
	if n := len(w.Program.Locks); n > 0 && w.Roll(2) == 0 {
		g.By = w.Program.Locks[w.Roll(n)].Name
	}
	return g
}

// function is one, that stands at some place of the row.
func (w *Writer) function(name string, at int) api.Func {
	f := api.Func{Name: name, Type: w.kind()}
	x := place{function: at}
	for range w.Roll(4) {
		l := local{name: x.fresh(), kind: w.kind()}
		f.Params = append(f.Params, api.Param{Name: l.name, Type: l.kind})
		x = x.with(l)
	}
	for _, s := range w.row(2, x) {
		f.Body = append(f.Body, s)
		if s.Kind == api.Let {
			x = x.with(local{name: s.Name, kind: s.Type})
		}
	}
	f.Ret = w.value(f.Type, x, 1+w.Roll(4))
	return f
}

// row is statements, with others within up to some depth.
func (w *Writer) row(deep int, x place) []api.Stmt {
	var l []api.Stmt
	for range 1 + w.Roll(7) {
		if deep > 0 && w.Roll(6) == 0 {
			counter, loop := w.loop(deep, x)
			l = append(l, counter, loop)
			x = x.with(local{counter.Name, counter.Type, true})
			continue
		}
		s, is := w.stmt(deep, x)
		if !is {
			continue
		}
		l = append(l, s)
		if s.Kind == api.Let {
			x = x.with(local{name: s.Name, kind: s.Type})
		}
	}
	return l
}

// loop is one that counts, and what it counts by.
func (w *Writer) loop(deep int, x place) (api.Stmt, api.Stmt) {
	i := x.fresh()
	counter := api.Stmt{Kind: api.Let, Name: i, E: []api.Expr{{Kind: api.Num}}}
	body := w.row(deep-1, x.with(local{i, api.Type{}, true}))
	body = append(body, api.Stmt{Kind: api.Assign, Name: i, E: []api.Expr{Two(api.Add, Named(i), Number(1))}})
	return counter, api.Stmt{Kind: api.While, E: []api.Expr{Two(api.Lt, Named(i), Number(w.Roll(4)))}, Body: body}
}

// Named is a thing's name, alone.
func Named(name string) api.Expr { return api.Expr{Kind: api.Var, Name: name} }

// Number is one.
func Number(n int) api.Expr { return api.Expr{Kind: api.Num, N: int64(n)} }

// Two is an operator of two expressions.
func Two(op int, a, b api.Expr) api.Expr {
	return api.Expr{Kind: api.Two, Op: op, Kids: []api.Expr{a, b}}
}

// stmt is one; false: there is nothing that may be.
func (w *Writer) stmt(deep int, x place) (api.Stmt, bool) {
	kind := []int{api.Let, api.Assign, api.Assign, api.Assign, api.If, api.While, api.Hold, api.Put, api.Put, api.Put}[w.Roll(10)]
	s := api.Stmt{Kind: kind}
	if deep == 0 && (kind == api.If || kind == api.While || kind == api.Hold) {
		return s, false
	}
	switch kind {
	case api.Let:
		s.Type, s.Name = w.kind(), x.fresh()
		s.E = w.one(s.Type, x)
	case api.Assign:
		return w.assign(x)
	case api.If, api.While:
		s.E = w.one(api.Type{Truth: true}, x)
		if kind == api.While { // few of these end by themselves
			s.E[0] = Two(api.Both, s.E[0], api.Expr{Kind: api.Truth, N: int64(w.Roll(3) / 2)})
		}
		s.Body = w.row(deep-1, x)
		if kind == api.If && w.Roll(2) == 0 {
			s.Else = w.row(deep-1, x)
		}
	case api.Hold:
		return w.hold(deep, x)
	case api.Put:
		if x.function >= 0 {
			return s, false
		}
		s.E = w.one(api.Type{Truth: w.Roll(2) == 0}, x)
	}
	return s, true
}

// hold holds a lock that isn't held.
func (w *Writer) hold(deep int, x place) (api.Stmt, bool) {
	if x.function >= 0 || len(w.Program.Locks) == 0 {
		return api.Stmt{}, false
	}
	s := api.Stmt{Kind: api.Hold, Name: w.Program.Locks[w.Roll(len(w.Program.Locks))].Name}
	if slices.Contains(x.held, s.Name) {
		return api.Stmt{}, false
	}
	x.held = append(slices.Clip(x.held), s.Name)
	s.Body = w.row(deep-1, x)
	return s, true
}

// assign changes a local, or a global that may be changed.
func (w *Writer) assign(x place) (api.Stmt, bool) {
	s := api.Stmt{Kind: api.Assign}
	if len(x.locals) > 0 && w.Roll(2) == 0 {
		l := x.locals[w.Roll(len(x.locals))]
		s.Name, s.E = l.name, w.one(l.kind, x)
		return s, !l.counts
	}
	i, is := w.usable(x, func(i int) bool { return w.Program.Globals[i].By != "" || w.owner[i] == x.thread })
	if !is {
		return s, false
	}
	g := w.Program.Globals[i]
	if s.Name = g.Name; g.Len > 0 {
		s.Index = []api.Expr{w.index(g.Len, x, 3)}
	}
	s.E = w.one(g.Type, x)
	return s, true
}

// index is a place of an array, mostly one that it has.
func (w *Writer) index(length int, x place, size int) api.Expr {
	e := w.value(api.Type{}, x, size)
	switch w.Roll(8) {
	case 0:
		return e
	case 1, 2, 3:
		return Number(w.Roll(length))
	}
	mask := 1
	for mask*2 <= length {
		mask *= 2
	}
	return Two(api.And, e, Number(mask-1))
}

// usable is a global that may be used at a place, and is as it is asked; false: there is none.
func (w *Writer) usable(x place, is func(i int) bool) (int, bool) {
	if x.function >= 0 {
		return 0, false
	}
	var l []int
	for i, g := range w.Program.Globals {
		alone := g.By == "" && (w.owner[i] < 0 || w.owner[i] == x.thread)
		if (alone || slices.Contains(x.held, g.By)) && is(i) {
			l = append(l, i)
		}
	}
	if len(l) == 0 {
		return 0, false
	}
	return l[w.Roll(len(l))], true
}

// one is an expression that fits a type, as statements have it.
func (w *Writer) one(t api.Type, x place) []api.Expr {
	return []api.Expr{w.value(w.fitting(t), x, 1+w.Roll(5))}
}

// leaf is an expression without kids: of a type, or the public one that fits it.
func (w *Writer) leaf(t api.Type, x place) api.Expr {
	var l []string
	for _, v := range x.locals {
		if v.kind == t {
			l = append(l, v.name)
		}
	}
	if len(l) > 0 && w.Roll(3) > 0 {
		return Named(l[w.Roll(len(l))])
	}
	if i, is := w.usable(x, func(i int) bool { return w.Program.Globals[i].Type == t && w.Program.Globals[i].Len == 0 }); is {
		return Named(w.Program.Globals[i].Name)
	}
	if t.Truth {
		return api.Expr{Kind: api.Truth, N: int64(w.Roll(2))}
	}
	return Number(w.Roll(5))
}

// value is an expression that fits a type, of some size.
func (w *Writer) value(t api.Type, x place, size int) api.Expr {
	if size <= 1 {
		return w.leaf(t, x)
	}
	switch w.Roll(5) {
	case 0:
		kind := api.Neg
		if t.Truth {
			kind = api.Not
		}
		return api.Expr{Kind: kind, Kids: []api.Expr{w.value(t, x, size-1)}}
	case 1:
		if i, is := w.usable(x, func(i int) bool { return w.Program.Globals[i].Type == t && w.Program.Globals[i].Len > 0 }); is {
			g := w.Program.Globals[i]
			return api.Expr{Kind: api.Elem, Name: g.Name, Kids: []api.Expr{w.index(g.Len, x, size-1)}}
		}
	case 2:
		if e, is := w.call(t, x, size); is {
			return e
		}
	}
	return w.pair(t, x, size)
}

// call is one of a function of a type; false: there is none ahead.
func (w *Writer) call(t api.Type, x place, size int) (api.Expr, bool) {
	var l []api.Func
	for i, f := range w.Program.Funcs {
		if f.Type == t && (x.function < 0 || i < x.function) {
			l = append(l, f)
		}
	}
	if len(l) == 0 {
		return api.Expr{}, false
	}
	f := l[w.Roll(len(l))]
	e := api.Expr{Kind: api.Call, Name: f.Name}
	for _, p := range f.Params {
		e.Kids = append(e.Kids, w.value(w.fitting(p.Type), x, size/len(f.Params)))
	}
	return e, true
}

// pair is an operator of two, that comes to what fits a type; mostly, what divides isn't 0.
func (w *Writer) pair(t api.Type, x place, size int) api.Expr {
	ops := []int{api.Add, api.Sub, api.Mul, api.And, api.Or, api.Xor, api.Shl, api.Shr, api.Div, api.Rem}
	left := t
	if t.Truth {
		ops = []int{api.Eq, api.Ne, api.Lt, api.Le, api.Gt, api.Ge, api.Both, api.Any}
	}
	op := ops[w.Roll(len(ops))]
	if op >= api.Eq && op <= api.Ge {
		left.Truth = op <= api.Ne && w.Roll(2) == 0
	}
	right := left
	if op == api.Div || op == api.Rem {
		right.Secret = false
	}
	part := 1 + w.Roll(size-1)
	a, b := w.value(w.fitting(left), x, part), w.value(right, x, size-part)
	if (op == api.Div || op == api.Rem) && w.Roll(5) > 0 {
		b = Two(api.Or, b, Number(1))
	}
	return Two(op, a, b)
}
