package check_test

import (
	"slices"

	"paling/api"
	"paling/check"
	"paling/names"
	"paling/types"
)

// complaint is an error, where it is, and what it is about; the zero one is none.
type complaint struct {
	bad api.Errno
	at  int
	why string
}

// place is where a statement stands: what is known there, and held. Each one is a value, so that nothing has to be undone behind a block.
type place struct {
	function int // below 0: in a thread
	thread   int
	locals   []api.Param
	held     []string
}

// with is a place at which one more local is known.
func (x place) with(l api.Param) place {
	x.locals = append(slices.Clip(x.locals), l)
	return x
}

// holding is a place at which one more lock is held.
func (x place) holding(lock string) place {
	x.held = append(slices.Clip(x.held), lock)
	return x
}

// judge tells all that is wrong with a program, in the order in which it is to be told, and goes on behind each error.
type judge struct {
	p             api.Program
	scope         *names.Scope // without any locals: what looks at an expression puts those of its place there, and takes them away again
	wrong         []complaint
	uses, changes map[string][4]bool
}

// meant is what must come of a program: the first of all complaints, and who uses what.
func meant(p api.Program) (complaint, []check.Use) {
	scope, bad, at := names.New(p)
	if bad != api.OK {
		return complaint{bad, at, "twice"}, nil
	}
	j := &judge{p: p, scope: scope, uses: map[string][4]bool{}, changes: map[string][4]bool{}}
	j.program()
	if len(j.wrong) > 0 {
		return j.wrong[0], nil
	}
	var l []check.Use
	for _, g := range p.Globals {
		l = append(l, check.Use{Uses: threads(j.uses[g.Name]), Changes: threads(j.changes[g.Name])})
	}
	return complaint{}, l
}

// threads are the numbers of those that are.
func threads(set [4]bool) []int {
	var l []int
	for i, is := range set {
		if is {
			l = append(l, i)
		}
	}
	return l
}

// unless keeps an error, if something isn't as it must be.
func (j *judge) unless(is bool, bad api.Errno, at int, why string) {
	if !is {
		j.wrong = append(j.wrong, complaint{bad, at, why})
	}
}

// kind is what a name is at a place.
func (j *judge) kind(name string, x place) int {
	switch {
	case slices.ContainsFunc(x.locals, func(l api.Param) bool { return l.Name == name }):
		return names.Local
	case slices.ContainsFunc(j.p.Globals, func(g api.Global) bool { return g.Name == name }):
		return names.Global
	case slices.ContainsFunc(j.p.Locks, func(l api.Lock) bool { return l.Name == name }):
		return names.Lock
	case slices.ContainsFunc(j.p.Funcs, func(f api.Func) bool { return f.Name == name }):
		return names.Func
	}
	return names.None
}

// global is the one of a name; if there is none, an empty one.
func (j *judge) global(name string) api.Global {
	for _, g := range j.p.Globals {
		if g.Name == name {
			return g
		}
	}
	return api.Global{}
}

// program judges all things.
func (j *judge) program() {
	for _, g := range j.p.Globals {
		j.unless(g.By == "" || j.kind(g.By, place{}) == names.Lock, api.ErrName, g.At, "by")
	}
	for i, f := range j.p.Funcs {
		x := place{function: i}
		for _, l := range f.Params {
			j.unless(j.kind(l.Name, x) == names.None && l.Name != "", api.ErrName, f.At, "param")
			x = x.with(l)
		}
		x = j.row(f.Body, x)
		j.fits(f.Ret, x, f.Type, "return")
	}
	for i, body := range j.p.Threads {
		j.row(body, place{function: -1, thread: i})
	}
	for _, g := range j.p.Globals {
		j.unless(g.By != "" || len(threads(j.changes[g.Name])) == 0 || len(threads(j.uses[g.Name])) < 2, api.ErrGuard, g.At, "shared")
	}
}

// row judges statements, and tells the place behind them.
func (j *judge) row(l []api.Stmt, x place) place {
	for _, s := range l {
		switch s.Kind {
		case api.Let:
			j.fits(s.E[0], x, s.Type, "let")
			j.unless(j.kind(s.Name, x) == names.None && s.Name != "", api.ErrName, s.At, "let name")
			x = x.with(api.Param{Name: s.Name, Type: s.Type})
		case api.Assign:
			j.assign(s, x)
		case api.If, api.While:
			j.fits(s.E[0], x, api.Type{Truth: true}, "branch")
			j.row(s.Body, x)
			j.row(s.Else, x)
		case api.Hold:
			kind := j.kind(s.Name, x)
			j.unless(kind != names.None, api.ErrName, s.At, "lock name")
			j.unless(kind == names.Lock, api.ErrType, s.At, "lock type")
			j.unless(x.function < 0, api.ErrGuard, s.At, "lock in function")
			j.unless(!slices.Contains(x.held, s.Name), api.ErrGuard, s.At, "lock again")
			j.row(s.Body, x.holding(s.Name))
		case api.Put:
			j.unless(x.function < 0, api.ErrGuard, s.At, "out in function")
			t := j.look(s.E[0], x)
			j.unless(!t.Secret, api.ErrLabel, s.E[0].At, "out secret")
		}
	}
	return x
}

// assign judges one.
func (j *judge) assign(s api.Stmt, x place) {
	kind, g := j.kind(s.Name, x), j.global(s.Name)
	j.unless(kind != names.None, api.ErrName, s.At, "assign name")
	want := g.Type
	for _, l := range x.locals {
		if l.Name == s.Name {
			want = l.Type
		}
	}
	if len(s.Index) == 0 {
		j.unless(kind == names.Local || kind == names.Global, api.ErrType, s.At, "assign kind")
		j.unless(kind != names.Global || g.Len == 0, api.ErrType, s.At, "assign array")
	} else {
		j.unless(kind == names.Global && g.Len != 0, api.ErrType, s.At, "assign place")
		j.fits(s.Index[0], x, api.Type{}, "place")
	}
	j.fits(s.E[0], x, want, "assign")
	if kind == names.Global {
		j.use(s.Name, s.At, x, "changed")
		set := j.changes[s.Name]
		set[x.thread] = true
		j.changes[s.Name] = set
	}
}

// fits judges an expression that must fit a type.
func (j *judge) fits(e api.Expr, x place, want api.Type, why string) {
	t := j.look(e, x)
	j.unless(t.Truth == want.Truth, api.ErrType, e.At, why+" type")
	j.unless(!t.Secret || want.Secret, api.ErrLabel, e.At, why+" secret")
}

// look judges an expression, and tells its type.
func (j *judge) look(e api.Expr, x place) api.Type {
	s := j.scope
	s.Enter()
	defer s.Leave()
	for _, l := range x.locals {
		s.Let(l.Name, l.Type)
	}
	t, bad, at := types.Of(s, e)
	j.unless(bad == api.OK, bad, at, "expression")
	all := flat(e)
	for _, part := range all {
		_, function := s.Func(part.Name)
		if part.Kind == api.Call && x.function >= 0 {
			j.unless(function < x.function, api.ErrName, part.At, "called early")
		}
	}
	for _, part := range all {
		if (part.Kind == api.Var || part.Kind == api.Elem) && j.kind(part.Name, x) == names.Global {
			j.use(part.Name, part.At, x, "read")
		}
	}
	return t
}

// use judges the use of a global.
func (j *judge) use(name string, at int, x place, why string) {
	g := j.global(name)
	j.unless(x.function < 0, api.ErrGuard, at, why+" in function")
	j.unless(g.By == "" || slices.Contains(x.held, g.By), api.ErrGuard, at, why+" unguarded")
	set := j.uses[name]
	set[x.thread] = true
	j.uses[name] = set
}

// flat is an expression and all within, each ahead of its kids.
func flat(e api.Expr) []api.Expr {
	l := []api.Expr{e}
	for _, kid := range e.Kids {
		l = append(l, flat(kid)...)
	}
	return l
}
