package check_test

import (
	"slices"
	"strconv"

	"paling/api"
)

// pieces are what of a program can be bent, where it stands.
type pieces struct {
	names []*string
	types []*api.Type
	ats   []*int
	lens  []*int
	exprs []*api.Expr // all of them
	tops  []*api.Expr // those that stand in no other one
	at    []*api.Expr // of these, the places that are changed
	stmts []*api.Stmt
	rows  []*[]api.Stmt
}

// piecesOf are those of a program.
func piecesOf(p *api.Program) *pieces {
	c := &pieces{}
	for i := range p.Globals {
		g := &p.Globals[i]
		c.names, c.types, c.ats, c.lens = append(c.names, &g.Name, &g.By), append(c.types, &g.Type), append(c.ats, &g.At), append(c.lens, &g.Len)
	}
	for i := range p.Locks {
		c.names, c.ats = append(c.names, &p.Locks[i].Name), append(c.ats, &p.Locks[i].At)
	}
	for i := range p.Funcs {
		f := &p.Funcs[i]
		c.names, c.types, c.ats = append(c.names, &f.Name), append(c.types, &f.Type), append(c.ats, &f.At)
		for j := range f.Params {
			c.names, c.types = append(c.names, &f.Params[j].Name), append(c.types, &f.Params[j].Type)
		}
		c.row(&f.Body)
		c.tops = append(c.tops, &f.Ret)
		c.expr(&f.Ret)
	}
	for i := range p.Threads {
		c.row(&p.Threads[i])
	}
	return c
}

// row adds statements' pieces.
func (c *pieces) row(l *[]api.Stmt) {
	c.rows = append(c.rows, l)
	for i := range *l {
		s := &(*l)[i]
		c.stmts, c.ats = append(c.stmts, s), append(c.ats, &s.At)
		if s.Kind == api.Let || s.Kind == api.Assign || s.Kind == api.Hold {
			c.names = append(c.names, &s.Name)
		}
		if s.Kind == api.Let {
			c.types = append(c.types, &s.Type)
		}
		for j := range s.Index {
			c.tops, c.at = append(c.tops, &s.Index[j]), append(c.at, &s.Index[j])
			c.expr(&s.Index[j])
		}
		for j := range s.E {
			c.tops = append(c.tops, &s.E[j])
			c.expr(&s.E[j])
		}
		if s.Kind == api.If || s.Kind == api.While || s.Kind == api.Hold {
			c.row(&s.Body)
		}
		if s.Kind == api.If {
			c.row(&s.Else)
		}
	}
}

// expr adds an expression's pieces.
func (c *pieces) expr(e *api.Expr) {
	c.exprs, c.ats = append(c.exprs, e), append(c.ats, &e.At)
	if e.Kind == api.Var || e.Kind == api.Elem || e.Kind == api.Call {
		c.names = append(c.names, &e.Name)
	}
	for i := range e.Kids {
		c.expr(&e.Kids[i])
	}
}

// copied is a program that shares nothing with one.
func copied(p api.Program) api.Program {
	p.Globals, p.Locks, p.Funcs, p.Threads = slices.Clone(p.Globals), slices.Clone(p.Locks), slices.Clone(p.Funcs), slices.Clone(p.Threads)
	for i := range p.Funcs {
		f := &p.Funcs[i]
		f.Params, f.Body, f.Ret = slices.Clone(f.Params), copiedRow(f.Body), copiedExprs([]api.Expr{f.Ret})[0]
	}
	for i := range p.Threads {
		p.Threads[i] = copiedRow(p.Threads[i])
	}
	return p
}

// copiedRow is statements that share nothing with some.
func copiedRow(l []api.Stmt) []api.Stmt {
	l = slices.Clone(l)
	for i := range l {
		s := &l[i]
		s.Index, s.E, s.Body, s.Else = copiedExprs(s.Index), copiedExprs(s.E), copiedRow(s.Body), copiedRow(s.Else)
	}
	return l
}

// copiedExprs is expressions that share nothing with some.
func copiedExprs(l []api.Expr) []api.Expr {
	l = slices.Clone(l)
	for i := range l {
		l[i].Kids = copiedExprs(l[i].Kids)
	}
	return l
}

// placed gives each thing of a program an At of its own, in no order of a text's.
func placed(p api.Program, shift int) api.Program {
	p = copied(p)
	for i, at := range piecesOf(&p).ats {
		*at = ((i + shift) * 7919 % 100003) - 500
	}
	return p
}

// pick is one of a row.
func pick[T any](w *writer, l []T) (T, bool) {
	if len(l) == 0 {
		var none T
		return none, false
	}
	return l[w.roll(len(l))], true
}

// bent is a program with one thing of it changed; it is one that a text can tell.
func (w *writer) bent(p api.Program) api.Program {
	p = copied(p)
	c := piecesOf(&p)
	bends := []func(*api.Program, *pieces){w.bendName, w.bendName, w.bendType, w.bendType, w.bendExpr, w.bendExpr, w.bendTop, w.bendTop, w.bendPlace, w.bendLen, w.bendGuard, w.bendIndex, w.bendTarget, w.addHold, w.addStmt, w.addStmt, w.dropHold, w.moveStmt, w.order}
	bends[w.roll(len(bends))](&p, c)
	return p
}

// bendName puts another name where one stands.
func (w *writer) bendName(p *api.Program, c *pieces) {
	name, is := pick(w, c.names)
	if !is || *name == "" {
		return
	}
	*name = w.otherName(c)
}

// otherName is one that a program has, or one that it hasn't.
func (w *writer) otherName(c *pieces) string {
	name, is := pick(w, c.names)
	if is && *name != "" && w.roll(10) > 0 {
		return *name
	}
	return "v" + strconv.Itoa(w.roll(6))
}

// bendType makes another type of one, or a secret of what is public, or the other way round.
func (w *writer) bendType(p *api.Program, c *pieces) {
	t, is := pick(w, c.types)
	if !is {
		return
	}
	if t.Secret = !t.Secret; w.roll(2) == 0 {
		*t = w.kind()
	}
}

// bendExpr puts another expression where one stands.
func (w *writer) bendExpr(p *api.Program, c *pieces) {
	e, is := pick(w, c.exprs)
	if !is {
		return
	}
	*e = w.otherExpr(c, 2)
}

// bendTop puts an expression that stands in no other one where another such stands.
func (w *writer) bendTop(p *api.Program, c *pieces) { w.copyTop(c, c.tops) }

// bendPlace puts one where the place of an array stands that is changed.
func (w *writer) bendPlace(p *api.Program, c *pieces) { w.copyTop(c, c.at) }

// copyTop puts an expression that stands in no other one where one of some stands.
func (w *writer) copyTop(c *pieces, where []*api.Expr) {
	to, is := pick(w, where)
	from, _ := pick(w, c.tops)
	if is {
		*to = copiedExprs([]api.Expr{*from})[0]
	}
}

// otherExpr is any expression, of names that a program has.
func (w *writer) otherExpr(c *pieces, deep int) api.Expr {
	kid := func() api.Expr { return w.otherExpr(c, deep-1) }
	kind := w.roll(8)
	if deep == 0 {
		kind %= 3
	}
	e := api.Expr{Kind: kind}
	switch kind {
	case api.Num, api.Truth:
		e.N = int64(w.roll(2))
	case api.Var:
		e.Name = w.otherName(c)
	case api.Elem:
		e.Name, e.Kids = w.otherName(c), []api.Expr{kid()}
	case api.Neg, api.Not:
		e.Kids = []api.Expr{kid()}
	case api.Two:
		e.Op, e.Kids = []int{api.Add, api.Div, api.Xor, api.Lt, api.Eq, api.Both, api.Any}[w.roll(7)], []api.Expr{kid(), kid()}
	case api.Call:
		e.Name = w.otherName(c)
		for range w.roll(3) {
			e.Kids = append(e.Kids, kid())
		}
	}
	return e
}

// bendLen makes an array of what is none, or the other way round.
func (w *writer) bendLen(p *api.Program, c *pieces) {
	if n, is := pick(w, c.lens); is {
		*n = 4 - min(*n, 4)
	}
}

// bendGuard takes a global's guard away, or gives it one.
func (w *writer) bendGuard(p *api.Program, c *pieces) {
	if len(p.Globals) == 0 {
		return
	}
	g := &p.Globals[w.roll(len(p.Globals))]
	if g.By != "" || len(p.Locks) == 0 {
		g.By = ""
		return
	}
	g.By = p.Locks[w.roll(len(p.Locks))].Name
}

// bendIndex takes a place away, or gives one.
func (w *writer) bendIndex(p *api.Program, c *pieces) {
	l := slices.DeleteFunc(slices.Clone(c.stmts), func(s *api.Stmt) bool { return s.Kind != api.Assign })
	s, is := pick(w, l)
	if !is {
		return
	}
	if len(s.Index) > 0 {
		s.Index = nil
		return
	}
	s.Index = []api.Expr{w.otherExpr(c, 1)}
}

// bendTarget lets a global be changed where something else is.
func (w *writer) bendTarget(p *api.Program, c *pieces) {
	l := slices.DeleteFunc(slices.Clone(c.stmts), func(s *api.Stmt) bool { return s.Kind != api.Assign })
	s, is := pick(w, l)
	if is && len(p.Globals) > 0 {
		s.Name = p.Globals[w.roll(len(p.Globals))].Name
	}
}

// addHold holds a lock around a statement.
func (w *writer) addHold(p *api.Program, c *pieces) {
	s, is := pick(w, c.stmts)
	if !is || len(p.Locks) == 0 {
		return
	}
	*s = api.Stmt{Kind: api.Hold, Name: p.Locks[w.roll(len(p.Locks))].Name, Body: []api.Stmt{*s}}
}

// addStmt puts one that stands anywhere in place of another, or a new one.
func (w *writer) addStmt(p *api.Program, c *pieces) {
	s, is := pick(w, c.stmts)
	other, _ := pick(w, c.stmts)
	if !is {
		return
	}
	if *s = copiedRow([]api.Stmt{*other})[0]; w.roll(2) == 0 {
		kind := []int{api.Let, api.Assign, api.Put}[w.roll(3)]
		*s = api.Stmt{Kind: kind, E: []api.Expr{w.otherExpr(c, 1)}}
		if kind != api.Put {
			s.Name = w.otherName(c)
		}
	}
}

// dropHold lets what was done with a lock be done without.
func (w *writer) dropHold(p *api.Program, c *pieces) {
	row, is := pick(w, slices.DeleteFunc(slices.Clone(c.rows), func(l *[]api.Stmt) bool {
		return !slices.ContainsFunc(*l, func(s api.Stmt) bool { return s.Kind == api.Hold })
	}))
	if !is {
		return
	}
	i := slices.IndexFunc(*row, func(s api.Stmt) bool { return s.Kind == api.Hold })
	*row = slices.Concat((*row)[:i], (*row)[i].Body, (*row)[i+1:])
}

// moveStmt lets a statement of one row stand at the end of another.
func (w *writer) moveStmt(p *api.Program, c *pieces) {
	s, is := pick(w, c.stmts)
	row, _ := pick(w, c.rows)
	if is {
		*row = append(slices.Clone(*row), copiedRow([]api.Stmt{*s})...)
	}
}

// order lets functions, or threads, stand in another order.
func (w *writer) order(p *api.Program, c *pieces) {
	if w.roll(2) == 0 {
		slices.Reverse(p.Funcs)
		return
	}
	slices.Reverse(p.Threads)
}
