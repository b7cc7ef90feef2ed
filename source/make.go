package source

import (
	"paling/api"
	"paling/layout"
)

// expr is an expression, whose names are places.
type expr struct {
	kind, op int
	n        int64
	at       spot
	kids     []expr
	calls    *function
}

// spot is where what has a name stands: a local, or words of memory.
type spot struct {
	local     int // its place in the frame, or none
	base, len int
}

// stmt is a statement, whose names are places.
type stmt struct {
	kind        int
	at          spot
	lock        int
	index       []expr // none, or one
	e           expr
	body, other []stmt // other is what is done in the stead of body
}

// function is what one does, and comes to; its params are its first locals.
type function struct {
	locals int
	body   []stmt
	ret    expr
}

// maker makes a program's statements anew: nothing of the program is kept, and no name is looked for while it runs.
type maker struct {
	globals map[string]spot
	locks   map[string]int
	funcs   map[string]*function // those that stand ahead
	locals  map[string]int       // of the function, or the thread, that is made; one that is known no more isn't asked for
	many    int                  // how many locals that has
}

// newMaker is one of a program, of whose memory there are so many words.
func newMaker(p api.Program, places []layout.Place, words int) *maker {
	m := &maker{globals: map[string]spot{}, locks: map[string]int{}, funcs: map[string]*function{}}
	for i, g := range p.Globals {
		if x := places[i]; x.Base >= 0 && x.Base <= words-x.Len { // only what no program has lies beyond
			m.globals[g.Name] = spot{none, x.Base, x.Len}
		}
	}
	for i, l := range p.Locks {
		m.locks[l.Name] = i
	}
	for _, f := range p.Funcs {
		m.funcs[f.Name] = m.function(f)
	}
	return m
}

// function makes one.
func (m *maker) function(f api.Func) *function {
	m.begin()
	for _, p := range f.Params {
		m.local(p.Name)
	}
	body := m.row(f.Body)
	ret := m.expr(f.Ret)
	return &function{locals: m.many, body: body, ret: ret}
}

// thread makes one, at its beginning.
func (m *maker) thread(body []api.Stmt) thread {
	m.begin()
	open := []block{{m.row(body), none}}
	return thread{locals: make(frame, m.many), open: open}
}

// begin begins a function, or a thread, without locals.
func (m *maker) begin() { m.locals, m.many = map[string]int{}, 0 }

// local makes one known, and tells its place.
func (m *maker) local(name string) int {
	m.locals[name] = m.many
	m.many++
	return m.locals[name]
}

// named is where what has a name stands. What isn't known has no words.
func (m *maker) named(name string) spot {
	if i, is := m.locals[name]; is {
		return spot{local: i}
	}
	if g, is := m.globals[name]; is {
		return g
	}
	return spot{local: none}
}

// row makes statements, one behind the other.
func (m *maker) row(l []api.Stmt) []stmt {
	var made []stmt
	for _, s := range l {
		made = append(made, m.stmt(s))
	}
	return made
}

// stmt makes one. A local is known behind its own expression only.
func (m *maker) stmt(s api.Stmt) stmt {
	x := stmt{kind: s.Kind, lock: none, index: m.exprs(s.Index)}
	for _, e := range s.E {
		x.e = m.expr(e)
	}
	switch s.Kind {
	case api.Let:
		x.at = spot{local: m.local(s.Name)}
	case api.Assign:
		x.at = m.named(s.Name)
	case api.Hold:
		if i, is := m.locks[s.Name]; is {
			x.lock = i
		}
	}
	x.body, x.other = m.row(s.Body), m.row(s.Else)
	return x
}

// exprs makes expressions, in order.
func (m *maker) exprs(l []api.Expr) []expr {
	var made []expr
	for _, e := range l {
		made = append(made, m.expr(e))
	}
	return made
}

// expr makes one. What no program has, as a call of what doesn't stand ahead, comes to 0.
func (m *maker) expr(e api.Expr) expr {
	x := expr{kind: e.Kind, op: e.Op, n: e.N, kids: m.exprs(e.Kids)}
	switch e.Kind {
	case api.Var, api.Elem:
		x.at = m.named(e.Name)
	case api.Call:
		x.calls = m.funcs[e.Name]
	}
	if len(x.kids) < asked(e.Kind) || e.Kind == api.Call && x.calls == nil {
		return expr{}
	}
	return x
}

// asked is how many kids an expression of a kind must have.
func asked(kind int) int {
	switch kind {
	case api.Elem, api.Neg, api.Not:
		return 1
	case api.Two:
		return 2
	}
	return 0
}
