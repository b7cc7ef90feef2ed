package lower_test

import (
	"slices"

	"paling/api"
)

// enough is more than any number of instructions that counts; what has more is told as this.
const enough = 1 << 30

// size is how many instructions a part has, and whether (1) it goes to a trap for division, and to one for a place.
type size struct{ many, divide, place int }

// plus is the size of two parts.
func (s size) plus(x size) size {
	return size{min(s.many+x.many, enough), max(s.divide, x.divide), max(s.place, x.place)}
}

// sizeOfThread is how many instructions a thread has.
func (m *meant) sizeOfThread(n int) int {
	s := m.sizeOf(m.p.Threads[n], nil)
	return s.many + 1 + s.divide + s.place
}

// sizeOf is that of statements, where some locals are known.
func (m *meant) sizeOf(l []api.Stmt, locals []string) size {
	var all size
	for _, s := range l {
		for _, e := range s.E {
			all = all.plus(m.sizeOfExpr(e, locals))
		}
		all = all.plus(m.sizeOf(s.Body, locals)).plus(m.sizeOf(s.Else, locals))
		switch s.Kind {
		case api.Let:
			locals = append(slices.Clip(locals), s.Name)
			all.many++
		case api.Assign, api.Put:
			all.many++
		case api.If:
			all.many += 1 + min(len(s.Else), 1)
		case api.While, api.Hold:
			all.many += 2
		}
		for _, e := range s.Index {
			all = all.plus(m.sizeOfExpr(e, locals)).plus(size{many: m.sizeByLen(s.Name, 3+2, 3+5), place: 1})
		}
	}
	return all
}

// sizeByLen is one of an array whose length is a power of 2, or another one.
func (m *meant) sizeByLen(name string, power, other int) int {
	if _, is := m.array(name); is {
		return power
	}
	return other
}

// sizeOfExpr is that of an expression.
func (m *meant) sizeOfExpr(e api.Expr, locals []string) size {
	s := size{many: 1}
	switch e.Kind {
	case api.Var:
		if slices.Contains(locals, e.Name) {
			s.many = 0
		}
	case api.Elem:
		s = size{many: m.sizeByLen(e.Name, 3+2+1, 1+3+1), place: 1}
	case api.Neg, api.Not:
		s.many = 2
	case api.Two:
		if e.Op == api.Div || e.Op == api.Rem {
			s = size{many: 2, divide: 1}
		}
	case api.Call:
		s = m.sizeOfCall(e.Name)
	}
	for _, kid := range e.Kids {
		s = s.plus(m.sizeOfExpr(kid, locals))
	}
	return s
}

// sizeOfCall is that of a call, but for what is handed over; a function's is found out but once.
func (m *meant) sizeOfCall(name string) size {
	if s, is := m.sizes[name]; is {
		return s
	}
	f := m.function(name)
	var locals []string
	for _, p := range f.Params {
		locals = append(locals, p.Name)
	}
	s := size{many: len(f.Params)}.plus(m.sizeOf(f.Body, locals))
	for _, x := range f.Body {
		if x.Kind == api.Let {
			locals = append(locals, x.Name)
		}
	}
	m.sizes[name] = s.plus(m.sizeOfExpr(f.Ret, locals))
	return m.sizes[name]
}
