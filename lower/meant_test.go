package lower_test

import (
	"maps"
	"math/bits"
	"slices"

	"paling/api"
)

// What a program comes to, as the document's words say it: lines, put together from those of its parts, of which none is put where it stays.
// Registers and places have no numbers up to the end; how many lines there are is told ahead, from how many a part has, so that none is made where they are too many.

// register is one; it has the least number that none has that is written ahead.
type register struct{ number int }

// mark is a place in the lines.
type mark struct{ place int }

// line is an instruction without registers and places; or, if it has one, where a mark is.
type line struct {
	api.Ins
	d, a, b *register
	to      *mark
	trap    int64 // to which it goes, if that isn't 0
	mark    *mark
}

// lines stand one behind the other.
type lines []*line

// meant is what a program's parts come to.
type meant struct {
	p     api.Program
	sizes map[string]size // of calls, but for what is handed over
}

// newMeant is that of a program.
func newMeant(p api.Program) *meant { return &meant{p, map[string]size{}} }

// vars is the registers of locals.
type vars map[string]*register

// made is a line that writes a new register.
func made(i api.Ins, a, b *register) (lines, *register) {
	l := &line{Ins: i, d: new(register), a: a, b: b}
	return lines{l}, l.d
}

// set, move, calc and load each write a new register.
func set(n int) (lines, *register)        { return made(api.Ins{Kind: api.Set, N: int64(n)}, nil, nil) }
func move(a *register) (lines, *register) { return made(api.Ins{Kind: api.Move}, a, nil) }
func calc(op int, a, b *register) (lines, *register) {
	return made(api.Ins{Kind: api.Calc, Op: op}, a, b)
}
func (m *meant) load(name string, a *register) (lines, *register) {
	return made(api.Ins{Kind: api.Load, N: m.base(name)}, a, nil)
}

// goes is a line that goes to a mark.
func goes(kind int, a *register, to *mark) lines {
	return lines{{Ins: api.Ins{Kind: kind}, a: a, to: to}}
}

// traps is one that goes to a trap, if a register has 0.
func traps(a *register, why int64) lines {
	return lines{{Ins: api.Ins{Kind: api.Zero}, a: a, trap: why}}
}

// base is the first word of a global.
func (m *meant) base(name string) int64 {
	base := 0
	for _, secret := range []bool{false, true} {
		for _, g := range m.p.Globals {
			if g.Type.Secret != secret {
				continue
			}
			if g.Name == name {
				return int64(base)
			}
			base += max(g.Len, 1)
		}
	}
	panic(name)
}

// array is how many words a global has, and whether that is a power of 2.
func (m *meant) array(name string) (int, bool) {
	i := slices.IndexFunc(m.p.Globals, func(g api.Global) bool { return g.Name == name })
	n := m.p.Globals[i].Len
	return n, bits.OnesCount(uint(n)) == 1
}

// function is one.
func (m *meant) function(name string) api.Func {
	return m.p.Funcs[slices.IndexFunc(m.p.Funcs, func(f api.Func) bool { return f.Name == name })]
}

// below tells whether there is a place t.
func below(t *register, n int) (lines, *register) {
	first, b := set(n)
	second, c := calc(api.Below, t, b)
	return slices.Concat(first, second), c
}

// look is a look at the place t.
func look(t *register, n int) lines {
	l, c := below(t, n)
	return slices.Concat(l, traps(c, api.TrapPlace))
}

// cut is t, cut by a power of 2 less 1.
func cut(t *register, n int) (lines, *register) {
	first, k := set(n - 1)
	second, m := calc(api.And, t, k)
	return slices.Concat(first, second), m
}

// expr is an expression's lines, and the register that it comes to.
func (m *meant) expr(e api.Expr, v vars) (lines, *register) {
	switch e.Kind {
	case api.Num, api.Truth:
		return made(api.Ins{Kind: api.Set, N: e.N}, nil, nil)
	case api.Var:
		if r := v[e.Name]; r != nil {
			return nil, r
		}
		return m.load(e.Name, nil)
	case api.Neg, api.Not:
		kid, a := m.expr(e.Kids[0], v)
		first, z := set(e.Kind - api.Neg)
		second, r := calc(api.Sub, z, a)
		return slices.Concat(kid, first, second), r
	case api.Two:
		left, a := m.expr(e.Kids[0], v)
		right, b := m.expr(e.Kids[1], v)
		if e.Op == api.Div || e.Op == api.Rem {
			right = append(right, traps(b, api.TrapDivide)...)
		}
		l, r := calc(e.Op, a, b)
		return slices.Concat(left, right, l), r
	case api.Elem:
		return m.elem(e, v)
	}
	return m.call(e, v)
}

// elem is that of what stands at a place of an array.
func (m *meant) elem(e api.Expr, v vars) (lines, *register) {
	kid, t := m.expr(e.Kids[0], v)
	n, power := m.array(e.Name)
	if power {
		l, a := cut(t, n)
		read, r := m.load(e.Name, a)
		return slices.Concat(kid, look(t, n), l, read), r
	}
	l, u := move(t)
	read, r := m.load(e.Name, u)
	return slices.Concat(kid, l, look(u, n), read), r
}

// call is that of a function's.
func (m *meant) call(e api.Expr, v vars) (lines, *register) {
	f, own := m.function(e.Name), vars{}
	var kids, params lines
	for i, kid := range e.Kids {
		l, r := m.expr(kid, v)
		kids = append(kids, l...)
		l, own[f.Params[i].Name] = move(r)
		params = append(params, l...)
	}
	body := m.stmts(f.Body, own)
	ret, r := m.expr(f.Ret, own)
	return slices.Concat(kids, params, body, ret), r
}

// block is the lines of statements within others.
func (m *meant) block(l []api.Stmt, v vars) lines { return m.stmts(l, maps.Clone(v)) }

// stmts is that of statements.
func (m *meant) stmts(l []api.Stmt, v vars) lines {
	var all lines
	for _, s := range l {
		all = append(all, m.stmt(s, v)...)
	}
	return all
}

// stmt is that of one.
func (m *meant) stmt(s api.Stmt, v vars) lines {
	if s.Kind == api.Hold {
		n := slices.IndexFunc(m.p.Locks, func(l api.Lock) bool { return l.Name == s.Name })
		take, give := api.Ins{Kind: api.Take, N: int64(n)}, api.Ins{Kind: api.Give, N: int64(n)}
		return slices.Concat(lines{{Ins: take}}, m.block(s.Body, v), lines{{Ins: give}})
	}
	if len(s.Index) > 0 {
		return m.place(s, v)
	}
	first, behind, other := new(mark), new(mark), new(mark)
	e, r := m.expr(s.E[0], v)
	switch s.Kind {
	case api.Let:
		l, own := move(r)
		v[s.Name] = own
		return slices.Concat(e, l)
	case api.Assign:
		if own := v[s.Name]; own != nil {
			return append(e, &line{Ins: api.Ins{Kind: api.Move}, d: own, a: r})
		}
		return append(e, &line{Ins: api.Ins{Kind: api.Store, N: m.base(s.Name)}, b: r})
	case api.If:
		body := m.block(s.Body, v)
		if len(s.Else) > 0 {
			body = append(body, goes(api.Jump, nil, behind)...)
		}
		return slices.Concat(e, goes(api.Zero, r, other), body, lines{{mark: other}}, m.block(s.Else, v), lines{{mark: behind}})
	case api.While:
		return slices.Concat(lines{{mark: first}}, e, goes(api.Zero, r, behind), m.block(s.Body, v), goes(api.Jump, nil, first), lines{{mark: behind}})
	}
	return append(e, &line{Ins: api.Ins{Kind: api.Out}, a: r})
}

// place is that of an Assign of an array.
func (m *meant) place(s api.Stmt, v vars) lines {
	index, t := m.expr(s.Index[0], v)
	n, power := m.array(s.Name)
	e, r := m.expr(s.E[0], v)
	l, at := cut(t, n)
	if !power {
		copied, u := move(t)
		is, c := below(u, n)
		zero, picked := set(0)
		l, at = slices.Concat(copied, is, zero, lines{{Ins: api.Ins{Kind: api.Pick}, d: picked, a: c, b: u}}), picked
	}
	return slices.Concat(index, look(t, n), e, l, lines{{Ins: api.Ins{Kind: api.Store, N: m.base(s.Name)}, a: at, b: r}})
}

// thread is what one comes to; false: it is too much.
func (m *meant) thread(n int) (api.Code, bool) {
	if m.sizeOfThread(n) > 4096 {
		return nil, false
	}
	l := append(m.stmts(m.p.Threads[n], vars{}), &line{Ins: api.Ins{Kind: api.Halt}})
	at := map[int64]*mark{}
	for _, why := range []int64{1, 2} {
		if slices.ContainsFunc(l, func(x *line) bool { return x.trap == why }) {
			at[why] = new(mark)
			l = append(l, &line{mark: at[why]}, &line{Ins: api.Ins{Kind: api.Trap, N: why}})
		}
	}
	return numbered(l, at), true
}

// numbered gives registers and places their numbers.
func numbered(l lines, traps map[int64]*mark) api.Code {
	known := map[*register]int{nil: 0}
	place := 0
	for _, x := range l {
		if x.mark != nil {
			x.mark.place = place
			continue
		}
		place++
		if _, is := known[x.d]; !is {
			known[x.d] = len(known) - 1
		}
	}
	var c api.Code
	for _, x := range l {
		if x.mark != nil {
			continue
		}
		i := x.Ins
		i.D, i.A, i.B = known[x.d], known[x.a], known[x.b]
		if (i.Kind == api.Load || i.Kind == api.Store) && x.a == nil {
			i.A = -1
		}
		if x.trap != 0 {
			x.to = traps[x.trap]
		}
		if x.to != nil {
			i.To = x.to.place
		}
		c = append(c, i)
	}
	return c
}
