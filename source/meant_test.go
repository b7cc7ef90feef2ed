package source_test

import (
	"iter"

	"paling/api"
	"paling/calc"
	"paling/source"
)

// turned is what a turn came to.
type turned struct {
	e    api.Event
	what int
}

// meant is a program's run, told otherwise: each thread goes through its own statements, by their names, and is held where its turn is over.
type meant struct {
	p       api.Program
	words   map[string][]int64
	owner   map[string]int // of those that are owned
	fuel    int
	threads []func() (turned, bool)
	stops   []func()
}

// newMeant is one at its beginning.
func newMeant(p api.Program, mem []int64) *meant {
	m := &meant{p: p, words: map[string][]int64{}, owner: map[string]int{}}
	for _, secret := range []bool{false, true} {
		for _, g := range p.Globals {
			for range max(g.Len, 1) {
				if g.Type.Secret != secret {
					continue
				}
				var n int64
				if len(mem) > 0 {
					n, mem = mem[0], mem[1:]
				}
				if g.Type.Truth && n != 0 {
					n = 1
				}
				m.words[g.Name] = append(m.words[g.Name], n)
			}
		}
	}
	for i := range p.Threads {
		next, stop := iter.Pull(m.thread(i))
		m.threads, m.stops = append(m.threads, next), append(m.stops, stop)
	}
	return m
}

// close lets go of the threads.
func (m *meant) close() {
	for _, stop := range m.stops {
		stop()
	}
}

// next is one turn.
func (m *meant) next(thread, fuel int) turned {
	m.fuel = fuel
	t, is := m.threads[thread]()
	if !is {
		return turned{what: source.Ended}
	}
	return t
}

// memory is what stands in all words.
func (m *meant) memory() []int64 {
	var l []int64
	for _, secret := range []bool{false, true} {
		for _, g := range m.p.Globals {
			if g.Type.Secret == secret {
				l = append(l, m.words[g.Name]...)
			}
		}
	}
	return l
}

// owns is who owns a lock.
func (m *meant) owns(lock int) int {
	if n, is := m.owner[m.p.Locks[lock].Name]; is {
		return n
	}
	return -1
}

// Why an evaluation ended: all is well, fuel lacks, a trap, or nobody asks any more.
const (
	well  = 0
	short = -1
	gone  = -2
)

// course is a thread's.
type course struct {
	*meant
	number int
	yield  func(turned) bool
}

// thread is the turns of a thread.
func (m *meant) thread(n int) iter.Seq[turned] {
	return func(yield func(turned) bool) {
		c := &course{m, n, yield}
		switch why := c.block(m.p.Threads[n], nil); why {
		case well:
			c.tell(api.DidHalt, 0)
		case gone:
		default:
			c.tell(api.DidTrap, int64(why))
		}
	}
}

// tell ends a turn with an event.
func (c *course) tell(kind int, n int64) int {
	return c.pause(turned{api.Event{Kind: kind, Thread: c.number, N: n}, source.Did})
}

// pause ends a turn.
func (c *course) pause(t turned) int {
	if !c.yield(t) {
		return gone
	}
	return well
}

// vars are locals, the newest one in front.
type vars struct {
	name  string
	value int64
	older *vars
}

// of is the one that has a name; nil: none has.
func (v *vars) of(name string) *vars {
	for v != nil && v.name != name {
		v = v.older
	}
	return v
}

// block does statements of a thread.
func (c *course) block(l []api.Stmt, v *vars) int {
	for _, s := range l {
		var n, at int64
		for again := true; again; {
			var why int
			if n, at, why = c.value(s, v); why == short {
				why = c.pause(turned{what: source.Tired})
			} else if again = false; s.Kind == api.Hold && c.owns(c.lock(s.Name)) >= 0 {
				again, why = true, c.pause(turned{what: source.Waits})
			}
			if why != well {
				return why
			}
			if s.Kind == api.While && !again && n == 1 {
				if why := c.block(s.Body, v); why != well {
					return why
				}
				again = true
			}
		}
		why := well
		switch s.Kind {
		case api.Let:
			v = &vars{s.Name, n, v}
		case api.Assign:
			c.set(s, n, at, v)
		case api.If:
			if n == 0 {
				s.Body = s.Else
			}
			why = c.block(s.Body, v)
		case api.Hold:
			why = c.hold(s, v)
		case api.Put:
			why = c.tell(api.DidOut, n)
		}
		if why != well {
			return why
		}
	}
	return well
}

// lock is the place of one.
func (c *course) lock(name string) int {
	for i, l := range c.p.Locks {
		if l.Name == name {
			return i
		}
	}
	return -1
}

// hold does a Hold whose lock is nobody's.
func (c *course) hold(s api.Stmt, v *vars) int {
	n := int64(c.lock(s.Name))
	c.owner[s.Name] = c.number
	if why := c.tell(api.DidLock, n); why != well {
		return why
	}
	if why := c.block(s.Body, v); why != well {
		return why
	}
	delete(c.owner, s.Name)
	return c.tell(api.DidUnlock, n)
}

// set changes what an Assign names.
func (c *course) set(s api.Stmt, n, at int64, v *vars) {
	if x := v.of(s.Name); x != nil {
		x.value = n
	} else {
		c.words[s.Name][at] = n
	}
}

// value is what a statement's expression, and its index, come to, for one of the fuel.
func (c *course) value(s api.Stmt, v *vars) (n, at int64, why int) {
	if c.fuel < 1 {
		return 0, 0, short
	}
	c.fuel--
	for _, e := range s.Index {
		if at, why = c.at(s.Name, e, v); why != well {
			return 0, 0, why
		}
	}
	for _, e := range s.E {
		n, why = c.eval(e, v)
	}
	return n, at, why
}

// at is the place of an array.
func (c *course) at(name string, e api.Expr, v *vars) (int64, int) {
	n, why := c.eval(e, v)
	if why == well && (n < 0 || n >= int64(len(c.words[name]))) {
		why = api.TrapPlace
	}
	return n, why
}

// eval is what an expression comes to, or why it comes to nothing.
func (c *course) eval(e api.Expr, v *vars) (int64, int) {
	switch e.Kind {
	case api.Var:
		if x := v.of(e.Name); x != nil {
			return x.value, well
		}
		return c.words[e.Name][0], well
	case api.Elem:
		n, why := c.at(e.Name, e.Kids[0], v)
		if why != well {
			return 0, why
		}
		return c.words[e.Name][n], well
	}
	var kids []int64
	for _, kid := range e.Kids {
		n, why := c.eval(kid, v)
		if why != well {
			return 0, why
		}
		kids = append(kids, n)
	}
	switch e.Kind {
	case api.Neg:
		return -kids[0], well
	case api.Not:
		return kids[0] ^ 1, well
	case api.Two:
		if (e.Op == api.Div || e.Op == api.Rem) && kids[1] == 0 {
			return 0, api.TrapDivide
		}
		return calc.Eval(e.Op, kids[0], kids[1]), well
	case api.Call:
		return c.call(e.Name, kids)
	}
	return e.N, well
}

// call does a function.
func (c *course) call(name string, kids []int64) (int64, int) {
	if c.fuel < 1 {
		return 0, short
	}
	c.fuel--
	for _, f := range c.p.Funcs {
		if f.Name != name {
			continue
		}
		var own *vars
		for i, p := range f.Params {
			own = &vars{p.Name, kids[i], own}
		}
		own, why := c.within(f.Body, own)
		if why != well {
			return 0, why
		}
		return c.eval(f.Ret, own)
	}
	panic(name)
}

// within does statements of a function, and tells what locals there are then.
func (c *course) within(l []api.Stmt, v *vars) (*vars, int) {
	for i := 0; i < len(l); i++ {
		s := l[i]
		n, _, why := c.value(s, v)
		if why != well {
			return nil, why
		}
		switch {
		case s.Kind == api.Let:
			v = &vars{s.Name, n, v}
		case s.Kind == api.Assign:
			v.of(s.Name).value = n
		case n == 1:
			if _, why = c.within(s.Body, v); s.Kind == api.While {
				i-- // once more
			}
		default:
			_, why = c.within(s.Else, v)
		}
		if why != well {
			return nil, why
		}
	}
	return v, well
}
