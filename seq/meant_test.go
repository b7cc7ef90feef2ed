package seq_test

import (
	"math/big"

	"paling/api"
	"paling/calc"
	"paling/seq"
)

// What a run is meant to be, as the document's words say it: nothing is held but what was put where, one behind the other,
// and what stands somewhere is looked for in that from the end on.

// What is put somewhere.
const (
	inRegister = iota
	inWord
	ofLock // its owner, or -1
	standsAt
	hasEnded
)

// put is what was put somewhere.
type put struct {
	where, thread int
	at            int64
	n             int64
}

// meant is a run.
type meant struct {
	threads []api.Code
	first   []int64
	puts    []put
}

// put puts something somewhere.
func (m *meant) put(where, thread int, at, n int64) {
	m.puts = append(m.puts, put{where, thread, at, n})
}

// last is what was put somewhere last; else what stands there at first.
func (m *meant) last(where, thread int, at, first int64) int64 {
	for i := len(m.puts) - 1; i >= 0; i-- {
		if p := m.puts[i]; p.where == where && p.thread == thread && p.at == at {
			return p.n
		}
	}
	return first
}

// there tells whether there is a thread.
func (m *meant) there(thread int) bool { return thread >= 0 && thread < len(m.threads) }

// reg is Reg.
func (m *meant) reg(thread, n int) int64 {
	if n < 0 || !m.there(thread) {
		return 0
	}
	return m.last(inRegister, thread, int64(n), 0)
}

// place is Place.
func (m *meant) place(thread int) int { return int(m.last(standsAt, thread, 0, 0)) }

// owner is Owner.
func (m *meant) owner(lock int64) int { return int(m.last(ofLock, 0, lock, -1)) }

// memory is Memory.
func (m *meant) memory() []int64 {
	var l []int64
	for at, n := range m.first {
		l = append(l, m.last(inWord, 0, int64(at), n))
	}
	return l
}

// word is the place of an instruction's word; false: there is no such one.
func (m *meant) word(thread int, i api.Ins) (int64, bool) {
	at := big.NewInt(i.N)
	if i.A >= 0 {
		at.Add(at, big.NewInt(m.reg(thread, i.A)))
	}
	whole := new(big.Int).Lsh(big.NewInt(1), 64)
	at.Mod(at, whole)
	if at.BitLen() == 64 {
		at.Sub(at, whole)
	}
	return at.Int64(), at.Sign() >= 0 && at.Cmp(big.NewInt(int64(len(m.first)))) < 0
}

// set puts a number into a register.
func (m *meant) set(thread, n int, to int64) {
	if n >= 0 {
		m.put(inRegister, thread, int64(n), to)
	}
}

// ahead is the instruction ahead of which a thread stands.
func (m *meant) ahead(thread int) api.Ins {
	c, at := m.threads[thread], m.place(thread)
	if at < 0 || at >= len(c) {
		return api.Ins{Kind: api.Halt}
	}
	return c[at]
}

// do does what has no event, and tells where it goes on.
func (m *meant) do(thread int, i api.Ins) int {
	a, b := m.reg(thread, i.A), m.reg(thread, i.B)
	switch i.Kind {
	case api.Set:
		m.set(thread, i.D, i.N)
	case api.Move:
		m.set(thread, i.D, a)
	case api.Calc:
		m.set(thread, i.D, calc.Eval(i.Op, a, b))
	case api.Pick:
		if a != 0 {
			m.set(thread, i.D, b)
		}
	case api.Load:
		at, is := m.word(thread, i)
		if !is {
			m.set(thread, i.D, 0)
		} else {
			m.set(thread, i.D, m.last(inWord, 0, at, m.first[at]))
		}
	case api.Store:
		if at, is := m.word(thread, i); is {
			m.put(inWord, 0, at, b)
		}
	case api.Jump:
		return i.To
	case api.Zero:
		if a == 0 {
			return i.To
		}
	}
	return m.place(thread) + 1
}

// event is an instruction's, if it has one, and whether the thread ends with it.
func (m *meant) event(thread int, i api.Ins) (e api.Event, is, ends bool) {
	e.Thread = thread
	switch i.Kind {
	case api.Out:
		e.Kind, e.N = api.DidOut, m.reg(thread, i.A)
	case api.Take:
		e.Kind, e.N = api.DidLock, i.N
		m.put(ofLock, 0, i.N, int64(thread))
	case api.Give:
		e.Kind, e.N = api.DidUnlock, i.N
		m.put(ofLock, 0, i.N, -1)
	case api.Trap:
		e.Kind, e.N, ends = api.DidTrap, i.N, true
	case api.Halt:
		e.Kind, ends = api.DidHalt, true
	default:
		return api.Event{}, false, false
	}
	return e, true, ends
}

// next is Next.
func (m *meant) next(thread, fuel int) (api.Event, int) {
	if !m.there(thread) || m.last(hasEnded, thread, 0, 0) == 1 {
		return api.Event{}, seq.Ended
	}
	for fuel > 0 {
		fuel--
		i := m.ahead(thread)
		if i.Kind == api.Take && m.owner(i.N) >= 0 {
			return api.Event{}, seq.Waits
		}
		e, is, ends := m.event(thread, i)
		if ends {
			m.put(hasEnded, thread, 0, 1)
		} else {
			m.put(standsAt, thread, 0, int64(m.do(thread, i)))
		}
		if is {
			return e, seq.Did
		}
	}
	return api.Event{}, seq.Tired
}
