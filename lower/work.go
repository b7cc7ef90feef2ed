package lower

import (
	"paling/api"
	"paling/layout"
)

// tooMany is thrown where a thread would have too many instructions.
type tooMany struct{}

// arrival is called once it is known where an instruction goes to.
type arrival func(to int)

// work is that of one thread.
type work struct {
	globals map[string]layout.Place
	locks   map[string]int
	funcs   map[string]int // their places in the row
	row     []api.Func
	ahead   int            // how many of the row stand ahead of where we are: only these are called, so that each call ends
	locals  map[string]int // the registers of a function's, or the thread's; one that is known no more isn't asked for
	regs    int            // how many registers there are
	code    api.Code
	trapped map[int64][]arrival // of what goes to a trap, by what that is for
}

// newWork is one of a program, without instructions.
func newWork(p api.Program) *work {
	w := &work{globals: map[string]layout.Place{}, locks: map[string]int{}, funcs: map[string]int{}, row: p.Funcs, ahead: len(p.Funcs), locals: map[string]int{}, trapped: map[int64][]arrival{}}
	places := layout.Of(p)
	for i, g := range p.Globals {
		w.globals[g.Name] = places[i]
	}
	for i, l := range p.Locks {
		w.locks[l.Name] = i
	}
	for i, f := range p.Funcs {
		w.funcs[f.Name] = i
	}
	return w
}

// thread puts all that a thread does, and behind it the traps that something goes to.
func (w *work) thread(body []api.Stmt) {
	w.stmts(body)
	w.put(api.Ins{Kind: api.Halt})
	w.trap(api.TrapDivide)
	w.trap(api.TrapPlace)
}

// trap puts a trap, if something goes to it.
func (w *work) trap(why int64) {
	if len(w.trapped[why]) == 0 {
		return
	}
	here := w.put(api.Ins{Kind: api.Trap, N: why})
	for _, arrive := range w.trapped[why] {
		arrive(here)
	}
}

// put puts an instruction behind the others, and tells its place.
func (w *work) put(i api.Ins) int {
	if len(w.code) >= api.MaxCode {
		panic(tooMany{})
	}
	w.code = append(w.code, i)
	return len(w.code) - 1
}

// here is the place of the next instruction.
func (w *work) here() int { return len(w.code) }

// leap puts an instruction of which isn't known yet where it goes to.
func (w *work) leap(i api.Ins) arrival {
	at := w.put(i)
	return func(to int) { w.code[at].To = to }
}

// jump leaps.
func (w *work) jump() arrival { return w.leap(api.Ins{Kind: api.Jump}) }

// zero leaps, if a register has 0.
func (w *work) zero(a int) arrival { return w.leap(api.Ins{Kind: api.Zero, A: a}) }

// trapIfZero goes to a trap, if a register has 0.
func (w *work) trapIfZero(a int, why int64) { w.trapped[why] = append(w.trapped[why], w.zero(a)) }

// into puts an instruction that comes to a new register, and tells that.
func (w *work) into(i api.Ins) int {
	i.D = w.regs
	w.regs++
	w.put(i)
	return i.D
}

// set is a new register with a number.
func (w *work) set(n int64) int { return w.into(api.Ins{Kind: api.Set, N: n}) }

// move is a new register with what another one has.
func (w *work) move(a int) int { return w.into(api.Ins{Kind: api.Move, A: a}) }

// calc is a new register with what an operator comes to.
func (w *work) calc(op, a, b int) int { return w.into(api.Ins{Kind: api.Calc, Op: op, A: a, B: b}) }
