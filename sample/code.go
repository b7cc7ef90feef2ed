package sample

import "paling/api"

// Every calls for each code of so many instructions that are of some: in the same memory each time.
func Every(many int, of []api.Ins, do func(api.Code)) {
	c := make(api.Code, many)
	var put func(at int)
	put = func(at int) {
		if at == many {
			do(c)
			return
		}
		for _, i := range of {
			c[at] = i
			put(at + 1)
		}
	}
	put(0)
}

// Code is a code that may be, of so many instructions: of some kinds, and of so many registers, each so far from the next one.
func (d *Dice) Code(kinds []int, many, regs, far int) api.Code {
	c := make(api.Code, many)
	for at := range c {
		c[at] = d.Ins(kinds, at, many, regs, far)
	}
	if last := c[many-1].Kind; last != api.Jump && last != api.Trap {
		c[many-1] = Halt()
	}
	return c
}

// Ins is an instruction at a place of such a code; it leads not far, mostly.
func (d *Dice) Ins(kinds []int, at, many, regs, far int) api.Ins {
	reg := func() int { return d.Roll(regs) * far }
	some := func() int {
		if d.Roll(3) == 0 {
			return -1
		}
		return reg()
	}
	to := d.Roll(many)
	if d.Roll(5) > 0 {
		to = min(max(0, at+d.Roll(12)-4), many-1)
	}
	switch kind := kinds[d.Roll(len(kinds))]; kind {
	case api.Set:
		return Set(reg(), int64(d.Roll(3)-1))
	case api.Move:
		return Move(reg(), reg())
	case api.Calc:
		return Calc(reg(), reg(), d.Roll(api.Any+1), reg())
	case api.Pick:
		return Pick(reg(), reg(), reg())
	case api.Load:
		return api.Ins{Kind: kind, D: reg(), A: some(), N: int64(d.Roll(4))}
	case api.Store:
		return api.Ins{Kind: kind, A: some(), B: reg(), N: int64(d.Roll(4))}
	case api.Jump:
		return Jump(to)
	case api.Zero:
		return Zero(reg(), to)
	case api.Out:
		return Out(reg())
	case api.Take, api.Give, api.Trap:
		return api.Ins{Kind: kind, N: int64(1 + d.Roll(2))}
	default:
		return api.Ins{Kind: kind}
	}
}

// Stray puts something into each field of a code's instructions that isn't its own.
func (d *Dice) Stray(c api.Code) {
	for at, i := range c {
		if i.Kind != api.Calc {
			c[at].Op = d.Roll(30) - 5
		}
		if i.Kind > api.Load {
			c[at].D = d.Roll(9)
		}
		if i.Kind == api.Set || i.Kind == api.Jump || i.Kind > api.Zero && i.Kind != api.Out {
			c[at].A = d.Roll(9)
		}
		if i.Kind == api.Set || i.Kind == api.Move || i.Kind == api.Load || i.Kind >= api.Jump {
			c[at].B = d.Roll(9)
		}
		if i.Kind != api.Set && i.Kind != api.Load && i.Kind != api.Store && i.Kind != api.Take && i.Kind != api.Give && i.Kind != api.Trap {
			c[at].N = int64(d.Roll(9))
		}
		if i.Kind != api.Jump && i.Kind != api.Zero {
			c[at].To = d.Roll(len(c))
		}
	}
}
