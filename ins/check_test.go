package ins_test

import (
	"math"
	"testing"

	"paling/api"
	"paling/ins"
)

// bound is what the codes here may name.
var bound = ins.Bound{Regs: 10, Locks: 3}

// halt is the instruction that ends a thread.
var halt = api.Ins{Kind: api.Halt}

// may are instructions that may stand in a code of four, with bound.
var may = []api.Ins{
	{Kind: api.Set}, {Kind: api.Set, D: 9, N: 5}, {Kind: api.Set, N: math.MinInt64}, {Kind: api.Set, N: math.MaxInt64}, {Kind: api.Set, N: -1},
	{Kind: api.Move}, {Kind: api.Move, D: 9, A: 9}, {Kind: api.Move, D: 3, A: 4},
	{Kind: api.Calc}, {Kind: api.Calc, Op: api.Any, D: 9, A: 9, B: 9}, {Kind: api.Calc, Op: api.Below, D: 1, A: 2, B: 3},
	{Kind: api.Pick}, {Kind: api.Pick, D: 9, A: 9, B: 9}, {Kind: api.Pick, D: 1, A: 2, B: 3},
	{Kind: api.Load}, {Kind: api.Load, D: 9, A: 9, N: 65535}, {Kind: api.Load, D: 9, A: -1}, {Kind: api.Load, A: -1, N: 65535},
	{Kind: api.Store}, {Kind: api.Store, A: 9, B: 9, N: 65535}, {Kind: api.Store, A: -1, B: 9}, {Kind: api.Store, A: -1, N: 65535},
	{Kind: api.Jump}, {Kind: api.Jump, To: 3}, {Kind: api.Jump, To: 1},
	{Kind: api.Zero}, {Kind: api.Zero, A: 9, To: 3}, {Kind: api.Zero, A: 4, To: 2},
	{Kind: api.Fence},
	{Kind: api.Take}, {Kind: api.Take, N: 2}, {Kind: api.Give}, {Kind: api.Give, N: 2},
	{Kind: api.Out}, {Kind: api.Out, A: 9},
	{Kind: api.Trap, N: 1}, {Kind: api.Trap, N: 2},
	{Kind: api.Halt},
}

// mayNot are such as may not: a field that is none of the kind's own isn't 0, or one that is has what it may not have.
var mayNot = []api.Ins{
	{Kind: -1}, {Kind: 14}, {Kind: math.MinInt}, {Kind: math.MaxInt},
	{Kind: api.Set, D: 10}, {Kind: api.Set, D: -1}, {Kind: api.Set, D: math.MinInt}, {Kind: api.Set, Op: 1}, {Kind: api.Set, A: 1}, {Kind: api.Set, A: -1}, {Kind: api.Set, B: 1}, {Kind: api.Set, B: -1}, {Kind: api.Set, To: 1},
	{Kind: api.Move, D: 10}, {Kind: api.Move, D: -1}, {Kind: api.Move, A: 10}, {Kind: api.Move, A: -1}, {Kind: api.Move, Op: 1}, {Kind: api.Move, B: 1}, {Kind: api.Move, N: 1}, {Kind: api.Move, To: 1},
	{Kind: api.Calc, D: 10}, {Kind: api.Calc, D: -1}, {Kind: api.Calc, A: 10}, {Kind: api.Calc, A: -1}, {Kind: api.Calc, B: 10}, {Kind: api.Calc, B: -1}, {Kind: api.Calc, Op: 19}, {Kind: api.Calc, Op: -1}, {Kind: api.Calc, N: 1}, {Kind: api.Calc, To: 1},
	{Kind: api.Pick, D: 10}, {Kind: api.Pick, D: -1}, {Kind: api.Pick, A: 10}, {Kind: api.Pick, A: -1}, {Kind: api.Pick, B: 10}, {Kind: api.Pick, B: -1}, {Kind: api.Pick, Op: 1}, {Kind: api.Pick, N: -1}, {Kind: api.Pick, To: 1},
	{Kind: api.Load, D: 10}, {Kind: api.Load, D: -1}, {Kind: api.Load, A: 10}, {Kind: api.Load, A: -2}, {Kind: api.Load, A: math.MinInt}, {Kind: api.Load, N: 65536}, {Kind: api.Load, N: -1}, {Kind: api.Load, N: 1 << 32}, {Kind: api.Load, N: math.MinInt64}, {Kind: api.Load, Op: 1}, {Kind: api.Load, B: 1}, {Kind: api.Load, B: -1}, {Kind: api.Load, To: 1},
	{Kind: api.Store, B: 10}, {Kind: api.Store, B: -1}, {Kind: api.Store, A: 10}, {Kind: api.Store, A: -2}, {Kind: api.Store, N: 65536}, {Kind: api.Store, N: -1}, {Kind: api.Store, N: math.MaxInt64}, {Kind: api.Store, Op: 1}, {Kind: api.Store, D: 1}, {Kind: api.Store, D: -1}, {Kind: api.Store, To: 1},
	{Kind: api.Jump, To: 4}, {Kind: api.Jump, To: -1}, {Kind: api.Jump, To: math.MaxInt}, {Kind: api.Jump, Op: 1}, {Kind: api.Jump, D: 1}, {Kind: api.Jump, A: 1}, {Kind: api.Jump, A: -1}, {Kind: api.Jump, B: 1}, {Kind: api.Jump, N: 1},
	{Kind: api.Zero, To: 4}, {Kind: api.Zero, To: -1}, {Kind: api.Zero, A: 10}, {Kind: api.Zero, A: -1}, {Kind: api.Zero, Op: 1}, {Kind: api.Zero, D: 1}, {Kind: api.Zero, B: 1}, {Kind: api.Zero, N: 1},
	{Kind: api.Fence, Op: 1}, {Kind: api.Fence, D: 1}, {Kind: api.Fence, A: 1}, {Kind: api.Fence, A: -1}, {Kind: api.Fence, B: 1}, {Kind: api.Fence, N: 1}, {Kind: api.Fence, To: 1},
	{Kind: api.Take, N: 3}, {Kind: api.Take, N: -1}, {Kind: api.Take, N: math.MaxInt64}, {Kind: api.Take, Op: 1}, {Kind: api.Take, D: 1}, {Kind: api.Take, A: 1}, {Kind: api.Take, B: 1}, {Kind: api.Take, To: 1},
	{Kind: api.Give, N: 3}, {Kind: api.Give, N: -1}, {Kind: api.Give, N: math.MinInt64}, {Kind: api.Give, Op: 1}, {Kind: api.Give, D: 1}, {Kind: api.Give, A: 1}, {Kind: api.Give, B: 1}, {Kind: api.Give, To: 1},
	{Kind: api.Out, A: 10}, {Kind: api.Out, A: -1}, {Kind: api.Out, Op: 1}, {Kind: api.Out, D: 1}, {Kind: api.Out, B: 1}, {Kind: api.Out, N: 1}, {Kind: api.Out, To: 1},
	{Kind: api.Trap}, {Kind: api.Trap, N: 3}, {Kind: api.Trap, N: -1}, {Kind: api.Trap, N: 1 + 1<<32}, {Kind: api.Trap, N: 1, Op: 1}, {Kind: api.Trap, N: 1, D: 1}, {Kind: api.Trap, N: 1, A: 1}, {Kind: api.Trap, N: 2, B: 1}, {Kind: api.Trap, N: 2, To: 1},
	{Kind: api.Halt, Op: 1}, {Kind: api.Halt, D: 1}, {Kind: api.Halt, A: 1}, {Kind: api.Halt, A: -1}, {Kind: api.Halt, B: 1}, {Kind: api.Halt, N: 1}, {Kind: api.Halt, To: 1},
}

// codes are codes of four with an instruction at each place but the last one.
func codes(i api.Ins) []api.Code {
	var l []api.Code
	for at := range 3 {
		c := api.Code{{}, {Kind: api.Fence}, {}, halt}
		c[at] = i
		l = append(l, c)
	}
	return l
}

// P11.1: instructions that may be, and such as may not, at each place but the last one.
func TestCheckEach(t *testing.T) {
	for _, i := range may {
		for _, c := range codes(i) {
			if !ins.Check(c, bound) {
				t.Errorf("%+v may not be", c)
			}
		}
	}
	for _, i := range mayNot {
		for _, c := range codes(i) {
			if ins.Check(c, bound) {
				t.Errorf("%+v may be", c)
			}
		}
	}
}

// P11.1: the last one is Jump, Trap or Halt, and is looked at as all others.
func TestCheckLast(t *testing.T) {
	for _, i := range may {
		last := i.Kind == api.Jump || i.Kind == api.Trap || i.Kind == api.Halt
		if got := ins.Check(api.Code{{}, halt, {}, i}, bound); got != last {
			t.Errorf("%+v behind others: %v", i, got)
		}
		if got := ins.Check(api.Code{i}, bound); got != (last && i.To == 0) {
			t.Errorf("%+v alone: %v", i, got)
		}
	}
	for _, i := range mayNot {
		if ins.Check(api.Code{{}, halt, {}, i}, bound) {
			t.Errorf("%+v may be", i)
		}
	}
}

// P11.1: 1 to 4096 instructions.
func TestCheckHowMany(t *testing.T) {
	for many, want := range map[int]bool{1: true, 2: true, 255: true, 256: true, 4095: true, 4096: true, 4097: false, 8192: false, 1 << 16: false, 1<<16 + 1: false} {
		c := make(api.Code, many)
		c[many-1] = halt
		if ins.Check(c, bound) != want {
			t.Errorf("%d: not %v", many, want)
		}
		c[many/2] = api.Ins{Kind: api.Jump, To: many - 1}
		c[many-1] = api.Ins{Kind: api.Jump, To: many - 1}
		if ins.Check(c, bound) != want {
			t.Errorf("%d, with jumps: not %v", many, want)
		}
		c[many/2].To = many
		if ins.Check(c, bound) {
			t.Errorf("%d, with a jump behind its end", many)
		}
	}
	if ins.Check(nil, bound) || ins.Check(api.Code{}, bound) {
		t.Error("no instruction")
	}
}

// P11.1: one that may not be, wherever it stands in a code of many.
func TestCheckAll(t *testing.T) {
	c := make(api.Code, api.MaxCode)
	c[len(c)-1] = halt
	for _, at := range []int{0, 1, 2, 100, 2047, 2048, 4093, 4094, 4095} {
		was := c[at]
		c[at] = api.Ins{Kind: api.Out, A: 10}
		if ins.Check(c, bound) {
			t.Errorf("wrong at %d", at)
		}
		c[at] = was
	}
	if !ins.Check(c, bound) {
		t.Error("right")
	}
}

// P11.1: registers and locks as many as the bound tells, be that none, or any number.
func TestCheckBounds(t *testing.T) {
	for _, most := range []int{math.MinInt, -1, 0, 1, 2, 8, 16, 17, 255, 256, 5000, 1 << 32, math.MaxInt} {
		for _, n := range []int{math.MinInt, -1 << 32, -17, -2, -1, 0, 1, 2, 7, 8, 15, 16, 255, 256, 1<<32 - 1, 1 << 32, math.MaxInt - 1, math.MaxInt} {
			is := n >= 0 && n < most
			regs, locks := ins.Bound{Regs: most, Locks: 1}, ins.Bound{Regs: 1, Locks: most}
			for _, i := range []api.Ins{{Kind: api.Set, D: n}, {Kind: api.Out, A: n}, {Kind: api.Zero, A: n}, {Kind: api.Pick, D: n, A: n, B: n}} {
				if got := ins.Check(api.Code{i, halt}, regs); got != is {
					t.Errorf("%+v, %d registers: %v", i, most, got)
				}
			}
			for _, kind := range []int{api.Take, api.Give} {
				if got := ins.Check(api.Code{{Kind: kind, N: int64(n)}, halt}, locks); got != is {
					t.Errorf("kind %d, %d, %d locks: %v", kind, n, most, got)
				}
			}
			if got := ins.Check(api.Code{{Kind: api.Move, D: n, A: n}, halt}, locks); got != (n == 0) {
				t.Errorf("register %d of one: %v", n, got)
			}
			if got := ins.Check(api.Code{{Kind: api.Take, N: int64(n)}, halt}, regs); got != (n == 0) {
				t.Errorf("lock %d of one: %v", n, got)
			}
		}
	}
}

// P11.1: without registers and locks, instructions that name none may be.
func TestCheckOfNothing(t *testing.T) {
	var none ins.Bound
	for _, i := range []api.Ins{{Kind: api.Jump, To: 1}, {Kind: api.Fence}, {Kind: api.Trap, N: 1}, {Kind: api.Halt}} {
		if !ins.Check(api.Code{i, halt}, none) {
			t.Errorf("%+v may not be", i)
		}
	}
	for _, i := range []api.Ins{{Kind: api.Set}, {Kind: api.Move}, {Kind: api.Calc}, {Kind: api.Pick}, {Kind: api.Load, A: -1}, {Kind: api.Store, A: -1}, {Kind: api.Zero}, {Kind: api.Take}, {Kind: api.Give}, {Kind: api.Out}} {
		if ins.Check(api.Code{i, halt}, none) {
			t.Errorf("%+v may be", i)
		}
	}
}
