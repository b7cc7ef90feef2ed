package live_test

import (
	"math"
	"slices"
	"testing"

	"paling/api"
	"paling/live"
)

// halt ends.
var halt = api.Ins{Kind: api.Halt}

// set writes a register.
func set(d int) api.Ins { return api.Ins{Kind: api.Set, D: d} }

// out reads one.
func out(a int) api.Ins { return api.Ins{Kind: api.Out, A: a} }

// move reads one, and writes another one.
func move(d, a int) api.Ins { return api.Ins{Kind: api.Move, D: d, A: a} }

// pick reads three, and writes the first one.
func pick(d, a, b int) api.Ins { return api.Ins{Kind: api.Pick, D: d, A: a, B: b} }

// zero reads one, and goes on, or to a place.
func zero(a, to int) api.Ins { return api.Ins{Kind: api.Zero, A: a, To: to} }

// jump goes to a place.
func jump(to int) api.Ins { return api.Ins{Kind: api.Jump, To: to} }

// same tells whether two rows of rows are the same.
func same(a, b [][]int) bool { return slices.EqualFunc(a, b, slices.Equal[[]int]) }

// holds holds what is told of a code against what is to be told.
func holds(t *testing.T, c api.Code, w meant) {
	t.Helper()
	if got := live.Ahead(c); !same(got, w.ahead) {
		t.Fatalf("%v: ahead %v, not %v", c, got, w.ahead)
	}
	if got := live.Behind(c); !same(got, w.behind) {
		t.Fatalf("%v: behind %v, not %v", c, got, w.behind)
	}
	if got := live.Ranges(c); !slices.Equal(got, w.ranges) {
		t.Fatalf("%v: ranges %v, not %v", c, got, w.ranges)
	}
	if got := live.Most(c); got != w.most {
		t.Fatalf("%v: most %d, not %d", c, got, w.most)
	}
}

// rows are some, told one by one.
func rows(l ...[]int) [][]int { return l }

// is is a row.
func is(l ...int) []int { return l }

// P15.1, P15.2: codes, and what the document says of them.
func TestByHand(t *testing.T) {
	for _, k := range []struct {
		code api.Code
		meant
	}{
		{api.Code{halt}, meant{rows(nil), rows(nil), nil, 0}},
		{api.Code{set(3)}, meant{rows(nil), rows(nil), []live.Range{{3, 0, 0}}, 0}}, // it's written, and nobody needs it
		{api.Code{out(3)}, meant{rows(is(3)), rows(nil), []live.Range{{3, 0, 0}}, 1}},
		{ // the chapter's example
			api.Code{set(0), out(0), halt},
			meant{rows(nil, is(0), nil), rows(is(0), nil, nil), []live.Range{{0, 0, 1}}, 1},
		},
		{ // a register that is read ahead of where it's written is needed from the beginning on
			api.Code{set(1), move(0, 2), set(2), halt},
			meant{rows(is(2), is(2), nil, nil), rows(is(2), nil, nil, nil), []live.Range{{0, 1, 1}, {1, 0, 0}, {2, 0, 2}}, 1},
		},
		{ // what is read and written at one place is needed ahead of it, and not behind
			api.Code{move(0, 0), halt},
			meant{rows(is(0), nil), rows(nil, nil), []live.Range{{0, 0, 0}}, 1},
		},
		{ // a Pick reads what it writes
			api.Code{set(0), set(7), pick(7, 0, 0), out(7)},
			meant{rows(nil, is(0), is(0, 7), is(7)), rows(is(0), is(0, 7), is(7), nil), []live.Range{{0, 0, 2}, {7, 1, 3}}, 2},
		},
		{ // one way writes it, the other one reads it
			api.Code{zero(1, 3), set(0), halt, out(0), halt},
			meant{rows(is(0, 1), nil, nil, is(0), nil), rows(is(0), nil, nil, nil, nil), []live.Range{{0, 0, 3}, {1, 0, 0}}, 2},
		},
		{ // both ways of a Zero lead to the next place
			api.Code{zero(0, 1), out(1)},
			meant{rows(is(0, 1), is(1)), rows(is(1), nil), []live.Range{{0, 0, 0}, {1, 0, 1}}, 2},
		},
		{ // ways begin anywhere: at what can't be come to, too
			api.Code{jump(3), out(5), set(6), halt, jump(1)},
			meant{rows(nil, is(5), nil, nil, is(5)), rows(nil, nil, nil, nil, is(5)), []live.Range{{5, 1, 4}, {6, 2, 2}}, 1},
		},
		{ // a loop: what it reads is needed all over it, from where it was written on
			api.Code{set(0), set(1), zero(0, 5), set(0), jump(2), out(1), halt},
			meant{
				rows(nil, is(0), is(0, 1), is(1), is(0, 1), is(1), nil), rows(is(0), is(0, 1), is(1), is(0, 1), is(0, 1), nil, nil),
				[]live.Range{{0, 0, 4}, {1, 1, 5}}, 2,
			},
		},
		{ // what is written for the next round is needed behind that, and not ahead of it
			api.Code{out(0), set(0), jump(0)},
			meant{rows(is(0), nil, is(0)), rows(nil, is(0), is(0)), []live.Range{{0, 0, 2}}, 1},
		},
		{ // what nobody writes is needed all over a loop, behind what reads it, too
			api.Code{out(0), move(1, 2), zero(3, 0)},
			meant{rows(is(0, 2, 3), is(0, 2, 3), is(0, 2, 3)), rows(is(0, 2, 3), is(0, 2, 3), is(0, 2, 3)), []live.Range{{0, 0, 2}, {1, 1, 1}, {2, 0, 2}, {3, 0, 2}}, 3},
		},
		{ // a place that goes to itself
			api.Code{zero(0, 0), set(0), jump(2)},
			meant{rows(is(0), nil, nil), rows(is(0), nil, nil), []live.Range{{0, 0, 1}}, 1},
		},
		{ // places that stand ahead of where the way begins
			api.Code{jump(3), out(8), halt, set(8), jump(1)},
			meant{rows(nil, is(8), nil, nil, is(8)), rows(nil, nil, nil, is(8), is(8)), []live.Range{{8, 1, 4}}, 1},
		},
		{ // rising, whatever the order in which they're read, and far from one another
			api.Code{out(200), out(63), out(64), out(0), out(1 << 40), out(127), out(128)},
			meant{
				rows(is(0, 63, 64, 127, 128, 200, 1<<40), is(0, 63, 64, 127, 128, 1<<40), is(0, 64, 127, 128, 1<<40), is(0, 127, 128, 1<<40), is(127, 128, 1<<40), is(127, 128), is(128)),
				rows(is(0, 63, 64, 127, 128, 1<<40), is(0, 64, 127, 128, 1<<40), is(0, 127, 128, 1<<40), is(127, 128, 1<<40), is(127, 128), is(128), nil),
				[]live.Range{{0, 0, 3}, {63, 0, 1}, {64, 0, 2}, {127, 0, 5}, {128, 0, 6}, {200, 0, 0}, {1 << 40, 0, 4}}, 7,
			},
		},
	} {
		holds(t, k.code, k.meant)
		holds(t, k.code, meantOf(k.code)) // and the model says so, too
	}
}

// P15.1: each kind reads, writes, and goes on, as ins tells; kinds that there aren't do nothing of that.
func TestEachKind(t *testing.T) {
	for kind, want := range map[int]struct{ ahead, behind []int }{
		api.Set: {is(9), is(1, 9)}, api.Move: {is(2, 9), is(1, 9)}, api.Calc: {is(2, 3, 9), is(1, 9)}, api.Pick: {is(1, 2, 3, 9), is(1, 9)}, api.Load: {is(2, 9), is(1, 9)},
		api.Store: {is(1, 2, 3, 9), is(1, 9)}, api.Jump: {is(8), is(8)}, api.Zero: {is(1, 2, 8, 9), is(1, 8, 9)}, api.Out: {is(1, 2, 9), is(1, 9)},
		api.Fence: {is(1, 9), is(1, 9)}, api.Take: {is(1, 9), is(1, 9)}, api.Give: {is(1, 9), is(1, 9)},
		api.Trap: {}, api.Halt: {}, -1: {}, api.Halt + 1: {}, math.MinInt: {}, math.MaxInt: {},
	} {
		c := api.Code{{Kind: kind, D: 1, A: 2, B: 3, N: 4, To: 4}, out(1), out(9), halt, out(8)}
		if got := live.Ahead(c)[0]; !slices.Equal(got, want.ahead) {
			t.Errorf("%d: ahead %v", kind, got)
		}
		if got := live.Behind(c)[0]; !slices.Equal(got, want.behind) {
			t.Errorf("%d: behind %v", kind, got)
		}
		holds(t, c, meantOf(c))
	}
}

// P15.1, P15.2: a place that isn't one of the code is nowhere.
func TestNowhere(t *testing.T) {
	for _, to := range []int{math.MinInt, math.MinInt + 1, -1 << 32, -2, -1, 3, 4, 1 << 32, math.MaxInt - 1, math.MaxInt} {
		holds(t, api.Code{zero(0, to), jump(to), out(1)}, meant{rows(is(0), nil, is(1)), rows(nil, nil, nil), []live.Range{{0, 0, 0}, {1, 2, 2}}, 1})
		holds(t, api.Code{out(1), jump(0), zero(0, to)}, meant{rows(is(1), is(1), is(0)), rows(is(1), is(1), nil), []live.Range{{0, 2, 2}, {1, 0, 1}}, 1})
	}
}

// P15.1, P15.2: a register below 0 is none, in each field; the greatest ones are like any other.
func TestWhichRegisters(t *testing.T) {
	for _, none := range []int{-1, -2, -63, -64, -65, math.MinInt + 1, math.MinInt} {
		for kind := api.Set; kind <= api.Halt; kind++ {
			c := api.Code{{Kind: kind, D: none, A: none, B: none}, out(1), jump(0)}
			leads := kind != api.Jump && kind != api.Trap && kind != api.Halt
			holds(t, c, meantOf(c))
			if got := live.Ranges(c); len(got) != 1 || got[0].Reg != 1 || live.Most(c) != 1 || slices.Equal(live.Ahead(c)[0], is(1)) != leads {
				t.Errorf("%v: %v", c, got)
			}
		}
	}
	for _, reg := range []int{0, 1, 62, 63, 64, 65, api.Regs, 1 << 31, 1<<32 + 63, math.MaxInt - 64, math.MaxInt - 63, math.MaxInt - 1, math.MaxInt} {
		c := api.Code{set(reg), pick(reg, reg, reg), out(reg), halt}
		holds(t, c, meant{rows(nil, is(reg), is(reg), nil), rows(is(reg), is(reg), nil, nil), []live.Range{{reg, 0, 2}}, 1})
	}
}

// Nil and empty codes are one.
func TestEmpty(t *testing.T) {
	for _, c := range []api.Code{nil, {}, api.Code{out(1)}[:0]} {
		holds(t, c, meant{})
	}
}
