package fold_test

import (
	"maps"
	"math"
	"slices"
	"testing"

	"paling/api"
	"paling/calc"
	"paling/fold"
	"paling/ins"
	"paling/sample"
)

// What instructions are here.
var (
	halt                  = sample.Halt()
	set, move, does, pick = sample.Set, sample.Move, sample.Calc, sample.Pick
	load, zero, jump, out = sample.Load, sample.Zero, sample.Jump, sample.Out
)

// regs is all registers that a code names, and one more.
func regs(c api.Code) []int {
	l := []int{0}
	for _, i := range c {
		l = append(l, i.D, i.A, i.B)
	}
	slices.Sort(l)
	l = slices.Compact(l)
	if last := l[len(l)-1]; last < math.MaxInt {
		l = append(l, last+1)
	}
	return l
}

// knows holds what is told of a register against what is known.
func knows(t *testing.T, c api.Code, known []row, at, reg int) {
	t.Helper()
	want, wanted := int64(0), false
	if at >= 0 && at < len(c) && reg >= 0 {
		want, wanted = known[at][reg]
	}
	if n, is := fold.Known(c, at, reg); n != want || is != wanted {
		t.Fatalf("\n%sr%d ahead of %d: %d, %v, not %d, %v", ins.Text(c), reg, at, n, is, want, wanted)
	}
}

// becomes holds what a code becomes against what it is to become.
func becomes(t *testing.T, c, want api.Code) {
	t.Helper()
	if got := fold.Code(c); !slices.Equal(got, want) {
		t.Fatalf("\n%sbecomes\n%snot\n%s", ins.Text(c), ins.Text(got), ins.Text(want))
	}
}

// holds holds all that is told of a code against what is known.
func holds(t *testing.T, c api.Code, known []row) {
	t.Helper()
	for at := -1; at <= len(c); at++ {
		for _, reg := range regs(c) {
			knows(t, c, known, at, reg)
		}
	}
	becomes(t, c, meantCode(c, known))
}

// told is a code, and what is to be told of it: all that is known, and the instructions that become others.
type told struct {
	name    string
	code    api.Code
	known   []row
	becomes map[int]api.Ins
}

// check holds it against what is told.
func (k told) check(t *testing.T) {
	t.Run(k.name, func(t *testing.T) {
		if !ins.Check(k.code, ins.Bound{Regs: math.MaxInt, Locks: 9}) {
			t.Fatal("it may not be")
		}
		want := slices.Clone(k.code)
		for at, i := range k.becomes {
			want[at] = i
		}
		holds(t, k.code, k.known)
		becomes(t, k.code, want)
		if m := meantOf(k.code); !sameRows(m, k.known) { // and the model says so, too
			t.Errorf("%v, not %v", m, k.known)
		}
	})
}

// P16.1, P16.2: what each kind lets be known, along a line.
func TestLines(t *testing.T) {
	for _, k := range []told{
		{"nothing", api.Code{halt}, []row{{}}, nil},
		{
			"the chapter's example", api.Code{set(0, 2), does(1, 0, api.Mul, 0), halt},
			[]row{{}, {0: 2}, {0: 2, 1: 4}}, map[int]api.Ins{1: set(1, 4)},
		},
		{ // that each has 0 at first is known of none
			"at first", api.Code{out(0), move(1, 0), does(2, 0, api.Add, 0), pick(3, 0, 0), zero(0, 5), halt},
			[]row{{}, {}, {}, {}, {}, {}}, nil,
		},
		{"set again", api.Code{set(0, 1), set(0, -2), halt}, []row{{}, {0: 1}, {0: -2}}, nil},
		{
			"moves", api.Code{set(0, 7), move(0, 0), move(1, 0), move(0, 2), move(3, 1), halt},
			[]row{{}, {0: 7}, {0: 7}, {0: 7, 1: 7}, {1: 7}, {1: 7, 3: 7}}, map[int]api.Ins{1: set(0, 7), 2: set(1, 7), 4: set(3, 7)},
		},
		{ // what is read is what it was ahead, whatever is written
			"calculated in place", api.Code{set(0, 3), does(0, 0, api.Add, 0), does(0, 0, api.Mul, 0), halt},
			[]row{{}, {0: 3}, {0: 6}, {0: 36}}, map[int]api.Ins{1: set(0, 6), 2: set(0, 36)},
		},
		{ // one that isn't known is enough, whatever it is calculated with
			"not known", api.Code{set(0, 0), set(3, 9), does(3, 0, api.Mul, 1), set(3, 9), does(3, 1, api.And, 0), set(3, 9), does(3, 1, api.Sub, 1), halt},
			[]row{{}, {0: 0}, {0: 0, 3: 9}, {0: 0}, {0: 0, 3: 9}, {0: 0}, {0: 0, 3: 9}, {0: 0}}, nil,
		},
		{ // a Load alone of what was known isn't known any more; what it stands at plays no part
			"loads", api.Code{set(0, 7), {Kind: api.Load, D: 1, A: 0, N: 5}, {Kind: api.Load, D: 0, A: 0}, move(2, 0), halt},
			[]row{{}, {0: 7}, {0: 7}, {}, {}}, nil,
		},
		{ // not what was stored, either
			"stores", api.Code{set(0, 7), {Kind: api.Store, A: -1, B: 0, N: 5}, {Kind: api.Load, D: 1, A: -1, N: 5}, halt},
			[]row{{}, {0: 7}, {0: 7}, {0: 7}}, nil,
		},
		{
			"others write none",
			api.Code{set(0, 7), {Kind: api.Store, A: 0, B: 0, N: 9}, {Kind: api.Fence}, {Kind: api.Take, N: 3}, {Kind: api.Give, N: 3}, out(0), {Kind: api.Trap, N: 1}},
			[]row{{}, {0: 7}, {0: 7}, {0: 7}, {0: 7}, {0: 7}, {0: 7}}, nil,
		},
	} {
		k.check(t)
	}
}

// P16.1, P16.2: a Pick, by what is known of the three.
func TestPicks(t *testing.T) {
	for _, k := range []told{
		{
			"A not 0, B known", api.Code{set(0, 1), set(1, 5), pick(2, 0, 1), halt},
			[]row{{}, {0: 1}, {0: 1, 1: 5}, {0: 1, 1: 5, 2: 5}}, map[int]api.Ins{2: set(2, 5)},
		},
		{
			"A below 0, B known, D known", api.Code{set(0, -1), set(1, 5), set(2, 6), pick(2, 0, 1), halt},
			[]row{{}, {0: -1}, {0: -1, 1: 5}, {0: -1, 1: 5, 2: 6}, {0: -1, 1: 5, 2: 5}}, map[int]api.Ins{3: set(2, 5)},
		},
		{ // what D was plays no part any more
			"A not 0, B not known, D known", api.Code{set(0, math.MinInt64), set(2, 6), pick(2, 0, 1), halt},
			[]row{{}, {0: math.MinInt64}, {0: math.MinInt64, 2: 6}, {0: math.MinInt64}}, map[int]api.Ins{2: move(2, 1)},
		},
		{
			"A 0, D known", api.Code{set(0, 0), set(1, 5), set(2, 6), pick(2, 0, 1), halt},
			[]row{{}, {0: 0}, {0: 0, 1: 5}, {0: 0, 1: 5, 2: 6}, {0: 0, 1: 5, 2: 6}}, map[int]api.Ins{3: move(2, 2)},
		},
		{
			"A 0, D known, B not known", api.Code{set(0, 0), set(2, 6), pick(2, 0, 1), halt},
			[]row{{}, {0: 0}, {0: 0, 2: 6}, {0: 0, 2: 6}}, map[int]api.Ins{2: move(2, 2)},
		},
		{
			"A 0, D not known, B known", api.Code{set(0, 0), set(1, 5), pick(2, 0, 1), halt},
			[]row{{}, {0: 0}, {0: 0, 1: 5}, {0: 0, 1: 5}}, map[int]api.Ins{2: move(2, 2)},
		},
		{ // it's known what D is, and it stays as it is
			"A not known, B and D the same", api.Code{set(1, 5), set(2, 5), pick(2, 0, 1), out(2), halt},
			[]row{{}, {1: 5}, {1: 5, 2: 5}, {1: 5, 2: 5}, {1: 5, 2: 5}}, nil,
		},
		{
			"A not known, B and D others", api.Code{set(1, 5), set(2, 6), pick(2, 0, 1), halt},
			[]row{{}, {1: 5}, {1: 5, 2: 6}, {1: 5}}, nil,
		},
		{"A and B not known", api.Code{set(2, 0), pick(2, 0, 1), halt}, []row{{}, {2: 0}, {}}, nil},
		{"A and D not known", api.Code{set(1, 0), pick(2, 0, 1), halt}, []row{{}, {1: 0}, {1: 0}}, nil},
		{
			"D is A, not 0", api.Code{set(0, 5), set(1, 2), pick(0, 0, 1), halt},
			[]row{{}, {0: 5}, {0: 5, 1: 2}, {0: 2, 1: 2}}, map[int]api.Ins{2: set(0, 2)},
		},
		{
			"D is A, 0", api.Code{set(0, 0), set(1, 2), pick(0, 0, 1), halt},
			[]row{{}, {0: 0}, {0: 0, 1: 2}, {0: 0, 1: 2}}, map[int]api.Ins{2: move(0, 0)},
		},
		{"D is B", api.Code{set(1, 5), pick(1, 0, 1), halt}, []row{{}, {1: 5}, {1: 5}}, nil},
		{"D is B, A not 0", api.Code{set(0, 1), pick(1, 0, 1), halt}, []row{{}, {0: 1}, {0: 1}}, map[int]api.Ins{1: move(1, 1)}},
		{
			"all the same", api.Code{set(1, 5), pick(1, 1, 1), pick(0, 0, 0), halt},
			[]row{{}, {1: 5}, {1: 5}, {1: 5}}, map[int]api.Ins{1: set(1, 5)},
		},
	} {
		k.check(t)
	}
}

// P16.1, P16.2: what is known where ways come together, and a Zero.
func TestWaysTogether(t *testing.T) {
	for _, k := range []told{
		{
			"they agree", api.Code{zero(9, 3), set(0, 1), jump(4), set(0, 1), move(1, 0), halt},
			[]row{{}, {}, {0: 1}, {}, {0: 1}, {0: 1, 1: 1}}, map[int]api.Ins{4: set(1, 1)},
		},
		{
			"they don't", api.Code{zero(9, 3), set(0, 1), jump(4), set(0, 2), move(1, 0), halt},
			[]row{{}, {}, {0: 1}, {}, {}, {}}, nil,
		},
		{
			"one doesn't know", api.Code{zero(9, 2), set(0, 0), move(1, 0), halt},
			[]row{{}, {}, {}, {}}, nil,
		},
		{
			"one doesn't know any more", api.Code{set(0, 4), zero(9, 3), load(0), move(1, 0), halt},
			[]row{{}, {0: 4}, {0: 4}, {}, {}}, nil,
		},
		{ // along both ways the sum is 5; but only what all agree in goes on
			"5 in all", api.Code{zero(9, 4), set(0, 2), set(1, 3), jump(6), set(0, 3), set(1, 2), does(2, 0, api.Add, 1), halt},
			[]row{{}, {}, {0: 2}, {0: 2, 1: 3}, {}, {0: 3}, {}, {}}, nil,
		},
		{ // likewise of a Pick, which picks 5 along each
			"5 anyway", api.Code{zero(9, 5), set(0, 1), set(1, 5), set(2, 6), jump(8), set(0, 0), set(1, 6), set(2, 5), pick(2, 0, 1), halt},
			[]row{{}, {}, {0: 1}, {0: 1, 1: 5}, {0: 1, 1: 5, 2: 6}, {}, {0: 0}, {0: 0, 1: 6}, {}, {}}, nil,
		},
		{ // it's known which way it goes, and it goes both
			"0 goes on, too", api.Code{set(0, 0), set(1, 1), zero(0, 4), set(1, 2), move(2, 1), halt},
			[]row{{}, {0: 0}, {0: 0, 1: 1}, {0: 0, 1: 1}, {0: 0}, {0: 0}}, map[int]api.Ins{2: jump(4)},
		},
		{
			"what isn't 0 goes there, too", api.Code{set(0, -3), set(1, 1), zero(0, 4), set(1, 2), move(2, 1), halt},
			[]row{{}, {0: -3}, {0: -3, 1: 1}, {0: -3, 1: 1}, {0: -3}, {0: -3}}, map[int]api.Ins{2: jump(3)},
		},
		{
			"both lead to the next place", api.Code{set(0, 1), zero(0, 2), set(0, 0), zero(0, 4), halt},
			[]row{{}, {0: 1}, {0: 1}, {0: 0}, {0: 0}}, map[int]api.Ins{1: jump(2), 3: jump(4)},
		},
		{
			"to itself", api.Code{set(0, 0), zero(0, 1), set(0, 2), zero(0, 3), halt},
			[]row{{}, {0: 0}, {0: 0}, {0: 2}, {0: 2}}, map[int]api.Ins{1: jump(1), 3: jump(4)},
		},
		{ // that A is 0 there isn't known by the way alone
			"nothing by the way", api.Code{load(0), zero(0, 3), halt, out(0), halt},
			[]row{{}, {}, {}, {}, {}}, nil,
		},
		{ // three ways, one of which doesn't agree
			"the last one to come", api.Code{set(0, 1), zero(7, 4), zero(8, 4), load(0), does(1, 0, api.Add, 0), halt},
			[]row{{}, {0: 1}, {0: 1}, {0: 1}, {}, {}}, nil,
		},
	} {
		k.check(t)
	}
}

// P16.1, P16.2: loops.
func TestLoops(t *testing.T) {
	for _, k := range []told{
		{ // nothing is known ahead of place 0, whatever comes back there
			"to the beginning", api.Code{set(0, 1), jump(0)}, []row{{}, {0: 1}}, nil,
		},
		{"place 0 itself", api.Code{zero(0, 0), halt}, []row{{}, {}}, nil},
		{
			"nothing else comes", api.Code{set(0, 1), move(1, 0), jump(1)}, []row{{}, {0: 1}, {0: 1, 1: 1}}, map[int]api.Ins{1: set(1, 1)},
		},
		{ // what each round makes is the same again: the most that can be known
			"stays", api.Code{set(0, 5), set(1, 1), does(0, 0, api.Mul, 1), load(2), zero(2, 2), halt},
			[]row{{}, {0: 5}, {0: 5, 1: 1}, {0: 5, 1: 1}, {0: 5, 1: 1}, {0: 5, 1: 1}}, map[int]api.Ins{2: set(0, 5)},
		},
		{ // two that change places, and are the same
			"round about", api.Code{set(0, 5), set(1, 5), move(2, 0), move(0, 1), move(1, 2), zero(9, 2), halt},
			[]row{{}, {0: 5}, {0: 5, 1: 5}, {0: 5, 1: 5, 2: 5}, {0: 5, 1: 5, 2: 5}, {0: 5, 1: 5, 2: 5}, {0: 5, 1: 5, 2: 5}},
			map[int]api.Ins{2: set(2, 5), 3: set(0, 5), 4: set(1, 5)},
		},
		{
			"counts", api.Code{set(0, 0), set(1, 1), does(0, 0, api.Add, 1), zero(9, 2), move(2, 0), move(3, 1), halt},
			[]row{{}, {0: 0}, {1: 1}, {1: 1}, {1: 1}, {1: 1}, {1: 1, 3: 1}}, map[int]api.Ins{5: set(3, 1)},
		},
		{ // it takes three rounds till what the Load brings comes to the last one
			"round by round", api.Code{set(0, 1), set(1, 1), set(2, 1), set(3, 1), move(2, 1), move(1, 0), load(0), zero(9, 4), move(4, 2), move(5, 3), halt},
			[]row{{}, {0: 1}, {0: 1, 1: 1}, {0: 1, 1: 1, 2: 1}, {3: 1}, {3: 1}, {3: 1}, {3: 1}, {3: 1}, {3: 1}, {3: 1, 5: 1}}, map[int]api.Ins{9: set(5, 1)},
		},
		{ // the inner one is left as it was come to, the outer one isn't
			"one in another one", api.Code{set(0, 2), set(1, 3), set(0, 2), does(2, 0, api.Add, 1), zero(9, 3), set(0, 4), zero(8, 2), halt},
			[]row{{}, {0: 2}, {1: 3}, {0: 2, 1: 3}, {0: 2, 1: 3, 2: 5}, {0: 2, 1: 3, 2: 5}, {0: 4, 1: 3, 2: 5}, {0: 4, 1: 3, 2: 5}},
			map[int]api.Ins{3: set(2, 5)},
		},
		{ // a round at which it is come to at two places
			"in from two sides", api.Code{set(0, 1), zero(9, 4), does(1, 0, api.Add, 0), jump(4), move(2, 0), zero(8, 2), halt},
			[]row{{}, {0: 1}, {0: 1}, {0: 1, 1: 2}, {0: 1}, {0: 1, 2: 1}, {0: 1, 2: 1}}, map[int]api.Ins{2: set(1, 2), 4: set(2, 1)},
		},
	} {
		k.check(t)
	}
}

// P16.1, P16.2: where no way ends nothing is known, and nothing becomes another thing; nor does anything come from there.
func TestNoWayEnds(t *testing.T) {
	for _, k := range []told{
		{
			"behind a Jump", api.Code{set(0, 1), jump(7), set(0, 2), move(1, 0), does(1, 0, api.Add, 0), pick(0, 0, 0), zero(0, 3), move(1, 0), halt},
			[]row{{}, {0: 1}, nil, nil, nil, nil, nil, {0: 1}, {0: 1, 1: 1}}, map[int]api.Ins{7: set(1, 1)},
		},
		{
			"to what can be come to", api.Code{set(0, 1), move(1, 0), halt, set(0, 2), jump(1)},
			[]row{{}, {0: 1}, {0: 1, 1: 1}, nil, nil}, map[int]api.Ins{1: set(1, 1)},
		},
		{"behind a Halt", api.Code{halt, set(0, 1), move(1, 0), halt}, []row{{}, nil, nil, nil}, nil},
		{"behind a Trap", api.Code{{Kind: api.Trap, N: 2}, set(0, 1), move(1, 0), jump(1)}, []row{{}, nil, nil, nil}, nil},
		{ // though it's known that it never goes on to there: a Zero goes both ways
			"behind a Zero of 0", api.Code{set(0, 0), zero(0, 3), move(1, 0), halt},
			[]row{{}, {0: 0}, {0: 0}, {0: 0}}, map[int]api.Ins{1: jump(3), 2: set(1, 0)},
		},
	} {
		k.check(t)
	}
}

// P16.1, P16.2: each operator is that of calc, wrapped numbers and divisions by 0 too.
func TestEachOperator(t *testing.T) {
	some := []int64{math.MinInt64, math.MinInt64 + 1, -65, -7, -1, 0, 1, 2, 3, 63, 64, 1 << 32, math.MaxInt64}
	for op := api.Add; op <= api.Any; op++ {
		for _, a := range some {
			for _, b := range some {
				c, n := api.Code{set(0, a), set(1, b), does(2, 0, op, 1), out(2), halt}, calc.Eval(op, a, b)
				becomes(t, c, api.Code{set(0, a), set(1, b), set(2, n), out(2), halt})
				if got, is := fold.Known(c, 3, 2); got != n || !is {
					t.Fatal(op, a, b, got, is)
				}
			}
		}
	}
	for _, k := range []struct {
		op      int
		a, b, n int64
	}{
		{api.Sub, 5, 7, -2}, {api.Div, 7, 0, 0}, {api.Rem, 7, 0, 7}, {api.Div, math.MinInt64, -1, math.MinInt64}, {api.Below, 5, -1, 1},
		{api.Add, math.MaxInt64, 1, math.MinInt64}, {api.Shl, 1, 65, 2}, {api.Shr, -3, 1, -2}, {api.Both, 2, 3, 1}, {api.Lt, 2, 1, 0},
	} {
		becomes(t, api.Code{set(0, k.a), set(1, k.b), does(1, 0, k.op, 1), halt}, api.Code{set(0, k.a), set(1, k.b), set(1, k.n), halt})
	}
}

// P16.1: numbers of all sizes are known as they are.
func TestNumbers(t *testing.T) {
	for _, n := range []int64{math.MinInt64, -1 << 32, -1, 0, 1, 1 << 32, math.MaxInt64} {
		becomes(t, api.Code{set(0, n), move(1, 0), halt}, api.Code{set(0, n), set(1, n), halt})
		if got, is := fold.Known(api.Code{set(3, n), halt}, 1, 3); got != n || !is {
			t.Error(n, got, is)
		}
	}
}

// P16.1, P16.2: any register there may be, however far from the others.
func TestWhichRegisters(t *testing.T) {
	for _, reg := range []int{1, 15, 16, 63, 64, 1 << 16, 1 << 31, 1 << 32, 1<<32 + 1, math.MaxInt - 2, math.MaxInt - 1} {
		told{
			"", api.Code{set(reg, 3), set(0, 4), does(reg, reg, api.Add, 0), pick(reg, 7, reg), move(0, reg), zero(reg, 0), halt},
			[]row{{}, {reg: 3}, {reg: 3, 0: 4}, {reg: 7, 0: 4}, {reg: 7, 0: 4}, {reg: 7, 0: 7}, {reg: 7, 0: 7}},
			map[int]api.Ins{2: set(reg, 7), 4: set(0, 7), 5: jump(6)},
		}.check(t)
	}
}

// P16.1: of a place, or a register, that there isn't, nothing is known.
func TestNoSuch(t *testing.T) {
	c := api.Code{set(0, 5), out(0), halt}
	for _, at := range []int{math.MinInt, -1 << 32, -2, -1, 3, 4, 1 << 32, 1<<32 + 1, math.MaxInt} {
		for _, reg := range []int{math.MinInt, -1, 0, 1, math.MaxInt} {
			if n, is := fold.Known(c, at, reg); n != 0 || is {
				t.Error(at, reg, n, is)
			}
		}
	}
	for _, reg := range []int{math.MinInt, -1 << 32, -64, -1, 1, 64, 1 << 32, math.MaxInt} {
		if n, is := fold.Known(c, 1, reg); n != 0 || is {
			t.Error(reg, n, is)
		}
	}
	if n, is := fold.Known(c, 1, 0); n != 5 || !is {
		t.Error(n, is)
	}
}

// Codes that may not be come to an end, too: nil and empty ones, those that lead to nowhere, of no kind, with registers that there aren't.
func TestWhatMayNotBe(t *testing.T) {
	for _, c := range []api.Code{nil, {}, api.Code{halt}[:0]} {
		if got := fold.Code(c); len(got) != 0 {
			t.Error(got)
		}
		if n, is := fold.Known(c, 0, 0); n != 0 || is {
			t.Error(n, is)
		}
	}
	for _, none := range []int{math.MinInt, -1 << 32, -2, -1, 14, 1 << 32, math.MaxInt} {
		holds(t, api.Code{set(0, 1), zero(1, none), jump(none)}, []row{{}, {0: 1}, {0: 1}})
		holds(t, api.Code{set(0, 1), {Kind: none, D: 0, A: 0, B: 0}, move(0, 0)}, []row{{}, {0: 1}, nil})
	}
	for _, none := range []int{math.MinInt, -64, -2, -1} {
		c := api.Code{set(none, 1), set(0, 1), move(0, none), does(none, 0, api.Add, none), pick(0, none, 0), pick(none, 0, none), load(none), zero(none, 0), move(none, 0)}
		holds(t, c, meantOf(c))
		if m := meantOf(c); !maps.Equal(m[2], row{0: 1}) || len(m[3]) > 0 {
			t.Error(m)
		}
	}
}

// P16.2: each instruction that becomes another one has 0 in each field that isn't its own; the others are as they were.
func TestFields(t *testing.T) {
	c := api.Code{
		{Kind: api.Set, D: 1, N: 4}, {Kind: api.Set, D: 2}, {Kind: api.Calc, D: 3, Op: api.Any, A: 1, B: 2}, {Kind: api.Move, D: 3, A: 1}, {Kind: api.Pick, D: 3, A: 1, B: 1},
		{Kind: api.Pick, D: 3, A: 1, B: 9}, {Kind: api.Pick, D: 3, A: 2, B: 1}, {Kind: api.Zero, A: 1, To: 10}, {Kind: api.Zero, A: 2, To: 10}, {Kind: api.Pick, D: 3, A: 9, B: 1},
		{Kind: api.Load, D: 4, A: 1, N: 65535}, {Kind: api.Store, A: 2, B: 1, N: 7}, {Kind: api.Out, A: 1}, {Kind: api.Take, N: 1}, {Kind: api.Give, N: 1}, {Kind: api.Trap, N: 2},
	}
	want := slices.Clone(c)
	want[2] = api.Ins{Kind: api.Set, D: 3, N: 1}
	want[3] = api.Ins{Kind: api.Set, D: 3, N: 4}
	want[4] = api.Ins{Kind: api.Set, D: 3, N: 4}
	want[5] = api.Ins{Kind: api.Move, D: 3, A: 9}
	want[6] = api.Ins{Kind: api.Move, D: 3, A: 3}
	want[7] = api.Ins{Kind: api.Jump, To: 8}
	want[8] = api.Ins{Kind: api.Jump, To: 10}
	becomes(t, c, want)
	if b := (ins.Bound{Regs: 10, Locks: 2}); !ins.Check(c, b) || !ins.Check(fold.Code(c), b) {
		t.Error("it may not be")
	}
}
