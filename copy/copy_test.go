package copy_test

import (
	"math"
	"slices"
	"testing"

	"paling/api"
	"paling/copy"
	"paling/ins"
	"paling/sample"
)

// What instructions are here.
var (
	halt                  = sample.Halt()
	set, move, does, pick = sample.Set, sample.Move, sample.Calc, sample.Pick
	load, zero, jump, out = sample.Load, sample.Zero, sample.Jump, sample.Out
)

// regs is all registers that a code names, and one more.
func regs(c api.Code) []int {
	l := []int{0}
	for _, i := range c {
		l = append(l, max(i.D, 0), max(i.A, 0), max(i.B, 0))
	}
	slices.Sort(l)
	l = slices.Compact(l)
	if last := l[len(l)-1]; last < math.MaxInt {
		l = append(l, last+1)
	}
	return l
}

// same holds what is told of a register against which one is the same.
func same(t *testing.T, c api.Code, m model, at, reg int) {
	t.Helper()
	if got, want := copy.Same(c, at, reg), m.same(at, reg); got != want {
		t.Fatalf("\n%sr%d ahead of %d: r%d, not r%d", ins.Text(c), reg, at, got, want)
	}
}

// becomes holds what a code becomes against what it is to become.
func becomes(t *testing.T, c, want api.Code) {
	t.Helper()
	got := copy.Code(c)
	if len(got) != len(want) {
		t.Fatalf("%d instructions, not %d", len(got), len(want))
	}
	for at := range want {
		if got[at] != want[at] {
			t.Fatalf("\n%.9999s%d becomes %s, not %s", ins.Text(c), at, ins.Show(got[at]), ins.Show(want[at]))
		}
	}
}

// holds holds all that is told of a code against what is meant.
func holds(t *testing.T, c api.Code, m model) {
	t.Helper()
	for at := -1; at <= len(c); at++ {
		for _, reg := range append(m.regs, -1) {
			same(t, c, m, at, reg)
		}
	}
	becomes(t, c, m.code(c))
}

// told is a code, and what is to be told of it: ahead of each place those that are the same (none, or none told, where no way ends), and the instructions that become others.
type told struct {
	name    string
	code    api.Code
	same    [][][]int
	becomes map[int]api.Ins
}

// check holds it against what is told.
func (k told) check(t *testing.T) {
	t.Run(k.name, func(t *testing.T) {
		if !ins.Check(k.code, ins.Bound{Regs: math.MaxInt, Locks: 9}) {
			t.Fatal("it may not be")
		}
		m := meantOf(k.code)
		for at := range k.code {
			for _, reg := range m.regs {
				want := reg
				for _, l := range k.same[at] {
					if slices.Contains(l, reg) {
						want = slices.Min(l)
					}
				}
				if got := copy.Same(k.code, at, reg); got != want {
					t.Errorf("r%d ahead of %d: r%d, not r%d", reg, at, got, want)
				}
			}
		}
		want := slices.Clone(k.code)
		for at, i := range k.becomes {
			want[at] = i
		}
		becomes(t, k.code, want)
		holds(t, k.code, m) // and the model says so, too
	})
}

// P17.1, P17.2: what each kind lets be the same, along a line.
func TestLines(t *testing.T) {
	for _, k := range []told{
		{"nothing", api.Code{halt}, [][][]int{{}}, nil},
		{
			"the chapter's example", api.Code{move(1, 0), out(1), halt},
			[][][]int{{}, {{0, 1}}, {{0, 1}}}, map[int]api.Ins{1: out(0)},
		},
		{ // that each has 0 at first makes none the same
			"at first", api.Code{out(0), out(1), halt}, [][][]int{{}, {}, {}}, nil,
		},
		{
			"a row of them", api.Code{move(1, 0), move(2, 1), move(3, 2), out(3), halt},
			[][][]int{{}, {{0, 1}}, {{0, 1, 2}}, {{0, 1, 2, 3}}, {{0, 1, 2, 3}}},
			map[int]api.Ins{1: move(2, 0), 2: move(3, 0), 3: out(0)},
		},
		{ // the lowest one, whichever was there first
			"downwards", api.Code{move(4, 5), out(5), move(2, 4), out(5), out(4), move(3, 5), out(3), halt},
			[][][]int{{}, {{4, 5}}, {{4, 5}}, {{2, 4, 5}}, {{2, 4, 5}}, {{2, 4, 5}}, {{2, 3, 4, 5}}, {{2, 3, 4, 5}}},
			map[int]api.Ins{1: out(4), 3: out(2), 4: out(2), 5: move(3, 2), 6: out(2)},
		},
		{
			"two of them", api.Code{move(3, 0), move(2, 1), out(3), out(2), does(4, 2, api.Sub, 3), halt},
			[][][]int{{}, {{0, 3}}, {{0, 3}, {1, 2}}, {{0, 3}, {1, 2}}, {{0, 3}, {1, 2}}, {{0, 3}, {1, 2}}},
			map[int]api.Ins{2: out(0), 3: out(1), 4: does(4, 1, api.Sub, 0)},
		},
		{ // D is the same as no others any more
			"over to another one", api.Code{move(1, 0), move(3, 2), move(1, 3), out(0), out(1), out(3), halt},
			[][][]int{{}, {{0, 1}}, {{0, 1}, {2, 3}}, {{1, 2, 3}}, {{1, 2, 3}}, {{1, 2, 3}}, {{1, 2, 3}}},
			map[int]api.Ins{2: move(1, 2), 5: out(1)},
		},
		{ // those that were the same as the lowest one are still the same as each other
			"the lowest one goes", api.Code{move(1, 0), move(2, 0), load(0), out(2), out(1), load(1), out(2), halt},
			[][][]int{{}, {{0, 1}}, {{0, 1, 2}}, {{1, 2}}, {{1, 2}}, {{1, 2}}, {}, {}},
			map[int]api.Ins{3: out(1)},
		},
		{
			"one amidst goes, and comes back", api.Code{move(1, 0), move(2, 1), set(1, 5), out(2), move(1, 2), out(1), halt},
			[][][]int{{}, {{0, 1}}, {{0, 1, 2}}, {{0, 2}}, {{0, 2}}, {{0, 1, 2}}, {{0, 1, 2}}},
			map[int]api.Ins{1: move(2, 0), 3: out(0), 4: move(1, 0), 5: out(0)},
		},
		{
			"of itself", api.Code{move(1, 1), move(1, 0), move(1, 1), move(0, 0), out(1), halt},
			[][][]int{{}, {}, {{0, 1}}, {{0, 1}}, {{0, 1}}, {{0, 1}}}, map[int]api.Ins{2: move(1, 0), 4: out(0)},
		},
		{ // of what is the same already: all stay the same; and one of D itself is there then
			"there and back", api.Code{move(1, 0), move(0, 1), move(1, 0), move(2, 1), move(1, 2), out(1), halt},
			[][][]int{{}, {{0, 1}}, {{0, 1}}, {{0, 1}}, {{0, 1, 2}}, {{0, 1, 2}}, {{0, 1, 2}}},
			map[int]api.Ins{1: move(0, 0), 3: move(2, 0), 4: move(1, 0), 5: out(0)},
		},
		{
			"change places", api.Code{move(2, 0), move(0, 1), move(1, 2), out(0), out(1), out(2), halt},
			[][][]int{{}, {{0, 2}}, {{0, 1}}, {{1, 2}}, {{1, 2}}, {{1, 2}}, {{1, 2}}},
			map[int]api.Ins{5: out(1)},
		},
	} {
		k.check(t)
	}
}

// P17.1, P17.2: each kind, by what it reads and writes.
func TestEachKind(t *testing.T) {
	same := [][]int{{0, 3}, {1, 2}}
	for _, k := range []struct {
		name        string
		is, becomes api.Ins
		same        [][]int // behind it
	}{
		{"set", set(3, 7), set(3, 7), [][]int{{1, 2}}},
		{"set of what is the lowest", set(0, 7), set(0, 7), [][]int{{1, 2}}},
		{"move", move(4, 3), move(4, 0), [][]int{{0, 3, 4}, {1, 2}}},
		{"move to the other side", move(3, 2), move(3, 1), [][]int{{1, 2, 3}}},
		{"calc", does(4, 3, api.Add, 2), does(4, 0, api.Add, 1), same},
		{"calc in place", does(3, 3, api.Add, 3), does(3, 0, api.Add, 0), [][]int{{1, 2}}},
		{"calc that changes nothing", does(3, 0, api.Or, 3), does(3, 0, api.Or, 0), [][]int{{1, 2}}},
		{"pick", pick(4, 3, 2), pick(4, 0, 1), same},
		{"pick in place", pick(2, 3, 2), pick(2, 0, 1), [][]int{{0, 3}}},
		{"pick of the same", pick(3, 2, 0), pick(3, 1, 0), [][]int{{1, 2}}},
		{"load", api.Ins{Kind: api.Load, D: 4, A: 3, N: 9}, api.Ins{Kind: api.Load, D: 4, A: 0, N: 9}, same},
		{"load in place", api.Ins{Kind: api.Load, D: 2, A: 2, N: 9}, api.Ins{Kind: api.Load, D: 2, A: 1, N: 9}, [][]int{{0, 3}}},
		{"load of none", api.Ins{Kind: api.Load, D: 2, A: -1}, api.Ins{Kind: api.Load, D: 2, A: -1}, [][]int{{0, 3}}},
		{"store", api.Ins{Kind: api.Store, A: 2, B: 3, N: 9}, api.Ins{Kind: api.Store, A: 1, B: 0, N: 9}, same},
		{"store at none", api.Ins{Kind: api.Store, A: -1, B: 3}, api.Ins{Kind: api.Store, A: -1, B: 0}, same},
		{"jump", jump(4), jump(4), same},
		{"zero", zero(3, 4), zero(0, 4), same},
		{"zero to its own place", zero(2, 3), zero(2, 3), nil}, // ways come together ahead of it: below
		{"fence", api.Ins{Kind: api.Fence}, api.Ins{Kind: api.Fence}, same},
		{"take", api.Ins{Kind: api.Take, N: 3}, api.Ins{Kind: api.Take, N: 3}, same},
		{"give", api.Ins{Kind: api.Give, N: 3}, api.Ins{Kind: api.Give, N: 3}, same},
		{"out", out(2), out(1), same},
		{"trap", api.Ins{Kind: api.Trap, N: 2}, api.Ins{Kind: api.Trap, N: 2}, nil},
		{"halt", halt, halt, nil},
	} {
		c := api.Code{move(3, 0), move(1, 2), api.Ins{Kind: api.Fence}, k.is, halt}
		what := told{k.name, c, [][][]int{{}, {{0, 3}}, same, same, k.same}, map[int]api.Ins{3: k.becomes}}
		if k.is.Kind == api.Zero && k.is.To == 3 {
			what.same[4], what.becomes[3] = same, zero(1, 3)
		}
		what.check(t)
	}
}

// P17.1, P17.2: where ways come together.
func TestWaysTogether(t *testing.T) {
	for _, k := range []told{
		{
			"they agree", api.Code{zero(9, 3), move(1, 0), jump(4), move(1, 0), out(1), halt},
			[][][]int{{}, {}, {{0, 1}}, {}, {{0, 1}}, {{0, 1}}}, map[int]api.Ins{4: out(0)},
		},
		{
			"they don't", api.Code{zero(9, 3), move(1, 0), jump(4), move(1, 2), out(1), halt},
			[][][]int{{}, {}, {{0, 1}}, {}, {}, {}}, nil,
		},
		{ // the one is moved here, the other one there
			"the other way round", api.Code{zero(9, 3), move(1, 0), jump(4), move(0, 1), out(1), halt},
			[][][]int{{}, {}, {{0, 1}}, {}, {{0, 1}}, {{0, 1}}}, map[int]api.Ins{4: out(0)},
		},
		{ // of what isn't known, and other things on each
			"of other things", api.Code{zero(9, 4), load(1), move(2, 1), jump(6), set(2, 5), move(1, 2), out(2), halt},
			[][][]int{{}, {}, {}, {{1, 2}}, {}, {}, {{1, 2}}, {{1, 2}}}, map[int]api.Ins{6: out(1)},
		},
		{ // by a third one, that isn't the same any more
			"by another one", api.Code{zero(9, 5), move(1, 0), move(2, 1), load(0), jump(6), move(1, 2), out(2), halt},
			[][][]int{{}, {}, {{0, 1}}, {{0, 1, 2}}, {{1, 2}}, {}, {{1, 2}}, {{1, 2}}},
			map[int]api.Ins{2: move(2, 0), 6: out(1)},
		},
		{
			"one alone", api.Code{zero(9, 2), move(1, 0), out(1), halt}, [][][]int{{}, {}, {}, {}}, nil,
		},
		{
			"one not any more", api.Code{move(1, 0), zero(9, 3), load(0), out(1), halt},
			[][][]int{{}, {{0, 1}}, {{0, 1}}, {}, {}}, nil,
		},
		{ // two rows of them, across: of each of the one row one is with each of the other
			"across", api.Code{zero(9, 4), move(1, 0), move(3, 2), jump(6), move(2, 0), move(3, 1), out(3), halt},
			[][][]int{{}, {}, {{0, 1}}, {{0, 1}, {2, 3}}, {}, {{0, 2}}, {}, {}}, nil,
		},
		{
			"all, and some", api.Code{zero(9, 5), move(1, 0), move(2, 0), move(3, 0), jump(7), move(2, 0), move(3, 1), out(3), out(2), halt},
			[][][]int{{}, {}, {{0, 1}}, {{0, 1, 2}}, {{0, 1, 2, 3}}, {}, {{0, 2}}, {{0, 2}, {1, 3}}, {{0, 2}, {1, 3}}, {{0, 2}, {1, 3}}},
			map[int]api.Ins{7: out(1), 8: out(0)},
		},
		{ // three ways, one of which doesn't agree
			"the last one to come", api.Code{move(1, 0), move(2, 0), zero(7, 5), zero(8, 5), load(0), out(2), out(1), halt},
			[][][]int{{}, {{0, 1}}, {{0, 1, 2}}, {{0, 1, 2}}, {{0, 1, 2}}, {{1, 2}}, {{1, 2}}, {{1, 2}}},
			map[int]api.Ins{5: out(1)},
		},
		{
			"both lead to the next place", api.Code{move(1, 0), zero(1, 2), out(1), halt},
			[][][]int{{}, {{0, 1}}, {{0, 1}}, {{0, 1}}}, map[int]api.Ins{1: zero(0, 2), 2: out(0)},
		},
		{
			"to itself", api.Code{move(1, 0), zero(1, 1), out(1), halt},
			[][][]int{{}, {{0, 1}}, {{0, 1}}, {{0, 1}}}, map[int]api.Ins{1: zero(0, 1), 2: out(0)},
		},
		{ // what the way could tell of a register isn't told
			"nothing by the way", api.Code{load(0), set(1, 0), zero(0, 4), halt, out(1), halt},
			[][][]int{{}, {}, {}, {}, {}, {}}, nil,
		},
	} {
		k.check(t)
	}
}

// P17.1, P17.2: loops.
func TestLoops(t *testing.T) {
	for _, k := range []told{
		{ // each is itself alone ahead of place 0, whatever comes back there
			"to the beginning", api.Code{move(1, 0), out(1), zero(9, 0), jump(0)},
			[][][]int{{}, {{0, 1}}, {{0, 1}}, {{0, 1}}}, map[int]api.Ins{1: out(0)},
		},
		{"place 0 itself", api.Code{zero(1, 0), halt}, [][][]int{{}, {}}, nil},
		{
			"nothing else comes", api.Code{move(1, 0), out(1), jump(1)}, [][][]int{{}, {{0, 1}}, {{0, 1}}}, map[int]api.Ins{1: out(0)},
		},
		{ // each round makes them the same again: the most that can be known
			"stays", api.Code{move(1, 0), out(1), load(0), move(1, 0), zero(9, 1), halt},
			[][][]int{{}, {{0, 1}}, {{0, 1}}, {}, {{0, 1}}, {{0, 1}}}, map[int]api.Ins{1: out(0)},
		},
		{ // likewise the other way round
			"stays, by the other one", api.Code{move(1, 0), out(1), load(1), move(0, 1), zero(9, 1), halt},
			[][][]int{{}, {{0, 1}}, {{0, 1}}, {}, {{0, 1}}, {{0, 1}}}, map[int]api.Ins{1: out(0)},
		},
		{
			"change places", api.Code{move(1, 0), move(2, 0), move(0, 1), move(1, 2), out(1), zero(9, 1), halt},
			[][][]int{{}, {{0, 1}}, {{0, 1, 2}}, {{0, 1, 2}}, {{0, 1, 2}}, {{0, 1, 2}}, {{0, 1, 2}}},
			map[int]api.Ins{2: move(0, 0), 3: move(1, 0), 4: out(0)},
		},
		{ // behind the first round r0 is another one
			"not a round later", api.Code{move(1, 0), out(1), load(0), zero(0, 1), halt},
			[][][]int{{}, {}, {}, {}, {}}, nil,
		},
		{ // it takes three rounds till what the Load brings comes to the last one; r3 and r4 stay as they were
			"round by round", api.Code{move(1, 0), move(2, 0), move(3, 0), move(4, 0), move(2, 1), move(1, 0), load(0), zero(9, 4), out(4), out(2), halt},
			[][][]int{{}, {{0, 1}}, {{0, 1, 2}}, {{0, 1, 2, 3}}, {{3, 4}}, {{1, 2}, {3, 4}}, {{0, 1}, {3, 4}}, {{3, 4}}, {{3, 4}}, {{3, 4}}, {{3, 4}}},
			map[int]api.Ins{8: out(3)},
		},
		{ // the inner one is left as it was come to, the outer one isn't
			"one in another one", api.Code{move(1, 0), move(2, 0), out(1), zero(9, 2), move(1, 0), load(2), zero(8, 1), halt},
			[][][]int{{}, {{0, 1}}, {{0, 1, 2}}, {{0, 1, 2}}, {{0, 1, 2}}, {{0, 1, 2}}, {{0, 1}}, {{0, 1}}},
			map[int]api.Ins{2: out(0)},
		},
		{ // a round that is come to at two places
			"in from two sides", api.Code{move(1, 0), move(2, 0), zero(9, 5), out(1), jump(6), load(2), out(2), zero(8, 3), halt},
			[][][]int{{}, {{0, 1}}, {{0, 1, 2}}, {{0, 1}}, {{0, 1}}, {{0, 1, 2}}, {{0, 1}}, {{0, 1}}, {{0, 1}}},
			map[int]api.Ins{3: out(0)},
		},
		{ // what is told late: the way back comes ahead of the place at which it's told
			"told late", api.Code{move(1, 0), jump(5), out(1), zero(9, 7), jump(6), jump(2), jump(2), load(0), jump(5)},
			[][][]int{{}, {{0, 1}}, {}, {}, {}, {}, {}, {}, {}}, nil,
		},
	} {
		k.check(t)
	}
}

// P17.1, P17.2: where no way ends each is itself alone, and stays; nor does anything come from there.
func TestNoWayEnds(t *testing.T) {
	for _, k := range []told{
		{
			"behind a Jump", api.Code{move(1, 0), jump(6), move(1, 2), out(1), does(1, 1, api.Add, 1), zero(1, 3), out(1), halt},
			[][][]int{{}, {{0, 1}}, nil, nil, nil, nil, {{0, 1}}, {{0, 1}}}, map[int]api.Ins{6: out(0)},
		},
		{
			"to what can be come to", api.Code{move(1, 0), out(1), halt, load(0), jump(1)},
			[][][]int{{}, {{0, 1}}, {{0, 1}}, nil, nil}, map[int]api.Ins{1: out(0)},
		},
		{"behind a Halt", api.Code{halt, move(1, 0), out(1), halt}, [][][]int{{}, nil, nil, nil}, nil},
		{"behind a Trap", api.Code{{Kind: api.Trap, N: 2}, move(1, 0), out(1), jump(1)}, [][][]int{{}, nil, nil, nil}, nil},
		{ // though it never goes on to there: a Zero goes both ways
			"behind a Zero of 0", api.Code{set(0, 0), move(1, 0), zero(1, 4), out(1), halt},
			[][][]int{{}, {}, {{0, 1}}, {{0, 1}}, {{0, 1}}}, map[int]api.Ins{2: zero(0, 4), 3: out(0)},
		},
	} {
		k.check(t)
	}
}

// P17.1, P17.2: any register there may be, however far from the others.
func TestWhichRegisters(t *testing.T) {
	for _, reg := range []int{2, 15, 16, 63, 64, 1 << 16, 1 << 31, 1 << 32, 1<<32 + 1, math.MaxInt - 2, math.MaxInt - 1} {
		told{
			"", api.Code{move(1, reg), out(reg), move(reg, 0), out(reg), out(1), halt},
			[][][]int{{}, {{1, reg}}, {{1, reg}}, {{0, reg}}, {{0, reg}}, {{0, reg}}},
			map[int]api.Ins{1: out(1), 3: out(0)},
		}.check(t)
	}
}

// P17.1: of a place, or a register, that there isn't, it's itself.
func TestNoSuch(t *testing.T) {
	c := api.Code{move(1, 0), out(0), halt}
	for _, at := range []int{math.MinInt, -1 << 32, -2, -1, 3, 4, 1 << 32, 1<<32 + 1, math.MaxInt} {
		for _, reg := range []int{math.MinInt, -1, 0, 1, math.MaxInt} {
			if got := copy.Same(c, at, reg); got != reg {
				t.Error(at, reg, got)
			}
		}
	}
	for _, reg := range []int{math.MinInt, -1 << 32, -64, -2, -1, 2, 64, 1 << 32, math.MaxInt} {
		if got := copy.Same(c, 1, reg); got != reg {
			t.Error(reg, got)
		}
	}
	if got := copy.Same(c, 1, 1); got != 0 {
		t.Error(got)
	}
}

// Codes that may not be come to an end, too: nil and empty ones, those that lead to nowhere, of no kind, with registers that there aren't.
func TestWhatMayNotBe(t *testing.T) {
	for _, c := range []api.Code{nil, {}, api.Code{halt}[:0]} {
		if got := copy.Code(c); len(got) != 0 {
			t.Error(got)
		}
		if got := copy.Same(c, 0, 1); got != 1 {
			t.Error(got)
		}
	}
	for _, none := range []int{math.MinInt, -1 << 32, -2, -1, 14, 1 << 32, math.MaxInt} {
		for _, c := range []api.Code{
			{move(1, 0), zero(1, none), jump(none)},
			{move(1, 0), {Kind: none, D: 0, A: 1, B: 1}, out(1)},
		} {
			holds(t, c, meantOf(c))
		}
	}
	for _, none := range []int{math.MinInt, -64, -2, -1} {
		c := api.Code{
			set(none, 1), move(1, 0), move(0, none), does(none, 1, api.Add, none), pick(1, none, 0), pick(none, 1, none), load(none), zero(none, 0), move(none, 0), move(2, none),
			move(3, 2), out(3), out(none), {Kind: api.Store, A: none, B: none},
		}
		m := meantOf(c)
		holds(t, c, m)
		if got := copy.Code(c); got[11] != out(2) || got[10] != c[10] {
			t.Error(got)
		}
		for _, c := range []api.Code{
			{move(1, none), move(2, none), zero(0, 2), out(2), halt},
			{move(none, 0), zero(0, 1), out(0), halt},
		} {
			becomes(t, c, c)
			holds(t, c, meantOf(c))
		}
	}
}

// P17.2: what a code becomes may be, as it may; and there is nothing more that it becomes.
func TestMayBe(t *testing.T) {
	c := api.Code{move(5, 4), {Kind: api.Store, A: -1, B: 5, N: 65535}, {Kind: api.Load, D: 3, A: 5, N: 65535}, zero(5, 0), {Kind: api.Take, N: 2}, {Kind: api.Give, N: 2}, {Kind: api.Trap, N: 1}}
	got := copy.Code(c)
	if b := (ins.Bound{Regs: 6, Locks: 3}); !ins.Check(c, b) || !ins.Check(got, b) {
		t.Error(ins.Text(got))
	}
	becomes(t, got, got)
}
