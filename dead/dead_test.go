package dead_test

import (
	"math"
	"slices"
	"testing"

	"paling/api"
	"paling/dead"
	"paling/ins"
	"paling/sample"
)

// What instructions are here.
var (
	halt                  = sample.Halt()
	fence                 = api.Ins{Kind: api.Fence}
	set, move, does, pick = sample.Set, sample.Move, sample.Calc, sample.Pick
	load, zero, jump, out = sample.Load, sample.Zero, sample.Jump, sample.Out
)

// where is a row of so many that holds at some places.
func where(many int, at ...int) []bool {
	l := make([]bool, many)
	for _, n := range at {
		l[n] = true
	}
	return l
}

// mayBe tells whether a code may be.
func mayBe(c api.Code) bool { return ins.Check(c, ins.Bound{Regs: math.MaxInt, Locks: 9}) }

// becomes holds what a code becomes against what it is to become.
func becomes(t *testing.T, c, got, want api.Code) {
	t.Helper()
	if !slices.Equal(got, want) {
		t.Fatalf("\n%.9999sbecomes\n%.9999snot\n%.9999s", ins.Text(c), ins.Text(got), ins.Text(want))
	}
}

// needless holds what is told of a code against what nobody needs of it.
func needless(t *testing.T, c api.Code, want []bool) {
	t.Helper()
	if got := dead.Needless(c); !slices.Equal(got, want) {
		t.Fatalf("\n%.9999s%v, not %v", ins.Text(c), got, want)
	}
}

// holds holds what is told of a code that may be against what is meant, and tells what that is.
func holds(t *testing.T, c api.Code) fewer {
	t.Helper()
	needless(t, c, meantNeedless(c))
	f := meantCode(c)
	becomes(t, c, dead.Code(c), f.code)
	return f
}

// told is a code, which of its places nobody needs, and what it becomes.
type told struct {
	name     string
	code     api.Code
	needless []int
	becomes  api.Code
}

// check holds it against what is told.
func (k told) check(t *testing.T) {
	t.Run(k.name, func(t *testing.T) {
		if !mayBe(k.code) || !mayBe(k.becomes) {
			t.Fatal("it may not be")
		}
		needless(t, k.code, where(len(k.code), k.needless...))
		becomes(t, k.code, dead.Code(k.code), k.becomes)
		holds(t, k.code) // and the model says so, too
	})
}

// P18.1, P18.3: what is written, by whether it's needed.
func TestLines(t *testing.T) {
	for _, k := range []told{
		{"nothing", api.Code{halt}, nil, api.Code{halt}},
		{"the chapter's example", api.Code{set(0, 1), set(0, 2), out(0), halt}, []int{0}, api.Code{set(0, 2), out(0), halt}},
		{"never read", api.Code{out(0), set(0, 1), halt}, []int{1}, api.Code{out(0), halt}},
		{"of another register", api.Code{set(1, 1), out(0), halt}, []int{0}, api.Code{out(0), halt}},
		{ // each goes in a round of its own, as what it read isn't needed any more
			"a row of them", api.Code{set(0, 1), move(1, 0), does(2, 1, api.Add, 0), pick(3, 2, 1), {Kind: api.Load, D: 4, A: 3}, halt},
			[]int{4}, api.Code{halt},
		},
		{
			"in place", api.Code{load(0), does(0, 0, api.Add, 0), does(0, 0, api.Mul, 0), pick(0, 0, 0), halt},
			[]int{3}, api.Code{halt},
		},
		{ // as it may leave D as it is, what D was is needed
			"picks", api.Code{set(0, 1), load(1), load(2), pick(0, 1, 2), out(0), halt},
			nil, api.Code{set(0, 1), load(1), load(2), pick(0, 1, 2), out(0), halt},
		},
		{ // though it leaves all as it is
			"a Pick of D itself", api.Code{load(0), pick(0, 0, 0), out(0), halt}, nil, api.Code{load(0), pick(0, 0, 0), out(0), halt},
		},
		{ // it reads what it writes, but isn't needed for that
			"a Move of itself", api.Code{load(0), move(0, 0), out(0), halt}, []int{1}, api.Code{load(0), out(0), halt},
		},
		{
			"a Move of itself alone reads it", api.Code{load(0), move(0, 0), halt}, []int{1}, api.Code{halt},
		},
		{
			"ahead of a Move of itself", api.Code{set(0, 1), move(0, 0), set(0, 2), move(0, 0), move(0, 0), out(0), halt}, []int{1, 3, 4},
			api.Code{set(0, 2), out(0), halt},
		},
		{ // a Move that leaves all as it is, but isn't of D itself
			"there and back", api.Code{load(0), move(1, 0), move(0, 1), out(0), halt}, nil, api.Code{load(0), move(1, 0), move(0, 1), out(0), halt},
		},
		{ // what stands in memory is needed, whoever reads it
			"stores", api.Code{set(0, 1), {Kind: api.Store, A: -1, B: 0, N: 3}, {Kind: api.Store, A: 1, B: 0}, {Kind: api.Load, D: 2, A: 0, N: 3}, halt}, []int{3},
			api.Code{set(0, 1), {Kind: api.Store, A: -1, B: 0, N: 3}, {Kind: api.Store, A: 1, B: 0}, halt},
		},
		{
			"of a Load", api.Code{set(0, 1), set(1, 2), {Kind: api.Load, D: 0, A: 0}, out(0), {Kind: api.Load, D: 0, A: 1}, halt}, []int{4},
			api.Code{set(0, 1), {Kind: api.Load, D: 0, A: 0}, out(0), halt},
		},
		{
			"a Trap at the end", api.Code{set(0, 1), {Kind: api.Trap, N: 2}}, []int{0}, api.Code{{Kind: api.Trap, N: 2}},
		},
	} {
		k.check(t)
	}
}

// P18.1: each kind, where what it writes is needed, and where it isn't.
func TestEachKind(t *testing.T) {
	for _, k := range []struct {
		is            api.Ins
		with, without bool // is it needless where r0 is needed behind it, and where it isn't?
	}{
		{set(0, 7), false, true},
		{move(0, 1), false, true},
		{move(0, 0), true, true},
		{does(0, 1, api.Div, 1), false, true},
		{does(0, 0, api.Or, 0), false, true},
		{pick(0, 1, 1), false, true},
		{pick(0, 1, 0), false, true},
		{load(0), false, true},
		{api.Ins{Kind: api.Load, D: 0, A: 1, N: 65535}, false, true},
		{api.Ins{Kind: api.Store, A: -1, B: 0}, false, false},
		{api.Ins{Kind: api.Store, A: 1, B: 0, N: 1}, false, false},
		{jump(2), true, true},
		{jump(1), false, false},
		{jump(0), false, false},
		{jump(3), false, false},
		{zero(1, 2), false, false}, // both lead to the next place
		{zero(1, 1), false, false},
		{fence, false, false},
		{api.Ins{Kind: api.Take, N: 2}, false, false},
		{api.Ins{Kind: api.Give, N: 2}, false, false},
		{out(1), false, false},
		{api.Ins{Kind: api.Trap, N: 1}, false, false},
		{halt, false, false},
	} {
		for last, want := range map[api.Ins]bool{out(0): k.with, out(1): k.without} {
			c := api.Code{zero(9, 2), k.is, last, halt}
			if got := dead.Needless(c)[1]; got != want {
				t.Errorf("\n%s%v", ins.Text(c), got)
			}
			holds(t, c)
			if got := dead.Needless(append(api.Code{jump(2)}, c[1:]...))[1]; !got { // no way ends there
				t.Errorf("\n%s%v", ins.Text(c), got)
			}
		}
	}
}

// P18.1, P18.3: where ways part, and come together.
func TestWays(t *testing.T) {
	for _, k := range []told{
		{ // on one way alone
			"needed on one", api.Code{set(0, 1), zero(9, 3), out(0), set(0, 2), out(0), halt}, nil,
			api.Code{set(0, 1), zero(9, 3), out(0), set(0, 2), out(0), halt},
		},
		{
			"needed on the other one", api.Code{set(0, 1), zero(9, 3), set(0, 2), out(0), halt}, nil, api.Code{set(0, 1), zero(9, 3), set(0, 2), out(0), halt},
		},
		{
			"needed on none", api.Code{set(0, 1), zero(9, 4), set(0, 2), jump(5), set(0, 3), out(0), halt}, []int{0},
			api.Code{zero(9, 3), set(0, 2), jump(4), set(0, 3), out(0), halt},
		},
		{ // what no way goes over isn't needed, nor is anything for its sake
			"where no way ends", api.Code{set(0, 1), halt, out(0), jump(0)}, []int{0, 2, 3}, api.Code{halt},
		},
		{
			"where no way ends, amidst", api.Code{set(0, 1), jump(4), out(0), jump(3), out(1), halt}, []int{0, 2, 3}, api.Code{out(1), halt},
		},
		{ // a Zero goes both ways
			"though it is known", api.Code{set(0, 0), zero(0, 3), out(5), halt}, nil, api.Code{set(0, 0), zero(0, 3), out(5), halt},
		},
		{ // it's asked, though it plays no part
			"a Zero to the next place", api.Code{load(0), zero(0, 2), halt}, nil, api.Code{load(0), zero(0, 2), halt},
		},
		{
			"a Zero over what is gone", api.Code{load(0), zero(0, 3), set(1, 5), halt}, []int{2}, api.Code{load(0), zero(0, 2), halt},
		},
		{
			"a Zero to what is gone", api.Code{zero(9, 3), out(1), jump(1), set(0, 5), set(0, 6), out(0), halt}, []int{3},
			api.Code{zero(9, 3), out(1), jump(1), set(0, 6), out(0), halt},
		},
		{
			"back to what is gone", api.Code{set(0, 5), out(1), zero(9, 0), halt}, []int{0}, api.Code{out(1), zero(9, 0), halt},
		},
	} {
		k.check(t)
	}
}

// P18.1, P18.3: Jumps to the next place, and those that become such.
func TestJumps(t *testing.T) {
	for _, k := range []told{
		{"to the next place", api.Code{jump(1), halt}, []int{0}, api.Code{halt}},
		{"to the last but one", api.Code{jump(2), halt, halt}, []int{1}, api.Code{halt}},
		{"a row of them", api.Code{jump(1), jump(2), jump(3), jump(4), halt}, []int{0, 1, 2, 3}, api.Code{halt}},
		{"to itself", api.Code{jump(0)}, nil, api.Code{jump(0)}},
		{"there and back", api.Code{jump(1), jump(0)}, []int{0}, api.Code{jump(0)}},
		{"back", api.Code{out(0), zero(0, 3), jump(0), halt}, nil, api.Code{out(0), zero(0, 3), jump(0), halt}},
		{
			"over what isn't needed", api.Code{zero(9, 2), jump(4), set(0, 1), set(0, 2), out(1), halt}, []int{2, 3}, api.Code{zero(9, 1), out(1), halt},
		},
		{
			"over what is", api.Code{zero(9, 2), jump(3), out(0), out(1), halt}, nil, api.Code{zero(9, 2), jump(3), out(0), out(1), halt},
		},
		{
			"over one another", api.Code{zero(8, 3), zero(9, 4), jump(6), jump(5), jump(5), jump(6), out(0), halt}, []int{4, 5},
			api.Code{zero(8, 2), zero(9, 2), out(0), halt},
		},
		{ // the one that leads back stays, and so does the one over it
			"over one that leads back", api.Code{out(0), zero(9, 3), jump(4), jump(0), out(1), halt}, nil, api.Code{out(0), zero(9, 3), jump(4), jump(0), out(1), halt},
		},
		{ // what it leads to is gone: so it leads to what comes next
			"to what is gone", api.Code{zero(9, 2), jump(3), set(0, 1), set(0, 2), set(0, 3), halt}, []int{2, 3, 4}, api.Code{zero(9, 1), halt},
		},
		{
			"to itself, over what is gone", api.Code{set(0, 1), jump(0)}, []int{0}, api.Code{jump(0)},
		},
		{
			"round and round", api.Code{out(0), jump(2), set(1, 1), jump(4), move(1, 1), jump(0)}, []int{1, 3, 4}, api.Code{out(0), jump(0)},
		},
	} {
		k.check(t)
	}
}

// P18.1, P18.3: loops.
func TestLoops(t *testing.T) {
	for _, k := range []told{
		{ // the next round's needs it: by itself alone, but it does
			"that needs itself", api.Code{set(0, 0), set(1, 1), does(0, 0, api.Add, 1), zero(9, 2), halt}, nil,
			api.Code{set(0, 0), set(1, 1), does(0, 0, api.Add, 1), zero(9, 2), halt},
		},
		{
			"two that need each other", api.Code{move(0, 1), move(1, 0), zero(9, 0), halt}, nil, api.Code{move(0, 1), move(1, 0), zero(9, 0), halt},
		},
		{ // not a Move of itself
			"that needs itself, by a Move", api.Code{load(0), move(0, 0), zero(9, 1), halt}, []int{1}, api.Code{zero(9, 0), halt},
		},
		{
			"needed in the next round", api.Code{out(0), set(0, 1), zero(9, 0), halt}, nil, api.Code{out(0), set(0, 1), zero(9, 0), halt},
		},
		{
			"written anew in the next round", api.Code{set(0, 2), out(0), set(0, 1), zero(9, 0), halt}, []int{2}, api.Code{set(0, 2), out(0), zero(9, 0), halt},
		},
		{ // round the loop, and one by one
			"needed no more", api.Code{load(0), set(2, 1), move(1, 0), move(0, 2), zero(9, 2), halt}, []int{2}, api.Code{zero(9, 0), halt},
		},
		{
			"behind it", api.Code{set(0, 1), zero(9, 1), out(0), set(0, 2), zero(9, 3), halt}, []int{3}, api.Code{set(0, 1), zero(9, 1), out(0), zero(9, 3), halt},
		},
		{
			"without an end", api.Code{set(0, 1), does(1, 0, api.Add, 0), jump(1)}, []int{1}, api.Code{jump(0)},
		},
	} {
		k.check(t)
	}
}

// P18.1, P18.3: any register there may be.
func TestWhichRegisters(t *testing.T) {
	for _, reg := range []int{0, 1, 15, 16, 63, 64, 1 << 16, 1 << 31, 1 << 32, 1<<32 + 1, math.MaxInt - 2} {
		told{
			"", api.Code{set(reg, 1), set(reg, 2), set(reg^1, 3), does(reg, reg, api.Add, reg), out(reg), set(reg, 4), move(reg, reg), halt}, []int{0, 2, 6},
			api.Code{set(reg, 2), does(reg, reg, api.Add, reg), out(reg), halt},
		}.check(t)
	}
}

// P18.2: what is gone, whether it's needed or not.
func TestLess(t *testing.T) {
	for _, k := range []struct {
		name string
		code api.Code
		gone []int
		want api.Code
	}{
		{"none", api.Code{out(0), zero(1, 0), jump(1)}, nil, api.Code{out(0), zero(1, 0), jump(1)}},
		{"the first", api.Code{out(0), zero(1, 0), jump(1)}, []int{0}, api.Code{zero(1, 0), jump(0)}},
		{"ahead", api.Code{set(0, 1), set(0, 2), out(0), jump(2)}, []int{0, 1}, api.Code{out(0), jump(0)}},
		{"behind", api.Code{zero(0, 1), out(0), out(1), out(2), halt}, []int{2, 3}, api.Code{zero(0, 1), out(0), halt}},
		{"amidst", api.Code{zero(0, 3), out(0), out(1), out(2), jump(1)}, []int{2}, api.Code{zero(0, 2), out(0), out(2), jump(1)}},
		{"what it leads to", api.Code{zero(0, 1), out(0), out(1), out(2), jump(2)}, []int{1, 2}, api.Code{zero(0, 1), out(2), jump(1)}},
		{"itself", api.Code{out(0), jump(1)}, []int{0}, api.Code{jump(0)}},
		{"the last one", api.Code{jump(0), out(0), halt}, []int{1, 2}, api.Code{jump(0)}},
		{ // to what is gone, behind all others: the last one
			"behind the last one", api.Code{out(0), jump(0), zero(0, 4), jump(3), halt}, []int{3, 4}, api.Code{out(0), jump(0), zero(0, 2)},
		},
		{"behind the only one", api.Code{jump(0), zero(0, 2), halt}, []int{0, 2}, api.Code{zero(0, 0)}},
		{"fences", api.Code{fence, load(0), fence, zero(0, 2), fence, halt}, []int{0, 2, 4}, api.Code{load(0), zero(0, 1), halt}},
	} {
		t.Run(k.name, func(t *testing.T) {
			gone := where(len(k.code), k.gone...)
			becomes(t, k.code, dead.Less(k.code, gone), k.want)
			becomes(t, k.code, meantLess(k.code, gone), k.want)
		})
	}
}

// P18.4: what is put where, and what leads there.
func TestInsert(t *testing.T) {
	c := api.Code{zero(0, 3), out(0), zero(1, 1), jump(0), halt}
	for _, k := range []struct {
		name  string
		is    api.Ins
		ahead []int
		want  api.Code
	}{
		{"nowhere", fence, nil, c},
		{"ahead of the first", fence, []int{0}, api.Code{fence, zero(0, 4), out(0), zero(1, 2), jump(0), halt}},
		{"ahead of the last", fence, []int{4}, api.Code{zero(0, 3), out(0), zero(1, 1), jump(0), fence, halt}},
		{"ahead of what is led to", fence, []int{1, 3}, api.Code{zero(0, 4), fence, out(0), zero(1, 1), fence, jump(0), halt}},
		{"ahead of what isn't", fence, []int{2}, api.Code{zero(0, 4), out(0), fence, zero(1, 1), jump(0), halt}},
		{"everywhere", fence, []int{0, 1, 2, 3, 4}, api.Code{fence, zero(0, 6), fence, out(0), fence, zero(1, 2), fence, jump(0), fence, halt}},
		{"another kind", set(7, 5), []int{1, 2}, api.Code{zero(0, 5), set(7, 5), out(0), set(7, 5), zero(1, 1), jump(0), halt}},
		{"one that ends", halt, []int{3}, api.Code{zero(0, 3), out(0), zero(1, 1), halt, jump(0), halt}},
		{ // its To is a place of the code, as the others' are
			"one that leads elsewhere", jump(3), []int{1, 3}, api.Code{zero(0, 4), jump(4), out(0), zero(1, 1), jump(4), jump(0), halt},
		},
		{"one that may", zero(5, 4), []int{0, 2}, api.Code{zero(5, 6), zero(0, 5), out(0), zero(5, 6), zero(1, 2), jump(0), halt}},
	} {
		t.Run(k.name, func(t *testing.T) {
			ahead := where(len(c), k.ahead...)
			got := dead.Insert(c, k.is, ahead)
			becomes(t, c, got, k.want)
			becomes(t, c, meantInsert(c, k.is, ahead), k.want)
			becomes(t, got, dead.Less(got, inserted(ahead)), c)
		})
	}
}

// inserted is which places of a code are those ahead of others.
func inserted(ahead []bool) []bool {
	var l []bool
	for _, is := range ahead {
		if is {
			l = append(l, true)
		}
		l = append(l, false)
	}
	return l
}
