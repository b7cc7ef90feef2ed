package graph_test

import (
	"math"
	"slices"
	"testing"

	"paling/api"
	"paling/graph"
)

// halt ends, set goes on.
var halt, set = api.Ins{Kind: api.Halt}, api.Ins{Kind: api.Set}

// zero goes on, or to a place.
func zero(to int) api.Ins { return api.Ins{Kind: api.Zero, To: to} }

// jump goes to a place.
func jump(to int) api.Ins { return api.Ins{Kind: api.Jump, To: to} }

// same tells whether two rows of rows are the same.
func same[T comparable](a, b [][]T) bool { return slices.EqualFunc(a, b, slices.Equal[[]T]) }

// truths are those at some places of so many.
func truths(many int, at ...int) []bool {
	l := make([]bool, many)
	for _, n := range at {
		l[n] = true
	}
	return l
}

// known is what there is to be told of a code: of Reach, and of what is above each place, the places.
type known struct {
	code  api.Code
	reach []int
	preds [][]int
	above [][]int
	loops [][]int
	depth []int
}

// holds holds what is told against it.
func (k known) holds(t *testing.T) {
	t.Helper()
	if got := graph.Reach(k.code); !slices.Equal(got, truths(len(k.code), k.reach...)) {
		t.Errorf("%v: reach %v", k.code, got)
	}
	if got := graph.Preds(k.code); !same(got, k.preds) {
		t.Errorf("%v: preds %v", k.code, got)
	}
	var above [][]bool
	for _, l := range k.above {
		above = append(above, truths(len(k.code), l...))
	}
	if got := graph.Dominates(k.code); !same(got, above) {
		t.Errorf("%v: dominates %v", k.code, got)
	}
	if got := graph.Loops(k.code); !same(got, k.loops) {
		t.Errorf("%v: loops %v", k.code, got)
	}
	if got := graph.Depth(k.code); !slices.Equal(got, k.depth) {
		t.Errorf("%v: depth %v", k.code, got)
	}
}

// P14.1 to P14.3: codes, and what the document says of them.
func TestByHand(t *testing.T) {
	for _, k := range []known{
		{}, // no code
		{api.Code{halt}, []int{0}, [][]int{nil}, [][]int{{0}}, nil, []int{0}},
		{api.Code{set}, []int{0}, [][]int{nil}, [][]int{{0}}, nil, []int{0}}, // it goes on to nowhere
		{api.Code{jump(0)}, []int{0}, [][]int{{0}}, [][]int{{0}}, [][]int{{0}}, []int{1}},
		{api.Code{zero(0)}, []int{0}, [][]int{{0}}, [][]int{{0}}, [][]int{{0}}, []int{1}},
		{api.Code{zero(1), halt}, []int{0, 1}, [][]int{nil, {0}}, [][]int{{0}, {0, 1}}, nil, []int{0, 0}}, // both ways lead to the same
		{ // the chapter's example
			api.Code{zero(3), set, jump(0), halt}, []int{0, 1, 2, 3}, [][]int{{2}, {0}, {1}, {0}},
			[][]int{{0}, {0, 1}, {0, 1, 2}, {0, 3}}, [][]int{{0, 1, 2}}, []int{1, 1, 1, 0},
		},
		{ // two ways that come together: neither is above where they do
			api.Code{zero(3), set, jump(4), set, halt}, []int{0, 1, 2, 3, 4}, [][]int{nil, {0}, {1}, {0}, {2, 3}},
			[][]int{{0}, {0, 1}, {0, 1, 2}, {0, 3}, {0, 4}}, nil, []int{0, 0, 0, 0, 0},
		},
		{ // what can't be come to counts neither as from where, nor as a loop
			api.Code{jump(3), jump(1), jump(3), halt}, []int{0, 3}, [][]int{nil, nil, nil, {0}},
			[][]int{{0}, nil, nil, {0, 3}}, nil, []int{0, 0, 0, 0},
		},
		{ // it goes back to the loop's first place, and isn't of the loop
			api.Code{set, zero(4), jump(1), jump(1), halt}, []int{0, 1, 2, 4}, [][]int{nil, {0, 2}, {1}, nil, {1}},
			[][]int{{0}, {0, 1}, {0, 1, 2}, nil, {0, 1, 4}}, [][]int{{1, 2}}, []int{0, 1, 1, 0, 0},
		},
		{ // a round with two places at which it is come to: none is above the other
			api.Code{zero(2), jump(2), jump(1)}, []int{0, 1, 2}, [][]int{nil, {0, 2}, {0, 1}},
			[][]int{{0}, {0, 1}, {0, 2}}, nil, []int{0, 0, 0},
		},
		{ // such a round, but a loop around it
			api.Code{zero(2), jump(2), zero(1), jump(0)}, []int{0, 1, 2, 3}, [][]int{{3}, {0, 2}, {0, 1}, {2}},
			[][]int{{0}, {0, 1}, {0, 2}, {0, 2, 3}}, [][]int{{0, 1, 2, 3}}, []int{1, 1, 1, 1},
		},
		{ // two ways back make one loop
			api.Code{zero(2), jump(0), zero(4), jump(0), halt}, []int{0, 1, 2, 3, 4}, [][]int{{1, 3}, {0}, {0}, {2}, {2}},
			[][]int{{0}, {0, 1}, {0, 2}, {0, 2, 3}, {0, 2, 4}}, [][]int{{0, 1, 2, 3}}, []int{1, 1, 1, 1, 0},
		},
		{ // a loop within one: its places count twice
			api.Code{set, zero(5), zero(2), jump(1), halt, halt}, []int{0, 1, 2, 3, 5}, [][]int{nil, {0, 3}, {1, 2}, {2}, nil, {1}},
			[][]int{{0}, {0, 1}, {0, 1, 2}, {0, 1, 2, 3}, nil, {0, 1, 5}}, [][]int{{1, 2, 3}, {2}}, []int{0, 1, 2, 1, 0, 0},
		},
		{ // a loop that begins behind its other places, around one that begins ahead: its first place isn't the lowest
			api.Code{jump(3), zero(1), jump(3), zero(1), halt}, []int{0, 1, 2, 3, 4}, [][]int{nil, {1, 3}, {1}, {0, 2}, {3}},
			[][]int{{0}, {0, 1, 3}, {0, 1, 2, 3}, {0, 3}, {0, 3, 4}}, [][]int{{1}, {1, 2, 3}}, []int{0, 2, 1, 1, 0},
		},
		{ // one loop behind another one
			api.Code{zero(0), zero(1), halt}, []int{0, 1, 2}, [][]int{{0}, {0, 1}, {1}},
			[][]int{{0}, {0, 1}, {0, 1, 2}}, [][]int{{0}, {1}}, []int{1, 1, 0},
		},
	} {
		k.holds(t)
	}
}

// P14.1: where a way goes on is what ins.Next tells, for each kind.
func TestEachKind(t *testing.T) {
	ends := map[int]bool{api.Jump: true, api.Trap: true, api.Halt: true, -1: true, api.Halt + 1: true, math.MinInt: true, math.MaxInt: true}
	for _, kind := range []int{math.MinInt, -1, api.Set, api.Move, api.Calc, api.Pick, api.Load, api.Store, api.Jump, api.Zero, api.Fence, api.Take, api.Give, api.Out, api.Trap, api.Halt, api.Halt + 1, math.MaxInt} {
		c := api.Code{{Kind: kind, Op: 2, D: 2, A: 2, B: 2, N: 2, To: 2}, halt, halt}
		leaps := kind == api.Jump || kind == api.Zero
		if got := graph.Reach(c); !slices.Equal(got, []bool{true, !ends[kind], leaps}) {
			t.Errorf("%d: %v", kind, got)
		}
		for at, is := range []bool{false, !ends[kind], leaps} {
			var want []int
			if is {
				want = []int{0}
			}
			if got := graph.Preds(c)[at]; !slices.Equal(got, want) {
				t.Errorf("%d: %d: %v", kind, at, got)
			}
			if got := graph.Dominates(c)[at]; !slices.Equal(got, truths(3, append(want, at)...)) && (is || at == 0) {
				t.Errorf("%d: %d: %v", kind, at, got)
			}
		}
	}
}

// P14.1 to P14.3: a place that isn't one of the code is nowhere.
func TestNowhere(t *testing.T) {
	for _, to := range []int{math.MinInt, math.MinInt + 1, -1 << 32, -2, -1, 2, 3, 1 << 32, math.MaxInt - 1, math.MaxInt} {
		known{api.Code{zero(to), jump(to)}, []int{0, 1}, [][]int{nil, {0}}, [][]int{{0}, {0, 1}}, nil, []int{0, 0}}.holds(t)
		known{api.Code{jump(to), zero(to)}, []int{0}, [][]int{nil, nil}, [][]int{{0}, nil}, nil, []int{0, 0}}.holds(t)
		known{api.Code{zero(to), zero(0)}, []int{0, 1}, [][]int{{1}, {0}}, [][]int{{0}, {0, 1}}, [][]int{{0, 1}}, []int{1, 1}}.holds(t)
	}
}

// Nil and empty codes are one.
func TestEmpty(t *testing.T) {
	for _, c := range []api.Code{nil, {}, api.Code{halt}[:0]} {
		known{code: c}.holds(t)
	}
}
