package dead_test

import (
	"math"
	"slices"
	"sync"
	"testing"

	"paling/api"
	"paling/dead"
	"paling/sample"
)

// Rule 3: what is handed in isn't changed, nor what stands behind its end; and that plays no part.
func TestNothingIsChanged(t *testing.T) {
	for seed := range 600 {
		d, c := sample.Rolls(seed), some(seed)
		gone, ahead := roll(d, len(c), 3), roll(d, len(c), 3)
		gone[len(c)-1] = false
		behind := d.Code(kinds, 9, 9, 1)
		all, allGone, allAhead := slices.Concat(c, behind), append(slices.Clip(gone), roll(d, 9, 2)...), append(slices.Clip(ahead), roll(d, 9, 2)...)
		was, wasGone, wasAhead := slices.Clone(all), slices.Clone(allGone), slices.Clone(allAhead)
		part := all[:len(c)]
		holds(t, part)
		becomes(t, c, dead.Less(part, allGone[:len(c)]), meantLess(c, gone))
		becomes(t, c, dead.Insert(part, fence, allAhead[:len(c)]), meantInsert(c, fence, ahead))
		if !slices.Equal(all, was) || !slices.Equal(allGone, wasGone) || !slices.Equal(allAhead, wasAhead) {
			t.Fatalf("%v, %v, %v, not %v, %v, %v", all, allGone, allAhead, was, wasGone, wasAhead)
		}
	}
}

// fill puts something else wherever a list has room.
func fill[T any](l []T, with T) {
	l = l[:cap(l)]
	for at := range l {
		l[at] = with
	}
}

// Rule 3: what is told is new memory each time, the room behind its end included; what is changed behind its call plays no part, even if nothing was gone, or put.
func TestMemoryIsNew(t *testing.T) {
	for seed := range 600 {
		d, c := sample.Rolls(seed), some(seed)
		if seed%3 == 0 {
			c = dead.Code(c)
		}
		gone, ahead := roll(d, len(c), 1+d.Roll(4)), roll(d, len(c), 1+d.Roll(4))
		if gone[len(c)-1] = false; seed%3 == 0 {
			clear(gone)
			clear(ahead)
		}
		want := []api.Code{meantCode(c).code, meantLess(c, gone), meantInsert(c, fence, ahead)}
		wantNeedless := meantNeedless(c)
		calls := func() ([]api.Code, []bool) {
			return []api.Code{dead.Code(c), dead.Less(c, gone), dead.Insert(c, fence, ahead)}, dead.Needless(c)
		}
		first, firstNeedless := calls()
		second, secondNeedless := calls()
		for _, l := range second {
			fill(l, api.Ins{Kind: api.Trap, N: 99})
		}
		fill(secondNeedless, true)
		third, thirdNeedless := calls()
		clear(c)
		clear(gone)
		for n, c := range want {
			becomes(t, c, first[n], c)
			becomes(t, c, third[n], c)
		}
		if !slices.Equal(firstNeedless, wantNeedless) || !slices.Equal(thirdNeedless, wantNeedless) {
			t.Fatalf("%v, %v, not %v", firstNeedless, thirdNeedless, wantNeedless)
		}
	}
}

// Rule 4: what is told hangs on what is handed in alone, whoever else asks at the same time, and in which order.
func TestAlwaysTheSame(t *testing.T) {
	var codes []api.Code
	var meant []fewer
	for seed := range 40 {
		codes = append(codes, most(sample.Rolls(seed), 60, 8))
		meant = append(meant, meantCode(codes[seed]))
	}
	var group sync.WaitGroup
	for from := range 4 {
		group.Go(func() {
			for i := range 400 {
				n := (i*7 + from) % len(codes)
				if !slices.Equal(dead.Code(codes[n]), meant[n].code) || !slices.Equal(dead.Less(codes[n], meant[n].gone), meant[n].code) {
					t.Errorf("%d becomes another one", n)
				}
			}
		})
	}
	group.Wait()
}

// What an instruction has beside what is its own plays no part, and stays: of codes that may not be, too.
func TestWhatPlaysNoPart(t *testing.T) {
	for seed := range 600 {
		c := some(seed)
		d := sample.Rolls(seed)
		d.Stray(c)
		holds(t, c)
		ahead := roll(d, len(c), 2)
		i := api.Ins{Kind: api.Fence, To: d.Roll(len(c))}
		becomes(t, c, dead.Insert(c, i, ahead), meantInsert(c, i, ahead))
		if ahead[len(c)-1] = false; mayGo(c, ahead) {
			becomes(t, c, dead.Less(c, ahead), meantLess(c, ahead))
		}
	}
}

// Nil and empty lists are one: and no such code may be.
func TestNothing(t *testing.T) {
	for _, c := range []api.Code{nil, {}, api.Code{halt}[:0]} {
		for _, l := range [][]bool{nil, {}, where(1, 0)[:0], {true}, {false, true}} {
			if got := dead.Less(c, l); len(got) != 0 {
				t.Error(got)
			}
			if got := dead.Insert(c, fence, l); len(got) != 0 {
				t.Error(got)
			}
		}
		if got := dead.Needless(c); len(got) != 0 {
			t.Error(got)
		}
		becomes(t, c, dead.Code(c), api.Code{halt})
	}
}

// Rows that are of another number than a code: what they don't tell doesn't hold, what they tell beyond plays no part. If all is gone, nothing is left.
func TestOtherRows(t *testing.T) {
	c := api.Code{zero(0, 2), out(0), out(1), halt}
	for _, k := range []struct{ row, is []bool }{
		{nil, where(4)},
		{[]bool{true}, where(4, 0)},
		{[]bool{false, true}, where(4, 1)},
		{[]bool{true, false, true, false, true, true}, where(4, 0, 2)},
		{where(1<<16, 1<<16-1), where(4)},
	} {
		becomes(t, c, dead.Less(c, k.row), meantLess(c, k.is))
		becomes(t, c, dead.Insert(c, fence, k.row), meantInsert(c, fence, k.is))
	}
	for _, all := range [][]bool{where(4, 0, 1, 2, 3), where(5, 0, 1, 2, 3), where(9, 0, 1, 2, 3, 8)} {
		if got := dead.Less(c, all); len(got) != 0 {
			t.Error(got)
		}
	}
}

// none are places, kinds and numbers of registers that there aren't.
var none = []int{math.MinInt, math.MinInt + 1, -1 << 32, -2, -1, 14, 15, 1 << 32, math.MaxInt - 1, math.MaxInt}

// Codes that may not be come to an end, too: those that lead to nowhere, of no kind, with registers that there aren't; and what led to nowhere still does.
func TestWhatMayNotBe(t *testing.T) {
	for _, n := range append([]int{5, 6, 7}, none...) {
		c := api.Code{zero(0, n), set(0, 1), jump(n), zero(0, n), halt}
		needless(t, c, meantNeedless(c))
		rows(len(c), func(l []bool) {
			less, more := dead.Less(c, l), dead.Insert(c, jump(n), l)
			for _, got := range []api.Code{less, more, dead.Code(c)} {
				for _, i := range got {
					if i.Kind != api.Set && i.Kind != api.Halt && i.To >= 0 && i.To < len(got) {
						t.Fatal(n, got)
					}
				}
			}
		})
	}
	for _, n := range none {
		holds(t, api.Code{set(0, 1), {Kind: n, D: 0, A: 1, B: 1}, out(1)})
		holds(t, api.Code{set(1, 1), {Kind: n, A: 1, To: 1}, halt})
		if n < 0 {
			holds(t, api.Code{set(n, 1), move(n, n), move(n, 0), move(1, n), does(n, 1, api.Add, n), pick(1, n, 0), pick(n, 1, n), load(n), zero(n, 0), out(n), {Kind: api.Store, A: n, B: 1}, halt})
		}
	}
	for _, c := range []api.Code{{set(0, 1)}, {move(0, 0)}, {jump(1)}, {set(0, 1), jump(2)}, {jump(2), set(0, 1), load(3)}, {jump(3), jump(0), jump(4)}} { // beyond the end
		needless(t, c, meantNeedless(c))
		if got := dead.Code(c); len(got) != 1 {
			t.Error(got)
		}
	}
	becomes(t, api.Code{set(0, 1)}, dead.Code(api.Code{set(0, 1)}), api.Code{halt})
}

// Any instruction may be put ahead of others.
func TestAnyInserted(t *testing.T) {
	c := api.Code{zero(0, 2), out(0), halt}
	for _, n := range none {
		for _, i := range []api.Ins{{Kind: n}, {Kind: n, To: 2}, set(n, 1), move(n, n), {Kind: api.Store, A: n, B: n}} {
			becomes(t, c, dead.Insert(c, i, where(3, 2)), api.Code{zero(0, 2), out(0), i, halt})
			becomes(t, c, dead.Insert(c, i, where(3, 1)), api.Code{zero(0, 3), i, out(0), halt})
		}
	}
}
