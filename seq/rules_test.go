package seq_test

import (
	"math"
	"slices"
	"sync"
	"testing"

	"paling/api"
	"paling/seq"
)

// turns is what turns of a run come to, by a seed.
func turns(r *seq.Run, seed, threads int) []came {
	w := write(seed)
	var l []came
	for range 60 {
		e, what := r.Next(w.roll(threads), w.some())
		l = append(l, came{e, what})
	}
	return l
}

// roomy is threads, and words, with room behind the end of each list, in which something stands.
func roomy(threads []api.Code, mem []int64) ([]api.Code, []int64) {
	more := api.Code{{Kind: api.Trap, N: 77}, {Kind: api.Out, A: 1}}
	var l []api.Code
	for _, c := range threads {
		l = append(l, append(slices.Clone(c), more...)[:len(c)])
	}
	return append(l, more)[:len(l)], append(slices.Clone(mem), 5, 6)[:len(mem)]
}

// room is all that threads, and words, have, that behind the end of each list, too.
func room(threads []api.Code, mem []int64) ([][]api.Ins, []int64) {
	var l [][]api.Ins
	for _, c := range threads[:cap(threads)] {
		l = append(l, slices.Clone(c[:cap(c)]))
	}
	return l, slices.Clone(mem[:cap(mem)])
}

// Rule 3: what is handed in is neither changed nor kept, the room behind its lists' ends included.
func TestNothingIsChangedOrKept(t *testing.T) {
	for seed := range 400 {
		threads, mem := write(seed).codes()
		want := seq.New(threads, mem)
		first := turns(want, seed, len(threads))
		roomyThreads, roomyMem := roomy(threads, mem)
		before, words := room(roomyThreads, roomyMem)
		r := seq.New(roomyThreads, roomyMem)
		turns(seq.New(roomyThreads, roomyMem), seed, len(threads))
		after, wordsAfter := room(roomyThreads, roomyMem)
		if !slices.EqualFunc(before, after, func(a, b []api.Ins) bool { return slices.Equal(a, b) }) || !slices.Equal(words, wordsAfter) {
			t.Fatalf("%s%v is changed", texts(threads), mem)
		}
		for _, c := range roomyThreads[:cap(roomyThreads)] {
			for at := range c[:cap(c)] {
				c[:cap(c)][at] = api.Ins{Kind: api.Trap, N: 99}
			}
		}
		clear(roomyThreads[:cap(roomyThreads)])
		for at := range roomyMem[:cap(roomyMem)] {
			roomyMem[:cap(roomyMem)][at] += 3
		}
		if l := turns(r, seed, len(threads)); !slices.Equal(l, first) || !alike(r, want, len(threads)) {
			t.Fatalf("%s%v: %v, not %v", texts(threads), mem, l, first)
		}
	}
}

// Rule 3: what Memory tells is new memory each time, and two runs of the same codes have nothing in common.
func TestMemoryIsNew(t *testing.T) {
	c := code(t, "load r0 0; calc r0 r0 + r1; set r1 1; store 0 r0; take 1; jump 0")
	mem := []int64{5, 6, 7}
	r, other := seq.New([]api.Code{c, c}, mem), seq.New([]api.Code{c, c}, mem)
	for _, want := range [][]int64{{5, 6, 7}, {5, 6, 7}, {6, 6, 7}} {
		m := r.Memory()
		if !slices.Equal(m, want) {
			t.Errorf("%v, not %v", m, want)
		}
		for i := range m[:cap(m)] {
			m[:cap(m)][i] = 99
		}
		if again := r.Memory(); !slices.Equal(again, want) {
			t.Errorf("%v, not %v", again, want)
		}
		r.Next(0, 5)
	}
	if !slices.Equal(other.Memory(), mem) || !slices.Equal(mem, []int64{5, 6, 7}) || other.Owner(1) != -1 || other.Reg(0, 0) != 0 || other.Place(0) != 0 {
		t.Error(other.Memory(), mem, other.Owner(1))
	}
	before := r.Memory()
	if got := next(other, 1, 5); got != "1: lock 1" || other.Owner(1) != 1 || r.Owner(1) != 0 || !slices.Equal(r.Memory(), before) {
		t.Error(got, other.Owner(1), r.Owner(1))
	}
}

// Rule 3: threads that are handed in as one code, or as parts of one list, are each its own.
func TestOneCodeForAll(t *testing.T) {
	c := code(t, "set r0 1; out r0; set r0 2; out r0")
	r := seq.New([]api.Code{c, c[:2], c[2:], c}, nil)
	play(t, r, []turn{{0, 9, "1"}, {1, 9, "1: 1"}, {2, 9, "2: 2"}, {0, 9, "2"}, {1, 9, "1: halt"}, {2, 9, "2: halt"}, {3, 9, "3: 1"}, {0, 9, "halt"}, {3, 9, "3: 2"}})
}

// Rule 4: what is told hangs on the arguments, and the run, alone, whoever else asks at the same time.
func TestAlwaysTheSame(t *testing.T) {
	threads, mem := write(7).codes()
	want := turns(seq.New(threads, mem), 1, len(threads))
	var group sync.WaitGroup
	for range 4 {
		group.Go(func() {
			for range 50 {
				if l := turns(seq.New(threads, mem), 1, len(threads)); !slices.Equal(l, want) {
					t.Errorf("%v, not %v", l, want)
				}
			}
		})
	}
	group.Wait()
}

// Asking what stands anywhere, or for what there isn't, changes nothing.
func TestAskingChangesNothing(t *testing.T) {
	for seed := range 300 {
		threads, mem := write(seed).codes()
		want := turns(seq.New(threads, mem), seed, len(threads))
		w := write(seed)
		r := seq.New(threads, mem)
		for i, x := range want {
			r.Memory()
			for n := -2; n < 9; n++ {
				r.Owner(int64(n))
				r.Place(n)
				r.Reg(n, n)
			}
			r.Next(-1, plenty)
			r.Next(len(threads), plenty)
			thread, fuel := w.roll(len(threads)), w.some()
			r.Next(thread, 0)
			r.Next(thread, -1)
			if e, what := r.Next(thread, fuel); e != x.e || what != x.what {
				t.Fatalf("%s%v, turn %d: %v, %d, not %v", texts(threads), mem, i, e, what, x)
			}
		}
	}
}

// How many threads, words, registers and locks there are, and how long a code is, plays no part.
func TestMany(t *testing.T) {
	many := 1 << 16
	var c api.Code
	for i := range many {
		c = append(c, api.Ins{Kind: api.Set, D: i, N: int64(i)}, api.Ins{Kind: api.Store, A: i, B: i}, api.Ins{Kind: api.Take, N: int64(i)})
	}
	threads := make([]api.Code, many)
	threads[0], threads[many-1] = c, code(t, "take 65535; load r0 65535; out r0")
	r := seq.New(threads, make([]int64, many))
	for i := range many {
		if e, what := r.Next(0, 3); what != seq.Did || (e != api.Event{Kind: api.DidLock, N: int64(i)}) {
			t.Fatalf("%d: %v, %d", i, e, what)
		}
	}
	if got := next(r, many-1, plenty); got != "waits" {
		t.Error(got)
	}
	m := r.Memory()
	for i := range many {
		if m[i] != int64(i) || r.Reg(0, i) != int64(i) || r.Owner(int64(i)) != 0 {
			t.Fatalf("%d: %d, %d, %d", i, m[i], r.Reg(0, i), r.Owner(int64(i)))
		}
	}
	if r.Place(0) != 3*many || r.Reg(0, many) != 0 || r.Owner(int64(many)) != -1 {
		t.Error(r.Place(0), r.Reg(0, many), r.Owner(int64(many)))
	}
	play(t, r, []turn{{0, math.MaxInt, "halt"}, {many - 2, 1, "65534: halt"}, {many - 2, 1, "ended"}, {many, 1, "ended"}})
}
