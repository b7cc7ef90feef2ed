package seq_test

import (
	"math"
	"slices"
	"testing"

	"paling/api"
	"paling/seq"
)

// turn is one of a thread, with fuel, and what it comes to.
type turn struct {
	thread, fuel int
	want         string
}

// play holds turns, one behind the other, against what they are to come to.
func play(t *testing.T, r *seq.Run, turns []turn) {
	t.Helper()
	for i, x := range turns {
		if got := next(r, x.thread, x.fuel); got != x.want {
			t.Errorf("turn %d: %s, not %s", i, got, x.want)
		}
	}
}

// P12.1: an event tells its thread, and each thread goes on by itself.
func TestThreads(t *testing.T) {
	r := begun(t, nil, "set r0 5; out r0; out r0; halt", "out r0; trap 2", "", "take 3; give 3")
	play(t, r, []turn{
		{1, 9, "1: 0"}, {0, 9, "5"}, {3, 9, "3: lock 3"}, {0, 9, "5"}, {1, 9, "1: trap 2"}, {2, 9, "2: halt"}, {3, 9, "3: unlock 3"},
		{1, 9, "ended"}, {2, 9, "ended"}, {0, 9, "halt"}, {3, 9, "3: halt"}, {3, 9, "ended"}, {0, 9, "ended"},
	})
	for thread, want := range []int{3, 1, 0, 2} {
		if got := r.Place(thread); got != want {
			t.Errorf("thread %d stands at %d, not %d", thread, got, want)
		}
	}
}

// P12.1: threads have their registers alone, and memory together.
func TestTogether(t *testing.T) {
	r := begun(t, []int64{1, 2}, "load r0 1; store 0 r0; out r0; load r0 1; out r0", "load r1 0; set r0 7; store 1 r0; out r1; out r0", "out r0; load r0 0; out r0")
	play(t, r, []turn{{2, 9, "2: 0"}, {0, 9, "2"}, {1, 9, "1: 2"}, {2, 9, "2: 2"}, {0, 9, "7"}, {1, 9, "1: 7"}})
	if m := r.Memory(); !slices.Equal(m, []int64{2, 7}) {
		t.Error(m)
	}
}

// P12.1, P12.2: who owns each lock, turn by turn: a thread waits while anybody does, and anybody gives it back.
func TestLocks(t *testing.T) {
	r := begun(t, nil, "take 5; take -5; take 5; out r0", "take 5; give -5; give 5; take 5; halt", "give 5; give 5; take 6")
	for i, x := range []struct {
		turn
		five, less int
	}{
		{turn{0, 9, "lock 5"}, 0, -1}, {turn{1, 9, "waits"}, 0, -1}, {turn{1, 1, "waits"}, 0, -1}, {turn{0, 9, "lock -5"}, 0, 0}, {turn{0, 9, "waits"}, 0, 0},
		{turn{2, 9, "2: unlock 5"}, -1, 0}, {turn{1, 9, "1: lock 5"}, 1, 0}, {turn{0, 9, "waits"}, 1, 0}, {turn{1, 9, "1: unlock -5"}, 1, -1}, {turn{1, 9, "1: unlock 5"}, -1, -1},
		{turn{2, 9, "2: unlock 5"}, -1, -1}, {turn{0, 9, "lock 5"}, 0, -1}, {turn{1, 9, "waits"}, 0, -1}, {turn{0, 9, "0"}, 0, -1}, {turn{0, 9, "halt"}, 0, -1},
		{turn{0, 9, "ended"}, 0, -1}, {turn{1, 9, "waits"}, 0, -1}, {turn{2, 9, "2: lock 6"}, 0, -1}, {turn{1, 9, "waits"}, 0, -1}, // a thread that has ended owns what it owned
	} {
		got := next(r, x.thread, x.fuel)
		if got != x.want || r.Owner(5) != x.five || r.Owner(-5) != x.less {
			t.Errorf("turn %d: %s, %d, %d", i, got, r.Owner(5), r.Owner(-5))
		}
	}
	for lock, want := range map[int64]int{6: 2, 0: -1, 1: -1, -6: -1, 5 + 1<<32: -1, math.MaxInt64: -1, math.MinInt64: -1} {
		if got := r.Owner(lock); got != want {
			t.Errorf("%d owns %d, not %d", got, lock, want)
		}
	}
}

// P12.1: a thread that waits stays ahead of the Take, and of that alone.
func TestWaitsThere(t *testing.T) {
	r := begun(t, nil, "take 0; give 0", "set r0 4; take 0; out r0", "trap 1")
	play(t, r, []turn{{0, 9, "lock 0"}, {1, 9, "waits"}})
	for range 3 {
		if got := next(r, 1, 9); got != "waits" || r.Place(1) != 1 || r.Reg(1, 0) != 4 || r.Owner(0) != 0 {
			t.Error(got, r.Place(1), r.Reg(1, 0), r.Owner(0))
		}
	}
	play(t, r, []turn{{0, 9, "unlock 0"}, {1, 1, "1: lock 0"}, {1, 1, "1: 4"}, {2, 1, "2: trap 1"}})
}

// P12.1: which of the turn's ends goes ahead: what has ended isn't Tired, what is without fuel neither waits nor ends.
func TestWhichAhead(t *testing.T) {
	r := begun(t, nil, "take 0; halt", "take 0", "trap 1", "set r0 1; take 0")
	play(t, r, []turn{
		{0, 1, "lock 0"}, {1, 0, "tired"}, {1, -1, "tired"}, {1, math.MinInt, "tired"}, {1, 1, "waits"}, {1, math.MaxInt, "waits"},
		{2, 0, "tired"}, {2, -5, "tired"}, {2, 1, "2: trap 1"}, {2, 0, "ended"}, {2, -1, "ended"}, {2, math.MinInt, "ended"}, {2, 1, "ended"}, {2, math.MaxInt, "ended"},
		{3, 1, "tired"}, {3, 0, "tired"}, {3, 1, "waits"}, {0, 0, "tired"}, {0, 1, "halt"}, {0, 0, "ended"}, {1, 0, "tired"}, {1, 1, "waits"},
	})
}

// P12.1: with as much fuel as there are instructions up to an event it comes, with less the thread is tired where fuel ran out.
func TestTiredThere(t *testing.T) {
	text := "set r0 3; store 0 r0; fence; load r1 0; zero r2 6; trap 1; out r1; jump 8; move r1 r2; take 4"
	places := []int{0, 1, 2, 3, 4, 6} // where it stands behind so many
	for fuel := -2; fuel < 9; fuel++ {
		r := begun(t, []int64{0}, text)
		want, place := "tired", places[min(max(fuel, 0), 5)]
		if fuel > 5 {
			want, place = "3", 7
		}
		if got := next(r, 0, fuel); got != want || r.Place(0) != place {
			t.Errorf("with %d: %s at %d, not %s at %d", fuel, got, r.Place(0), want, place)
		}
		if m, n := r.Memory()[0], r.Reg(0, 0); (m == 3) != (fuel > 1) || (n == 3) != (fuel > 0) {
			t.Errorf("with %d: %d, %d", fuel, m, n)
		}
	}
	for _, x := range []struct {
		fuel  int
		want  string
		place int
	}{{0, "tired", 7}, {1, "tired", 8}, {2, "tired", 9}, {3, "lock 4", 10}, {math.MaxInt, "lock 4", 10}} {
		r := begun(t, []int64{0}, text)
		next(r, 0, 6)
		if got := next(r, 0, x.fuel); got != x.want || r.Place(0) != x.place {
			t.Errorf("with %d more: %s at %d", x.fuel, got, r.Place(0))
		}
	}
}

// P12.1: kinds that there aren't do nothing, and neither does a Fence, whatever stands in their fields.
func TestNothing(t *testing.T) {
	for _, kind := range []int{api.Fence, -1, -2, 14, 15, 16, 255, 256, 1 << 32, math.MinInt, math.MaxInt} {
		odd := api.Ins{Kind: kind, Op: 1, D: 0, A: 0, B: 1, N: 1, To: 5}
		c := api.Code{{Kind: api.Set, N: 3}, odd, odd, {Kind: api.Out}, {Kind: api.Halt}}
		r := seq.New([]api.Code{c}, []int64{7, 8, 9, 10, 11})
		if got := next(r, 0, 3); got != "tired" || r.Place(0) != 3 || r.Reg(0, 0) != 3 || r.Reg(0, 1) != 0 {
			t.Errorf("kind %d: %s at %d", kind, got, r.Place(0))
		}
		if got := whole(r, plenty); got != "3, halt" || r.Owner(1) != -1 || !slices.Equal(r.Memory(), []int64{7, 8, 9, 10, 11}) {
			t.Errorf("kind %d: %s, %v", kind, got, r.Memory())
		}
	}
}

// P12.1: what stands in fields that aren't a kind's own plays no part.
func TestOtherFields(t *testing.T) {
	for _, x := range []struct {
		i     api.Ins
		event string
		place int
		want  []int64 // registers 0 to 3
		mem   []int64
	}{
		{api.Ins{Kind: api.Set, Op: 2, D: 0, A: 1, B: 2, N: 9, To: 7}, "tired", 5, []int64{9, 1, 2, 3}, []int64{6, 7, 8}},
		{api.Ins{Kind: api.Move, Op: 2, D: 0, A: 1, B: 2, N: 9, To: 7}, "tired", 5, []int64{1, 1, 2, 3}, []int64{6, 7, 8}},
		{api.Ins{Kind: api.Calc, Op: api.Sub, D: 0, A: 1, B: 2, N: 9, To: 7}, "tired", 5, []int64{-1, 1, 2, 3}, []int64{6, 7, 8}},
		{api.Ins{Kind: api.Calc, Op: 19, D: 2, A: 1, B: 2}, "tired", 5, []int64{0, 1, 0, 3}, []int64{6, 7, 8}},
		{api.Ins{Kind: api.Calc, Op: -1, D: 3, A: 1, B: 2}, "tired", 5, []int64{0, 1, 2, 0}, []int64{6, 7, 8}},
		{api.Ins{Kind: api.Pick, Op: 2, D: 0, A: 1, B: 2, N: 9, To: 7}, "tired", 5, []int64{2, 1, 2, 3}, []int64{6, 7, 8}},
		{api.Ins{Kind: api.Load, Op: 2, D: 0, A: 1, B: 2, N: 1, To: 7}, "tired", 5, []int64{8, 1, 2, 3}, []int64{6, 7, 8}},
		{api.Ins{Kind: api.Load, Op: 2, D: 0, A: -9, B: 2, N: 1, To: 7}, "tired", 5, []int64{7, 1, 2, 3}, []int64{6, 7, 8}},
		{api.Ins{Kind: api.Store, Op: 2, D: 3, A: 1, B: 2, N: 1, To: 7}, "tired", 5, []int64{0, 1, 2, 3}, []int64{6, 7, 2}},
		{api.Ins{Kind: api.Store, Op: 2, D: 3, A: math.MinInt, B: 2, N: 1, To: 7}, "tired", 5, []int64{0, 1, 2, 3}, []int64{6, 2, 8}},
		{api.Ins{Kind: api.Jump, Op: 2, D: 3, A: 1, B: 2, N: 1, To: 2}, "tired", 2, []int64{0, 1, 2, 3}, []int64{6, 7, 8}},
		{api.Ins{Kind: api.Zero, Op: 2, D: 3, A: 0, B: 2, N: 1, To: 2}, "tired", 2, []int64{0, 1, 2, 3}, []int64{6, 7, 8}},
		{api.Ins{Kind: api.Zero, Op: 2, D: 3, A: 1, B: 0, N: 0, To: 2}, "tired", 5, []int64{0, 1, 2, 3}, []int64{6, 7, 8}},
		{api.Ins{Kind: api.Take, Op: 2, D: 3, A: 1, B: 2, N: 1, To: 2}, "lock 1", 5, []int64{0, 1, 2, 3}, []int64{6, 7, 8}},
		{api.Ins{Kind: api.Give, Op: 2, D: 3, A: 1, B: 2, N: 1, To: 2}, "unlock 1", 5, []int64{0, 1, 2, 3}, []int64{6, 7, 8}},
		{api.Ins{Kind: api.Out, Op: 2, D: 3, A: 1, B: 2, N: 9, To: 2}, "1", 5, []int64{0, 1, 2, 3}, []int64{6, 7, 8}},
		{api.Ins{Kind: api.Trap, Op: 2, D: 3, A: 1, B: 2, N: 9, To: 2}, "trap 9", 4, []int64{0, 1, 2, 3}, []int64{6, 7, 8}},
		{api.Ins{Kind: api.Halt, Op: 2, D: 3, A: 1, B: 2, N: 9, To: 2}, "halt", 4, []int64{0, 1, 2, 3}, []int64{6, 7, 8}},
	} {
		c := append(code(t, "set r0 0; set r1 1; set r2 2; set r3 3"), x.i)
		r := seq.New([]api.Code{c}, []int64{6, 7, 8})
		if got := next(r, 0, 5); got != x.event || r.Place(0) != x.place || !slices.Equal(r.Memory(), x.mem) {
			t.Errorf("%+v: %s at %d, %v", x.i, got, r.Place(0), r.Memory())
		}
		for n, want := range x.want {
			if got := r.Reg(0, n); got != want {
				t.Errorf("%+v: register %d has %d, not %d", x.i, n, got, want)
			}
		}
	}
}

// P12.1: as long a run as there may be of a short code.
func TestLongRun(t *testing.T) {
	r := begun(t, []int64{0}, "set r1 200000; set r2 1; load r0 0; calc r3 r0 < r1; zero r3 8; calc r0 r0 + r2; store 0 r0; jump 2; out r0")
	play(t, r, []turn{{0, 2 + 6*200000 + 3, "tired"}, {0, 1, "200000"}, {0, plenty, "halt"}})
	endless := begun(t, nil, "jump 0")
	play(t, endless, []turn{{0, 1 << 20, "tired"}, {0, 1, "tired"}})
}
