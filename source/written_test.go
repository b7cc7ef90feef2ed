package source_test

import (
	"slices"
	"testing"

	"paling/api"
	"paling/check"
	"paling/sample"
	"paling/show"
	"paling/source"
)

// written is a seed's program, which must be one that may be, and a first memory.
func written(t *testing.T, seed int) (*sample.Writer, []int64) {
	t.Helper()
	w := sample.Write(seed)
	if bad, _ := check.Program(w.Program); bad != api.OK {
		t.Fatalf("%v:\n%s", bad, show.Program(w.Program))
	}
	return w, w.Words()
}

// some is some fuel, mostly little.
func some(d *sample.Dice) int {
	switch d.Roll(8) {
	case 0:
		return -d.Roll(3)
	case 1:
		return 400
	case 2, 3:
		return d.Roll(60)
	}
	return d.Roll(7)
}

// P10.1 to P10.3: programs that are written, with threads in any order, and any fuel: each turn comes to what is meant, and so do memory and locks behind it.
func TestWritten(t *testing.T) {
	seen := map[turned]int{}
	for seed := range 1200 {
		w, mem := written(t, seed)
		r, m := source.New(w.Program, mem), newMeant(w.Program, mem)
		over := make([]bool, len(w.Program.Threads))
		for turn := range 40 + w.Roll(60) {
			thread, fuel := w.Roll(len(w.Program.Threads)), some(w.Dice)
			if over[thread] && w.Roll(4) > 0 { // few turns of those that have ended are enough
				thread = max(slices.Index(over, false), 0)
			}
			e, what := r.Next(thread, fuel)
			want := m.next(thread, fuel)
			if e != want.e || what != want.what {
				t.Fatalf("%s%v, turn %d: %v, %d, not %v", show.Program(w.Program), mem, turn, e, what, want)
			}
			if !slices.Equal(r.Memory(), m.memory()) {
				t.Fatalf("%s%v, turn %d: %v, not %v", show.Program(w.Program), mem, turn, r.Memory(), m.memory())
			}
			for i := range w.Program.Locks {
				if r.Owner(i) != m.owns(i) {
					t.Fatalf("%s%v, turn %d: %d, not %d", show.Program(w.Program), mem, turn, r.Owner(i), m.owns(i))
				}
			}
			over[thread] = want.what == source.Ended
			if want.e.Thread = 0; want.e.Kind == api.DidOut {
				want.e.N = 0
			}
			seen[want]++
		}
		m.close()
	}
	for _, x := range []turned{{what: source.Waits}, {what: source.Ended}, {what: source.Tired}, {e: api.Event{Kind: api.DidOut}}, {e: api.Event{Kind: api.DidLock, N: 1}}, {e: api.Event{Kind: api.DidUnlock, N: 1}}, {e: api.Event{Kind: api.DidTrap, N: 1}}, {e: api.Event{Kind: api.DidTrap, N: 2}}, {e: api.Event{Kind: api.DidHalt}}} {
		if seen[x] < 100 {
			t.Errorf("%v: seen %d times only", x, seen[x])
		}
	}
}

// P10.4: what is Tired goes on as if it hadn't been: without those turns, and with plenty of fuel, all events are the same.
func TestTiredIsAsIfItHadntBeen(t *testing.T) {
	for seed := range 500 {
		w, mem := written(t, seed)
		var turns []int
		var want []api.Event
		r := source.New(w.Program, mem)
		for range 150 {
			thread := w.Roll(len(w.Program.Threads))
			if e, what := r.Next(thread, some(w.Dice)); what == source.Did {
				turns, want = append(turns, thread), append(want, e)
			}
		}
		again := source.New(w.Program, mem)
		for i, thread := range turns {
			if e, what := again.Next(thread, plenty); what != source.Did || e != want[i] {
				t.Fatalf("%s%v, turn %d: %v, %d, not %v", show.Program(w.Program), mem, i, e, what, want[i])
			}
		}
		if ended(r, len(w.Program.Threads)) && !slices.Equal(r.Memory(), again.Memory()) {
			t.Fatalf("%s%v: %v, not %v", show.Program(w.Program), mem, again.Memory(), r.Memory())
		}
	}
}

// ended tells whether all threads have.
func ended(r *source.Run, threads int) bool {
	for i := range threads {
		if _, what := r.Next(i, 0); what != source.Ended {
			return false
		}
	}
	return true
}

// P10.4: of programs without locks each thread's events are the same, whatever the others do, and whatever stands in words that it doesn't use.
func TestOwnReadsAlone(t *testing.T) {
	for seed := range 800 {
		w, mem := written(t, seed)
		if len(w.Program.Locks) > 0 {
			continue
		}
		uses := check.Uses(w.Program)
		r := source.New(w.Program, mem)
		var all [api.MaxThreads][]turned
		for range 60 {
			thread := w.Roll(len(w.Program.Threads))
			e, what := r.Next(thread, 2000)
			all[thread] = append(all[thread], turned{e, what})
		}
		for thread := range w.Program.Threads {
			own := source.New(w.Program, others(w, mem, uses, thread))
			for i, want := range all[thread] {
				if e, what := own.Next(thread, 2000); e != want.e || what != want.what {
					t.Fatalf("%s%v, thread %d, turn %d: %v, %d, not %v", show.Program(w.Program), mem, thread, i, e, what, want)
				}
			}
		}
	}
}

// others is a memory in which all words that a thread doesn't use are others.
func others(w *sample.Writer, mem []int64, uses []check.Use, thread int) []int64 {
	var m []int64
	next := 0
	for _, secret := range []bool{false, true} {
		for i, g := range w.Program.Globals {
			for range max(g.Len, 1) {
				if g.Type.Secret != secret {
					continue
				}
				n := int64(0)
				if next < len(mem) {
					n = mem[next]
				}
				if !slices.Contains(uses[i].Uses, thread) {
					n = int64(w.Roll(100) - 50)
				}
				m, next = append(m, n), next+1
			}
		}
	}
	return m
}
