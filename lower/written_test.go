package lower_test

import (
	"slices"
	"testing"

	"paling/api"
	"paling/check"
	"paling/ins"
	"paling/layout"
	"paling/lower"
	"paling/sample"
	"paling/seq"
	"paling/show"
	"paling/source"
)

// holds holds a program's threads against what is meant, and tells how many of them are too long.
func holds(t *testing.T, p api.Program) int {
	t.Helper()
	m, long := newMeant(p), 0
	var all []api.Code
	for n := range p.Threads {
		want, wanted := m.thread(n)
		c, is := lower.Thread(p, n)
		if is != wanted || !slices.Equal(c, want) {
			t.Fatalf("%sthread %d: %t, %d:\n%s, not %t:\n%s", show.Program(p), n, is, m.sizeOfThread(n), ins.Text(c), wanted, ins.Text(want))
		}
		if !is {
			long++
			continue
		}
		if len(c) != m.sizeOfThread(n) {
			t.Fatalf("%sthread %d: %d, not %d", show.Program(p), n, len(c), m.sizeOfThread(n))
		}
		all = append(all, c)
	}
	l, is := lower.Program(p)
	if is != (long == 0) || is && !slices.EqualFunc(l, all, slices.Equal[api.Code]) || !is && len(l) != 0 {
		t.Fatalf("%s%t, %d too long: %v", show.Program(p), is, long, l)
	}
	return long
}

// P13.1: programs that are written come to what is meant.
func TestWritten(t *testing.T) {
	for seed := range 700 {
		holds(t, sample.Write(seed).Program)
	}
}

// P13.1: so do those that do all of it often: just those are too long that would have more than 4096 instructions.
func TestWrittenOften(t *testing.T) {
	dice, long, short := sample.Rolls(1), 0, 0
	for seed := range 150 {
		p := sample.Write(seed).Program
		m := newMeant(p)
		for n, body := range p.Threads {
			block := api.Stmt{Kind: api.If, E: []api.Expr{{Kind: api.Truth, N: 1}}, Body: body}
			times := 4096/m.sizeOf([]api.Stmt{block}, nil).many + dice.Roll(2)
			p.Threads[n] = slices.Repeat([]api.Stmt{block}, times)
		}
		if bad, at := check.Program(p); bad != api.OK {
			t.Fatal(bad, at)
		}
		n := holds(t, p)
		long, short = long+n, short+len(p.Threads)-n
	}
	if long < 100 || short < 100 {
		t.Error(long, short)
	}
}

// P13.1: all instructions may be; registers are new without gaps, and none is read ahead of where it is.
func TestInstructionsMayBe(t *testing.T) {
	for seed := range 600 {
		p := sample.Write(seed).Program
		l, _ := lower.Program(p)
		for n, c := range l {
			regs := 0
			for at, i := range c {
				for _, r := range ins.Uses(i) {
					if r >= regs {
						t.Fatalf("%s%d: %d reads what none wrote", ins.Text(c), n, at)
					}
				}
				if d := ins.Def(i); d > regs {
					t.Fatalf("%s%d: %d leaves a register out", ins.Text(c), n, at)
				} else if d == regs {
					regs++
				}
			}
			if !ins.Check(c, ins.Bound{Regs: regs, Locks: len(p.Locks)}) {
				t.Fatalf("%s%d: may not be", ins.Text(c), n)
			}
		}
	}
}

// turned is what a turn came to.
type turned struct {
	e    api.Event
	what int
}

// pair is a program's run, and that of its instructions.
type pair struct {
	p      api.Program
	source *source.Run
	seq    *seq.Run
}

// begin is a program's pair; false: it has too many instructions.
func begin(p api.Program, mem []int64) (pair, bool) {
	l, is := lower.Program(p)
	return pair{p, source.New(p, mem), seq.New(l, layout.Memory(layout.Of(p), mem))}, is
}

// next lets both have a turn, and tells what it comes to; false: fuel lacks.
func (x pair) next(t *testing.T, thread int) (turned, bool) {
	t.Helper()
	e, what := x.source.Next(thread, 3000)
	if what == source.Tired {
		return turned{}, false
	}
	got, is := x.seq.Next(thread, 1<<22)
	whats := map[int]int{seq.Did: source.Did, seq.Waits: source.Waits, seq.Ended: source.Ended, seq.Tired: source.Tired}
	if got != e || whats[is] != what {
		t.Fatalf("%sthread %d: %v, %d, not %v, %d", show.Program(x.p), thread, got, is, e, what)
	}
	if !slices.Equal(x.seq.Memory(), x.source.Memory()) {
		t.Fatalf("%sthread %d: %v, not %v", show.Program(x.p), thread, x.seq.Memory(), x.source.Memory())
	}
	for lock := range x.p.Locks {
		if x.seq.Owner(int64(lock)) != x.source.Owner(lock) {
			t.Fatalf("%sthread %d, lock %d: %d, not %d", show.Program(x.p), thread, lock, x.seq.Owner(int64(lock)), x.source.Owner(lock))
		}
	}
	return turned{e, what}, true
}

// P13.2: programs that are written, with threads in any order: each turn comes to what it comes to as it is meant, and so do memory and locks behind it.
func TestRunsAsWritten(t *testing.T) {
	seen := map[turned]int{}
	for seed := range 1500 {
		w := sample.Write(seed)
		x, is := begin(w.Program, w.Words())
		for range 80 {
			if !is {
				break
			}
			var turn turned
			if turn, is = x.next(t, w.Roll(len(w.Program.Threads))); !is {
				break
			}
			if turn.e.Thread = 0; turn.e.Kind == api.DidOut {
				turn.e.N = 0
			}
			seen[turn]++
		}
	}
	for _, x := range []turned{{what: source.Waits}, {what: source.Ended}, {e: api.Event{Kind: api.DidOut}}, {e: api.Event{Kind: api.DidLock, N: 1}}, {e: api.Event{Kind: api.DidUnlock, N: 1}}, {e: api.Event{Kind: api.DidTrap, N: 1}}, {e: api.Event{Kind: api.DidTrap, N: 2}}, {e: api.Event{Kind: api.DidHalt}}} {
		if seen[x] < 100 {
			t.Errorf("%v: seen %d times only", x, seen[x])
		}
	}
}

// heads are words that programs begin with.
const heads = "public int n; public int one[1]; public int t[4]; public int u[3]; secret int k[5]; public bool b; lock l;" +
	"func f(public int x) public int { return 6 / x; } func g(public int x, public int y) public int { while (x < y) { x = x + f(x) + 1; } return x; }\n"

// bodies are what a thread does, where it is trapped or not.
var bodies = []string{
	"out t[3]; out t[4];", "out t[-1];", "out u[2]; out u[3];", "out u[0 - 1];", "out one[0]; out one[1];",
	"out t[9223372036854775807];", "out u[-9223372036854775807 - 1];", "out t[1 << 32];", "out u[1 << 63];", "out t[4 + (1 << 62)];",
	"t[3] = 1; t[4] = 2;", "t[-1] = 1;", "u[2] = 1; u[3] = 1;", "u[-1] = 1;", "one[0] = 1; one[1] = 1;", "k[4] = 1; k[5] = 1;",
	"t[9223372036854775807] = 1;", "u[-9223372036854775807 - 1] = 1;", "u[1 << 32] = 1;", "u[1 << 63] = 1;",
	// which trap comes first
	"t[4] = 1 / 0;", "t[0] = 1 / 0;", "t[1 / 0] = t[4];", "t[4] = t[1 / 0];", "u[3] = 1 / 0;", "u[0] = 1 / 0;", "u[1 % 0] = t[4];", "u[3] = u[1 / 0];",
	"out 1 / 0 + t[4];", "out t[4] + 1 / 0;", "out t[4] / 0;", "out 1 / t[4];", "out f(0) + u[9];", "out u[9] + f(0);", "out t[f(0)];", "out g(u[3], f(0));", "out g(f(0), u[3]);", "out (1 / 0) / (1 % 0);",
	"if (1 / 0 == 1) { out t[4]; } else { out u[3]; }", "while (t[4] == 0) { out 1 / 0; }", "lock l { t[0] = 5; t[4] = 5; }", "lock l { out 1 / n; } out 3;",
	// what changes what is read
	"t[0] = 1; t[t[0]] = t[0] + 1; out t[1]; u[0] = 2; u[u[0]] = u[0] + 1; out u[2];",
	"n = 5; n = n - n * 2; out n; t[n + 7] = n; out t[2]; u[-n - 3] = n; out u[2];",
	"k[2] = 7; k[3] = k[2] + k[4]; k[n] = k[n + 1]; out 1;", "b = !b; out b; if (b) { b = b && n == 0; } out b || false;",
	"out -7 / 2; out -7 % 2; out f(-4); out g(1, 100); out g(7, f(3)); out f(g(1, 5)); out g(g(1, 2), g(2, 3));",
	"var public int i = 0; while (i < 5) { var public int i2 = i * i; if (i2 % 2 == 0) { out i2; } else { out -i2; } i = i + 1; } out i;",
	"var public int x = 3; var public int y = f(x); x = y; y = f(y) + x; out x; out y; x = x; out x;",
	"while (n < 3) { lock l { n = n + 1; } out n; while (b) { b = false; } }",
}

// P13.2: what each part of a program does, up to the end, from two first memories.
func TestRunsAsMeant(t *testing.T) {
	for _, body := range bodies {
		for _, mem := range [][]int64{nil, {2, 4, 1, 2, 3, 3, 2, 1, 0, 1, 9, 8, 7, 6, 5}} {
			x, is := begin(program(t, heads+"thread { "+body+" }"), mem)
			if !is {
				t.Fatal(body)
			}
			for turn := 0; ; turn++ {
				got, is := x.next(t, 0)
				if !is || turn > 100 {
					t.Fatal(body)
				}
				if got.what == source.Ended {
					break
				}
			}
		}
	}
}
