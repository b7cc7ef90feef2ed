package seq_test

import (
	"math"
	"slices"
	"strconv"
	"strings"
	"testing"

	"paling/api"
	"paling/calc"
	"paling/ins"
	"paling/seq"
)

// plenty is more fuel than any turn here needs.
const plenty = 1 << 20

// lines are the kinds' words, in which rD, rA and rB are registers.
var lines = map[string]int{
	"set rD N": api.Set, "move rD rA": api.Move, "calc rD rA Op rB": api.Calc, "pick rD rA rB": api.Pick,
	"load rD N": api.Load, "load rD N rA": api.Load, "store N rB": api.Store, "store N rB rA": api.Store,
	"jump To": api.Jump, "zero rA To": api.Zero, "fence": api.Fence, "take N": api.Take, "give N": api.Give,
	"out rA": api.Out, "trap N": api.Trap, "halt": api.Halt,
}

// read is the instruction that a line tells, whose words stand as in form; false: it doesn't.
func read(line, form string) (api.Ins, bool) {
	words, names := strings.Fields(line), strings.Fields(form)
	if len(words) != len(names) || words[0] != names[0] {
		return api.Ins{}, false
	}
	i := api.Ins{Kind: lines[form]}
	if (i.Kind == api.Load || i.Kind == api.Store) && !strings.Contains(form, "rA") {
		i.A = -1
	}
	for at, name := range names[1:] {
		word := words[at+1]
		n, _ := strconv.ParseInt(strings.TrimPrefix(word, "r"), 10, 64)
		switch name {
		case "rD":
			i.D = int(n)
		case "rA":
			i.A = int(n)
		case "rB":
			i.B = int(n)
		case "N":
			i.N = n
		case "To":
			i.To = int(n)
		case "Op":
			if i.Op = calc.Op(word); word == "below" {
				i.Op = api.Below
			}
		}
	}
	return i, true
}

// code is that of a text: its instructions, as they are shown, with semicolons between.
func code(t *testing.T, text string) api.Code {
	t.Helper()
	var c api.Code
lines:
	for line := range strings.SplitSeq(text, ";") {
		line = strings.TrimSpace(line)
		for form := range lines {
			if i, is := read(line, form); is && ins.Show(i) == line {
				c = append(c, i)
				continue lines
			}
		}
		if line != "" {
			t.Fatalf("%q is no instruction", line)
		}
	}
	return c
}

// begun is texts' threads, at their beginnings.
func begun(t *testing.T, mem []int64, texts ...string) *seq.Run {
	t.Helper()
	var threads []api.Code
	for _, s := range texts {
		threads = append(threads, code(t, s))
	}
	return seq.New(threads, mem)
}

// told is what a turn came to, in words: an event's thread is told, if it is another one than the first.
func told(e api.Event, what int) string {
	names := map[int]string{seq.Waits: "waits", seq.Ended: "ended", seq.Tired: "tired"}
	if what != seq.Did && e != (api.Event{}) {
		return "an event beside " + names[what]
	}
	if what != seq.Did {
		return names[what]
	}
	n := strconv.FormatInt(e.N, 10)
	s := map[int]string{api.DidOut: n, api.DidLock: "lock " + n, api.DidUnlock: "unlock " + n, api.DidTrap: "trap " + n, api.DidHalt: "halt"}[e.Kind]
	if e.Kind == api.DidHalt && e.N != 0 {
		s += " of " + n
	}
	if e.Thread != 0 {
		s = strconv.Itoa(e.Thread) + ": " + s
	}
	return s
}

// next is what one turn comes to.
func next(r *seq.Run, thread, fuel int) string { return told(r.Next(thread, fuel)) }

// whole is all turns of the first thread, one behind the other, up to one that comes to no event.
func whole(r *seq.Run, fuel int) string {
	var l []string
	for range 200 {
		e, what := r.Next(0, fuel)
		if what == seq.Ended {
			break
		}
		l = append(l, told(e, what))
		if what != seq.Did {
			break
		}
	}
	return strings.Join(l, ", ")
}

// done are codes, what they do with which words, what stands in these behind it, how many instructions that took, and where the thread stands then.
var done = []struct {
	text  string
	mem   []int64
	want  string
	after []int64
	steps int
	place int
}{
	{"set r0 5; out r0; halt", nil, "5, halt", nil, 3, 2},
	// registers have 0 at first, and any numbers
	{"out r0; out r15; out r16; out r5000; out r9223372036854775807; halt", nil, "0, 0, 0, 0, 0, halt", nil, 6, 5},
	{"set r16 1; set r5000 2; set r9223372036854775807 3; set r0 4; out r16; out r5000; out r9223372036854775807; out r0; halt", nil, "1, 2, 3, 4, halt", nil, 9, 8},
	{"set r1 9223372036854775807; out r1; set r1 -9223372036854775808; out r1; out r0; out r2; halt", nil, "9223372036854775807, -9223372036854775808, 0, 0, halt", nil, 7, 6},
	{"set r256 1; set r4294967296 2; out r0; out r256; out r4294967296; halt", nil, "0, 1, 2, halt", nil, 6, 5},
	// one below 0 is read as 0, and not written
	{"set r-1 5; out r-1; set r-9223372036854775808 6; out r-9223372036854775808; halt", nil, "0, 0, halt", nil, 5, 4},
	{"set r1 7; move r-1 r1; out r-1; calc r-2 r1 + r1; out r-2; load r-1 0; out r-1; set r2 1; pick r-1 r2 r1; out r-1; halt", []int64{3}, "0, 0, 0, 0, halt", []int64{3}, 11, 10},
	{"set r1 7; move r1 r-1; out r1; set r1 7; calc r2 r1 - r-3; out r2; calc r2 r-3 - r1; out r2; store 0 r-1; halt", []int64{9}, "0, 7, -7, halt", []int64{0}, 10, 9},
	{"set r1 7; set r2 8; pick r1 r-1 r2; out r1; pick r1 r2 r-1; out r1; zero r-1 7; trap 1; halt", nil, "7, 0, trap 1", nil, 8, 7},
	// Set, Move
	{"set r1 4; move r2 r1; set r1 5; out r1; out r2; move r1 r2; out r1; move r1 r1; out r1; halt", nil, "5, 4, 4, 4, halt", nil, 10, 9},
	// Calc
	{"set r1 7; set r2 2; calc r3 r1 + r2; out r3; calc r3 r1 - r2; out r3; calc r3 r2 - r1; out r3; calc r3 r1 * r2; out r3; calc r3 r1 / r2; out r3; calc r3 r1 % r2; out r3; halt", nil, "9, 5, -5, 14, 3, 1, halt", nil, 15, 14},
	{"set r1 6; set r2 3; calc r3 r1 & r2; out r3; calc r3 r1 | r2; out r3; calc r3 r1 ^ r2; out r3; calc r3 r1 << r2; out r3; calc r3 r1 >> r2; out r3; halt", nil, "2, 7, 5, 48, 0, halt", nil, 13, 12},
	{"set r1 -1; set r2 1; calc r3 r1 == r2; out r3; calc r3 r1 != r2; out r3; calc r3 r1 < r2; out r3; calc r3 r1 <= r2; out r3; calc r3 r1 > r2; out r3; calc r3 r1 >= r2; out r3; calc r3 r1 below r2; out r3; calc r3 r2 below r1; out r3; halt", nil, "0, 1, 1, 1, 0, 0, 0, 1, halt", nil, 19, 18},
	{"set r1 5; calc r3 r1 && r0; out r3; calc r3 r1 && r1; out r3; calc r3 r1 || r0; out r3; calc r3 r0 || r0; out r3; halt", nil, "0, 1, 1, 0, halt", nil, 10, 9},
	{"set r1 7; calc r2 r1 / r0; out r2; calc r2 r1 % r0; out r2; halt", nil, "0, 7, halt", nil, 6, 5},
	{"set r1 9223372036854775807; calc r1 r1 + r1; out r1; set r1 -9223372036854775808; set r2 -1; calc r1 r1 / r2; out r1; calc r1 r1 - r2; out r1; halt", nil, "-2, -9223372036854775808, -9223372036854775807, halt", nil, 10, 9},
	{"set r1 3; calc r1 r1 * r1; out r1; set r2 2; calc r2 r1 - r2; out r2; calc r1 r1 - r2; out r1; halt", nil, "9, 7, 2, halt", nil, 9, 8},
	// Pick: any A that isn't 0
	{"set r1 1; set r2 2; pick r1 r0 r2; out r1; pick r1 r2 r2; out r1; halt", nil, "1, 2, halt", nil, 7, 6},
	{"set r1 1; set r2 2; set r3 -1; pick r1 r3 r2; out r1; set r3 -9223372036854775808; pick r2 r3 r3; out r2; halt", nil, "2, -9223372036854775808, halt", nil, 9, 8},
	{"set r1 1; pick r1 r1 r0; out r1; pick r1 r1 r2; out r1; halt", nil, "0, 0, halt", nil, 6, 5},
	// Load, Store
	{"load r1 0; out r1; load r1 2; out r1; load r1 1; out r1; halt", []int64{4, 5, 6}, "4, 6, 5, halt", []int64{4, 5, 6}, 7, 6},
	{"set r1 8; store 1 r1; load r2 1; out r2; store 0 r2; set r1 9; store 2 r1; halt", []int64{4, 5, 6}, "8, halt", []int64{8, 8, 9}, 8, 7},
	{"set r0 1; load r1 1 r0; out r1; load r0 0 r0; out r0; load r0 -5 r0; out r0; halt", []int64{4, 5, 6}, "6, 5, 4, halt", []int64{4, 5, 6}, 8, 7},
	{"set r0 2; store 0 r0 r0; set r1 -1; store 1 r1 r1; store 3 r0 r1; halt", []int64{4, 5, 2}, "halt", []int64{-1, 5, 2}, 6, 5},
	{"set r0 2; load r1 1; out r1; store 1 r0; halt", []int64{4, 5, 6, 7}, "5, halt", []int64{4, 2, 6, 7}, 5, 4}, // N alone, whatever r0 has
	// words that there aren't
	{"load r1 3; out r1; set r1 7; load r1 -1; out r1; set r1 7; load r1 9223372036854775807; out r1; load r1 4294967296; out r1; halt", []int64{4, 5, 6}, "0, 0, 0, 0, halt", []int64{4, 5, 6}, 11, 10},
	{"set r1 7; store 3 r1; store -1 r1; store 4294967297 r1; store -9223372036854775808 r1; load r2 3; out r2; load r2 -1; out r2; halt", []int64{4, 5, 6}, "0, 0, halt", []int64{4, 5, 6}, 10, 9},
	{"set r0 2; set r1 7; load r1 1 r0; out r1; store 1 r0 r0; load r2 1 r0; out r2; set r0 -3; store 2 r0 r0; load r2 2 r0; out r2; halt", []int64{4, 5, 6}, "0, 0, 0, halt", []int64{4, 5, 6}, 12, 11},
	{"load r1 0; out r1; store 0 r0; halt", nil, "0, halt", nil, 4, 3},
	// the word is wrapped
	{"set r0 -9223372036854775808; load r1 -9223372036854775808 r0; out r1; set r0 -9223372036854775807; load r1 -9223372036854775808 r0; out r1; halt", []int64{4, 5}, "4, 5, halt", []int64{4, 5}, 7, 6},
	{"set r0 9223372036854775807; load r1 9223372036854775807 r0; out r1; load r1 -9223372036854775806 r0; out r1; halt", []int64{4, 5}, "0, 5, halt", []int64{4, 5}, 6, 5},
	{"set r0 -9223372036854775808; set r1 8; store -9223372036854775807 r1 r0; set r0 9223372036854775807; store -9223372036854775807 r0 r0; halt", []int64{4, 5}, "halt", []int64{9223372036854775807, 8}, 6, 5},
	// Jump, Zero
	{"jump 2; trap 1; jump 4; trap 2; jump 6; halt; out r0; jump 5", nil, "0, halt", nil, 6, 5},
	{"zero r0 2; trap 1; set r0 1; zero r0 5; out r0; halt", nil, "1, halt", nil, 5, 5},
	{"set r0 -1; zero r0 4; set r0 4294967296; zero r0 5; set r0 -9223372036854775808; zero r0 3; halt; trap 1", nil, "halt", nil, 7, 6},
	{"set r0 3; set r1 1; zero r0 6; out r0; calc r0 r0 - r1; jump 2; halt", nil, "3, 2, 1, halt", nil, 16, 6},
	{"zero r0 1; zero r1 2; jump 3; halt", nil, "halt", nil, 4, 3},
	// Fence
	{"fence; fence; out r0; fence; halt", nil, "0, halt", nil, 5, 4},
	// Trap, Halt
	{"trap 1; out r0", nil, "trap 1", nil, 1, 0},
	{"out r0; trap 2; out r0", nil, "0, trap 2", nil, 2, 1},
	{"trap 0", nil, "trap 0", nil, 1, 0},
	{"trap -9223372036854775808", nil, "trap -9223372036854775808", nil, 1, 0},
	{"halt; out r0", nil, "halt", nil, 1, 0},
	// locks
	{"take 1; give 1; halt", nil, "lock 1, unlock 1, halt", nil, 3, 2},
	{"take 0; take 1; give 0; take 0; give 1; give 0; halt", nil, "lock 0, lock 1, unlock 0, lock 0, unlock 1, unlock 0, halt", nil, 7, 6},
	{"take -1; take 9223372036854775807; take 4294967295; take -9223372036854775808; give -1; take -1; halt", nil, "lock -1, lock 9223372036854775807, lock 4294967295, lock -9223372036854775808, unlock -1, lock -1, halt", nil, 7, 6},
	{"give 3; give -3; take 3; give 3; give 3; halt", nil, "unlock 3, unlock -3, lock 3, unlock 3, unlock 3, halt", nil, 6, 5},
	{"out r0; take 1; out r0; take 1; out r0", nil, "0, lock 1, 0, waits", nil, 4, 3},
	// where there is no instruction
	{"", nil, "halt", nil, 1, 0},
	{"out r0", nil, "0, halt", nil, 2, 1},
	{"set r0 1; fence", nil, "halt", nil, 3, 2},
	{"jump 1", nil, "halt", nil, 2, 1},
	{"jump -1", nil, "halt", nil, 2, -1},
	{"jump 9223372036854775807; trap 1", nil, "halt", nil, 2, math.MaxInt},
	{"jump -9223372036854775808; trap 1", nil, "halt", nil, 2, math.MinInt},
	{"jump 4294967297; trap 1", nil, "halt", nil, 2, 1<<32 + 1},
	{"zero r0 2; trap 1", nil, "halt", nil, 2, 2},
	{"zero r0 -7; trap 1", nil, "halt", nil, 2, -7},
	{"set r1 1; zero r1 0", nil, "halt", nil, 3, 2},
	{"take 1; jump 50", nil, "lock 1, halt", nil, 3, 50},
	// the greatest of some words, and their sum
	{"set r6 1; set r1 5; load r2 0; calc r3 r0 < r1; zero r3 11; load r4 0 r0; calc r5 r5 + r4; calc r3 r2 < r4; pick r2 r3 r4; calc r0 r0 + r6; jump 3; out r2; store 5 r5; halt",
		[]int64{3, -9, 8, 8, 2, 0}, "8, halt", []int64{3, -9, 8, 8, 2, 12}, 48, 13},
}

// P12.1, P12.2: each kind by hand: what it does, what stands in memory, and where the thread stands behind it.
func TestDone(t *testing.T) {
	for _, x := range done {
		r := begun(t, x.mem, x.text)
		if r.Place(0) != 0 || !slices.Equal(r.Memory(), x.mem) {
			t.Errorf("%q begins at %d with %v", x.text, r.Place(0), r.Memory())
		}
		if got := whole(r, plenty); got != x.want {
			t.Errorf("%q: %s, not %s", x.text, got, x.want)
		}
		if !slices.Equal(r.Memory(), x.after) || r.Place(0) != x.place {
			t.Errorf("%q: %v at %d, not %v at %d", x.text, r.Memory(), r.Place(0), x.after, x.place)
		}
	}
}

// P12.1: each instruction takes one of the fuel, and so does the end where there is none.
func TestFuelOneByOne(t *testing.T) {
	for _, x := range done {
		r := begun(t, x.mem, x.text)
		var l []string
		for range x.steps {
			if got := next(r, 0, 0); got != "tired" {
				t.Errorf("%q: %s without fuel", x.text, got)
			}
			if got := next(r, 0, 1); got != "tired" {
				l = append(l, got)
			}
		}
		if got := strings.Join(l, ", "); got != x.want || !slices.Equal(r.Memory(), x.after) || r.Place(0) != x.place {
			t.Errorf("%q: %s, %v at %d, not %s, %v at %d", x.text, got, r.Memory(), r.Place(0), x.want, x.after, x.place)
		}
		if got := next(r, 0, 1); got != "ended" && got != "waits" {
			t.Errorf("%q: %s behind its end", x.text, got)
		}
	}
}

// P12.2: registers of more than the first thread, each its own.
func TestRegs(t *testing.T) {
	r := begun(t, []int64{6}, "set r0 1; set r7 2; set r-1 3; out r0", "set r0 -4; load r5000 0; out r0", "out r0")
	for thread := range 3 {
		for n := -3; n < 20; n++ {
			if got := r.Reg(thread, n); got != 0 {
				t.Errorf("thread %d: register %d has %d at first", thread, n, got)
			}
		}
		next(r, thread, plenty)
	}
	for _, x := range []struct {
		thread, n int
		want      int64
	}{{0, 0, 1}, {0, 7, 2}, {0, -1, 0}, {0, 1, 0}, {0, 5000, 0}, {1, 0, -4}, {1, 7, 0}, {1, 5000, 6}, {1, math.MinInt, 0}, {1, math.MaxInt, 0}, {2, 0, 0}, {2, 7, 0}, {3, 0, 0}, {-1, 0, 0}, {-1, 7, 0}} {
		if got := r.Reg(x.thread, x.n); got != x.want {
			t.Errorf("register %d of %d has %d, not %d", x.n, x.thread, got, x.want)
		}
	}
	next(r, 0, 1) // what has ended has what it had
	if r.Reg(0, 0) != 1 || r.Reg(0, 7) != 2 {
		t.Error(r.Reg(0, 0), r.Reg(0, 7))
	}
}

// odd are numbers that are no thread's, where there are three.
var odd = []int{math.MinInt, math.MinInt + 1, -1 << 32, -2, -1, 3, 4, 8, 1 << 32, 1<<32 + 1, math.MaxInt}

// P12.1, P12.2: of threads that there aren't there is nothing, and nothing comes of asking.
func TestNoThread(t *testing.T) {
	r := begun(t, []int64{5}, "take 0; set r0 1; store 0 r0; out r0", "out r0", "out r0")
	if got := next(r, 0, 1); got != "lock 0" {
		t.Error(got)
	}
	for _, n := range odd {
		for _, fuel := range []int{math.MinInt, -1, 0, 1, math.MaxInt} {
			if got := next(r, n, fuel); got != "ended" {
				t.Errorf("thread %d: %s", n, got)
			}
		}
		if r.Place(n) != 0 || r.Reg(n, 0) != 0 {
			t.Errorf("thread %d: at %d, %d", n, r.Place(n), r.Reg(n, 0))
		}
	}
	if r.Owner(0) != 0 || r.Place(0) != 1 || r.Place(1) != 0 || !slices.Equal(r.Memory(), []int64{5}) {
		t.Error(r.Owner(0), r.Place(0), r.Memory())
	}
}

// P12.1, P12.2: of nil, and of a run that New didn't make, there is nothing.
func TestNil(t *testing.T) {
	for _, r := range []*seq.Run{nil, {}, seq.New(nil, nil), seq.New([]api.Code{}, []int64{})} {
		for _, n := range append([]int{0, 1, 2}, odd...) {
			for _, fuel := range []int{-1, 0, 1, plenty} {
				if got := next(r, n, fuel); got != "ended" {
					t.Errorf("thread %d: %s", n, got)
				}
			}
			if r.Place(n) != 0 || r.Reg(n, 0) != 0 || r.Reg(0, n) != 0 || r.Owner(int64(n)) != -1 {
				t.Errorf("%d: at %d, %d, %d", n, r.Place(n), r.Reg(n, 0), r.Owner(int64(n)))
			}
		}
		if m := r.Memory(); len(m) != 0 {
			t.Error(m)
		}
	}
}
