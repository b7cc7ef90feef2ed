package source_test

import (
	"math"
	"slices"
	"testing"

	"paling/source"
)

// Functions that cost more or less: 1, 2, 3 with its call; of a: 2 + 2a; and one that calls others.
const funcs = `
func one() public int { return 0; }
func two() public int { var public int x = 0; return x; }
func branch(public bool b) public int { var public int x = 0; if (b) { x = 1; x = 0; } else { x = 0; } return x; }
func loop(public int a) public int { while (a > 0) { a = a - 1; } return 0; }
func calls(public int a) public int { var public int x = two() + two(); return x + one() + loop(a); }
public int n; public int t[4]; lock m;
`

// costs are statements, and how much fuel they cost, up to what stands behind them.
var costs = []struct {
	body string
	cost int
}{
	{"", 0},
	{"var public int x = 1 + 2 * 3;", 1},
	{"n = 1;", 1},
	{"t[1 + 1] = 1;", 1},
	{"n = 1; n = 2; n = 3;", 3},
	{"n = one();", 2},
	{"n = one() + one();", 3},
	{"n = two();", 3},
	{"n = two() * two() - two();", 7},
	{"n = branch(true);", 6},
	{"n = branch(false);", 5},
	{"n = loop(0);", 3},
	{"n = loop(1);", 5},
	{"n = loop(7);", 17},
	{"n = loop(-1);", 3},
	{"n = loop(one());", 4},
	{"n = loop(2 + two());", 9},
	{"n = calls(0);", 10},
	{"n = calls(2);", 14},
	{"n = calls(one() + 1);", 13},
	{"t[one()] = two();", 4},
	{"t[two()] = 1;", 3},
	{"var public int x = one(); var public int y = t[two()];", 5},
	{"if (true) { }", 1},
	{"if (false) { n = 1; }", 1},
	{"if (true) { n = 1; n = 2; } else { n = 3; }", 3},
	{"if (false) { n = 1; n = 2; } else { n = 3; }", 2},
	{"if (one() == 0) { n = two(); }", 5},
	{"if (true) { if (true) { if (true) { } } }", 3},
	{"while (false) { n = 1; }", 1},
	{"while (one() == 1) { n = 1; }", 2},
	{"n = 0; while (n < 1) { n = n + 1; }", 4},
	{"n = 0; while (n < 5) { n = n + 1; }", 12},
	{"n = 0; while (n < 2 + one()) { n = n + 1; n = n + two(); }", 1 + 2*6 + 2},
	{"n = 0; while (n < 2) { var public int i = 0; while (i < 2) { i = i + 1; } n = n + 1; }", 1 + 2*(1+1+5+1) + 1},
}

// body is a program of statements, behind which 7 is put out.
func body(s string) string { return funcs + "thread { " + s + " out 7; }" }

// P10.2: with as much fuel as the statements cost, and one for what is put out, the thread comes to that; with any less it is tired.
func TestCosts(t *testing.T) {
	for _, x := range costs {
		for fuel := -2; fuel <= x.cost; fuel++ {
			if got := next(begun(t, body(x.body)), 0, fuel); got != "tired" {
				t.Errorf("%q: %s with %d", x.body, got, fuel)
			}
		}
		for _, fuel := range []int{x.cost + 1, x.cost + 2, plenty, math.MaxInt} {
			if got := next(begun(t, body(x.body)), 0, fuel); got != "7" {
				t.Errorf("%q: %s with %d", x.body, got, fuel)
			}
		}
	}
}

// P10.2, P10.4: what is Tired is as if it hadn't begun: however little fuel there was in vain, the statement then needs all of its own.
func TestTiredInVain(t *testing.T) {
	for _, x := range []struct {
		s    string
		cost int // of the first statement, without what is in its blocks
		want string
	}{
		{"out 1;", 1, "1"}, {"out one();", 2, "0"}, {"out two() + two();", 5, "0"}, {"out loop(5);", 13, "0"}, {"out calls(3) - 4;", 16, "-4"}, {"out t[two()] + loop(one());", 6, "0"},
		{"lock m { }", 1, "lock 0"}, {"if (loop(2) == 0) { lock m { } }", 7, "lock 0"}, {"if (loop(2) == 0) { out 1; }", 7, "1"}, {"while (two() == 0) { out 1; }", 3, "1"}, {"var public int x = two(); out x;", 3, "0"},
		{"out 1 / two();", 3, "trap 1"}, {"out loop(1) + t[4 + one()];", 6, "trap 2"}, {"out one() / loop(3) + one();", 10, "trap 1"}, {"if (1 % loop(1) == 0) { out 1; }", 5, "trap 1"},
	} {
		for fuel := range x.cost {
			r := begun(t, funcs+"thread { "+x.s+" }")
			for range 3 {
				if got := next(r, 0, fuel); got != "tired" {
					t.Errorf("%q: %s with %d", x.s, got, fuel)
				}
			}
			if !slices.Equal(r.Memory(), make([]int64, 5)) || r.Owner(0) != -1 {
				t.Errorf("%q: %v, %d", x.s, r.Memory(), r.Owner(0))
			}
			got := next(r, 0, x.cost)
			if got == "tired" { // it is done, and what is behind it, or in it, is not
				got = next(r, 0, 1)
			}
			if got != x.want {
				t.Errorf("%q: %s, not %s, behind %d in vain", x.s, got, x.want, fuel)
			}
		}
	}
}

// P10.2: statements within others, of a thread, are done one by one: what was done ahead of one that is Tired isn't done again, nor what was asked.
func TestTiredWithin(t *testing.T) {
	r := begun(t, funcs+"thread { if (loop(1) == 0) { n = n + 1; n = n + 10; } else { n = 500; } while (n < 22) { n = n + 5; n = n + two(); } out n; }")
	for i, x := range []struct {
		fuel int
		want string
		n    int64
	}{
		{4, "tired", 0}, {5, "tired", 0}, {0, "tired", 0}, {1, "tired", 1}, {1, "tired", 11}, // the If costs 5, what is in it 1 each
		{0, "tired", 11}, {1, "tired", 11}, {1, "tired", 16}, {2, "tired", 16}, {2, "tired", 16}, {3, "tired", 16}, // two() costs 3 with its statement
		{2, "tired", 21}, {2, "tired", 21}, {4, "tired", 21}, {1, "tired", 26}, {2, "tired", 26}, {3, "tired", 26}, {1, "tired", 26}, {1, "26", 26}, {0, "halt", 26},
	} {
		if got := next(r, 0, x.fuel); got != x.want || r.Memory()[0] != x.n {
			t.Errorf("turn %d: %s, %v", i, got, r.Memory())
		}
	}
}

// P10.2: what is asked of a thread that lacks fuel, of one that waits, and of one that has ended, in this order: an ended one isn't Tired, one without fuel doesn't wait.
func TestWhichAhead(t *testing.T) {
	r := begun(t, "lock m; thread { lock m { } } thread { lock m { } } thread { }")
	for i, x := range []turn{{0, 1, "lock 0"}, {1, 0, "tired"}, {1, -1, "tired"}, {1, 1, "waits"}, {2, 0, "2: halt"}, {2, 0, "ended"}, {2, -1, "ended"}, {2, 1, "ended"}} {
		if got := next(r, x.thread, x.fuel); got != x.want {
			t.Errorf("turn %d: %s, not %s", i, got, x.want)
		}
	}
}

// P10.2: a trap that is come to ahead of where fuel runs out counts, and the other way round.
func TestTrapsAndFuel(t *testing.T) {
	for _, x := range []struct {
		s    string
		fuel int
		want string
	}{
		{"out 1 / 0;", 0, "tired"}, {"out 1 / 0;", 1, "trap 1"}, {"out 1 / 0 + one();", 1, "trap 1"}, {"out one() + 1 / 0;", 1, "tired"}, {"out one() + 1 / 0;", 2, "trap 1"},
		{"out loop(1 / 0);", 1, "trap 1"}, {"out loop(t[4]);", 1, "trap 2"}, {"out loop(2) + t[-1];", 5, "tired"}, {"out loop(2) + t[-1];", 6, "tired"}, {"out loop(2) + t[-1];", 7, "trap 2"},
		{"t[4] = one();", 1, "trap 2"}, {"t[3] = one() / 0;", 1, "tired"}, {"t[3] = one() / 0;", 2, "trap 1"}, {"t[one() - 1] = 5;", 1, "tired"}, {"t[one() - 1] = 5;", 2, "trap 2"},
		{"n = 1; n = 1 / 0;", 1, "tired"}, {"n = 1; n = 1 / 0;", 2, "trap 1"},
	} {
		if got := next(begun(t, funcs+"thread { "+x.s+" }"), 0, x.fuel); got != x.want {
			t.Errorf("%q with %d: %s, not %s", x.s, x.fuel, got, x.want)
		}
	}
}

// As much fuel as there may be is no more than is needed.
func TestLongRun(t *testing.T) {
	r := begun(t, "public int n; thread { while (n < 100000) { n = n + 1; } out n; }")
	if got := next(r, 0, 200001); got != "tired" {
		t.Error(got)
	}
	if got := next(r, 0, math.MaxInt); got != "100000" {
		t.Error(got)
	}
	if _, what := r.Next(0, 0); what != source.Did {
		t.Error(what)
	}
}
