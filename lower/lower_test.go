package lower_test

import (
	"math"
	"slices"
	"strconv"
	"strings"
	"testing"

	"paling/api"
	"paling/check"
	"paling/ins"
	"paling/lower"
)

// program is that of a text, which may be.
func program(t *testing.T, text string) api.Program {
	t.Helper()
	p, bad, at := check.Text(text)
	if bad != api.OK {
		t.Fatalf("%q: %v at %d", text, bad, at)
	}
	return p
}

// shown is instructions as text, with semicolons between.
func shown(c api.Code) string {
	var l []string
	for _, i := range c {
		l = append(l, ins.Show(i))
	}
	return strings.Join(l, "; ")
}

// is holds the instructions of a program's thread against a text.
func is(t *testing.T, text string, n int, want string) {
	t.Helper()
	c, is := lower.Thread(program(t, text), n)
	if got := shown(c); !is || got != want {
		t.Errorf("%s, %d, %t:\n%s, not\n%s", text, n, is, got, want)
	}
}

// firsts are programs, and what their first thread comes to.
var firsts = map[string]string{
	"thread { }": "halt",
	// numbers, truths, locals and globals
	"thread { out 5; }":                                 "set r0 5; out r0; halt",
	"thread { out 0; out 9223372036854775807; }":        "set r0 0; out r0; set r1 9223372036854775807; out r1; halt",
	"thread { out true; out false; }":                   "set r0 1; out r0; set r1 0; out r1; halt",
	"thread { var public int x = 7; out x; }":           "set r0 7; move r1 r0; out r1; halt",
	"thread { var public int x = 7; out x + x; }":       "set r0 7; move r1 r0; calc r2 r1 + r1; out r2; halt",
	"public int a; public int b; thread { out b; }":     "load r0 1; out r0; halt",
	"public int a; thread { out a; out a; }":            "load r0 0; out r0; load r1 0; out r1; halt",
	"public int a; thread { out a - a; }":               "load r0 0; load r1 0; calc r2 r0 - r1; out r2; halt",
	"public bool a; thread { out a; a = true; a = a; }": "load r0 0; out r0; set r1 1; store 0 r1; load r2 0; store 0 r2; halt",
	// public globals stand first
	"secret int k; public int a; secret bool l; public int t[5]; public int b; thread { k = b; a = 1; l = true; k = k; }": "load r0 6; store 7 r0; set r1 1; store 0 r1; set r2 1; store 8 r2; load r3 7; store 7 r3; halt",
	// what is less
	"thread { out -5; }":                             "set r0 5; set r1 0; calc r2 r1 - r0; out r2; halt",
	"thread { out - -5; }":                           "set r0 5; set r1 0; calc r2 r1 - r0; set r3 0; calc r4 r3 - r2; out r4; halt",
	"thread { out !true; }":                          "set r0 1; set r1 1; calc r2 r1 - r0; out r2; halt",
	"thread { var public bool b = false; b = !!b; }": "set r0 0; move r1 r0; set r2 1; calc r3 r2 - r1; set r4 1; calc r5 r4 - r3; move r1 r5; halt",
	"public int a; thread { a = -a; }":               "load r0 0; set r1 0; calc r2 r1 - r0; store 0 r2; halt",
	// the left kid stands ahead of the right one
	"thread { out 1 - (2 - 3); }":           "set r0 1; set r1 2; set r2 3; calc r3 r1 - r2; calc r4 r0 - r3; out r4; halt",
	"thread { out 1 - 2 - 3; }":             "set r0 1; set r1 2; calc r2 r0 - r1; set r3 3; calc r4 r2 - r3; out r4; halt",
	"thread { out (1 < 2) == !(3 > 4); }":   "set r0 1; set r1 2; calc r2 r0 < r1; set r3 3; set r4 4; calc r5 r3 > r4; set r6 1; calc r7 r6 - r5; calc r8 r2 == r7; out r8; halt",
	"thread { out true && false || true; }": "set r0 1; set r1 0; calc r2 r0 && r1; set r3 1; calc r4 r2 || r3; out r4; halt",
	// what divides
	"thread { out 1 / 2; }":                "set r0 1; set r1 2; zero r1 6; calc r2 r0 / r1; out r2; halt; trap 1",
	"thread { out 1 % 2; }":                "set r0 1; set r1 2; zero r1 6; calc r2 r0 % r1; out r2; halt; trap 1",
	"thread { out 8 / (4 % 3); }":          "set r0 8; set r1 4; set r2 3; zero r2 9; calc r3 r1 % r2; zero r3 9; calc r4 r0 / r3; out r4; halt; trap 1",
	"thread { out 8 / 4 % 3; }":            "set r0 8; set r1 4; zero r1 9; calc r2 r0 / r1; set r3 3; zero r3 9; calc r4 r2 % r3; out r4; halt; trap 1",
	"thread { if (false) { out 1 / 0; } }": "set r0 0; zero r0 7; set r1 1; set r2 0; zero r2 8; calc r3 r1 / r2; out r3; halt; trap 1",
	// statements
	"thread { var public int x = 1; var public int y = x; x = y; y = x + 2; x = x; }": "set r0 1; move r1 r0; move r2 r1; move r1 r2; set r3 2; calc r4 r1 + r3; move r2 r4; move r1 r1; halt",
	"thread { if (true) { } }":                                                                                          "set r0 1; zero r0 2; halt",
	"thread { if (true) { } else { } }":                                                                                 "set r0 1; zero r0 2; halt",
	"thread { if (true) { } else { out 1; } }":                                                                          "set r0 1; zero r0 3; jump 5; set r1 1; out r1; halt",
	"thread { if (true) { out 1; } else { } out 2; }":                                                                   "set r0 1; zero r0 4; set r1 1; out r1; set r2 2; out r2; halt",
	"thread { if (true) { out 1; } else { out 2; } }":                                                                   "set r0 1; zero r0 5; set r1 1; out r1; jump 7; set r2 2; out r2; halt",
	"thread { var public bool b = true; if (b) { b = b; } else { if (b) { } } }":                                        "set r0 1; move r1 r0; zero r1 5; move r1 r1; jump 6; zero r1 6; halt",
	"thread { if (true) { if (false) { out 1; } else { out 2; } } else { out 3; } out 4; }":                             "set r0 1; zero r0 10; set r1 0; zero r1 7; set r2 1; out r2; jump 9; set r3 2; out r3; jump 12; set r4 3; out r4; set r5 4; out r5; halt",
	"thread { if (true) { var public int x = 1; } else { var public int x = 2; out x; } var public int x = 3; out x; }": "set r0 1; zero r0 5; set r1 1; move r2 r1; jump 8; set r3 2; move r4 r3; out r4; set r5 3; move r6 r5; out r6; halt",
	"thread { while (false) { } }":                                                                                      "set r0 0; zero r0 3; jump 0; halt",
	"thread { out 1; while (true) { out 2; } out 3; }":                                                                  "set r0 1; out r0; set r1 1; zero r1 7; set r2 2; out r2; jump 2; set r3 3; out r3; halt",
	"thread { var public bool b = true; while (b) { b = false; } }":                                                     "set r0 1; move r1 r0; zero r1 6; set r2 0; move r1 r2; jump 2; halt",
	"thread { var public int i = 0; while (i < 3) { i = i + 1; } out i; }":                                              "set r0 0; move r1 r0; set r2 3; calc r3 r1 < r2; zero r3 9; set r4 1; calc r5 r1 + r4; move r1 r5; jump 2; out r1; halt",
	"thread { while (true) { while (false) { out 1; } if (true) { out 2; } } }":                                         "set r0 1; zero r0 12; set r1 0; zero r1 7; set r2 1; out r2; jump 2; set r3 1; zero r3 11; set r4 2; out r4; jump 0; halt",
	"lock a; lock b; lock c; thread { lock b { } lock c { lock a { } } }":                                               "take 1; give 1; take 2; take 0; give 0; give 2; halt",
	"lock a; public int g by a; thread { lock a { g = g + 1; var public int x = g; out x; } }":                          "take 0; load r0 0; set r1 1; calc r2 r0 + r1; store 0 r2; load r3 0; move r4 r3; out r4; give 0; halt",
	// a place is looked at ahead of what stands there, behind what it is
	"public int t[2]; thread { out t[t[0]]; }":  "set r0 0; set r1 2; calc r2 r0 below r1; zero r2 15; set r3 1; calc r4 r0 & r3; load r5 0 r4; set r6 2; calc r7 r5 below r6; zero r7 15; set r8 1; calc r9 r5 & r8; load r10 0 r9; out r10; halt; trap 2",
	"public int t[3]; thread { out t[2 - 1]; }": "set r0 2; set r1 1; calc r2 r0 - r1; move r3 r2; set r4 3; calc r5 r3 below r4; zero r5 10; load r6 0 r3; out r6; halt; trap 2",
	"public int t[2]; thread { t[0] = t[1]; }":  "set r0 0; set r1 2; calc r2 r0 below r1; zero r2 15; set r3 1; set r4 2; calc r5 r3 below r4; zero r5 15; set r6 1; calc r7 r3 & r6; load r8 0 r7; set r9 1; calc r10 r0 & r9; store 0 r8 r10; halt; trap 2",
	"public int t[3]; thread { t[0] = t[1]; }":  "set r0 0; set r1 3; calc r2 r0 below r1; zero r2 17; set r3 1; move r4 r3; set r5 3; calc r6 r4 below r5; zero r6 17; load r7 0 r4; move r8 r0; set r9 3; calc r10 r8 below r9; set r11 0; pick r11 r10 r8; store 0 r7 r11; halt; trap 2",
	// both traps, the one for division ahead
	"public int t[1]; thread { out t[0] / 2; }":     "set r0 0; set r1 1; calc r2 r0 below r1; zero r2 13; set r3 0; calc r4 r0 & r3; load r5 0 r4; set r6 2; zero r6 12; calc r7 r5 / r6; out r7; halt; trap 1; trap 2",
	"public int t[3]; thread { t[1 % 2] = 3 / 4; }": "set r0 1; set r1 2; zero r1 18; calc r2 r0 % r1; set r3 3; calc r4 r2 below r3; zero r4 19; set r5 3; set r6 4; zero r6 18; calc r7 r5 / r6; move r8 r2; set r9 3; calc r10 r8 below r9; set r11 0; pick r11 r10 r8; store 0 r7 r11; halt; trap 1; trap 2",
	// calls
	"func f() public int { return 5; } thread { out f(); out f(); }":                                                                                                                                           "set r0 5; out r0; set r1 5; out r1; halt",
	"func f(public int a) public int { return a; } thread { out f(1); }":                                                                                                                                       "set r0 1; move r1 r0; out r1; halt",
	"func f(public int a) public int { return a; } thread { var public int a = 1; out f(a) - a; out a; }":                                                                                                      "set r0 1; move r1 r0; move r2 r1; calc r3 r2 - r1; out r3; out r1; halt",
	"func f(public int a, public int b) public int { return a - b; } thread { out f(1, 2 + 3); }":                                                                                                              "set r0 1; set r1 2; set r2 3; calc r3 r1 + r2; move r4 r0; move r5 r3; calc r6 r4 - r5; out r6; halt",
	"func f(public int a, public int b) public int { return b; } func g(public int b, public int a) public int { var public int c = f(a, b); return c; } thread { var public int c = 9; out g(c, 8); out c; }": "set r0 9; move r1 r0; set r2 8; move r3 r1; move r4 r2; move r5 r4; move r6 r3; move r7 r6; out r7; out r1; halt",
	"func f(public int a) public int { return a * 2; } thread { out f(f(3)); }":                                                                                                                                "set r0 3; move r1 r0; set r2 2; calc r3 r1 * r2; move r4 r3; set r5 2; calc r6 r4 * r5; out r6; halt",
	"func f(public bool a) public int { var public int x = 1; if (a) { x = 2; } else { while (a) { } } return x; } thread { out f(true); out 3; }":                                                             "set r0 1; move r1 r0; set r2 1; move r3 r2; zero r1 8; set r4 2; move r3 r4; jump 10; zero r1 10; jump 8; out r3; set r5 3; out r5; halt",
	"func f(public int a) public int { return 1 / a; } thread { while (f(2) < f(3)) { } }":                                                                                                                     "set r0 2; move r1 r0; set r2 1; zero r1 14; calc r3 r2 / r1; set r4 3; move r5 r4; set r6 1; zero r5 14; calc r7 r6 / r5; calc r8 r3 < r7; zero r8 13; jump 0; halt; trap 1",
}

// P13.1: what expressions and statements come to.
func TestFirsts(t *testing.T) {
	for text, want := range firsts {
		is(t, text, 0, want)
	}
}

// P13.1: operators, of which Div and Rem alone go to a trap.
func TestOperators(t *testing.T) {
	for _, sign := range []string{"+", "-", "*", "&", "|", "^", "<<", ">>"} {
		is(t, "thread { var public int x = 1; var public int y = 2; out x "+sign+" y; }", 0, "set r0 1; move r1 r0; set r2 2; move r3 r2; calc r4 r1 "+sign+" r3; out r4; halt")
	}
	for _, sign := range []string{"==", "!=", "<", "<=", ">", ">="} {
		is(t, "public int x; public bool b; thread { b = 9 "+sign+" x; }", 0, "set r0 9; load r1 0; calc r2 r0 "+sign+" r1; store 1 r2; halt")
	}
	for _, sign := range []string{"&&", "||", "==", "!="} {
		is(t, "secret bool b; thread { b = b "+sign+" true; }", 0, "load r0 0; set r1 1; calc r2 r0 "+sign+" r1; store 0 r2; halt")
	}
	for _, sign := range []string{"/", "%"} {
		is(t, "secret int k; public int x; thread { k = k "+sign+" x; }", 0, "load r0 1; load r1 0; zero r1 6; calc r2 r0 "+sign+" r1; store 1 r2; halt; trap 1")
	}
}

// P13.1: arrays of each length, which is a power of 2 or not, public and secret.
func TestLengths(t *testing.T) {
	powers := []int{1, 2, 4, 8, 16, 32, 64}
	for n := 1; n <= api.MaxLen; n++ {
		many, less := strconv.Itoa(n), strconv.Itoa(n-1)
		head := "public int pad[3]; " + []string{"public", "secret"}[n%2] + " int t[" + many + "]; "
		begin := "set r0 0; move r1 r0; "
		read, write := begin+"move r2 r1; set r3 "+many+"; calc r4 r2 below r3; zero r4 9; load r5 3 r2; move r6 r5; halt; trap 2",
			begin+"set r2 "+many+"; calc r3 r1 below r2; zero r3 13; set r4 7; move r5 r1; set r6 "+many+"; calc r7 r5 below r6; set r8 0; pick r8 r7 r5; store 3 r4 r8; halt; trap 2"
		if slices.Contains(powers, n) {
			read = begin + "set r2 " + many + "; calc r3 r1 below r2; zero r3 10; set r4 " + less + "; calc r5 r1 & r4; load r6 3 r5; move r7 r6; halt; trap 2"
			write = begin + "set r2 " + many + "; calc r3 r1 below r2; zero r3 10; set r4 7; set r5 " + less + "; calc r6 r1 & r5; store 3 r4 r6; halt; trap 2"
		}
		is(t, head+"thread { var public int i = 0; var secret int x = t[i]; }", 0, read)
		is(t, head+"thread { var public int i = 0; t[i] = 7; }", 0, write)
	}
}

// P13.1: the fields of each kind, of which those that aren't its own are 0.
func TestFields(t *testing.T) {
	p := program(t, "lock l; lock m; public int u; public int t[3]; thread { lock m { t[u] = 6 / u; } if (true) { } else { out 8; } }")
	want := api.Code{
		{Kind: api.Take, N: 1},
		{Kind: api.Load, D: 0, A: -1, N: 0},
		{Kind: api.Set, D: 1, N: 3},
		{Kind: api.Calc, Op: api.Below, D: 2, A: 0, B: 1},
		{Kind: api.Zero, A: 2, To: 23},
		{Kind: api.Set, D: 3, N: 6},
		{Kind: api.Load, D: 4, A: -1, N: 0},
		{Kind: api.Zero, A: 4, To: 22},
		{Kind: api.Calc, Op: api.Div, D: 5, A: 3, B: 4},
		{Kind: api.Move, D: 6, A: 0},
		{Kind: api.Set, D: 7, N: 3},
		{Kind: api.Calc, Op: api.Below, D: 8, A: 6, B: 7},
		{Kind: api.Set, D: 9},
		{Kind: api.Pick, D: 9, A: 8, B: 6},
		{Kind: api.Store, A: 9, B: 5, N: 1},
		{Kind: api.Give, N: 1},
		{Kind: api.Set, D: 10, N: 1},
		{Kind: api.Zero, A: 10, To: 19},
		{Kind: api.Jump, To: 21},
		{Kind: api.Set, D: 11, N: 8},
		{Kind: api.Out, A: 11},
		{Kind: api.Halt},
		{Kind: api.Trap, N: api.TrapDivide},
		{Kind: api.Trap, N: api.TrapPlace},
	}
	if c, is := lower.Thread(p, 0); !is || !slices.Equal(c, want) {
		t.Errorf("%t:\n%+v, not\n%+v", is, c, want)
	}
	p = program(t, "public int t[4]; public int u; thread { u = 1; t[3] = t[2]; }")
	want = api.Code{
		{Kind: api.Set, D: 0, N: 1},
		{Kind: api.Store, A: -1, B: 0, N: 4},
		{Kind: api.Set, D: 1, N: 3},
		{Kind: api.Set, D: 2, N: 4},
		{Kind: api.Calc, Op: api.Below, D: 3, A: 1, B: 2},
		{Kind: api.Zero, A: 3, To: 17},
		{Kind: api.Set, D: 4, N: 2},
		{Kind: api.Set, D: 5, N: 4},
		{Kind: api.Calc, Op: api.Below, D: 6, A: 4, B: 5},
		{Kind: api.Zero, A: 6, To: 17},
		{Kind: api.Set, D: 7, N: 3},
		{Kind: api.Calc, Op: api.And, D: 8, A: 4, B: 7},
		{Kind: api.Load, D: 9, A: 8, N: 0},
		{Kind: api.Set, D: 10, N: 3},
		{Kind: api.Calc, Op: api.And, D: 11, A: 1, B: 10},
		{Kind: api.Store, A: 11, B: 9, N: 0},
		{Kind: api.Halt},
		{Kind: api.Trap, N: api.TrapPlace},
	}
	if c, is := lower.Thread(p, 0); !is || !slices.Equal(c, want) {
		t.Errorf("%t:\n%+v, not\n%+v", is, c, want)
	}
}

// several is a program of as many threads as there may be.
const several = "lock l; public int a; secret int k; func f(public int x) public int { return x / 2; } thread { out f(1); } thread { } thread { k = 3; lock l { } } thread { out a; out f(a); }"

// P13.1: each thread has registers, and traps, of its own; and there are no other threads.
func TestEachThread(t *testing.T) {
	wants := []string{
		"set r0 1; move r1 r0; set r2 2; zero r2 7; calc r3 r1 / r2; out r3; halt; trap 1",
		"halt",
		"set r0 3; store 1 r0; take 0; give 0; halt",
		"load r0 0; out r0; load r1 0; move r2 r1; set r3 2; zero r3 9; calc r4 r2 / r3; out r4; halt; trap 1",
	}
	p := program(t, several)
	all, ok := lower.Program(p)
	if !ok || len(all) != len(wants) {
		t.Fatalf("%t: %v", ok, all)
	}
	for n, want := range wants {
		is(t, several, n, want)
		if got := shown(all[n]); got != want {
			t.Errorf("%d: %s, not %s", n, got, want)
		}
	}
	for _, n := range []int{-1, 4, 5, math.MinInt, math.MaxInt, 1 << 32, -1 << 32} {
		if c, is := lower.Thread(p, n); is || len(c) != 0 {
			t.Errorf("%d: %s", n, shown(c))
		}
	}
}

// P13.1: a program without threads has no instructions, and none is too long.
func TestNoThreads(t *testing.T) {
	for _, text := range []string{"", "public int a; lock m; func f() public int { return 1 / 0; }"} {
		p := program(t, text)
		if l, is := lower.Program(p); !is || len(l) != 0 {
			t.Errorf("%q: %t: %v", text, is, l)
		}
		for n := -1; n < 2; n++ {
			if c, is := lower.Thread(p, n); is || len(c) != 0 {
				t.Errorf("%q, %d: %s", text, n, shown(c))
			}
		}
	}
}
