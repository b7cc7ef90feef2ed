package source_test

import (
	"math"
	"slices"
	"strconv"
	"strings"
	"testing"

	"paling/api"
	"paling/check"
	"paling/source"
)

// plenty is more fuel than any turn here needs.
const plenty = 1 << 20

// program is that of a text, which may be.
func program(t *testing.T, text string) api.Program {
	t.Helper()
	p, bad, at := check.Text(text)
	if bad != api.OK {
		t.Fatalf("%q: %v at %d", text, bad, at)
	}
	return p
}

// begun is a text's program, at its beginning.
func begun(t *testing.T, text string, mem ...int64) *source.Run {
	t.Helper()
	return source.New(program(t, text), mem)
}

// told is what a turn came to, in words: an event's thread is told, if it is another one than the first.
func told(e api.Event, what int) string {
	names := map[int]string{source.Waits: "waits", source.Ended: "ended", source.Tired: "tired"}
	if what != source.Did && e != (api.Event{}) {
		return "an event beside " + names[what]
	}
	if what != source.Did {
		return names[what]
	}
	n := strconv.FormatInt(e.N, 10)
	s := map[int]string{api.DidOut: n, api.DidLock: "lock " + n, api.DidUnlock: "unlock " + n, api.DidTrap: "trap " + n, api.DidHalt: "halt"}[e.Kind]
	if e.Kind == api.DidHalt && e.N != 0 {
		s += " of " + n
	}
	if e.Thread != 0 {
		s = strconv.Itoa(e.Thread) + ": " + s
	}
	return s
}

// next is what one turn comes to.
func next(r *source.Run, thread, fuel int) string { return told(r.Next(thread, fuel)) }

// whole is all turns of a thread, one behind the other, up to one that comes to no event.
func whole(r *source.Run, thread, fuel int) string {
	var l []string
	for range 200 {
		e, what := r.Next(thread, fuel)
		if what == source.Ended {
			break
		}
		l = append(l, told(e, what))
		if what != source.Did {
			break
		}
	}
	return strings.Join(l, ", ")
}

// done are texts, and all that their first thread does.
var done = map[string]string{
	// statements
	"thread { }": "halt",
	"thread { out 7; out 0; out 9223372036854775807; }":                                                                               "7, 0, 9223372036854775807, halt",
	"thread { var public int x = 3; out x; x = 5; out x; x = x + x; out x; }":                                                         "3, 5, 10, halt",
	"thread { var public int x = 3; var public int y = x + 1; x = y; out x * 10 + y; }":                                               "44, halt",
	"thread { if (true) { out 1; } out 2; }":                                                                                          "1, 2, halt",
	"thread { if (false) { out 1; } out 2; }":                                                                                         "2, halt",
	"thread { if (true) { out 1; } else { out 2; } out 3; }":                                                                          "1, 3, halt",
	"thread { if (false) { out 1; } else { out 2; } out 3; }":                                                                         "2, 3, halt",
	"thread { if (true) { } else { out 2; } if (false) { out 3; } else { } }":                                                         "halt",
	"thread { if (1 < 2) { if (2 < 1) { out 1; } else { out 2; if (true) { out 3; } out 4; } out 5; } }":                              "2, 3, 4, 5, halt",
	"thread { while (false) { out 1; } out 2; }":                                                                                      "2, halt",
	"thread { var public int i = 0; while (i < 3) { out i; i = i + 1; } out 9; }":                                                     "0, 1, 2, 9, halt",
	"thread { var public bool b = true; while (b) { out 1; b = false; out 2; } }":                                                     "1, 2, halt",
	"thread { var public int i = 0; while (i < 3) { var public int j = i; while (j < 3) { out j; j = j + 1; } i = j; } }":             "0, 1, 2, halt",
	"thread { var public int i = 0; while (i < 2) { var public int j = 0; while (j < 2) { out i * 2 + j; j = j + 1; } i = i + 1; } }": "0, 1, 2, 3, halt",
	"thread { if (true) { var public int x = 1; out x; } var public int x = 2; out x; if (true) { var public int y = x; out y; } }":   "1, 2, 2, halt",
	"thread { var public int i = 0; while (i < 3) { var public int x = 5; x = x + i; out x; i = i + 1; } }":                           "5, 6, 7, halt",
	"lock m; thread { lock m { } }":                                                                                                   "lock 0, unlock 0, halt",
	"lock m; lock n; thread { lock n { out 1; } out 2; lock m { out 3; } }":                                                           "lock 1, 1, unlock 1, 2, lock 0, 3, unlock 0, halt",
	"lock m; lock n; thread { lock n { lock m { out 1; } out 2; } out 3; }":                                                           "lock 1, lock 0, 1, unlock 0, 2, unlock 1, 3, halt",
	"lock m; thread { lock m { out 1; } lock m { out 2; } }":                                                                          "lock 0, 1, unlock 0, lock 0, 2, unlock 0, halt",
	"lock m; thread { var public int i = 0; while (i < 2) { lock m { out i; } i = i + 1; } }":                                         "lock 0, 0, unlock 0, lock 0, 1, unlock 0, halt",
	"lock m; thread { lock m { if (true) { while (false) { } } else { out 1; } var public int x = 4; out x; } }":                      "lock 0, 4, unlock 0, halt",
	"lock a; lock b; lock c; lock d; lock e; lock f; lock g; lock h; thread { lock h { lock a { } } }":                                "lock 7, lock 0, unlock 0, unlock 7, halt",
	// expressions
	"thread { out true; out false; out !true; out !false; out !!true; }":                                                                             "1, 0, 0, 1, 1, halt",
	"thread { out -5; out - -5; out -0; out -(9223372036854775807); out -(-9223372036854775807 - 1); }":                                              "-5, 5, 0, -9223372036854775807, -9223372036854775808, halt",
	"thread { out 7 + 2; out 7 - 2; out 2 - 7; out 7 * 2; out 7 / 2; out 7 % 2; out 6 & 3; out 6 | 3; out 6 ^ 3; }":                                  "9, 5, -5, 14, 3, 1, 2, 7, 5, halt",
	"thread { out 3 << 2; out 13 >> 2; out -13 >> 2; out 1 << 64; out 1 << 63; out -1 >> 63; }":                                                      "12, 3, -4, 1, -9223372036854775808, -1, halt",
	"thread { out -7 / 2; out -7 % 2; out 7 / -2; out 7 % -2; out 0 / 3; out 0 % 3; }":                                                               "-3, -1, -3, 1, 0, 0, halt",
	"thread { out 9223372036854775807 + 1; out 9223372036854775807 * 2; out (-9223372036854775807 - 1) / -1; out (-9223372036854775807 - 1) % -1; }": "-9223372036854775808, -2, -9223372036854775808, 0, halt",
	"thread { out 1 == 1; out 1 == 2; out 1 != 1; out 1 != 2; out true == true; out true == false; out true != false; }":                             "1, 0, 0, 1, 1, 0, 1, halt",
	"thread { out -1 < 1; out 1 < 1; out 1 <= 1; out 2 <= 1; out 2 > 1; out 1 > 1; out 1 >= 1; out -1 >= 1; }":                                       "1, 0, 1, 0, 1, 0, 1, 0, halt",
	"thread { out true && true; out true && false; out false && true; out false || true; out true || false; out false || false; }":                   "1, 0, 0, 1, 1, 0, halt",
	"public int a; public int b; thread { a = 1; b = a + 1; a = b * 10; out a; out b; out a - b; }":                                                  "20, 2, 18, halt",
	"public bool a; thread { out a; a = !a; out a; if (a) { out 5; } }":                                                                              "0, 1, 5, halt",
	"public int t[3]; thread { t[1] = 5; t[t[1] - 3] = 6; t[0] = t[1] + t[2]; out t[0]; out t[1]; out t[2]; }":                                       "11, 5, 6, halt",
	"public int t[1]; thread { t[0] = 4; out t[0]; out t[t[0] - 4]; }":                                                                               "4, 4, halt",
	"public int t[64]; thread { t[63] = 4; t[0] = 5; out t[63] * 10 + t[0]; out t[62]; }":                                                            "45, 0, halt",
	"public int t[2]; thread { t[t[0]] = t[0] + 1; out t[0]; t[t[0]] = t[0] + 1; out t[1]; }":                                                        "1, 2, halt",
	"secret int k; secret int l[2]; public int a; thread { k = 5; l[1] = k; l[0] = l[1] + k; a = 3; out a; }":                                        "3, halt",
	// functions
	"func f() public int { return 5; } thread { out f(); out f() + f(); }":                                                                                                                                           "5, 10, halt",
	"func f(public int a) public int { return a * 2; } thread { out f(4); out f(f(4)); out f(1) - f(2); }":                                                                                                           "8, 16, -2, halt",
	"func f(public int a, public int b) public int { return a - b; } thread { out f(9, 2); out f(2, 9); }":                                                                                                           "7, -7, halt",
	"func f(public int a, public int b, public int c, public int d, public int e, public int g) public int { return a + b * 10 + c * 100 + d * 1000 + e * 10000 + g * 100000; } thread { out f(1, 2, 3, 4, 5, 6); }": "654321, halt",
	"func f(public bool a) public bool { return !a; } thread { if (f(false)) { out 1; } out f(true); }":                                                                                                              "1, 0, halt",
	"func f(public int a) public int { a = a + 1; return a; } thread { var public int a = 5; out f(a); out a; out f(a); }":                                                                                           "6, 5, 6, halt",
	"func f(public int a) public int { var public int s = 0; while (a > 0) { s = s + a; a = a - 1; } return s; } thread { out f(4) + f(f(2)); }":                                                                     "16, halt",
	"func f(public int a) public int { var public int s = 0; s = s + a; return s; } thread { out f(1); out f(2); out f(3); }":                                                                                        "1, 2, 3, halt",
	"func f(public int a) public int { var public int r = 1; if (a > 3) { r = 2; } else { if (a > 2) { r = 3; } } return r; } thread { out f(2); out f(3); out f(4); }":                                              "1, 3, 2, halt",
	"func f(public int a) public int { if (a > 3) { var public int b = a; a = b * 2; } var public int b = a + 1; return b; } thread { out f(3); out f(4); }":                                                         "4, 9, halt",
	"func f(public int a) public int { return a + 1; } func g(public int b) public int { var public int a = f(b) * 10; return a + f(a); } thread { out g(1); out f(g(0)); }":                                         "41, 22, halt",
	"func f(public int a) public int { var public int i = 0; var public int s = 0; while (i < a) { var public int j = 0; while (j < i) { s = s + 1; j = j + 1; } i = i + 1; } return s; } thread { out f(5); }":      "10, halt",
	// traps
	"thread { out 1 / 0; out 2; }":                                                                                "trap 1",
	"thread { out 1; out 1 % 0; }":                                                                                "1, trap 1",
	"thread { out 0 / 0; }":                                                                                       "trap 1",
	"public int a; thread { a = 5; out 1; out 5 % (a - 5); }":                                                     "1, trap 1",
	"public int t[2]; thread { out t[2]; }":                                                                       "trap 2",
	"public int t[2]; thread { out t[-1]; }":                                                                      "trap 2",
	"public int t[1]; thread { out t[1]; }":                                                                       "trap 2",
	"public int t[64]; thread { out t[64]; }":                                                                     "trap 2",
	"public int t[2]; thread { out t[4294967296]; }":                                                              "trap 2",
	"public int t[2]; thread { out t[9223372036854775807]; }":                                                     "trap 2",
	"public int t[2]; thread { out t[-9223372036854775807 - 1]; }":                                                "trap 2",
	"public int t[2]; thread { t[2] = 1; }":                                                                       "trap 2",
	"public int t[2]; thread { t[-1] = 1; }":                                                                      "trap 2",
	"public int t[2]; thread { out t[t[5] / 0]; }":                                                                "trap 2",
	"public int t[2]; thread { out t[1 / 0]; }":                                                                   "trap 1",
	"public int t[2]; thread { t[2] = 1 / 0; }":                                                                   "trap 2",
	"public int t[2]; thread { t[1] = 1 / 0; }":                                                                   "trap 1",
	"public int t[2]; thread { t[1 / 0] = t[2]; }":                                                                "trap 1",
	"public int t[2]; thread { out t[2] + 1 / 0; }":                                                               "trap 2",
	"public int t[2]; thread { out 1 / 0 + t[2]; }":                                                               "trap 1",
	"public int t[2]; thread { out (1 / 0) / t[2]; }":                                                             "trap 1",
	"public int t[2]; thread { out t[2] / 0; }":                                                                   "trap 2",
	"public int t[2]; thread { out 1 / t[2]; }":                                                                   "trap 2",
	"public int t[2]; thread { out true || t[2] == 0; }":                                                          "trap 2",
	"public int t[2]; thread { out false && t[2] == 0; }":                                                         "trap 2",
	"thread { out true || 1 / 0 == 0; }":                                                                          "trap 1",
	"thread { out -(1 / 0); }":                                                                                    "trap 1",
	"thread { out !(1 / 0 == 0); }":                                                                               "trap 1",
	"thread { if (1 / 0 == 0) { out 1; } out 2; }":                                                                "trap 1",
	"thread { while (1 / 0 == 0) { out 1; } out 2; }":                                                             "trap 1",
	"thread { var public int i = 2; while (6 / i > 0) { out i; i = i - 1; } }":                                    "2, 1, trap 1",
	"thread { var public int x = 1 / 0; out x; }":                                                                 "trap 1",
	"lock m; thread { lock m { out 1; out 1 / 0; } out 2; }":                                                      "lock 0, 1, trap 1",
	"func f(public int a) public int { return 6 / a; } thread { out f(0); }":                                      "trap 1",
	"func f(public int a) public int { a = a % 0; return a; } thread { out f(0); }":                               "trap 1",
	"func f(public int a) public int { while (1 / a > 5) { } return a; } thread { out f(1); out f(0); out 2; }":   "1, trap 1",
	"public int t[2]; func f(public int a, public int b) public int { return 1 / 0; } thread { out f(1, t[2]); }": "trap 2",
	"public int t[2]; func f(public int a, public int b) public int { return 1; } thread { out f(t[2], 1 / 0); }": "trap 2",
	"public int t[2]; func f(public int a, public int b) public int { return 1; } thread { out f(1 / 0, t[2]); }": "trap 1",
}

// P10.1: all that a thread does, by hand.
func TestDone(t *testing.T) {
	for text, want := range done {
		r := begun(t, text)
		if got := whole(r, 0, plenty); got != want {
			t.Errorf("%q: %s, not %s", text, got, want)
		}
		for _, fuel := range []int{plenty, 1, 0, -1, math.MinInt, math.MaxInt} {
			if got := next(r, 0, fuel); got != "ended" {
				t.Errorf("%q: %s behind its end", text, got)
			}
		}
	}
}

// P10.1: what is Did, Waits, Ended and Tired.
func TestWhats(t *testing.T) {
	if source.Did != 0 || source.Waits != 1 || source.Ended != 2 || source.Tired != 3 {
		t.Error(source.Did, source.Waits, source.Ended, source.Tired)
	}
}

// turn is a thread's, with some fuel, and what it comes to.
type turn struct {
	thread, fuel int
	want         string
}

// play is turns of a program, one behind the other, and what there is behind them.
type play struct {
	text   string
	mem    []int64
	turns  []turn
	memory []int64
	owners []int
}

// plays are such, by hand.
var plays = []play{
	{"", []int64{1}, []turn{{0, 9, "ended"}}, nil, nil},
	{"public int a; secret bool b; lock m;", []int64{7, 7}, []turn{{0, 9, "ended"}, {-1, 9, "ended"}}, []int64{7, 1}, []int{-1}},
	{"thread { }", nil, []turn{{0, 0, "halt"}, {0, 0, "ended"}}, nil, nil},
	{"thread { } thread { }", nil, []turn{{1, -5, "1: halt"}, {1, 5, "ended"}, {0, math.MinInt, "halt"}, {2, 5, "ended"}}, nil, nil},
	// whatever the first words are: at their places, truths 1 or 0
	{"public int a; public int t[2]; public bool b; thread { out a; out t[0]; out t[1]; out b; b = t[0] == 3; }", []int64{5, 3, -4, 9, 8}, []turn{{0, 1, "5"}, {0, 1, "3"}, {0, 1, "-4"}, {0, 1, "1"}, {0, 1, "halt"}}, []int64{5, 3, -4, 1}, nil},
	{"secret int k; public int a; thread { k = k + a; a = a + 1; }", []int64{5, 6}, []turn{{0, 1, "tired"}, {0, 1, "halt"}}, []int64{6, 11}, nil},
	{"secret int k[3]; public bool b; secret bool c; thread { k[1] = -k[0]; c = !b; }", []int64{0, 7}, []turn{{0, 2, "halt"}}, []int64{0, 7, -7, 0, 1}, nil},
	// each thread's own locals, and all threads' words
	{"public int n; thread { out n; var public int x = 1; out x; } thread { out n; var public int x = 2; out x; }", []int64{4}, []turn{{1, 9, "1: 4"}, {0, 9, "4"}, {0, 9, "1"}, {1, 9, "1: 2"}, {0, 9, "halt"}, {1, 9, "1: halt"}}, []int64{4}, nil},
	{"lock m; public int n by m; thread { lock m { n = n + 1; out n; } } thread { lock m { n = n * 5; out n; } }", []int64{1}, []turn{{0, 9, "lock 0"}, {0, 9, "2"}, {0, 0, "unlock 0"}, {1, 9, "1: lock 0"}, {1, 9, "1: 10"}}, []int64{10}, []int{1}},
	{"lock m; public int n by m; thread { lock m { n = n + 1; out n; } } thread { lock m { n = n * 5; out n; } }", []int64{1}, []turn{{1, 9, "1: lock 0"}, {1, 9, "1: 5"}, {1, 0, "1: unlock 0"}, {0, 9, "lock 0"}, {0, 9, "6"}}, []int64{6}, []int{0}},
	// locks: a thread waits ahead of its Hold
	{"lock m; thread { lock m { out 1; } } thread { out 2; lock m { out 3; } }", nil, []turn{{0, 9, "lock 0"}, {1, 9, "1: 2"}, {1, 9, "waits"}, {1, 9, "waits"}, {0, 9, "1"}, {1, 9, "waits"}, {0, 9, "unlock 0"}, {1, 9, "1: lock 0"}, {0, 9, "halt"}, {1, 9, "1: 3"}, {1, 9, "1: unlock 0"}, {1, 9, "1: halt"}}, nil, []int{-1}},
	{"lock m; lock n; thread { lock m { lock n { } } } thread { lock n { lock m { } } }", nil, []turn{{0, 9, "lock 0"}, {1, 9, "1: lock 1"}, {0, 9, "waits"}, {1, 9, "waits"}, {0, 9, "waits"}}, nil, []int{0, 1}},
	{"lock m; lock n; thread { lock n { } } thread { lock m { } }", nil, []turn{{0, 9, "lock 1"}, {1, 9, "1: lock 0"}}, nil, []int{1, 0}},
	{"lock m; lock n; lock o; thread { lock n { } }", nil, []turn{{0, 9, "lock 1"}}, nil, []int{-1, 0, -1}},
	{"lock m; thread { lock m { } } thread { lock m { } } thread { lock m { } } thread { lock m { } }", nil, []turn{{3, 1, "3: lock 0"}, {0, 1, "waits"}, {1, 1, "waits"}, {2, 1, "waits"}, {3, 0, "3: unlock 0"}, {2, 1, "2: lock 0"}, {3, 1, "3: halt"}}, nil, []int{2}},
	// a trap: what was changed ahead of it is, the statement itself changes nothing, locks stay owned
	{"lock m; public int n by m; public int a; thread { a = 3; lock m { n = 2; n = 1 / 0; n = 3; } } thread { lock m { } }", nil, []turn{{0, 9, "lock 0"}, {0, 9, "trap 1"}, {0, 9, "ended"}, {1, 9, "waits"}, {1, 9, "waits"}, {0, 9, "ended"}}, []int64{2, 3}, []int{0}},
	{"lock m; lock n; thread { lock m { lock n { out 1 % 0; } } }", nil, []turn{{0, 9, "lock 0"}, {0, 9, "lock 1"}, {0, 9, "trap 1"}}, nil, []int{0, 0}},
	{"public int t[2]; thread { t[0] = 1; t[1] = t[2]; } thread { out 5; }", nil, []turn{{0, 9, "trap 2"}, {1, 9, "1: 5"}, {0, 9, "ended"}, {1, 9, "1: halt"}}, []int64{1, 0}, nil},
	// fuel: one for each statement; none for events behind a block, or at the end
	{"thread { out 1; out 2; }", nil, []turn{{0, 0, "tired"}, {0, -1, "tired"}, {0, math.MinInt, "tired"}, {0, 1, "1"}, {0, 0, "tired"}, {0, 1, "2"}, {0, 0, "halt"}, {0, 0, "ended"}}, nil, nil},
	{"public int n; thread { n = 1; n = 2; n = 3; }", nil, []turn{{0, 1, "tired"}, {0, 0, "tired"}}, []int64{1}, nil},
	{"public int n; thread { n = 1; n = 2; n = 3; }", nil, []turn{{0, 1, "tired"}, {0, 1, "tired"}}, []int64{2}, nil},
	{"public int n; thread { n = 1; n = 2; n = 3; }", nil, []turn{{0, 2, "tired"}, {0, 1, "halt"}}, []int64{3}, nil},
	{"lock m; thread { lock m { } }", nil, []turn{{0, 0, "tired"}, {0, -3, "tired"}, {0, 1, "lock 0"}, {0, 0, "unlock 0"}, {0, 0, "halt"}}, nil, []int{-1}},
	{"lock m; thread { lock m { } } thread { lock m { } }", nil, []turn{{0, 1, "lock 0"}, {1, 0, "tired"}, {1, 1, "waits"}, {1, 0, "tired"}}, nil, []int{0}},
	{"lock m; public int n by m; thread { lock m { if (true) { n = 1; } } }", nil, []turn{{0, 1, "lock 0"}, {0, 1, "tired"}, {0, 0, "tired"}, {0, 1, "unlock 0"}}, []int64{1}, []int{-1}},
	{"thread { var public int i = 0; while (i < 2) { out i; i = i + 1; } }", nil, []turn{{0, 2, "tired"}, {0, 1, "0"}, {0, 1, "tired"}, {0, 1, "tired"}, {0, 1, "1"}, {0, 1, "tired"}, {0, 0, "tired"}, {0, 1, "halt"}}, nil, nil},
	{"thread { while (true) { } }", nil, []turn{{0, 0, "tired"}, {0, 1, "tired"}, {0, 1000, "tired"}}, nil, nil},
	{"thread { out 1 / 0; }", nil, []turn{{0, 0, "tired"}, {0, 1, "trap 1"}}, nil, nil},
	// what one thread lacks plays no part for another
	{"public int a; public int b; thread { a = 1; out a; } thread { b = 1; out b; }", nil, []turn{{0, 1, "tired"}, {1, 2, "1: 1"}, {1, 0, "1: halt"}, {0, 1, "1"}}, []int64{1, 1}, nil},
}

// P10.1 to P10.3: turns, by hand, and what stands in memory, and who owns locks, behind them.
func TestPlays(t *testing.T) {
	for _, x := range plays {
		r := begun(t, x.text, x.mem...)
		for i, y := range x.turns {
			if got := next(r, y.thread, y.fuel); got != y.want {
				t.Errorf("%q: turn %d: %s, not %s", x.text, i, got, y.want)
			}
		}
		if m := r.Memory(); !slices.Equal(m, x.memory) {
			t.Errorf("%q: %v, not %v", x.text, m, x.memory)
		}
		for i, want := range x.owners {
			if got := r.Owner(i); got != want {
				t.Errorf("%q: %d owns lock %d, not %d", x.text, got, i, want)
			}
		}
	}
}

// odd are numbers that are no thread's, and no lock's, where there are four.
var odd = []int{math.MinInt, math.MinInt + 1, -1 << 32, -2, -1, 4, 5, 8, 1 << 32, 1<<32 + 1, math.MaxInt}

// P10.1, P10.3: of threads, and of locks, that there aren't, there is nothing, and nothing comes of asking.
func TestNoThreadNoLock(t *testing.T) {
	r := begun(t, "lock a; lock b; lock c; lock d; public int n; thread { lock a { n = 1; } } thread { } thread { } thread { }")
	if got := next(r, 0, 1); got != "lock 0" {
		t.Error(got)
	}
	for _, n := range odd {
		for _, fuel := range []int{math.MinInt, -1, 0, 1, math.MaxInt} {
			if got := next(r, n, fuel); got != "ended" {
				t.Errorf("thread %d: %s", n, got)
			}
		}
		if got := r.Owner(n); got != -1 {
			t.Errorf("lock %d: %d", n, got)
		}
	}
	if r.Owner(0) != 0 || r.Owner(3) != -1 || !slices.Equal(r.Memory(), []int64{0}) {
		t.Error(r.Owner(0), r.Owner(3), r.Memory())
	}
}

// P10.1: of nil: no event, Ended; it has no words, and no locks.
func TestNil(t *testing.T) {
	var r *source.Run
	for _, n := range append([]int{0, 1}, odd...) {
		if got := next(r, n, plenty); got != "ended" {
			t.Errorf("thread %d: %s", n, got)
		}
		if got := r.Owner(n); got != -1 {
			t.Errorf("lock %d: %d", n, got)
		}
	}
	if m := r.Memory(); len(m) != 0 {
		t.Error(m)
	}
}

// P10.3: who owns each lock, and what stands in memory, turn by turn.
func TestMemoryAndOwners(t *testing.T) {
	r := begun(t, "lock m; lock n; public int a by m; secret int k by n; thread { lock m { a = 1; lock n { k = 2; } a = 3; } } thread { lock n { k = k + 5; } }", 8, 9)
	for i, x := range []struct {
		thread, fuel int
		want         string
		m, n         int
		memory       []int64
	}{
		{0, 0, "tired", -1, -1, []int64{8, 9}}, {0, 1, "lock 0", 0, -1, []int64{8, 9}}, {1, 1, "1: lock 1", 0, 1, []int64{8, 9}}, {0, 2, "waits", 0, 1, []int64{1, 9}},
		{1, 1, "1: unlock 1", 0, -1, []int64{1, 14}}, {0, 1, "lock 1", 0, 0, []int64{1, 14}}, {1, 0, "1: halt", 0, 0, []int64{1, 14}}, {0, 1, "unlock 1", 0, -1, []int64{1, 2}},
		{0, 0, "tired", 0, -1, []int64{1, 2}}, {0, 1, "unlock 0", -1, -1, []int64{3, 2}}, {0, 1, "halt", -1, -1, []int64{3, 2}},
	} {
		got := next(r, x.thread, x.fuel)
		if got != x.want || r.Owner(0) != x.m || r.Owner(1) != x.n || !slices.Equal(r.Memory(), x.memory) {
			t.Errorf("turn %d: %s, %d, %d, %v", i, got, r.Owner(0), r.Owner(1), r.Memory())
		}
	}
}
