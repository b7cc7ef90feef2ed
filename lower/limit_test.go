package lower_test

import (
	"slices"
	"strconv"
	"strings"
	"testing"

	"paling/api"
	"paling/check"
	"paling/lower"
)

// limits are things that stand at a thread's end, and what they come to, with the Halt and the traps, where that ends at 4096 instructions.
var limits = []struct{ text, want string }{
	{"", "halt"},
	{"out x;", "out r1; halt"},
	{"n = x;", "store 0 r1; halt"},
	{"var public int y = x;", "move r4 r1; halt"},
	{"out 7;", "set r4 7; out r4; halt"},
	{"lock m { }", "take 0; give 0; halt"},
	{"if (b) { }", "zero r3 4095; halt"},
	{"if (b) { } else { x = x; }", "zero r3 4094; jump 4095; move r1 r1; halt"},
	{"while (b) { }", "zero r3 4095; jump 4093; halt"},
	{"x = n / x;", "load r4 0; zero r1 4095; calc r5 r4 / r1; move r1 r5; halt; trap 1"},
	{"n = t[x];", "move r4 r1; set r5 3; calc r6 r4 below r5; zero r6 4095; load r7 1 r4; store 0 r7; halt; trap 2"},
	{"t[x] = f(x);", "set r4 3; calc r5 r1 below r4; zero r5 4095; move r6 r1; set r7 0; move r8 r7; move r8 r6; move r9 r1; set r10 3; calc r11 r9 below r10; set r12 0; pick r12 r11 r9; store 1 r8 r12; halt; trap 2"},
	{"n = t[x % x];", "zero r1 4094; calc r4 r1 % r1; move r5 r4; set r6 3; calc r7 r5 below r6; zero r7 4095; load r8 1 r5; store 0 r8; halt; trap 1; trap 2"},
	{"x = t[x]; x = x / x;", "move r4 r1; set r5 3; calc r6 r4 below r5; zero r6 4095; load r7 1 r4; move r1 r7; zero r1 4094; calc r8 r1 / r1; move r1 r8; halt; trap 1; trap 2"},
}

// limited is a program of three threads, of which one has so many instructions ahead of some statements, the first four of them for locals, and the others have few.
func limited(t *testing.T, n, many int, text string) api.Program {
	t.Helper()
	threads := slices.Repeat([]string{"thread { out 1; } "}, 3)
	threads[n] = "thread { var public int x = 5; var public bool b = true; " + text + " } "
	p := program(t, "public int n; public int t[3]; lock m; func f(public int a) public int { var public int c = 0; c = a; return c; } "+strings.Join(threads, ""))
	same := api.Stmt{Kind: api.Assign, Name: "x", E: []api.Expr{{Kind: api.Var, Name: "x"}}}
	p.Threads[n] = slices.Insert(p.Threads[n], 2, slices.Repeat([]api.Stmt{same}, many-4)...)
	if bad, at := check.Program(p); bad != api.OK {
		t.Fatal(bad, at)
	}
	return p
}

// P13.1: 4096 instructions may be, with the Halt and the traps; one more may not, whatever it is.
func TestLimits(t *testing.T) {
	for i, x := range limits {
		room := 4096 - len(strings.Split(x.want, ";"))
		n := i % 3
		p := limited(t, n, room, x.text)
		c, ok := lower.Thread(p, n)
		if got := shown(c); !ok || len(c) != 4096 || !strings.HasSuffix(got, "; move r1 r1; "+x.want) {
			t.Errorf("%q: %t, %d: %s", x.text, ok, len(c), got[max(len(got)-300, 0):])
		}
		if l, ok := lower.Program(p); !ok || len(l) != 3 || !slices.Equal(l[n], c) {
			t.Errorf("%q: %t, %d", x.text, ok, len(l))
		}
		if c, ok = lower.Thread(limited(t, n, room-1, x.text), n); !ok || len(c) != 4095 {
			t.Errorf("%q: %t, %d", x.text, ok, len(c))
		}
		for more := 1; more < 16; more++ {
			p := limited(t, n, room+more, x.text)
			if c, ok = lower.Thread(p, n); ok || len(c) != 0 {
				t.Errorf("%q, and %d: %t, %d", x.text, more, ok, len(c))
			}
			if l, ok := lower.Program(p); ok || len(l) != 0 {
				t.Errorf("%q, and %d: %t, %d", x.text, more, ok, len(l))
			}
			if c, ok = lower.Thread(p, (n+1)%3); !ok || shown(c) != "set r0 1; out r0; halt" {
				t.Errorf("%q, and %d: %t, %s", x.text, more, ok, shown(c))
			}
		}
	}
}

// P13.1: functions that would come to far more than there may be come to none, and to that soon.
func TestFarTooMany(t *testing.T) {
	for _, ret := range []string{"#(a) + #(a)", "#(#(#(#(#(#(a))))))", "a + #(#(a) / #(#(a)))", "#(1 - #(a)) - -#(a)"} {
		for functions := range api.MaxFuncs {
			text, last := "", "f0"
			for i := range functions + 1 {
				name, ret := "f"+strconv.Itoa(i), strings.ReplaceAll(ret, "#", last)
				if i == 0 {
					ret = "a"
				}
				text += "func " + name + "(public int a) public int { return " + ret + "; } "
				last = name
			}
			for _, body := range []string{"out " + last + "(1);", "while (" + last + "(2) < 3) { }", "if (" + last + "(2) < 3) { } else { out 1; }", "var public int x = " + last + "(0);"} {
				holds(t, program(t, text+"thread { "+body+" }"))
			}
		}
	}
}

// As many things as there may be: functions that call all ahead of them, params, locks one within the other, words, and blocks.
func TestMost(t *testing.T) {
	var b strings.Builder
	b.WriteString("func f0(public int a) public int { return a + 1; }\n")
	for i := 1; i < api.MaxFuncs; i++ {
		b.WriteString("func f" + strconv.Itoa(i) + "(public int a, public int b, public int c, public int d, public int e, public int f) public int { return f0(a) - b * c % d - (e << f); }\n")
	}
	for i := range api.MaxLocks {
		b.WriteString("lock m" + strconv.Itoa(i) + ";\n")
	}
	for i := range api.MaxGlobals {
		b.WriteString([]string{"secret", "public"}[i%2] + " int g" + strconv.Itoa(i) + "[" + strconv.Itoa(64-i%2) + "];\n")
	}
	b.WriteString("thread { out f15(1, 2, 3, 4, 5, 6) + f1(6, 5, 4, 3, 2, 1); }\nthread { g31[63] = g1[0]; g30[63] = g0[g31[63]] + g31[62]; }\nthread { ")
	for i := range api.MaxLocks {
		b.WriteString("lock m" + strconv.Itoa(i) + " { ")
	}
	b.WriteString(strings.Repeat("} ", api.MaxLocks) + "}\nthread { " + strings.Repeat("while (true) { if (true) { ", 15) + "out 3; " + strings.Repeat("} else { out 4; } } ", 15) + "}")
	if holds(t, program(t, b.String())) != 0 {
		t.Error(b.String())
	}
	is(t, "thread { "+strings.Repeat("if (true) { ", 31)+strings.Repeat("} ", 31)+"}", 0, whiles(31))
}

// whiles is what as many truths within one another come to, each of which leads to the end.
func whiles(many int) string {
	s := ""
	for i := range many {
		s += "set r" + strconv.Itoa(i) + " 1; zero r" + strconv.Itoa(i) + " " + strconv.Itoa(2*many) + "; "
	}
	return s + "halt"
}

// nested is statements within as many others.
func nested(kind, levels int, name string, l []api.Stmt) []api.Stmt {
	for range levels {
		l = []api.Stmt{{Kind: kind, E: []api.Expr{{Kind: api.Var, Name: name}}, Body: l}}
	}
	return l
}

// How deep things are, plays no part: places are right, and too many instructions are told, on any level.
func TestDeep(t *testing.T) {
	let := api.Stmt{Kind: api.Let, Name: "b", Type: api.Type{Truth: true}, E: []api.Expr{{Kind: api.Truth}}}
	for _, x := range []struct{ kind, levels, many, last int }{{api.If, 4093, 4096, 4095}, {api.If, 4094, 0, 0}, {api.If, 1 << 16, 0, 0}, {api.While, 2046, 4095, 4094}, {api.While, 2047, 0, 0}, {api.While, 1 << 16, 0, 0}} {
		p := api.Program{Threads: [][]api.Stmt{append([]api.Stmt{let}, nested(x.kind, x.levels, "b", nil)...)}}
		if bad, at := check.Program(p); bad != api.OK {
			t.Fatal(bad, at)
		}
		c, ok := lower.Thread(p, 0)
		if len(c) != x.many || ok != (x.many > 0) {
			t.Errorf("%v: %t, %d", x, ok, len(c))
		}
		if ok && (c[2] != api.Ins{Kind: api.Zero, A: 1, To: x.last}) {
			t.Errorf("%v: %v", x, c[2])
		}
	}
	for _, x := range []struct{ kind, levels, many int }{{api.Neg, 2046, 4095}, {api.Neg, 2047, 0}, {api.Neg, 1 << 16, 0}, {api.Two, 2046, 4095}, {api.Two, 2047, 0}, {api.Two, 1 << 16, 0}} {
		e := api.Expr{N: 1}
		for range x.levels {
			kids := []api.Expr{{N: 1}, e}
			if x.kind == api.Neg {
				kids = kids[1:]
			}
			e = api.Expr{Kind: x.kind, Kids: kids}
		}
		put := api.Stmt{Kind: api.Put, E: []api.Expr{e}}
		c, ok := lower.Thread(api.Program{Threads: [][]api.Stmt{{put}}}, 0)
		if len(c) != x.many || ok != (x.many > 0) {
			t.Errorf("%v: %t, %d", x, ok, len(c))
		}
	}
}
