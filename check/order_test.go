package check_test

import (
	"strings"
	"testing"

	"paling/api"
)

// part is one of a text's: as it may be, or with an error, at its sign.
type part struct {
	bad         api.Errno
	good, wrong string
}

// inOrder holds the errors of a text's parts, which stand where $a, $b and so on do, against the parts' order: of any two, and of all, the first one counts, wherever it stands.
func inOrder(t *testing.T, text string, parts ...part) {
	t.Helper()
	var good []string
	for _, p := range parts {
		good = append(good, p.good)
	}
	fine(t, filled(text, good))
	for i, p := range parts {
		one := append([]string{}, good...)
		one[i] = p.wrong
		wrong(t, p.bad, filled(text, one))
		all := append([]string{}, one...)
		for j := i + 1; j < len(parts); j++ {
			unsigned := strings.Replace(parts[j].wrong, "@", "", 1)
			two := append([]string{}, one...)
			two[j], all[j] = unsigned, unsigned
			wrong(t, p.bad, filled(text, two))
		}
		wrong(t, p.bad, filled(text, all))
	}
}

// filled is a text with its parts.
func filled(text string, parts []string) string {
	for i, s := range parts {
		text = strings.ReplaceAll(text, "$"+string(rune('a'+i)), s)
	}
	return text
}

// P8.1: thing by thing, however they are mixed in the text.
func TestOrderOfThings(t *testing.T) {
	inOrder(t, "thread { $h lock z { s = 1; r = s; } } thread { out e; lock z { out s; out r; } $i } func $d public int { $e return $f; } func h() public int { return $g; }"+
		" public int $b; lock z; public bool $c; lock $a; public int $j; public int $k; public int e;",
		part{api.ErrName, "y", "@z"},
		part{api.ErrName, "ga by z", "@ga by no"},
		part{api.ErrName, "gb by z", "@gb by no"},
		part{api.ErrName, "f(public int a)", "@f(public int a, public bool a)"},
		part{api.ErrGuard, "", "@out u;"},
		part{api.ErrType, "1", "@true"},
		part{api.ErrName, "f(1)", "@h()"},
		part{api.ErrName, "", "out @u;"},
		part{api.ErrType, "", "@lock e { }"},
		part{api.ErrGuard, "s by z", "@s"},
		part{api.ErrGuard, "r by z", "@r"})
}

// P8.1: in a function: params, statements, what it comes to.
func TestOrderInFunctions(t *testing.T) {
	inOrder(t, "func $a public int { var secret int s = b; $b if (true) { $c } else { $d } $e return $f; } func $g public int { $h return 1; }",
		part{api.ErrName, "f(public int a, public int b)", "@f(public int b, public int b)"},
		part{api.ErrType, "var public int x = 1;", "var public int x = @true;"},
		part{api.ErrGuard, "x = 2;", "@out x;"},
		part{api.ErrName, "", "@u = 1;"},
		part{api.ErrName, "while (x < b) { }", "@var public int b = 1;"},
		part{api.ErrLabel, "x", "@x + s"},
		part{api.ErrName, "g(public int a)", "@g(public int f)"},
		part{api.ErrGuard, "", "@out 1;"})
}

// P8.1: looking at an expression: its type's error, then calls that may not be, then globals that may not be used, from the front on.
func TestOrderOfLooking(t *testing.T) {
	inFunction := func(bad api.Errno, rets ...string) {
		t.Helper()
		for _, ret := range rets {
			wrongIn(t, bad, "func f(public int a) public int { return "+ret+"; } func late(public int a) public int { return a; }", "func f(public int a) public int { var public bool x = "+ret+"; return 1; } func late(public int a) public int { return a; }")
		}
	}
	inFunction(api.ErrName, "n + f(1) + @u", "late(n) - an[@u]", "n + @f(1)", "n + @late(1) + f(2)", "an[n] + am[@f(n)]", "n / (gm - @f(n))", "one() + n + @late(n)", "@f(late(n))", "@late(f(1))", "one() - @f(an[late(1)])", "an[@late(an[f(n)])] + f(1)")
	inFunction(api.ErrType, "n + f(1) + @true", "f(@t) + late(u)", "n + -@t", "late(n) + @an", "f(n) + @late(1, 2)")
	inFunction(api.ErrLabel, "n + an[@N] + f(1)", "n / @mix(n, t)", "late(n) % @N", "f(@N)")
	inFunction(api.ErrGuard, "@n + an[1]", "one() + @an[n]", "1 + @am[gm]", "(@gm + n) * n", "-@an[am[gm]]")
	for _, frame := range []string{"out $a;", "var public bool x = $a;", "n = $a;", "an[$a] = u;", "an[n] = $a;", "if ($a) { out u; }", "while ($a) { lock u { } }", "lock k { out $a + gm; }"} {
		for text, bad := range map[string]api.Errno{
			"gm + @u": api.ErrName, "am[gm] + @u": api.ErrName, "am[@u] + gm": api.ErrName, "gm - @one(u)": api.ErrType, "gm + @true": api.ErrType, "am[@gk] + 1": api.ErrType, "am[@Nk[0]] + 1": api.ErrLabel, "gm / @N": api.ErrLabel,
			"@gm + am[0]": api.ErrGuard, "@am[gm]": api.ErrGuard, "n + @am[an[gm]]": api.ErrGuard, "an[@am[gm]] + gm": api.ErrGuard, "one() - @gm * gm": api.ErrGuard,
		} {
			wrongIn(t, bad, "thread { "+filled(frame, []string{text})+" }")
		}
	}
}

// P8.2: what is told of a statement first, if more than one thing is wrong with it.
func TestOrderInStatements(t *testing.T) {
	wrongEverywhere(t, api.ErrGuard,
		"var public bool x = @gm;", "var public int n = @gm;", "var public int x = @Nk[0];", "var public bool n = @Nk[n];",
		"n = @gk;", "n = @Nk[0];", "an[@gk] = u;", "an[@Nk[0]] = u;", "am[@gm] = true;", "gm = @gm + N;", "gm = @gk;", "am[0] = @gm;", "am[0] = @Nk[0];", "aN[0] = @am[gm] + N;", "t = @gm + N;",
		"if (@gm) { }", "while (@gm == N) { out u; }", "if (@Nk[0] < 1) { }", "if (@gk || T) { }", "while (@Nk[0]) { }", "out @Nk[0];", "out N + @gm;", "out @gm + N;")
	wrongEverywhere(t, api.ErrType,
		"var public int n = @true;", "var public int x = @T;", "@an = N;", "@an = gm;", "@n[u] = gm;", "an[@T] = gm;", "aN[@t] = u;", "am[@true] = gm;", "gm = @T;", "am[0] = @T;", "gm = @t;", "t = @N;", "lock m { gm = @T; gk = t; }",
		"if (@N) { }", "while (@1 + N) { lock u { } }", "lock m { if (@gm + N) { u = 1; } }", "@lock gm { gm = u; }")
	wrongEverywhere(t, api.ErrLabel,
		"var public int n = @N;", "var public bool one = @T;", "an[@N] = u;", "am[@N] = gm;", "gm = @N;", "am[n] = @n + N;", "if (@T) { out u; }", "while (@N < 1) { lock m { lock m { } } }")
	wrongEverywhere(t, api.ErrName,
		"var public int n = @u;", "@u = gm;", "@u[gm] = gm;", "am[@u] = gm;", "gm = @u;", "gm = gm + @u;", "if (gk == @u) { out v; }", "if (gm < @u) { }", "if (t) { out @u; } else { out gm; }", "@lock u { gm = 1; }", "out gm + N / @u;")
	wrongIn(t, api.ErrGuard, "func f() public int { @out u; return 1; }", "func f() public int { @out n; return 1; }", "func f() public int { @out f(); return 1; }", "func f() public int { @out an; return 1; }", "func f() public int { @lock m { lock m { } } return 1; }",
		"func f() public int { n = @gm; return 1; }", "func f() public int { an[@n] = gm; return 1; }", "func f() public int { @an[0] = 1; return n; }", "func f() public int { var public bool n = @n; return 1; }", "func f() public int { if (@n) { } return 1; }", "func f() public int { while (@N) { } return 1; }")
	wrongIn(t, api.ErrType, "func f() public int { n = @true; return 1; }", "func f() public int { an[@false] = n; return 1; }", "func f() public int { @an = n; return 1; }", "func f() public int { if (@1) { out 1; } return n; }")
	wrongIn(t, api.ErrLabel, "func f(secret int s) public int { n = @s; return 1; }", "func f(secret int s) public int { an[@s] = n; return 1; }", "func f(secret bool s) public int { while (@s) { out 1; } return n; }")
}
