package expr_test

import (
	"math"
	"reflect"
	"slices"
	"strings"
	"testing"
	"unsafe"

	"paling/api"
	"paling/expr"
	"paling/lex"
)

// of is the expression of a text that is one.
func of(t *testing.T, s string) api.Expr {
	t.Helper()
	e, bad, at := expr.Of(s)
	if bad != api.OK || at != 0 {
		t.Fatalf("Of(%.60q): %d, %d", s, int(bad), at)
	}
	return e
}

// P3.1, P3.2: written out, with all places.
func TestOfByHand(t *testing.T) {
	a := func(at int) api.Expr { return api.Expr{Kind: api.Var, Name: "a", At: at} }
	b := func(at int) api.Expr { return api.Expr{Kind: api.Var, Name: "b", At: at} }
	num := func(n int64, at int) api.Expr { return api.Expr{Kind: api.Num, N: n, At: at} }
	two := func(op int, l, r api.Expr) api.Expr {
		return api.Expr{Kind: api.Two, Op: op, Kids: []api.Expr{l, r}, At: l.At}
	}
	one := func(kind, at int, e api.Expr) api.Expr {
		return api.Expr{Kind: kind, Kids: []api.Expr{e}, At: at}
	}
	for s, want := range map[string]api.Expr{
		"a":                   a(0),
		" a // b":             a(1),
		"0":                   num(0, 0),
		"9223372036854775807": num(math.MaxInt64, 0),
		"true":                {Kind: api.Truth, N: 1},
		" false":              {Kind: api.Truth, At: 1},
		"a()":                 {Kind: api.Call, Name: "a"},
		"true_":               {Kind: api.Var, Name: "true_"},
		"a [b] ":              {Kind: api.Elem, Name: "a", Kids: []api.Expr{b(3)}},
		"a (b, 3)":            {Kind: api.Call, Name: "a", Kids: []api.Expr{b(3), num(3, 6)}},
		"((a))":               a(2),
		"-a":                  one(api.Neg, 0, a(1)),
		"-7":                  one(api.Neg, 0, num(7, 1)),
		"!!a":                 one(api.Not, 0, one(api.Not, 1, a(2))),
		"-(a)":                one(api.Neg, 0, a(2)),
		"-a*b":                two(api.Mul, one(api.Neg, 0, a(1)), b(3)),
		"-a[b]":               one(api.Neg, 0, api.Expr{Kind: api.Elem, Name: "a", Kids: []api.Expr{b(3)}, At: 1}),
		"a - b - -a * 2":      two(api.Sub, two(api.Sub, a(0), b(4)), two(api.Mul, one(api.Neg, 8, a(9)), num(2, 13))),
		"(a) + b":             two(api.Add, a(1), b(6)),
		"(a + b) * a":         two(api.Mul, two(api.Add, a(1), b(5)), a(10)),
		"a + (b + a)":         two(api.Add, a(0), two(api.Add, b(5), a(9))),
		"a||b&&a|b^a&b==a<b<<a+b*a": two(api.Any, a(0), two(api.Both, b(3), two(api.Or, a(6), two(api.Xor, b(8), two(api.And, a(10),
			two(api.Eq, b(12), two(api.Lt, a(15), two(api.Shl, b(17), two(api.Add, a(20), two(api.Mul, b(22), a(24))))))))))),
		"a*b+a<<b<a==b&a^b|a&&b||a": two(api.Any, two(api.Both, two(api.Or, two(api.Xor, two(api.And, two(api.Eq, two(api.Lt, two(api.Shl,
			two(api.Add, two(api.Mul, a(0), b(2)), a(4)), b(7)), a(9)), b(12)), a(14)), b(16)), a(18)), b(21)), a(24)),
	} {
		e, bad, at := expr.Of(s)
		if bad != api.OK || at != 0 || !reflect.DeepEqual(e, want) {
			t.Errorf("Of(%q) = %v, %d, %d, not %v", s, e, int(bad), at, want)
		}
	}
}

// wrong holds Of of a text that is no expression against what is wrong with it.
func wrong(t *testing.T, s string, bad api.Errno, at int) {
	t.Helper()
	if e, bad2, at2 := expr.Of(s); bad2 != bad || at2 != at || !reflect.DeepEqual(e, api.Expr{}) {
		t.Errorf("Of(%.60q) = %v, %d, %d, not %d, %d", s, e, int(bad2), at2, int(bad), at)
	}
}

// P3.2: what is wrong, and where.
func TestOfWrong(t *testing.T) {
	for s, want := range map[string]struct {
		bad api.Errno
		at  int
	}{
		"": {api.ErrSyntax, 0}, "  ": {api.ErrSyntax, 2}, "// a": {api.ErrSyntax, 4}, "+": {api.ErrSyntax, 0}, "-": {api.ErrSyntax, 1},
		"a b": {api.ErrSyntax, 2}, "a 1": {api.ErrSyntax, 2}, "1(a)": {api.ErrSyntax, 1}, "true(a)": {api.ErrSyntax, 4}, "false[1]": {api.ErrSyntax, 5},
		"a[1][2]": {api.ErrSyntax, 4}, "f(a)(b)": {api.ErrSyntax, 4}, "(f)(b)": {api.ErrSyntax, 3}, "(a": {api.ErrSyntax, 2}, "(a]": {api.ErrSyntax, 2}, "a[1)": {api.ErrSyntax, 3},
		"a[]": {api.ErrSyntax, 2}, "a[1,2]": {api.ErrSyntax, 3}, "()": {api.ErrSyntax, 1}, "(a,b)": {api.ErrSyntax, 2}, "f(": {api.ErrSyntax, 2}, "f(,)": {api.ErrSyntax, 2}, "f(a,)": {api.ErrSyntax, 4},
		"f(a b)": {api.ErrSyntax, 4}, "a + + b": {api.ErrSyntax, 4}, "a !b": {api.ErrSyntax, 2}, "a ! = b": {api.ErrSyntax, 2}, "a = b": {api.ErrSyntax, 2}, "a;": {api.ErrSyntax, 1}, "{": {api.ErrSyntax, 0},
		"if": {api.ErrSyntax, 0}, "a + int": {api.ErrSyntax, 4}, "by[1]": {api.ErrSyntax, 0}, "out(1)": {api.ErrSyntax, 0}, "f(while)": {api.ErrSyntax, 2},
		"a $": {api.ErrLex, 2}, ") $": {api.ErrLex, 2}, "a + 01": {api.ErrLex, 4}, "-9223372036854775808": {api.ErrLex, 1}, "b " + strings.Repeat("a", 25): {api.ErrLimit, 2},
		strings.Repeat(" ", 16385): {api.ErrLimit, 0}, strings.Repeat(" ", 16384): {api.ErrSyntax, 16384},
	} {
		wrong(t, s, want.bad, want.at)
	}
}

// P3.1: how deep things may be, of each kind and mixed; at is where the last of an opening's words that count stands.
func TestDeep(t *testing.T) {
	many := strings.Repeat
	for _, c := range []struct {
		opening, closing string
		at               int
	}{{"-", "", 0}, {"!", "", 0}, {"(", ")", 0}, {"a[", "]", 1}, {"f(", ")", 1}, {"f(a,", ")", 1}, {"a+(", ")", 2}, {"a*a-b[", "]", 5}} {
		for n := range 33 {
			of(t, many(c.opening, n)+"a"+many(c.closing, n))
		}
		of(t, many(many(c.opening, 32)+"a"+many(c.closing, 32)+" * ", 3)+"a")
		wrong(t, many(c.opening, 33)+"a"+many(c.closing, 33), api.ErrLimit, 32*len(c.opening)+c.at)
	}
	wrong(t, many("-", 32)+"a[1]", api.ErrLimit, 33)
	wrong(t, many("!", 32)+"f()", api.ErrLimit, 33)
	wrong(t, many("-", 31)+"(-1)", api.ErrLimit, 32)
	wrong(t, many("(", 32)+"a+-1", api.ErrLimit, 34)
	wrong(t, many("f(", 32)+"a,b,!c", api.ErrLimit, 68)
}

// P3.1: what has ended isn't open any more.
func TestNotDeep(t *testing.T) {
	many := strings.Repeat
	of(t, many("-(", 16)+"a"+many(")", 16)+"+"+many("!(", 16)+"a"+many(")", 16))
	of(t, many("(", 31)+"f()+f()*(a)-a[1]- -a"+many(")", 31)+"+"+many("(", 32)+"a"+many(")", 32))
	of(t, many("f(", 31)+many("-a,", 100)+many("(a),", 100)+"!a"+many(")", 31))
	of(t, many("-", 31)+"a[1]")
	of(t, many("-", 31)+"f()")
	of(t, many("-", 30)+"(-1)")
	of(t, many("-", 32)+"a"+many("--a", 100))
}

// P3.1: of words that are wrong and ones that are too deep, those that come first.
func TestDeepAndWrong(t *testing.T) {
	many := strings.Repeat
	wrong(t, many("(", 33), api.ErrLimit, 32)
	wrong(t, many("(", 33)+"while", api.ErrLimit, 32)
	wrong(t, many("-", 33)+"+", api.ErrLimit, 32)
	wrong(t, many("(", 32)+"f)", api.ErrSyntax, 34)
	wrong(t, many("(", 32)+"+"+many("(", 32), api.ErrSyntax, 32)
	wrong(t, "while"+many("-", 33), api.ErrSyntax, 0)
	wrong(t, many("(", 33)+"$", api.ErrLex, 33)
}

// P3.1: an expression in the midst of words; the longest that there is.
func TestParseFrom(t *testing.T) {
	l := words(t, "x = a + 1 ; f(b) [ 2 ] true")
	for from, want := range []struct {
		text   string
		behind int
		at     int
	}{
		{"x", 1, 0}, {"", 0, 2}, {"a + 1", 5, 0}, {"", 0, 6}, {"1", 5, 0}, {"", 0, 10}, {"f(b)", 10, 0}, {"b", 10, 0}, {"b", 9, 0}, {"", 0, 15}, {"", 0, 17}, {"2", 12, 0}, {"", 0, 21}, {"true", 14, 0}, {"", 0, 27},
	} {
		e, n, bad, at := expr.Parse(l, from)
		if want.text == "" {
			if bad != api.ErrSyntax || n != 0 || at != want.at || !reflect.DeepEqual(e, api.Expr{}) {
				t.Errorf("from %d: %v, %d, %d, %d", from, e, n, int(bad), at)
			}
		} else if bad != api.OK || at != 0 || n != want.behind || expr.Show(e) != want.text {
			t.Errorf("from %d: %v, %d, %d, %d", from, e, n, int(bad), at)
		}
	}
}

// P3.1: no words, or none from there on.
func TestParseOfNothing(t *testing.T) {
	l := words(t, "a + b")
	for _, c := range []struct {
		l    []lex.Word
		from int
	}{{nil, 0}, {nil, 1}, {nil, -1}, {[]lex.Word{}, 0}, {l[:0], 0}, {l, -1}, {l, len(l)}, {l, len(l) + 1}, {l, math.MinInt}, {l, math.MaxInt}} {
		if e, n, bad, at := expr.Parse(c.l, c.from); !reflect.DeepEqual(e, api.Expr{}) || n != 0 || bad != api.ErrSyntax || at != 0 {
			t.Errorf("Parse(%v, %d) = %v, %d, %d, %d", c.l, c.from, e, n, int(bad), at)
		}
	}
}

// Rule 1: lists that no text has come to an end, too.
func TestParseOfOddWords(t *testing.T) {
	some := []lex.Word{{}, {Kind: lex.Sign}, {Kind: 9, Text: "-"}, {Kind: -1, Text: "a"}, {Kind: lex.Name, Text: "a"}, {Kind: lex.Sign, Text: "("}, {Kind: lex.Sign, Text: "+"}, {Kind: lex.Sign, Text: "f"}, {Kind: lex.Number, N: -3}, {Kind: lex.End, Text: "-"}}
	for _, a := range some {
		for _, b := range some {
			for _, c := range some {
				for from := range 4 {
					expr.Parse([]lex.Word{a, b, c}, from)
				}
			}
		}
	}
}

// Rule 3, rule 4: words are neither changed nor kept, and come to the same again.
func TestParseKeepsNothing(t *testing.T) {
	text := "f(a, b[a], g()) + a * -(b - 1)"
	l := words(t, text)
	was := slices.Clone(l)
	e, n, _, _ := expr.Parse(l, 0)
	if !slices.Equal(l, was) {
		t.Error("the words were changed")
	}
	for _, s := range []string{"a", "b", "f", "g"} {
		for _, w := range l {
			if w.Text == s && holds(e, unsafe.StringData(w.Text)) {
				t.Errorf("the name %s is that of the words", s)
			}
		}
	}
	clear(l)
	if again, m, _, _ := expr.Parse(was, 0); m != n || !reflect.DeepEqual(e, again) {
		t.Error("not the same again")
	}
	spread(e)
	if again := of(t, text); !reflect.DeepEqual(e, again) {
		t.Error("kids of one stand in another's room")
	}
}

// holds tells whether a name of an expression stands just there.
func holds(e api.Expr, at *byte) bool {
	if e.Name != "" && unsafe.StringData(e.Name) == at {
		return true
	}
	return slices.ContainsFunc(e.Kids, func(k api.Expr) bool { return holds(k, at) })
}

// spread writes behind the end of each list of kids.
func spread(e api.Expr) {
	for _, k := range e.Kids {
		spread(k)
	}
	room := e.Kids[:cap(e.Kids)]
	for i := len(e.Kids); i < len(room); i++ {
		room[i] = api.Expr{Name: "spread"}
	}
}
