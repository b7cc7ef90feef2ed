package expr_test

import (
	"reflect"
	"slices"
	"strings"
	"testing"
	"unsafe"

	"paling/api"
	"paling/expr"
)

// P3.3: the text of each kind, and no more brackets than are needed.
func TestShowByHand(t *testing.T) {
	for s, want := range map[string]string{
		"7": "7", "9223372036854775807": "9223372036854775807", "true": "true", "false": "false", "a": "a", "((a))": "a",
		"t [ 1 ]": "t[1]", "t[(a+b)]": "t[a + b]", "f( )": "f()", "f(a)": "f(a)", "f((a||b),(c),t[1])": "f(a || b, c, t[1])",
		"- 1": "-1", "- - 1": "--1", "!a": "!a", "!-!a": "!-!a", "-(a)": "-a", "-(a*b)": "-(a * b)", "!(a<b)": "!(a < b)", "-t[1]": "-t[1]", "-(f(1))": "-f(1)", "!(!(a))": "!!a", "(-a)*b": "-a * b", "a*(-b)": "a * -b", "a-(-b)": "a - -b",
		"(a*b)+c": "a * b + c", "a*(b+c)": "a * (b + c)", "(a-b)-c": "a - b - c", "a-(b-c)": "a - (b - c)", "a-(b+c)": "a - (b + c)", "a-((b)-c)-d": "a - (b - c) - d",
		"a+(b*c)": "a + b * c", "(a||b)&&(c||d)": "(a || b) && (c || d)", "(a&&b)||(c&&d)": "a && b || c && d", "a==(b==c)": "a == (b == c)", "(a==b)==c": "a == b == c", "((((a))+((b))))": "a + b",
	} {
		if got := expr.Show(of(t, s)); got != want {
			t.Errorf("Show of %q is %q, not %q", s, got, want)
		}
	}
}

// P3.3, P3.4: of any two operators, brackets stand just where they are needed.
func TestShowBrackets(t *testing.T) {
	a, b, c := of(t, "a"), of(t, "b"), of(t, "c")
	two := func(sign string, l, r api.Expr) api.Expr {
		return api.Expr{Kind: api.Two, Op: ops[sign], Kids: []api.Expr{l, r}}
	}
	for o := range ops {
		for i := range ops {
			left, right := "a "+i+" b", "b "+i+" c"
			if rank(i) < rank(o) {
				left = "(" + left + ")"
			}
			if rank(i) <= rank(o) {
				right = "(" + right + ")"
			}
			shown(t, two(o, two(i, a, b), c), left+" "+o+" c")
			shown(t, two(o, a, two(i, b, c)), "a "+o+" "+right)
			shown(t, two(o, two(i, a, b), two(i, b, c)), left+" "+o+" "+right)
		}
		for kind, sign := range map[int]string{api.Neg: "-", api.Not: "!"} {
			e := api.Expr{Kind: kind, Kids: []api.Expr{two(o, a, b)}}
			shown(t, e, sign+"(a "+o+" b)")
			shown(t, two(o, api.Expr{Kind: kind, Kids: []api.Expr{a}}, b), sign+"a "+o+" b")
			shown(t, two(o, a, api.Expr{Kind: kind, Kids: []api.Expr{b}}), "a "+o+" "+sign+"b")
		}
		shown(t, api.Expr{Kind: api.Elem, Name: "a", Kids: []api.Expr{two(o, a, b)}}, "a[a "+o+" b]")
		shown(t, api.Expr{Kind: api.Call, Name: "a", Kids: []api.Expr{two(o, a, b), two(o, b, a)}}, "a(a "+o+" b, b "+o+" a)")
	}
}

// shown holds an expression's text against one, and that against it.
func shown(t *testing.T, e api.Expr, want string) {
	t.Helper()
	if got := expr.Show(e); got != want {
		t.Errorf("%q is shown, not %q", got, want)
	} else if !expr.Same(of(t, got), e) {
		t.Errorf("%q isn't what was shown", got)
	}
}

// P3.4: what is shown is parsed, and the same; shown again it has the same text.
func TestShownIsTheSame(t *testing.T) {
	for seed := range 3000 {
		e := of(t, dice(seed).text(seed%40+1))
		text := expr.Show(e)
		again := of(t, text)
		if !expr.Same(e, again) || expr.Show(again) != text {
			t.Fatalf("%q", text)
		}
	}
}

// P3.4: a text as long as may be comes through, as deep as it then is.
func TestLong(t *testing.T) {
	for _, s := range []string{"a" + strings.Repeat(" + b", 4095), "f(a" + strings.Repeat(", b", 5460) + ")", "t[1" + strings.Repeat(" * t[1]", 2339) + "]"} {
		if e := of(t, s); expr.Show(e) != s || len(expr.Names(e)) > 3 {
			t.Errorf("%.20q isn't shown as it was", s)
		}
	}
	e := of(t, "1"+strings.Repeat("|1", 8191))
	if text := expr.Show(e); text != "1"+strings.Repeat(" | 1", 8191) {
		t.Errorf("%.20q is shown", text)
	}
}

// P3.3: Same holds all against each other but At.
func TestSame(t *testing.T) {
	e := func(text string) api.Expr { return of(t, text) }
	for _, c := range []struct {
		a, b api.Expr
		is   bool
	}{
		{e("a+b"), e(" ( a ) + (b)"), true}, {e("f(a, b)"), e("f( a,b )"), true}, {e("a"), e("a"), true}, {e("f()"), e("  f()"), true}, {api.Expr{}, e("0"), true},
		{e("a"), e("b"), false}, {e("a"), e("f()"), false}, {e("a[1]"), e("a(1)"), false}, {e("a[1]"), e("b[1]"), false}, {e("a[1]"), e("a[2]"), false},
		{e("1"), e("2"), false}, {e("1"), e("true"), false}, {e("true"), e("false"), false}, {e("-a"), e("!a"), false}, {e("-a"), e("a"), false}, {e("a+b"), e("a-b"), false}, {e("a+b"), e("b+a"), false},
		{e("f(a, b)"), e("f(b, a)"), false}, {e("f(a, b)"), e("f(a)"), false}, {e("f(a)"), e("f(a, b)"), false}, {e("f(a)"), e("f()"), false}, {e("f(a)"), e("f(a, a)"), false},
		{e("a+b+c"), e("a+(b+c)"), false}, {e("-(a+f(1))"), e("-(a+f(2))"), false}, {e("-(a+f(1))"), e("-(a+f(1 ))"), true},
		{api.Expr{Kids: []api.Expr{}}, api.Expr{}, true}, {api.Expr{At: 3}, api.Expr{At: -1}, true}, {api.Expr{Op: 1}, api.Expr{}, false}, {api.Expr{Kind: 1}, api.Expr{}, false}, {api.Expr{N: 1}, api.Expr{}, false}, {api.Expr{Name: "a"}, api.Expr{}, false},
		{api.Expr{Kids: []api.Expr{{At: 1}}}, api.Expr{Kids: []api.Expr{{At: 2}}}, true}, {api.Expr{Kids: []api.Expr{{N: 1}}}, api.Expr{Kids: []api.Expr{{N: 2}}}, false},
	} {
		if expr.Same(c.a, c.b) != c.is || expr.Same(c.b, c.a) != c.is {
			t.Errorf("Same(%v, %v) isn't %v", c.a, c.b, c.is)
		}
	}
}

// P3.3: the names, each once, ahead of those of the kids.
func TestNames(t *testing.T) {
	for s, want := range map[string]string{
		"1": "", "true": "", "a": "a", "a[1]": "a", "f()": "f", "-a": "a", "!(!f(a))": "f a", "a+b": "a b", "b+a": "b a", "a+a*a": "a", "a-b*a-b": "a b",
		"a[b]": "a b", "b[a[b]]": "b a", "f(g(x, y), x, h(z)) + y - w": "f g x y h z w", "a(a, a[a])": "a", "1 + x * (y - x[z])": "x y z", "a == b || b == c && true": "a b c",
	} {
		if got := expr.Names(of(t, s)); !slices.Equal(got, strings.Fields(want)) {
			t.Errorf("the names of %q: %q, not %q", s, got, want)
		}
	}
	odd := api.Expr{Kind: api.Num, Name: "x", Kids: []api.Expr{{Kind: api.Truth, Name: "x"}, {Kind: api.Neg, Name: "x"}, {Kind: api.Not, Name: "x"}, {Kind: api.Two, Name: "x"}, {Kind: 8, Name: "x"}, {Kind: -1, Name: "x"}}}
	if got := expr.Names(odd); len(got) != 0 {
		t.Errorf("names of what has none: %q", got)
	}
}

// Rule 1: what no text comes to has some text, and names, too.
func TestOddExpressions(t *testing.T) {
	for kind := -1; kind <= 8; kind++ {
		for _, op := range []int{-1, 0, api.Below, api.Any, 19} {
			for kids := range 4 {
				e := api.Expr{Kind: kind, Op: op, N: -5, Kids: make([]api.Expr, kids)}
				expr.Show(e)
				expr.Names(e)
				if !expr.Same(e, e) {
					t.Errorf("%v isn't the same as itself", e)
				}
			}
		}
	}
}

// Rule 3: nothing is changed, and the names are new.
func TestShowKeepsNothing(t *testing.T) {
	text := "f(a, -(b + 1), t[a])"
	e := of(t, text)
	was := of(t, text)
	names := expr.Names(e)
	expr.Show(e)
	expr.Same(e, was)
	if !reflect.DeepEqual(e, was) {
		t.Error("the expression was changed")
	}
	for _, n := range names {
		if holds(e, unsafe.StringData(n)) {
			t.Errorf("the name %s is that of the expression", n)
		}
	}
	if one := expr.Show(was.Kids[0]); one != "a" || unsafe.StringData(one) == unsafe.StringData(was.Kids[0].Name) {
		t.Error("the text is the expression's name")
	}
}
