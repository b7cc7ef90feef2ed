package expr_test

import (
	"reflect"
	"strings"
	"testing"

	"paling/api"
	"paling/expr"
	"paling/lex"
)

// ranked are the operators' signs, those that bind least ahead of the others.
var ranked = [][]string{{"||"}, {"&&"}, {"|"}, {"^"}, {"&"}, {"==", "!="}, {"<", "<=", ">", ">="}, {"<<", ">>"}, {"+", "-"}, {"*", "/", "%"}}

// ops are the operators of the signs.
var ops = map[string]int{
	"+": api.Add, "-": api.Sub, "*": api.Mul, "/": api.Div, "%": api.Rem, "&": api.And, "|": api.Or, "^": api.Xor, "<<": api.Shl, ">>": api.Shr,
	"==": api.Eq, "!=": api.Ne, "<": api.Lt, "<=": api.Le, ">": api.Gt, ">=": api.Ge, "&&": api.Both, "||": api.Any,
}

// rank is how strongly a sign binds; 0: it is no operator's.
func rank(sign string) int {
	for n, l := range ranked {
		for _, s := range l {
			if s == sign {
				return n + 1
			}
		}
	}
	return 0
}

// behind is which word is behind the longest expression that begins at one; else the error, and where it is. It keeps what is open on a pile, word by word.
func behind(l []lex.Word, from int) (int, api.Errno, int) {
	var open []string
	thing := true // whether one must come
	for i := from; ; i++ {
		w := l[i]
		top := func() string { return append([]string{""}, open...)[len(open)] }
		for !thing && (top() == "-" || top() == "!") {
			open = open[:len(open)-1]
		}
		sign := w.Text
		if w.Kind != lex.Sign {
			sign = ""
		}
		switch {
		case thing && (sign == "-" || sign == "!" || sign == "("):
			open = append(open, sign)
		case thing && (w.Kind == lex.Number || w.Text == "true" || w.Text == "false"):
			thing = false
		case thing && w.Kind == lex.Name && !lex.Key(w.Text):
			thing = false
			if l[i+1].Text == "(" || l[i+1].Text == "[" {
				i++
				open, thing = append(open, "f"+l[i].Text), true
				if open[len(open)-1] == "f(" && l[i+1].Text == ")" && len(open) <= 32 {
					i++
					open, thing = open[:len(open)-1], false
				}
			}
		case !thing && rank(sign) > 0:
			thing = true
		case !thing && sign == "," && top() == "f(":
			thing = true
		case !thing && (sign == ")" && (top() == "(" || top() == "f(") || sign == "]" && top() == "f["):
			open = open[:len(open)-1]
		case !thing && len(open) == 0:
			return i, api.OK, 0
		default:
			return 0, api.ErrSyntax, w.At
		}
		if len(open) > 32 {
			return 0, api.ErrLimit, l[i].At
		}
	}
}

// tree is the expression that words are, cut at the operator that binds last.
func tree(l []lex.Word) api.Expr {
	cut, least, deep := -1, 11, 0
	for i, w := range l {
		switch w.Text {
		case "(", "[":
			deep++
		case ")", "]":
			deep--
		}
		if r := rank(w.Text); deep == 0 && i > 0 && ends(l[i-1]) && r > 0 && r <= least {
			cut, least = i, r
		}
	}
	first := l[0]
	switch {
	case cut > 0:
		a, b := tree(l[:cut]), tree(l[cut+1:])
		return api.Expr{Kind: api.Two, Op: ops[l[cut].Text], Kids: []api.Expr{a, b}, At: a.At}
	case first.Text == "-":
		return api.Expr{Kind: api.Neg, Kids: []api.Expr{tree(l[1:])}, At: first.At}
	case first.Text == "!":
		return api.Expr{Kind: api.Not, Kids: []api.Expr{tree(l[1:])}, At: first.At}
	case first.Text == "(":
		return tree(l[1 : len(l)-1])
	case first.Kind == lex.Number:
		return api.Expr{Kind: api.Num, N: first.N, At: first.At}
	case first.Text == "true":
		return api.Expr{Kind: api.Truth, N: 1, At: first.At}
	case first.Text == "false":
		return api.Expr{Kind: api.Truth, At: first.At}
	case len(l) == 1:
		return api.Expr{Kind: api.Var, Name: first.Text, At: first.At}
	case l[1].Text == "[":
		return api.Expr{Kind: api.Elem, Name: first.Text, Kids: []api.Expr{tree(l[2 : len(l)-1])}, At: first.At}
	}
	return api.Expr{Kind: api.Call, Name: first.Text, Kids: list(l[2 : len(l)-1]), At: first.At}
}

// ends tells whether a thing may end with a word.
func ends(w lex.Word) bool { return w.Kind != lex.Sign || w.Text == ")" || w.Text == "]" }

// list is the expressions that words are, with commas between.
func list(l []lex.Word) []api.Expr {
	var all []api.Expr
	from, deep := 0, 0
	for i, w := range l {
		switch w.Text {
		case "(", "[":
			deep++
		case ")", "]":
			deep--
		case ",":
			if deep == 0 {
				all = append(all, tree(l[from:i]))
				from = i + 1
			}
		}
	}
	if len(l) > 0 {
		all = append(all, tree(l[from:]))
	}
	return all
}

// agrees holds Parse against what is meant.
func agrees(t *testing.T, l []lex.Word, from int) {
	t.Helper()
	n, bad, at := behind(l, from)
	var e api.Expr
	if bad == api.OK {
		e = tree(l[from:n])
	}
	if e2, n2, bad2, at2 := expr.Parse(l, from); n2 != n || bad2 != bad || at2 != at || !reflect.DeepEqual(e2, e) {
		t.Fatalf("Parse(%v, %d) = %v, %d, %d, %d, not %v, %d, %d, %d", l, from, e2, n2, int(bad2), at2, e, n, int(bad), at)
	}
}

// words are a text's; the text must have some.
func words(t *testing.T, s string) []lex.Word {
	t.Helper()
	l, bad, at := lex.Words(s)
	if bad != api.OK {
		t.Fatalf("the words of %.60q: %d, %d", s, int(bad), at)
	}
	return l
}

// P3.1: all rows of up to five words that stand in each other's way.
func TestParseOfFewWords(t *testing.T) {
	var some []lex.Word
	for _, s := range strings.Fields("a 7 true while - ! * < = ( ) [ ] ,") {
		some = append(some, words(t, s)[0])
	}
	l := make([]lex.Word, 0, 6)
	var grow func()
	grow = func() {
		agrees(t, append(l, lex.Word{Kind: lex.End, At: 3 * len(l)}), 0)
		if len(l) == 5 {
			return
		}
		for _, w := range some {
			w.At = 3 * len(l)
			l = append(l, w)
			grow()
			l = l[:len(l)-1]
		}
	}
	grow()
}

// P3.1: long rows of words, from each of them on.
func TestParseOfManyWords(t *testing.T) {
	for seed := range 300 {
		d := dice(seed)
		l := words(t, d.text(20))
		for from := range l {
			agrees(t, l, from)
		}
		for range 20 { // and with a word that is wrong
			bent := append([]lex.Word{}, l...)
			bent[d.roll(len(l)-1)] = words(t, d.one("+ - ( ) [ ] , ! = ; { if x 1"))[0]
			for from := range bent {
				agrees(t, bent, from)
			}
		}
	}
}

// die is a row of numbers that always comes the same.
type die struct{ n uint64 }

func dice(seed int) *die { return &die{uint64(seed)*2 + 1} }

// roll is the next of the numbers below another.
func (d *die) roll(below int) int {
	d.n = d.n*6364136223846793005 + 1442695040888963407
	return int(d.n>>33) % below
}

// one is one of the words of a text.
func (d *die) one(text string) string {
	l := strings.Fields(text)
	return l[d.roll(len(l))]
}

// text is that of an expression of some size, perhaps with more brackets than it needs.
func (d *die) text(size int) string {
	if size <= 1 {
		return d.one("a b c_1 x9 0 7 9223372036854775807 true false f()")
	}
	part := d.roll(size-1) + 1
	switch d.roll(8) {
	case 0:
		return "-" + d.text(size-1)
	case 1:
		return "! " + d.text(size-1)
	case 2:
		return "(" + d.text(size-1) + " )"
	case 3:
		return "t[" + d.text(size-1) + "]"
	case 4:
		return "f (" + d.text(part) + "," + d.text(size-part) + ")"
	}
	return d.text(part) + " " + d.one("+ - * / % & | ^ << >> == != < <= > >= && ||") + " " + d.text(size-part)
}
