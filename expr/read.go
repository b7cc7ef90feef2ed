package expr

import (
	"strings"

	"paling/api"
	"paling/calc"
	"paling/lex"
)

// lowest is the least rank of an operator.
const lowest = 1

// opening is what tells how a thing goes on that a word begins: its kind, and its text, unless any text of that kind is read alike.
type opening struct {
	kind int
	text string
}

// reader reads expressions from words.
type reader struct {
	words  []lex.Word
	next   int // the word that is to be read
	open   int // how many things are
	begins map[opening]func() (api.Expr, bool)
	bad    api.Errno // why it came to an end, and where
	at     int
}

// newReader is one of words, from one on.
func newReader(words []lex.Word, from int) *reader {
	r := &reader{words: words, next: from}
	r.begins = map[opening]func() (api.Expr, bool){
		{lex.Sign, "-"}:     func() (api.Expr, bool) { return r.behind(api.Neg) },
		{lex.Sign, "!"}:     func() (api.Expr, bool) { return r.behind(api.Not) },
		{lex.Sign, "("}:     func() (api.Expr, bool) { return r.within(")") },
		{lex.Number, ""}:    func() (api.Expr, bool) { return r.alone(api.Num, r.word().N) },
		{lex.Name, "true"}:  func() (api.Expr, bool) { return r.alone(api.Truth, 1) },
		{lex.Name, "false"}: func() (api.Expr, bool) { return r.alone(api.Truth, 0) },
		{lex.Name, ""}:      func() (api.Expr, bool) { return r.named() },
	}
	return r
}

// begin is what tells how the thing goes on that a word begins.
func begin(w lex.Word) opening {
	if w.Kind == lex.Number || w.Kind == lex.Name && !lex.Key(w.Text) {
		return opening{kind: w.Kind}
	}
	return opening{w.Kind, w.Text}
}

// expression reads the longest one whose operators bind at least as strongly as a rank.
func (r *reader) expression(rank int) (api.Expr, bool) {
	left, ok := r.thing()
	for ok {
		op, is := r.operator(rank)
		if !is {
			break
		}
		r.next++
		var right api.Expr
		right, ok = r.expression(calc.Rank(op) + 1) // of its own rank, what comes later is further right
		left = api.Expr{Kind: api.Two, Op: op, Kids: []api.Expr{left, right}, At: left.At}
	}
	return left, ok
}

// operator is the one that the word to be read is; false: it is none that binds at least as strongly as a rank.
func (r *reader) operator(rank int) (int, bool) {
	w := r.word()
	if w.Kind != lex.Sign {
		return 0, false
	}
	op := calc.Op(w.Text)
	return op, calc.Rank(op) >= rank
}

// thing reads one.
func (r *reader) thing() (api.Expr, bool) {
	read, is := r.begins[begin(r.word())]
	if !is {
		return api.Expr{}, r.fail(api.ErrSyntax)
	}
	return read()
}

// alone reads a thing of one word.
func (r *reader) alone(kind int, n int64) (api.Expr, bool) {
	e := api.Expr{Kind: kind, N: n, At: r.word().At}
	r.next++
	return e, true
}

// behind reads a sign, and the thing that it is of.
func (r *reader) behind(kind int) (api.Expr, bool) {
	at := r.word().At
	if !r.enter() {
		return api.Expr{}, false
	}
	kid, ok := r.thing()
	r.open--
	return api.Expr{Kind: kind, Kids: []api.Expr{kid}, At: at}, ok
}

// within reads an expression in brackets.
func (r *reader) within(closing string) (api.Expr, bool) {
	if !r.enter() {
		return api.Expr{}, false
	}
	e, ok := r.expression(lowest)
	if !ok {
		return e, false
	}
	return e, r.leave(closing)
}

// named reads a name, and what belongs to it.
func (r *reader) named() (api.Expr, bool) {
	w := r.word()
	r.next++
	e := api.Expr{Kind: api.Var, Name: strings.Clone(w.Text), At: w.At}
	ok := true
	switch {
	case r.is("["):
		var place api.Expr
		place, ok = r.within("]")
		e.Kind, e.Kids = api.Elem, []api.Expr{place}
	case r.is("("):
		e.Kind = api.Call
		e.Kids, ok = r.given()
	}
	return e, ok
}

// given reads what a call is given, in its brackets.
func (r *reader) given() ([]api.Expr, bool) {
	if !r.enter() {
		return nil, false
	}
	if r.is(")") {
		return nil, r.leave(")")
	}
	var l []api.Expr
	for {
		e, ok := r.expression(lowest)
		if !ok {
			return nil, false
		}
		l = append(l, e)
		if !r.is(",") {
			return l, r.leave(")")
		}
		r.next++
	}
}

// enter reads the word that opens a thing, unless too many are open.
func (r *reader) enter() bool {
	if r.open == api.MaxNest {
		return r.fail(api.ErrLimit)
	}
	r.open++
	r.next++
	return true
}

// leave reads the sign that closes a thing, if it is there.
func (r *reader) leave(closing string) bool {
	if !r.is(closing) {
		return r.fail(api.ErrSyntax)
	}
	r.open--
	r.next++
	return true
}

// is tells whether the word to be read is a sign.
func (r *reader) is(sign string) bool {
	w := r.word()
	return w.Kind == lex.Sign && w.Text == sign
}

// word is the one that is to be read; behind the last one there is but the end.
func (r *reader) word() lex.Word {
	if r.next < len(r.words) {
		return r.words[r.next]
	}
	last := r.words[len(r.words)-1]
	return lex.Word{Kind: lex.End, At: last.At + len(last.Text)}
}

// fail keeps why no more can be read, and where; it is false, for whoever has nothing to tell.
func (r *reader) fail(bad api.Errno) bool {
	r.bad, r.at = bad, r.word().At
	return false
}
