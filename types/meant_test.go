package types_test

import (
	"math"
	"slices"
	"strings"
	"testing"

	"paling/api"
	"paling/names"
	"paling/types"
)

// known is what a name of the tests' program is.
type known struct {
	kind   int
	letter byte // of its type
	many   bool // an array
	params string
}

// dictionary is what each name is that the tests' program has, and the locals of its scope.
func dictionary() map[string]known {
	d := map[string]known{"m": {kind: names.Lock}, "f": {kind: names.Func, letter: 'n'}, "F": {kind: names.Func, letter: 'T'}}
	for _, c := range []byte(letters) {
		s := string(c)
		d[s] = known{kind: names.Global, letter: c}
		d["a"+s] = known{kind: names.Global, letter: c, many: true}
		d["x"+s] = known{kind: names.Local, letter: c}
		for _, p := range []byte(letters) {
			d["f"+string(p)+s] = known{kind: names.Func, letter: c, params: string(p)}
			d["f"+string(p)+s+"N"] = known{kind: names.Func, letter: 'N', params: string(p) + s}
		}
	}
	return d
}

// programOf is the program of a dictionary.
func programOf(d map[string]known) api.Program {
	var p api.Program
	for at, name := range sorted(d) {
		k := d[name]
		switch k.kind {
		case names.Global:
			g := api.Global{At: at, Name: name, Type: typeOf(k.letter)}
			if k.many {
				g.Len = 1 + at%64
			}
			p.Globals = append(p.Globals, g)
		case names.Lock:
			p.Locks = append(p.Locks, api.Lock{At: at, Name: name})
		case names.Func:
			f := api.Func{At: at, Name: name, Type: typeOf(k.letter)}
			for i := range k.params {
				f.Params = append(f.Params, api.Param{Name: "p", Type: typeOf(k.params[i])})
			}
			p.Funcs = append(p.Funcs, f)
		}
	}
	return p
}

// sorted is a dictionary's names.
func sorted(d map[string]known) []string {
	var l []string
	for name := range d {
		l = append(l, name)
	}
	slices.Sort(l)
	return l
}

// complaint is an error, and where it is; the zero one is none.
type complaint struct {
	bad api.Errno
	at  int
}

// rules tell, for each operator, what comes of a left kid of type n, N, t, T (the rows) and a right one: a type, or whose type is wrong (l, r), or that the right one may not be secret (s).
var rules = map[int]string{
	api.Add: "nNrr NNrr llll llll", api.Sub: "nNrr NNrr llll llll", api.Mul: "nNrr NNrr llll llll",
	api.And: "nNrr NNrr llll llll", api.Or: "nNrr NNrr llll llll", api.Xor: "nNrr NNrr llll llll",
	api.Shl: "nNrr NNrr llll llll", api.Shr: "nNrr NNrr llll llll",
	api.Div: "nsrr Nsrr llll llll", api.Rem: "nsrr Nsrr llll llll",
	api.Lt: "tTrr TTrr llll llll", api.Le: "tTrr TTrr llll llll", api.Gt: "tTrr TTrr llll llll", api.Ge: "tTrr TTrr llll llll",
	api.Eq: "tTrr TTrr rrtT rrTT", api.Ne: "tTrr TTrr rrtT rrTT",
	api.Both: "llll llll rrtT rrTT", api.Any: "llll llll rrtT rrTT",
}

// reader tells all that is wrong with an expression, in the order in which it is to be told, and goes on behind each error that needn't end it.
type reader struct {
	d     map[string]known
	wrong []complaint
}

// meant is what must come of an expression: its type's letter, or the first of all complaints.
func meant(d map[string]known, e api.Expr) (byte, complaint) {
	r := &reader{d: d}
	letter := r.read(e)
	if len(r.wrong) > 0 {
		return 'n', r.wrong[0]
	}
	return letter, complaint{}
}

// complain keeps an error, if something isn't as it must be.
func (r *reader) complain(is bool, bad api.Errno, e api.Expr) {
	if !is {
		r.wrong = append(r.wrong, complaint{bad, e.At})
	}
}

// read is an expression's letter; any one, if something is wrong.
func (r *reader) read(e api.Expr) byte {
	k, is := r.d[e.Name]
	switch e.Kind {
	case api.Num:
		return 'n'
	case api.Truth:
		return 't'
	case api.Var:
		r.complain(is, api.ErrName, e)
		r.complain(k.kind == names.Local || k.kind == names.Global && !k.many, api.ErrType, e)
		return k.letter
	case api.Elem:
		r.complain(is, api.ErrName, e)
		r.complain(k.many, api.ErrType, e)
		place := r.read(e.Kids[0])
		r.complain(place == 'n' || place == 'N', api.ErrType, e.Kids[0])
		r.complain(place == 'n', api.ErrLabel, e.Kids[0])
		return k.letter
	case api.Neg, api.Not:
		kid := r.read(e.Kids[0])
		r.complain((kid == 'n' || kid == 'N') == (e.Kind == api.Neg), api.ErrType, e.Kids[0])
		return kid
	case api.Two:
		return r.two(e)
	case api.Call:
		r.complain(is, api.ErrName, e)
		r.complain(k.kind == names.Func && len(k.params) == len(e.Kids), api.ErrType, e)
		for i, kid := range e.Kids {
			r.given(kid, (k.params + strings.Repeat("T", len(e.Kids)))[i])
		}
		return k.letter
	}
	r.complain(false, api.ErrType, e)
	return 'n'
}

// two reads an operator and its kids.
func (r *reader) two(e api.Expr) byte {
	left, right := r.read(e.Kids[0]), r.read(e.Kids[1])
	rule, is := rules[e.Op]
	if !is || len(r.wrong) > 0 {
		r.complain(false, api.ErrType, e)
		return 'n'
	}
	what := strings.Fields(rule)[strings.IndexByte(letters, left)][strings.IndexByte(letters, right)]
	r.complain(what != 'l', api.ErrType, e.Kids[0])
	r.complain(what != 'r', api.ErrType, e.Kids[1])
	r.complain(what != 's', api.ErrLabel, e.Kids[1])
	return what
}

// given reads what a param of a letter is given.
func (r *reader) given(kid api.Expr, param byte) {
	letter := r.read(kid)
	isNumber, wantsNumber := letter == 'n' || letter == 'N', param == 'n' || param == 'N'
	r.complain(isNumber == wantsNumber, api.ErrType, kid)
	r.complain(param == 'N' || param == 'T' || letter == 'n' || letter == 't', api.ErrLabel, kid)
}

// agrees holds Of against what is meant, and tells the error.
func agrees(t *testing.T, s *names.Scope, d map[string]known, e api.Expr) api.Errno {
	t.Helper()
	letter, c := meant(d, e)
	if got, bad, at := types.Of(s, e); letterOf(got) != string(letter) || bad != c.bad || at != c.at {
		t.Fatalf("%+v: %+v, %v at %d, not %c, %v at %d", e, got, bad, at, letter, c.bad, c.at)
	}
	return c.bad
}

// placed is an expression of which each part has an At of its own, in no order of the text's.
func placed(e api.Expr) api.Expr {
	next := 0
	var place func(e api.Expr) api.Expr
	place = func(e api.Expr) api.Expr {
		next++
		e.At = next * 37 % 1009 * (1 - next%2*2)
		e.Kids = slices.Clone(e.Kids)
		for i, kid := range e.Kids {
			e.Kids[i] = place(kid)
		}
		return e
	}
	return place(e)
}

// operators are all that there are, and numbers that are none.
func operators() []int {
	l := []int{math.MinInt, -2, -1, 19, 20, 64, math.MaxInt}
	for op := range api.Any + 1 {
		l = append(l, op)
	}
	return l
}

// grown are expressions whose kids are some others: of each name, each operator and each kind.
func grown(all []string, kids []api.Expr) []api.Expr {
	var l []api.Expr
	for _, a := range kids {
		for _, kind := range []int{api.Neg, api.Not} {
			l = append(l, api.Expr{Kind: kind, Kids: []api.Expr{a}})
		}
		for _, name := range all {
			l = append(l, api.Expr{Kind: api.Elem, Name: name, Kids: []api.Expr{a}}, api.Expr{Kind: api.Call, Name: name, Kids: []api.Expr{a}})
		}
		for _, b := range kids {
			for _, op := range operators() {
				l = append(l, api.Expr{Kind: api.Two, Op: op, Kids: []api.Expr{a, b}})
			}
			for _, name := range all {
				l = append(l, api.Expr{Kind: api.Call, Name: name, Kids: []api.Expr{a, b}})
			}
		}
	}
	return l
}

// leaves are expressions without kids: of each name, and of kinds that there aren't.
func leaves(all []string) []api.Expr {
	l := []api.Expr{{Kind: api.Num, N: 7}, {Kind: api.Num}, {Kind: api.Truth, N: 1}, {Kind: api.Truth}, {Kind: api.Call + 1, Name: "n"}, {Kind: -1, Name: "n"}}
	for _, name := range all {
		l = append(l, api.Expr{Kind: api.Var, Name: name}, api.Expr{Kind: api.Call, Name: name})
	}
	return l
}

// some are expressions of which each comes to another thing: one of each way in which Of can answer, but for places.
func some(d map[string]known, l []api.Expr) []api.Expr {
	type answer struct {
		kind   int
		letter byte
		bad    api.Errno
	}
	seen := map[answer]int{}
	var first []api.Expr
	for _, e := range l {
		letter, c := meant(d, e)
		a := answer{e.Kind, letter, c.bad}
		if seen[a]++; seen[a] == 1 {
			first = append(first, e)
		}
	}
	return first
}

// P7.2, P7.3: all expressions of a few parts.
func TestFewParts(t *testing.T) {
	d := dictionary()
	s := scope(t, programOf(d))
	all := append(sorted(d), "u", "", "fn")
	low := leaves(all)
	first := grown(all, low)
	second := grown(all, some(d, slices.Concat(low, first)))
	counts := map[api.Errno]int{}
	for _, e := range slices.Concat(low, first, second) {
		counts[agrees(t, s, d, placed(e))]++
	}
	for bad, least := range map[api.Errno]int{api.OK: 1000, api.ErrName: 1000, api.ErrType: 1000, api.ErrLabel: 500} {
		if counts[bad] < least {
			t.Errorf("%v: %d", bad, counts[bad])
		}
	}
}

// P7.2: kinds that there aren't: their own error, whatever their kids are.
func TestNoKind(t *testing.T) {
	d := dictionary()
	s := scope(t, programOf(d))
	kids := leaves(append(sorted(d), "u"))
	for _, kind := range []int{math.MinInt, -3, -2, -1, 8, 9, 10, 64, math.MaxInt} {
		for _, a := range kids {
			e := api.Expr{Kind: kind, Op: api.Add, Name: "f", Kids: []api.Expr{a, kids[0]}}
			if bad := agrees(t, s, d, placed(e)); bad != api.ErrType {
				t.Errorf("kind %d: %v", kind, bad)
			}
			agrees(t, s, d, placed(api.Expr{Kind: api.Neg, Kids: []api.Expr{e}}))
		}
	}
}

// writer writes expressions; its numbers always come the same.
type writer struct {
	d    map[string]known
	n    uint64
	safe bool // no secret, and no function that has to do with any
}

// roll is the next of the numbers below another.
func (w *writer) roll(below int) int {
	w.n = w.n*6364136223846793005 + 1442695040888963407
	return int(w.n>>33) % below
}

// secret tells whether a letter is that of a secret.
func secret(c byte) bool { return c == 'N' || c == 'T' }

// name is one that is as it is asked.
func (w *writer) name(is func(k known) bool) (string, bool) {
	l := slices.DeleteFunc(sorted(w.d), func(name string) bool {
		k := w.d[name]
		return !is(k) || w.safe && (secret(k.letter) || strings.ContainsAny(k.params, "NT"))
	})
	if len(l) == 0 {
		return "", false
	}
	return l[w.roll(len(l))], true
}

// leaf is an expression of a letter without kids.
func (w *writer) leaf(c byte) api.Expr {
	if !secret(c) && w.roll(3) == 0 {
		kind := api.Num
		if c == 't' {
			kind = api.Truth
		}
		return api.Expr{Kind: kind, N: int64(w.roll(2))}
	}
	name, _ := w.name(func(k known) bool {
		return k.letter == c && !k.many && (k.kind == names.Local || k.kind == names.Global)
	})
	return api.Expr{Kind: api.Var, Name: name}
}

// write is an expression of a letter, of some size.
func (w *writer) write(c byte, size int) api.Expr {
	if size <= 1 {
		return w.leaf(c)
	}
	switch w.roll(6) {
	case 0:
		name, _ := w.name(func(k known) bool { return k.letter == c && k.many })
		return api.Expr{Kind: api.Elem, Name: name, Kids: []api.Expr{w.write('n', size-1)}}
	case 1:
		kind := api.Neg
		if c == 't' || c == 'T' {
			kind = api.Not
		}
		return api.Expr{Kind: kind, Kids: []api.Expr{w.write(c, size-1)}}
	case 2:
		if name, is := w.name(func(k known) bool { return k.kind == names.Func && k.letter == c && k.params != "" }); is {
			return w.call(name, size)
		}
	}
	return w.two(c, size)
}

// call is one of a function.
func (w *writer) call(name string, size int) api.Expr {
	e := api.Expr{Kind: api.Call, Name: name}
	params := w.d[name].params
	for i := range params {
		c := params[i]
		if secret(c) && w.roll(2) == 0 {
			c += 'a' - 'A' // what is public fits, too
		}
		e.Kids = append(e.Kids, w.write(c, size/len(params)))
	}
	return e
}

// two is an operator that comes to a letter.
func (w *writer) two(c byte, size int) api.Expr {
	var l [][3]int
	for _, op := range operators() {
		for a, row := range strings.Fields(rules[op]) {
			for b := range row {
				if row[b] == c {
					l = append(l, [3]int{op, a, b})
				}
			}
		}
	}
	x := l[w.roll(len(l))]
	part := 1 + w.roll(size-1)
	return api.Expr{Kind: api.Two, Op: x[0], Kids: []api.Expr{w.write(letters[x[1]], part), w.write(letters[x[2]], size-part)}}
}

// parts is how many parts an expression has.
func parts(e api.Expr) int {
	n := 1
	for _, kid := range e.Kids {
		n += parts(kid)
	}
	return n
}

// changed is an expression in which another stands instead of one part, counted from the front on.
func changed(e api.Expr, n int, by api.Expr) api.Expr {
	if n == 0 {
		return by
	}
	n--
	e.Kids = slices.Clone(e.Kids)
	for i, kid := range e.Kids {
		many := parts(kid)
		if n < many {
			e.Kids[i] = changed(kid, n, by)
			break
		}
		n -= many
	}
	return e
}

// P7.2, P7.3: long expressions that are written to have a type, and have it; then with some parts that are others.
func TestManyParts(t *testing.T) {
	d := dictionary()
	s := scope(t, programOf(d))
	counts := map[api.Errno]int{}
	for seed := range 600 {
		w := &writer{d: d, n: uint64(seed)*2 + 1}
		c := letters[seed%4]
		e := w.write(c, 2+w.roll(60))
		if got, bad, at := types.Of(s, placed(e)); letterOf(got) != string(c) || bad != api.OK || at != 0 {
			t.Fatalf("%+v: %+v, %v at %d, not %c", e, got, bad, at, c)
		}
		for range 20 {
			bent := e
			for range 1 + w.roll(3) {
				bent = changed(bent, w.roll(parts(bent)), w.write(letters[w.roll(4)], 1+w.roll(4)))
			}
			if w.roll(4) == 0 {
				bent = changed(bent, w.roll(parts(bent)), api.Expr{Kind: w.roll(9), Op: w.roll(20), Name: sorted(d)[w.roll(len(d))], Kids: []api.Expr{w.leaf('n'), w.leaf('N')}}) // of more kids than some kinds may have
			}
			if ragged(bent) {
				continue
			}
			counts[agrees(t, s, d, placed(bent))]++
		}
	}
	for _, bad := range []api.Errno{api.OK, api.ErrType, api.ErrLabel} {
		if counts[bad] < 300 {
			t.Errorf("%v: %d", bad, counts[bad])
		}
	}
}

// ragged tells whether an expression has a part that has not as many kids as its kind says.
func ragged(e api.Expr) bool {
	many := map[int]int{api.Elem: 1, api.Neg: 1, api.Not: 1, api.Two: 2}
	if n, is := many[e.Kind]; is && n != len(e.Kids) {
		return true
	}
	return slices.ContainsFunc(e.Kids, ragged)
}

// P7.4: what is made of public things alone is public.
func TestPublic(t *testing.T) {
	d := dictionary()
	s := scope(t, programOf(d))
	for seed := range 2000 {
		w := &writer{d: d, n: uint64(seed)*2 + 1, safe: true}
		e := w.write("nt"[seed%2], 2+w.roll(40))
		if got, bad, _ := types.Of(s, e); bad != api.OK || got.Secret {
			t.Fatalf("%+v: %+v, %v", e, got, bad)
		}
	}
}

// P7.4: what a secret goes into is secret, but where a function's own type says otherwise.
func TestSecret(t *testing.T) {
	d := dictionary()
	s := scope(t, programOf(d))
	went, kept := 0, 0
	for seed := range 6000 {
		w := &writer{d: d, n: uint64(seed)*2 + 1}
		e := w.write(letters[seed%4], 2+w.roll(12))
		e = changed(e, w.roll(parts(e)), w.leaf("NT"[w.roll(2)]))
		got, bad, _ := types.Of(s, e)
		if bad != api.OK {
			continue
		}
		if is := goesIn(d, e); got.Secret != is {
			t.Fatalf("%+v: %+v", e, got)
		} else if is {
			went++
		} else {
			kept++
		}
	}
	if went < 300 || kept < 100 {
		t.Error(went, kept)
	}
}

// goesIn tells whether a secret goes into what an expression comes to: those in a call's brackets don't.
func goesIn(d map[string]known, e api.Expr) bool {
	if e.Name != "" && secret(d[e.Name].letter) {
		return true
	}
	return e.Kind != api.Call && slices.ContainsFunc(e.Kids, func(kid api.Expr) bool { return goesIn(d, kid) })
}
