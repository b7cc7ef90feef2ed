package types_test

import (
	"math"
	"strings"
	"testing"

	"paling/api"
	"paling/expr"
	"paling/names"
	"paling/prog"
	"paling/types"
)

// letters are how the tests write the four types: small is public, n a number, t a truth.
const letters = "nNtT"

// typeOf is the type of a letter.
func typeOf(c byte) api.Type {
	n := strings.IndexByte(letters, c)
	return api.Type{Truth: n >= 2, Secret: n%2 != 0}
}

// letterOf is a type's letter.
func letterOf(t api.Type) string {
	n := 0
	if t.Truth {
		n += 2
	}
	if t.Secret {
		n++
	}
	return letters[n : n+1]
}

// P7.1: of all pairs of types, row by row.
func TestJoin(t *testing.T) {
	const want = "nNnN NNNN tTtT TTTT"
	for a, row := range strings.Fields(want) {
		for b := range letters {
			if got := types.Join(typeOf(letters[a]), typeOf(letters[b])); got != typeOf(row[b]) {
				t.Errorf("%c and %c: %+v, not %c", letters[a], letters[b], got, row[b])
			}
		}
	}
}

// P7.1: of all pairs of types, row by row; + fits.
func TestFits(t *testing.T) {
	const want = "++ty l+ty ty++ tyl+"
	errs := map[byte]api.Errno{'+': api.OK, 't': api.ErrType, 'y': api.ErrType, 'l': api.ErrLabel}
	for a, row := range strings.Fields(want) {
		for b := range letters {
			if got := types.Fits(typeOf(letters[a]), typeOf(letters[b])); got != errs[row[b]] {
				t.Errorf("%c as %c: %v, not %v", letters[a], letters[b], got, errs[row[b]])
			}
		}
	}
}

// text is a program with a global, an array and a function of each kind that the tests by hand ask for.
const text = "public int n; secret int N; public bool t; secret bool T; " +
	"public int an[4]; secret int aN[1] by m; public bool at[64]; secret bool aT[2]; lock m; " +
	"func f() public int { return 1; } func g(public int a, secret bool b) secret int { return a; } " +
	"func safe(secret int a, secret bool b) public bool { return true; } func h(public bool a) secret bool { return a; }"

// scopeOf is a text's, with a block in which there is a local of each type: xn, xN, xt and xT.
func scopeOf(t *testing.T, text string) *names.Scope {
	t.Helper()
	p, bad, at := prog.Parse(text)
	if bad != api.OK {
		t.Fatal(bad, at)
	}
	return scope(t, p)
}

// scope is a program's, with these locals.
func scope(t *testing.T, p api.Program) *names.Scope {
	t.Helper()
	s, bad, at := names.New(p)
	if bad != api.OK {
		t.Fatal(bad, at)
	}
	s.Enter()
	for i := range letters {
		if bad := s.Let("x"+letters[i:i+1], typeOf(letters[i])); bad != api.OK {
			t.Fatal(bad)
		}
	}
	return s
}

// parsed is the expression of a text.
func parsed(t *testing.T, s string) api.Expr {
	t.Helper()
	e, bad, at := expr.Of(s)
	if bad != api.OK {
		t.Fatalf("%q: %v at %d", s, bad, at)
	}
	return e
}

// fine holds Of of a text against its type's letter.
func fine(t *testing.T, s *names.Scope, text, want string) {
	t.Helper()
	if got, bad, at := types.Of(s, parsed(t, text)); bad != api.OK || at != 0 || letterOf(got) != want {
		t.Errorf("%q: %+v, %v at %d, not %s", text, got, bad, at, want)
	}
}

// wrong holds Of of a text against its error.
func wrong(t *testing.T, s *names.Scope, text string, want api.Errno, where int) {
	t.Helper()
	if got, bad, at := types.Of(s, parsed(t, text)); bad != want || at != where || got != (api.Type{}) {
		t.Errorf("%q: %+v, %v at %d, not %v at %d", text, got, bad, at, want, where)
	}
}

// P7.2, P7.3: what has a type, by hand.
func TestFine(t *testing.T) {
	s := scopeOf(t, text)
	for want, all := range map[string]string{
		"n": "0; 9223372036854775807; n; xn; (n); an[0]; an[9223372036854775807]; an[-1]; an[n]; an[xn + an[an[2]]]; -7; -n; --xn; -(n - 1); n + 1; n - n; n * n; n / n; n % n; n & n; n | n; n ^ n; n << n; n >> n; n / 0; f(); f() + n / f()",
		"N": "N; xN; aN[0]; aN[n % 7]; -N; N + 1; 1 + N; N - N; n * N; N / n; N % 3; N & n; n | N; n ^ xN; N << n; n << N; N >> N; 1 + (2 + (N + 3)); g(1, true); g(n, T); g(n, t); g(an[n], N < n) + 1; (N / 2) % n",
		"t": "true; false; t; xt; at[63]; !t; !!false; n < 1; n <= n; n > n; n >= n; n == n; n != 2; t == true; t != xt; t && t; t || false; n < 1 && !(2 >= n) || t; safe(1, true); safe(N, T); safe(N / n, aT[0]); !safe(g(n, N != 1), t) == t",
		"T": "T; xT; aT[n]; !T; !!xT; N < 1; 1 <= N; N > xN; n >= N; N == 1; 1 != N; N == N; T == t; t == T; t != T; T && t; t && T; T || T; t || xT; n == 1 && N == 1; h(true); h(t) == t; t || h(n < 1)",
	} {
		for _, e := range strings.Split(all, ";") {
			fine(t, s, e, want)
		}
	}
}

// P7.2: errors of names, places, less and not, by hand.
func TestWrongThing(t *testing.T) {
	s := scopeOf(t, text)
	for text, where := range map[string]int{"u": 0, "u[v]": 0, "u[0]": 0, "u(v)": 0, "u()": 0, "a": 0, "b": 0, "N_": 0, "X": 0, "xnn": 0, "-u": 1, "!u": 1, "- (u)": 3, "an[u]": 3, "at[-u]": 4, "an[n + u]": 7} {
		wrong(t, s, text, api.ErrName, where)
	}
	for _, text := range []string{"an", "aT", "m", "f", "g", "n[0]", "N[u]", "T[true]", "xn[0]", "xT[N]", "m[0]", "f[0]", "safe[u]"} {
		wrong(t, s, text, api.ErrType, 0)
	}
	for text, where := range map[string]int{"an[t]": 3, "an[T]": 3, "aN[ xt]": 4, "at[(true)]": 4, "an[n < 1]": 3, "an[an]": 3, "an[f]": 3, "-t": 1, "-T": 1, "- (true)": 3, "!n": 1, "!N": 1, "!0": 1, "--t": 2, "-!n": 2, "-!t": 1, "!-n": 1, "!-t": 2, "!(1 + 2)": 2, "an[-t]": 4} {
		wrong(t, s, text, api.ErrType, where)
	}
	for text, where := range map[string]int{"an[N]": 3, "aN[xN]": 3, "at[aN[0]]": 3, "aT[(1 + N)]": 4, "an[an[N]]": 6, "an[-N]": 3, "an[aN[N]]": 6, "-an[N]": 4, "!at[1 + N]": 4, "an[g(1, t)]": 3} {
		wrong(t, s, text, api.ErrLabel, where)
	}
}

// P7.3: errors of operators, by hand.
func TestWrongOperator(t *testing.T) {
	s := scopeOf(t, text)
	for _, sign := range strings.Fields("+ - * / % & | ^ << >> < <= > >=") {
		behind := 3 + len(sign)
		wrong(t, s, "t "+sign+" n", api.ErrType, 0)
		wrong(t, s, "t "+sign+" t", api.ErrType, 0)
		wrong(t, s, "N "+sign+" T", api.ErrType, behind)
		wrong(t, s, "t "+sign+" u", api.ErrName, behind)
		wrong(t, s, "u "+sign+" v", api.ErrName, 0)
		wrong(t, s, "u "+sign+" t", api.ErrName, 0)
	}
	for _, sign := range strings.Fields("&& ||") {
		wrong(t, s, "n "+sign+" t", api.ErrType, 0)
		wrong(t, s, "n "+sign+" n", api.ErrType, 0)
		wrong(t, s, "T "+sign+" N", api.ErrType, 5)
		wrong(t, s, "n "+sign+" u", api.ErrName, 5)
	}
	for _, sign := range strings.Fields("== !=") {
		wrong(t, s, "n "+sign+" t", api.ErrType, 5)
		wrong(t, s, "T "+sign+" N", api.ErrType, 5)
		wrong(t, s, "t "+sign+" u", api.ErrName, 5)
		wrong(t, s, "u "+sign+" t", api.ErrName, 0)
	}
	for _, sign := range strings.Fields("/ %") {
		wrong(t, s, "n "+sign+" N", api.ErrLabel, 4)
		wrong(t, s, "N "+sign+" (xN)", api.ErrLabel, 5)
		wrong(t, s, "n "+sign+" T", api.ErrType, 4)
		wrong(t, s, "t "+sign+" N", api.ErrType, 0)
		wrong(t, s, "n + 1 "+sign+" N", api.ErrLabel, 8)
		wrong(t, s, "n "+sign+" N + u", api.ErrLabel, 4)
		wrong(t, s, "n "+sign+" (N + u)", api.ErrName, 9)
	}
}

// P7.3: errors of calls, by hand.
func TestWrongCall(t *testing.T) {
	s := scopeOf(t, text)
	for _, text := range []string{"n()", "n(u)", "an(1)", "m()", "m(u)", "xn()", "xT(1)", "f(1)", "f(u)", "g()", "g(u)", "g(u, t, u)", "g(1, t, t)", "h()", "h(u, u)"} {
		wrong(t, s, text, api.ErrType, 0)
	}
	for text, c := range map[string]struct {
		bad api.Errno
		at  int
	}{
		"g(u, v)": {api.ErrName, 2}, "g(t, u)": {api.ErrType, 2}, "g(T, u)": {api.ErrType, 2}, "g(N, u)": {api.ErrLabel, 2}, "g(N, n)": {api.ErrLabel, 2}, "g(n, u)": {api.ErrName, 5}, "g(n, n)": {api.ErrType, 5}, "g(n, N)": {api.ErrType, 5},
		"h(T)": {api.ErrLabel, 2}, "h(n)": {api.ErrType, 2}, "h(N)": {api.ErrType, 2}, "h(t && T)": {api.ErrLabel, 2}, "h(safe(n, n))": {api.ErrType, 10}, "h(h(t))": {api.ErrLabel, 2}, "safe(t, u)": {api.ErrType, 5}, "safe(n, 1)": {api.ErrType, 8},
		"1 + g(n, g)": {api.ErrType, 9}, "f() / g(1, t)": {api.ErrLabel, 6}, "f() && u()": {api.ErrName, 7}, "f() && t": {api.ErrType, 0}, "g(f(), !f())": {api.ErrType, 8}, "g(an[N], u)": {api.ErrLabel, 5},
	} {
		wrong(t, s, text, c.bad, c.at)
	}
}

// P7.2: what there can be of globals in a program by hand: a Len below 0 isn't 0, a name may be empty.
func TestOddGlobals(t *testing.T) {
	s := scope(t, api.Program{Globals: []api.Global{{Name: "below", At: 1, Len: -1, Type: typeOf('T')}, {At: 2, Type: typeOf('N')}, {Name: "most", At: 3, Len: math.MaxInt}}})
	place := []api.Expr{{At: 4}}
	for _, c := range []struct {
		e    api.Expr
		want string
		bad  api.Errno
	}{
		{api.Expr{Kind: api.Elem, Name: "below", Kids: place, At: 9}, "T", api.OK},
		{api.Expr{Kind: api.Elem, Name: "most", Kids: place, At: 9}, "n", api.OK},
		{api.Expr{Kind: api.Elem, Kids: place, At: 9}, "n", api.ErrType},
		{api.Expr{Kind: api.Var, Name: "below", At: 9}, "n", api.ErrType},
		{api.Expr{Kind: api.Var, Name: "most", At: 9}, "n", api.ErrType},
		{api.Expr{Kind: api.Var, At: 9}, "N", api.OK},
	} {
		where := 0
		if c.bad != api.OK {
			where = 9
		}
		if got, bad, at := types.Of(s, c.e); letterOf(got) != c.want || bad != c.bad || at != where {
			t.Errorf("%+v: %+v, %v at %d", c.e, got, bad, at)
		}
	}
}

// P7.2, P7.3: in scopes without any name.
func TestNoNames(t *testing.T) {
	own := new(names.Scope)
	for _, s := range []*names.Scope{nil, own, scopeOf(t, "")} {
		fine(t, s, "1 + -2 * 3 / 4", "n")
		fine(t, s, "!true && 1 < 2 || false == (3 != 4)", "t")
		for _, text := range []string{"n", "n[u]", "n(u)", "n()"} {
			wrong(t, s, text, api.ErrName, 0)
		}
		wrong(t, s, "1 + !2 * u", api.ErrType, 5)
	}
}
