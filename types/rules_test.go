package types_test

import (
	"reflect"
	"slices"
	"strconv"
	"testing"

	"paling/api"
	"paling/names"
	"paling/types"
)

// wide is an expression with room behind the ends of its lists of kids, in which something stands.
func wide(e api.Expr) api.Expr {
	if e.Kids == nil {
		return e
	}
	kids := make([]api.Expr, 0, len(e.Kids)+3)
	for _, kid := range e.Kids {
		kids = append(kids, wide(kid))
	}
	room := kids[:cap(kids)]
	for i := len(kids); i < len(room); i++ {
		room[i] = api.Expr{Kind: api.Var, Name: "room", At: i}
	}
	e.Kids = kids
	return e
}

// whole is an expression with the room of its lists, as a row.
func whole(e api.Expr) []any {
	kids := e.Kids
	e.Kids = nil
	l := []any{e, len(kids)}
	for i, kid := range kids[:cap(kids)] {
		if i < len(kids) {
			l = append(l, whole(kid)...)
		} else {
			l = append(l, kid)
		}
	}
	return l
}

// state is all that a scope tells of names.
func state(s *names.Scope, all []string) []any {
	l := []any{s.Locals()}
	for _, name := range all {
		g, n := s.Global(name)
		f, m := s.Func(name)
		l = append(l, s.Kind(name), s.Type(name), g, n, s.Lock(name), f, m)
	}
	return l
}

// Rule 3, rule 4: neither an expression nor a scope is changed, whether there is an error or not; and what is told is the same again, whatever was asked between.
func TestChangesNothing(t *testing.T) {
	d := dictionary()
	s, other := scope(t, programOf(d)), scope(t, api.Program{})
	all := append(sorted(d), "u", "")
	was := state(s, all)
	for seed := range 200 {
		w := &writer{d: d, n: uint64(seed)*2 + 1}
		e := w.write(letters[seed%4], 2+w.roll(20))
		if seed%3 == 0 {
			e = changed(e, w.roll(parts(e)), api.Expr{Kind: api.Var, Name: "u"})
		}
		e = placed(e)
		a, b := wide(e), wide(e)
		of, bad, at := types.Of(s, a)
		if !reflect.DeepEqual(whole(a), whole(b)) {
			t.Errorf("%+v was changed", b)
		}
		types.Of(other, a)
		if of2, bad2, at2 := types.Of(s, b); of2 != of || bad2 != bad || at2 != at {
			t.Errorf("%+v: %+v, %v at %d, and %+v, %v at %d", e, of, bad, at, of2, bad2, at2)
		}
	}
	if !reflect.DeepEqual(state(s, all), was) {
		t.Error("the scope was changed")
	}
	s.Leave()
	if got := s.Locals(); len(got) != 0 {
		t.Errorf("locals %q", got)
	}
}

// Rule 4: what a scope has come to in the meantime is what counts, not what it was when something was asked first.
func TestAsTheScopeIs(t *testing.T) {
	s := scopeOf(t, text)
	wrong(t, s, "v + n", api.ErrName, 0)
	s.Enter()
	for _, c := range []byte(letters) {
		s.Enter()
		if bad := s.Let("v", typeOf(c)); bad != api.OK {
			t.Fatal(bad)
		}
		fine(t, s, "v", string(c))
		wrong(t, s, "v[0]", api.ErrType, 0)
		wrong(t, s, "v()", api.ErrType, 0)
		s.Leave()
		wrong(t, s, "v", api.ErrName, 0)
	}
	one, two := scopeOf(t, "func f(public int a) secret int { return a; }"), scopeOf(t, "func f(secret bool a) public bool { return true; }")
	for range 2 {
		fine(t, one, "f(1) + f(2)", "N")
		fine(t, two, "f(!f(true))", "t")
	}
}

// P7.2, P7.3: Ats are but told: of what is wrong, the one that it has, whatever it is.
func TestAnyPlace(t *testing.T) {
	s := scopeOf(t, text)
	for _, at := range []int{-1 << 62, -1, 0, 1, 16384, 1 << 62} {
		u := api.Expr{Kind: api.Var, Name: "u", At: at}
		if got, bad, where := types.Of(s, api.Expr{Kind: api.Neg, Kids: []api.Expr{u}, At: 5}); got != (api.Type{}) || bad != api.ErrName || where != at {
			t.Errorf("%v at %d, not at %d", bad, where, at)
		}
		left, right := api.Expr{Kind: api.Num, At: 7}, api.Expr{Kind: api.Num, At: 8}
		for _, op := range []int{api.Below, -1, 19} {
			if got, bad, where := types.Of(s, api.Expr{Kind: api.Two, Op: op, Kids: []api.Expr{left, right}, At: at}); got != (api.Type{}) || bad != api.ErrType || where != at {
				t.Errorf("operator %d: %v at %d, not at %d", op, bad, where, at)
			}
		}
	}
}

// deep is an expression in another, and so on, as often as is told.
func deep(n int, e api.Expr, in func(e api.Expr) api.Expr) api.Expr {
	for range n {
		e = in(e)
	}
	return e
}

// P7.2: how deep an expression is plays no part; the type, and an error at the bottom, are told all the same.
func TestDeep(t *testing.T) {
	const most = 1 << 16
	s := scopeOf(t, text+" public int i[2]; func s(secret int a) secret int { return a; }")
	one, yes := api.Expr{Kind: api.Num, N: 1}, api.Expr{Kind: api.Truth, N: 1}
	for i, c := range []struct {
		bottom api.Expr
		want   string
		in     func(e api.Expr) api.Expr
	}{
		{one, "n", func(e api.Expr) api.Expr { return api.Expr{Kind: api.Neg, Kids: []api.Expr{e}, At: 3} }},
		{yes, "t", func(e api.Expr) api.Expr { return api.Expr{Kind: api.Not, Kids: []api.Expr{e}, At: 3} }},
		{one, "n", func(e api.Expr) api.Expr { return api.Expr{Kind: api.Elem, Name: "i", Kids: []api.Expr{e}, At: 3} }},
		{one, "N", func(e api.Expr) api.Expr { return api.Expr{Kind: api.Call, Name: "s", Kids: []api.Expr{e}, At: 3} }},
		{one, "n", func(e api.Expr) api.Expr {
			return api.Expr{Kind: api.Two, Op: api.Div, Kids: []api.Expr{one, e}, At: 3}
		}},
		{one, "N", func(e api.Expr) api.Expr {
			return api.Expr{Kind: api.Two, Op: api.Sub, Kids: []api.Expr{e, {Kind: api.Var, Name: "N"}}, At: 3}
		}},
		{yes, "t", func(e api.Expr) api.Expr {
			return api.Expr{Kind: api.Two, Op: api.Both, Kids: []api.Expr{e, yes}, At: 3}
		}},
	} {
		if got, bad, at := types.Of(s, deep(most, c.bottom, c.in)); letterOf(got) != c.want || bad != api.OK || at != 0 {
			t.Errorf("%d: %+v, %v at %d", i, got, bad, at)
		}
		if got, bad, at := types.Of(s, deep(most, api.Expr{Kind: api.Var, Name: "u", At: 77}, c.in)); got != (api.Type{}) || bad != api.ErrName || at != 77 {
			t.Errorf("%d: %+v, %v at %d", i, got, bad, at)
		}
	}
}

// P7.3: far more params and kids than a text may have.
func TestManyKids(t *testing.T) {
	const most = 1 << 16
	f := api.Func{Name: "f", Type: typeOf('t')}
	var kids []api.Expr
	for i := range most {
		c := letters[i%4]
		f.Params = append(f.Params, api.Param{Name: "p", Type: typeOf(c)})
		kids = append(kids, api.Expr{Kind: api.Var, Name: "x" + string(c), At: i + 1})
	}
	s := scope(t, api.Program{Funcs: []api.Func{f}})
	call := func(kids []api.Expr, want string, bad api.Errno, at int) {
		t.Helper()
		if got, bad2, at2 := types.Of(s, api.Expr{Kind: api.Call, Name: "f", Kids: kids, At: -5}); letterOf(got) != want || bad2 != bad || at2 != at {
			t.Errorf("%+v, %v at %d, not %s, %v at %d", got, bad2, at2, want, bad, at)
		}
	}
	call(kids, "t", api.OK, 0)
	call(kids[1:], "n", api.ErrType, -5)
	call(append(slices.Clone(kids), kids[0]), "n", api.ErrType, -5)
	kids[most-1].Name = "u"
	call(kids, "n", api.ErrName, most)
	kids[most-2].Name = "xT"
	call(kids, "n", api.ErrLabel, most-1)
}

// Rule 1: it ends soon, however often a long function is called.
func TestManyCalls(t *testing.T) {
	body := make([]api.Stmt, 1<<14)
	for i := range body {
		body[i] = api.Stmt{Name: "v" + strconv.Itoa(i), E: []api.Expr{{Kids: []api.Expr{{}, {}}}}}
	}
	s := scope(t, api.Program{Funcs: []api.Func{{Name: "f", At: 1, Type: typeOf('N'), Body: body}, {Name: "g", At: 2, Body: body, Params: []api.Param{{Name: "a", Type: typeOf('N')}}}}})
	f := api.Expr{Kind: api.Call, Name: "f"}
	e := deep(1<<14, f, func(e api.Expr) api.Expr {
		g := api.Expr{Kind: api.Call, Name: "g", Kids: []api.Expr{f}}
		return api.Expr{Kind: api.Two, Op: api.Add, Kids: []api.Expr{e, g}}
	})
	if got, bad, at := types.Of(s, e); letterOf(got) != "N" || bad != api.OK || at != 0 {
		t.Errorf("%+v, %v at %d", got, bad, at)
	}
}

// Rule 1: an expression that no text tells, with too few kids or too many, has no panic; and an error has no type.
func TestOddKids(t *testing.T) {
	s := scopeOf(t, text)
	n := api.Expr{Kind: api.Var, Name: "n", At: 2}
	for kind := -1; kind <= 9; kind++ {
		for _, name := range []string{"", "n", "an", "f", "g", "m", "xT", "u"} {
			for op := -1; op <= 20; op++ {
				for _, kids := range [][]api.Expr{nil, {}, {n}, {n, n}, {n, n, n}, {{Kind: api.Two}}, {n, {Kind: api.Elem, Name: "an"}}} {
					e := api.Expr{Kind: kind, Op: op, Name: name, Kids: kids, At: 1}
					if got, bad, at := types.Of(s, e); bad == api.OK && at != 0 || bad != api.OK && got != (api.Type{}) {
						t.Errorf("%+v: %+v, %v at %d", e, got, bad, at)
					}
				}
			}
		}
	}
}
