package check_test

import (
	"reflect"
	"slices"
	"strconv"
	"strings"
	"sync"
	"testing"

	"paling/api"
	"paling/check"
	"paling/show"
)

// roomy gives each list of a thing room behind its end, in which nothing stands.
func roomy(v reflect.Value) {
	switch v.Kind() {
	case reflect.Struct:
		for i := range v.NumField() {
			roomy(v.Field(i))
		}
	case reflect.Slice:
		n := v.Len()
		l := reflect.MakeSlice(v.Type(), n+2, n+2)
		reflect.Copy(l, v)
		for i := range n {
			roomy(l.Index(i))
		}
		v.Set(l.Slice(0, n))
	}
}

// written writes all of a thing, with the room behind its lists' ends.
func written(b *strings.Builder, v reflect.Value) {
	switch v.Kind() {
	case reflect.Struct:
		for i := range v.NumField() {
			written(b, v.Field(i))
		}
	case reflect.Slice:
		b.WriteString("[" + strconv.Itoa(v.Len()) + ":")
		for i := range v.Cap() {
			written(b, v.Slice(0, v.Cap()).Index(i))
		}
		b.WriteString("]")
	case reflect.String:
		b.WriteString(v.String() + " ")
	case reflect.Bool:
		b.WriteString(strconv.FormatBool(v.Bool()) + " ")
	default:
		b.WriteString(strconv.FormatInt(v.Int(), 10) + " ")
	}
}

// whole is all of a program as text, with the room behind its lists' ends.
func whole(p api.Program) string {
	var b strings.Builder
	written(&b, reflect.ValueOf(p))
	return b.String()
}

// Rule 3: what is handed in isn't changed, the room behind its lists' ends included, whether it may be or not.
func TestNothingIsChanged(t *testing.T) {
	for seed := range 60 {
		w := write(seed)
		for i := range 4 {
			p := w.p
			for range i {
				p = w.bent(p)
			}
			p = placed(p, seed)
			roomy(reflect.ValueOf(&p).Elem())
			before := whole(p)
			check.Program(p)
			check.Uses(p)
			if whole(p) != before {
				t.Fatal(show.Program(p))
			}
		}
	}
}

// Rule 3: what is told is new memory: no two lists of an answer share any, nor do two answers.
func TestNothingIsShared(t *testing.T) {
	text := "lock m; public int a by m; public int b by m; public int c; thread { lock m { a = 1; b = 1; } out c; } thread { lock m { a = b; } out c; } thread { lock m { b = a; } }"
	p, _, _ := check.Text(text)
	l := check.Uses(p)
	var rows [][]int
	for _, u := range l {
		rows = append(rows, u.Uses, u.Changes)
	}
	for i, row := range rows {
		for j := range row[:cap(row)] {
			row[:cap(row)][j] = -i - 1
		}
	}
	for i, row := range rows {
		for _, n := range row[:cap(row)] {
			if n != -i-1 {
				t.Errorf("row %d: %v", i, row[:cap(row)])
			}
		}
	}
	if got := usesOf(t, text); got != "012/01 012/02 01/" {
		t.Errorf("%q", got)
	}
	p.Globals[0].Name, p.Threads[0][0].Body[0].Name, p.Threads[1] = "x", "y", nil
	if got := usesOf(t, text); got != "012/01 012/02 01/" {
		t.Errorf("%q", got)
	}
}

// Rule 4: what is told is the same each time, whatever else is asked, and by whom.
func TestAlwaysTheSame(t *testing.T) {
	var l []api.Program
	var want []complaint
	for seed := range 40 {
		w := write(seed)
		for i := range 3 {
			p := w.p
			for range i {
				p = w.bent(p)
			}
			p = placed(p, seed)
			bad, at := check.Program(p)
			l, want = append(l, p), append(want, complaint{bad: bad, at: at})
		}
	}
	var all sync.WaitGroup
	for range 4 {
		all.Go(func() {
			for i, p := range slices.Backward(l) {
				if bad, at := check.Program(p); bad != want[i].bad || at != want[i].at {
					t.Errorf("%v at %d, not %+v", bad, at, want[i])
				}
			}
		})
	}
	all.Wait()
}

// Ats are but told: with all of them the same one, what is wrong is the same, if no name is there twice.
func TestAtsAreButTold(t *testing.T) {
	for seed := range 200 {
		w := write(seed)
		for range 4 {
			p := placed(w.bent(w.p), seed)
			c, uses := meant(p)
			if c.why == "twice" {
				continue
			}
			for _, at := range piecesOf(&p).ats {
				*at = -7
			}
			where := 0
			if c.bad != api.OK {
				where = -7
			}
			if bad, at := check.Program(p); bad != c.bad || at != where || !sameUses(check.Uses(p), uses) {
				t.Fatalf("%s\n%v at %d, not %+v", show.Program(p), bad, at, c)
			}
		}
	}
}

// deepRow is a statement within as many others, of all kinds that there are, in turn.
func deepRow(levels int, s api.Stmt) []api.Stmt {
	l := []api.Stmt{s}
	for i := range levels {
		around := api.Stmt{Kind: api.While, At: i, E: []api.Expr{{Kind: api.Truth, At: i}}, Body: l}
		if i%3 == 1 {
			around.Kind = api.If
		}
		if i%3 == 2 {
			around.Kind, around.Body, around.Else = api.If, nil, l
		}
		l = []api.Stmt{around}
	}
	return l
}

// deepExpr is an expression within as many others.
func deepExpr(levels int, e api.Expr) api.Expr {
	for i := range levels {
		e = api.Expr{Kind: api.Two, Op: api.Add, Kids: []api.Expr{{}, e}}
		if i%2 == 0 {
			e = api.Expr{Kind: api.Neg, Kids: []api.Expr{e}}
		}
	}
	return e
}

// How deep statements are plays no part, nor how many of them, or of what is in one expression, there are.
func TestDeepAndLong(t *testing.T) {
	many := 1 << 16
	put := func(name string) api.Stmt {
		return api.Stmt{Kind: api.Put, At: 3, E: []api.Expr{{Kind: api.Var, Name: name, At: 5}}}
	}
	g := []api.Global{{Name: "g", At: 1}}
	long := api.Expr{Kind: api.Call, Name: "f"}
	f := api.Func{Name: "f", Ret: deepExpr(many/2, api.Expr{Kind: api.Num})}
	var row []api.Stmt
	for i := range many {
		row = append(row, api.Stmt{Kind: api.Let, Name: "x" + strconv.Itoa(i), E: []api.Expr{{Kind: api.Var, Name: "g"}}})
	}
	for _, c := range []struct {
		body []api.Stmt
		want complaint
	}{
		{deepRow(many, put("g")), complaint{}},
		{deepRow(many, put("u")), complaint{bad: api.ErrName, at: 5}},
		{deepRow(many, api.Stmt{Kind: api.Assign, Name: "g", E: []api.Expr{long}}), complaint{}},
		{[]api.Stmt{{Kind: api.Put, E: []api.Expr{deepExpr(many/2, api.Expr{Kind: api.Var, Name: "g"})}}}, complaint{}},
		{[]api.Stmt{{Kind: api.Put, E: []api.Expr{deepExpr(many/2, api.Expr{Kind: api.Truth, At: 9})}}}, complaint{bad: api.ErrType, at: 9}},
		{row, complaint{}},
		{append(slices.Clone(row), put("g"), api.Stmt{Kind: api.Let, Name: "x7", At: 11, E: []api.Expr{{}}}), complaint{bad: api.ErrName, at: 11}},
	} {
		p := api.Program{Globals: g, Funcs: []api.Func{f}, Threads: [][]api.Stmt{c.body}}
		if bad, at := check.Program(p); bad != c.want.bad || at != c.want.at {
			t.Errorf("%v at %d, not %+v", bad, at, c.want)
		}
		if l := check.Uses(p); c.want.bad == api.OK && (len(l) != 1 || !slices.Equal(l[0].Uses, []int{0})) {
			t.Errorf("%v", l)
		}
	}
}

// Long texts end soon, even those that call functions with as many params and statements as there is room for.
func TestLongTexts(t *testing.T) {
	f := "func f(public int a,public int b,public int c,public int d,public int e,public int g)public int{"
	call := "f(1,2,3,4,5,6)"
	for _, text := range []string{
		f + strings.Repeat("a=a;", 1900) + "return a;}thread{out 1" + strings.Repeat("+"+call, 500) + ";}",
		f + "return a;}" + "thread{" + strings.Repeat("out "+call+";", 800) + "}",
		f + "return 1;}thread{out " + strings.Repeat("-", 31) + call + strings.Repeat("+(1)", 3900) + ";}",
	} {
		fine(t, text)
	}
}

// What no text tells comes to an end, too, and to no panic.
func TestOddPrograms(t *testing.T) {
	e := []api.Expr{{}}
	for _, s := range []api.Stmt{
		{Kind: api.Let, Name: "x"}, {Kind: api.Let, E: e}, {Kind: api.Let, Name: "x", E: []api.Expr{{}, {}}}, {Kind: api.Assign, Name: "g"}, {Kind: api.Assign, Name: "t", Index: []api.Expr{{}, {}}, E: e},
		{Kind: api.If}, {Kind: api.While}, {Kind: api.Put}, {Kind: -1}, {Kind: 6, E: e}, {Kind: api.Put, E: []api.Expr{{Kind: api.Neg}}}, {Kind: api.Put, E: []api.Expr{{Kind: 9}}}, {Kind: api.Put, E: []api.Expr{{Kind: api.Two, Op: api.Below, Kids: []api.Expr{{}, {}}}}},
	} {
		s.At = 4
		p := api.Program{Globals: []api.Global{{Name: "g"}, {Name: "t", Len: 3}}, Threads: [][]api.Stmt{{s}}}
		if bad, _ := check.Program(p); bad == api.OK {
			t.Errorf("%+v may be", s)
		}
		if l := check.Uses(p); len(l) != 0 {
			t.Errorf("%+v: %v", s, l)
		}
	}
}
