package show_test

import (
	"math"
	"reflect"
	"strings"
	"testing"

	"paling/api"
	"paling/show"
)

// name is an expression that is a name.
func name(s string) api.Expr { return api.Expr{Kind: api.Var, Name: s} }

// names is a row of one.
func names(s string) []api.Expr { return []api.Expr{name(s)} }

// outs are statements that put names out.
func outs(all ...string) []api.Stmt {
	var l []api.Stmt
	for _, s := range all {
		l = append(l, api.Stmt{Kind: api.Put, E: names(s)})
	}
	return l
}

// lines is a text of lines.
func lines(all ...string) string { return strings.Join(append(all, ""), "\n") }

// times is an expression that needs brackets.
func times() api.Expr {
	sum := api.Expr{Kind: api.Two, Op: api.Add, Kids: []api.Expr{name("a"), {Kind: api.Num, N: 1}}}
	return api.Expr{Kind: api.Two, Op: api.Mul, Kids: []api.Expr{sum, {Kind: api.Neg, Kids: names("b")}}}
}

// P5.1: what each type is shown as.
func TestType(t *testing.T) {
	for _, c := range []struct {
		t    api.Type
		want string
	}{
		{api.Type{}, "public int"},
		{api.Type{Secret: true}, "secret int"},
		{api.Type{Truth: true}, "public bool"},
		{api.Type{Truth: true, Secret: true}, "secret bool"},
	} {
		if got := show.Type(c.t); got != c.want {
			t.Errorf("%v: %q, not %q", c.t, got, c.want)
		}
	}
}

// row is a statement, and its lines, without tabs ahead of all of them.
type row struct {
	s     api.Stmt
	lines []string
}

// rows are statements of each kind, by hand.
func rows() []row {
	deep := append(outs("b"), api.Stmt{Kind: api.While, E: names("c"), Body: outs("d", "e")})
	return []row{
		{api.Stmt{Kind: api.Let, Name: "x", E: names("a")}, []string{"var public int x = a;"}},
		{api.Stmt{Kind: api.Let, Type: api.Type{Secret: true, Truth: true}, Name: "y_1", E: []api.Expr{{Kind: api.Truth, N: 1}}}, []string{"var secret bool y_1 = true;"}},
		{api.Stmt{Kind: api.Assign, Name: "x", E: []api.Expr{times()}}, []string{"x = (a + 1) * -b;"}},
		{api.Stmt{Kind: api.Assign, Name: "x", Index: []api.Expr{times()}, E: names("a")}, []string{"x[(a + 1) * -b] = a;"}},
		{api.Stmt{Kind: api.Put, E: []api.Expr{times()}}, []string{"out (a + 1) * -b;"}},
		{api.Stmt{Kind: api.If, E: names("a")}, []string{"if (a) {", "}"}},
		{api.Stmt{Kind: api.If, E: names("a"), Else: []api.Stmt{}}, []string{"if (a) {", "}"}},
		{api.Stmt{Kind: api.If, E: []api.Expr{times()}, Body: outs("b")}, []string{"if ((a + 1) * -b) {", "\tout b;", "}"}},
		{api.Stmt{Kind: api.If, E: names("a"), Else: outs("c")}, []string{"if (a) {", "} else {", "\tout c;", "}"}},
		{api.Stmt{Kind: api.If, E: names("a"), Body: outs("b"), Else: deep}, []string{"if (a) {", "\tout b;", "} else {", "\tout b;", "\twhile (c) {", "\t\tout d;", "\t\tout e;", "\t}", "}"}},
		{api.Stmt{Kind: api.If, E: names("a"), Else: []api.Stmt{{Kind: api.If, E: names("b")}}}, []string{"if (a) {", "} else {", "\tif (b) {", "\t}", "}"}},
		{api.Stmt{Kind: api.While, E: []api.Expr{times()}}, []string{"while ((a + 1) * -b) {", "}"}},
		{api.Stmt{Kind: api.While, E: names("a"), Body: deep}, []string{"while (a) {", "\tout b;", "\twhile (c) {", "\t\tout d;", "\t\tout e;", "\t}", "}"}},
		{api.Stmt{Kind: api.Hold, Name: "m"}, []string{"lock m {", "}"}},
		{api.Stmt{Kind: api.Hold, Name: "m", Body: deep}, []string{"lock m {", "\tout b;", "\twhile (c) {", "\t\tout d;", "\t\tout e;", "\t}", "}"}},
	}
}

// behind is lines with tabs ahead of each.
func behind(tabs int, all []string) string {
	text := ""
	for _, line := range all {
		text += strings.Repeat("\t", tabs) + line + "\n"
	}
	return text
}

// P5.1: statements of each kind, alone, with tabs ahead.
func TestStmts(t *testing.T) {
	for _, r := range rows() {
		for _, tabs := range []int{0, 1, 2, 7, 100} {
			if got, want := show.Stmts([]api.Stmt{r.s}, tabs), behind(tabs, r.lines); got != want {
				t.Errorf("with %d tabs:\n%s\nnot\n%s", tabs, got, want)
			}
		}
	}
}

// P5.1: statements of any two kinds, one behind the other; and none.
func TestTwoStmts(t *testing.T) {
	for _, a := range rows() {
		for _, b := range rows() {
			want := behind(1, a.lines) + behind(1, b.lines)
			if got := show.Stmts([]api.Stmt{a.s, b.s}, 1); got != want {
				t.Errorf("%q, not %q", got, want)
			}
		}
	}
	for _, tabs := range []int{0, 1, math.MaxInt} {
		if got := show.Stmts(nil, tabs) + show.Stmts([]api.Stmt{}, tabs); got != "" {
			t.Errorf("nothing with %d tabs: %q", tabs, got)
		}
	}
}

// P5.1: statements of any kind within ones of any kind, with one more tab.
func TestWithin(t *testing.T) {
	for _, r := range rows() {
		for _, c := range []struct {
			s     api.Stmt
			ahead string
			last  string
		}{
			{api.Stmt{Kind: api.If, E: names("a"), Body: []api.Stmt{r.s}}, "if (a) {", "}"},
			{api.Stmt{Kind: api.If, E: names("a"), Else: []api.Stmt{r.s}}, "if (a) {\n\t\t} else {", "}"},
			{api.Stmt{Kind: api.While, E: names("a"), Body: []api.Stmt{r.s}}, "while (a) {", "}"},
			{api.Stmt{Kind: api.Hold, Name: "m", Body: []api.Stmt{r.s}}, "lock m {", "}"},
		} {
			want := lines("\t\t"+c.ahead) + behind(3, r.lines) + lines("\t\t"+c.last)
			if got := show.Stmts([]api.Stmt{c.s}, 2); got != want {
				t.Errorf("%q, not %q", got, want)
			}
		}
	}
}

// P5.2: the things of a program, each alone.
func TestThings(t *testing.T) {
	secret, truth := api.Type{Secret: true}, api.Type{Truth: true}
	for _, c := range []struct {
		p    api.Program
		want string
	}{
		{api.Program{}, ""},
		{api.Program{Globals: []api.Global{}, Locks: []api.Lock{}, Funcs: []api.Func{}, Threads: [][]api.Stmt{}}, ""},
		{api.Program{Locks: []api.Lock{{At: 5, Name: "m"}, {Name: "l"}}}, lines("lock m;", "lock l;")},
		{api.Program{Globals: []api.Global{{At: 9, Name: "n"}}}, lines("public int n;")},
		{api.Program{Globals: []api.Global{{Name: "n", Type: secret, Len: 1}}}, lines("secret int n[1];")},
		{api.Program{Globals: []api.Global{{Name: "n", Type: truth, By: "m"}}}, lines("public bool n by m;")},
		{api.Program{Globals: []api.Global{{Name: "n", Len: 64, By: "m"}, {Name: "a"}}}, lines("public int n[64] by m;", "public int a;")},
		{api.Program{Funcs: []api.Func{{At: 4, Name: "f", Ret: name("a")}}}, lines("func f() public int {", "\treturn a;", "}")},
		{api.Program{Funcs: []api.Func{{Name: "f", Type: secret, Params: []api.Param{{Name: "a", Type: truth}}, Body: outs("a", "b"), Ret: times()}}}, lines("func f(public bool a) secret int {", "\tout a;", "\tout b;", "\treturn (a + 1) * -b;", "}")},
		{api.Program{Funcs: []api.Func{{Name: "f", Type: truth, Params: []api.Param{{Name: "a"}, {Name: "b", Type: secret}, {Name: "c"}}, Ret: api.Expr{Kind: api.Num}}}}, lines("func f(public int a, secret int b, public int c) public bool {", "\treturn 0;", "}")},
		{api.Program{Threads: [][]api.Stmt{nil}}, lines("thread {", "}")},
		{api.Program{Threads: [][]api.Stmt{outs("a"), {}, outs("b", "c")}}, lines("thread {", "\tout a;", "}", "thread {", "}", "thread {", "\tout b;", "\tout c;", "}")},
	} {
		if got := show.Program(c.p); got != c.want {
			t.Errorf("%q, not %q", got, c.want)
		}
	}
}

// P5.2: the kinds of things stand in their order, and those of a kind in theirs; bodies are shown with one tab.
func TestProgram(t *testing.T) {
	var body []api.Stmt
	shown := ""
	for _, r := range rows() {
		body = append(body, r.s)
		shown += behind(1, r.lines)
	}
	p := api.Program{
		Threads: [][]api.Stmt{body, outs("a")},
		Funcs:   []api.Func{{Name: "z", Body: body, Ret: name("a")}, {Name: "f", Ret: name("b")}},
		Globals: []api.Global{{Name: "z"}, {Name: "b", By: "y"}},
		Locks:   []api.Lock{{Name: "y"}, {Name: "c"}},
	}
	want := lines("lock y;", "lock c;", "public int z;", "public int b by y;", "func z() public int {") + shown +
		lines("\treturn a;", "}", "func f() public int {", "\treturn b;", "}", "thread {") + shown + lines("}", "thread {", "\tout a;", "}")
	if got := show.Program(p); got != want {
		t.Errorf("%s\nnot\n%s", got, want)
	}
}

// P5.1, P5.2: how many things there are, and how deep they are, play no part.
func TestMany(t *testing.T) {
	deep := outs("a")
	for range 1000 {
		deep = []api.Stmt{{Kind: api.Hold, Name: "m", Body: deep}}
	}
	want := ""
	for i := range 1000 {
		want += strings.Repeat("\t", i+1) + "lock m {\n"
	}
	want += strings.Repeat("\t", 1001) + "out a;\n"
	for i := range 1000 {
		want += strings.Repeat("\t", 1000-i) + "}\n"
	}
	if show.Stmts(deep, 1) != want || show.Program(api.Program{Threads: [][]api.Stmt{deep}}) != "thread {\n"+want+"}\n" {
		t.Error("what is deep is shown otherwise")
	}
	var p api.Program
	var locks, globals, funcs, threads string
	param := api.Param{Name: strings.Repeat("p", 100)}
	params := strings.Repeat(", public int "+param.Name, 3000)[2:]
	for range 300 {
		p.Locks = append(p.Locks, api.Lock{Name: "m"})
		p.Globals = append(p.Globals, api.Global{Name: "g", Len: 65})
		p.Funcs = append(p.Funcs, api.Func{Name: "f", Ret: name("a")})
		p.Threads = append(p.Threads, nil)
		locks += "lock m;\n"
		globals += "public int g[65];\n"
		funcs += "func f() public int {\n\treturn a;\n}\n"
		threads += "thread {\n}\n"
	}
	for range 3000 {
		p.Funcs[299].Params = append(p.Funcs[299].Params, param)
	}
	funcs = strings.TrimSuffix(funcs, ") public int {\n\treturn a;\n}\n") + params + ") public int {\n\treturn a;\n}\n"
	if show.Program(p) != locks+globals+funcs+threads {
		t.Error("many things are shown otherwise")
	}
}

// Rule 1: what is no program ends too, without a panic.
func TestWrong(t *testing.T) {
	var wrong []api.Stmt
	for kind := -1; kind <= api.Put+1; kind++ {
		wrong = append(wrong, api.Stmt{Kind: kind})
		wrong = append(wrong, api.Stmt{Kind: kind, Index: []api.Expr{{Kind: -1}, name("a")}, E: []api.Expr{{Kind: api.Two}, {Kind: 9}}, Body: outs("a"), Else: outs("b")})
	}
	for _, s := range wrong {
		for _, tabs := range []int{0, -1, -2, math.MinInt} {
			show.Stmts([]api.Stmt{s, s}, tabs)
		}
	}
	show.Program(api.Program{
		Globals: []api.Global{{Len: -1}, {Len: math.MinInt}},
		Locks:   make([]api.Lock, 2),
		Funcs:   []api.Func{{Params: make([]api.Param, 2), Body: wrong, Ret: api.Expr{Kind: -5}}},
		Threads: [][]api.Stmt{wrong, nil},
	})
}

// Rules 3, 4: what is handed in is left as it is, the room behind its lists included, and the same is told again.
func TestKept(t *testing.T) {
	build := func() (api.Program, []api.Stmt) {
		var l []api.Stmt
		for _, r := range rows() {
			l = append(l, r.s)
		}
		room := append(outs("x", "y", "z"), l...)
		return api.Program{
			Locks:   []api.Lock{{At: 1, Name: "m"}, {Name: "l"}}[:1],
			Globals: []api.Global{{At: 2, Name: "g", Len: 3, By: "m"}, {Name: "h"}}[:1],
			Funcs:   []api.Func{{Name: "f", Params: []api.Param{{Name: "a"}, {Name: "b"}}[:1], Body: room[:2], Ret: times()}, {Name: "z"}}[:1],
			Threads: [][]api.Stmt{l, room[:1], nil}[:2],
		}, room
	}
	p, room := build()
	first, stmts := show.Program(p), show.Stmts(room, 1)
	if show.Program(p) != first || show.Stmts(room, 1) != stmts {
		t.Error("told otherwise when asked again")
	}
	q, fresh := build()
	if !reflect.DeepEqual(whole(p), whole(q)) || !reflect.DeepEqual(room, fresh) {
		t.Error("what was handed in was changed")
	}
}

// whole is a program with the room behind its lists.
func whole(p api.Program) api.Program {
	p.Locks = p.Locks[:cap(p.Locks)]
	p.Globals = p.Globals[:cap(p.Globals)]
	p.Funcs = p.Funcs[:cap(p.Funcs)]
	p.Threads = p.Threads[:cap(p.Threads)]
	p.Funcs[0].Params = p.Funcs[0].Params[:cap(p.Funcs[0].Params)]
	return p
}
