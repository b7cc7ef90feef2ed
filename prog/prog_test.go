package prog_test

import (
	"reflect"
	"strings"
	"testing"

	"paling/api"
	"paling/prog"
)

var (
	publicInt  = api.Type{}
	secretInt  = api.Type{Secret: true}
	publicBool = api.Type{Truth: true}
	secretBool = api.Type{Truth: true, Secret: true}
)

// variable is a name as an expression.
func variable(name string, at int) api.Expr { return api.Expr{Kind: api.Var, Name: name, At: at} }

// number is one as an expression.
func number(n int64, at int) api.Expr { return api.Expr{Kind: api.Num, N: n, At: at} }

// list is some expressions.
func list(l ...api.Expr) []api.Expr { return l }

// of is the program of a text that is one.
func of(t *testing.T, s string) api.Program {
	t.Helper()
	p, bad, at := prog.Parse(s)
	if bad != api.OK || at != 0 {
		t.Fatalf("Parse(%.80q): %d, %d", s, int(bad), at)
	}
	return p
}

// wrong holds Parse of a text that is no program against what is wrong with it.
func wrong(t *testing.T, s string, bad api.Errno, at int) {
	t.Helper()
	if p, bad2, at2 := prog.Parse(s); bad2 != bad || at2 != at || !reflect.DeepEqual(p, api.Program{}) {
		t.Errorf("Parse(%.80q) = %v, %d, %d, not %d, %d", s, p, int(bad2), at2, int(bad), at)
	}
}

// P4.1: each thing, with all that it may have, and with as little; all places.
func TestThingsByHand(t *testing.T) {
	a := variable
	for s, want := range map[string]api.Program{
		"":                              {},
		" // nothing\n":                 {},
		"public int n;":                 {Globals: []api.Global{{At: 11, Name: "n", Type: publicInt}}},
		"secret int n;":                 {Globals: []api.Global{{At: 11, Name: "n", Type: secretInt}}},
		"public bool n ;":               {Globals: []api.Global{{At: 12, Name: "n", Type: publicBool}}},
		" secret  bool  n_0;":           {Globals: []api.Global{{At: 15, Name: "n_0", Type: secretBool}}},
		"public int n[1];":              {Globals: []api.Global{{At: 11, Name: "n", Len: 1}}},
		"public int n[64];":             {Globals: []api.Global{{At: 11, Name: "n", Len: 64}}},
		"public int n by m;":            {Globals: []api.Global{{At: 11, Name: "n", By: "m"}}},
		"secret bool n[7]by m;":         {Globals: []api.Global{{At: 12, Name: "n", Type: secretBool, Len: 7, By: "m"}}},
		"secret int n;lock m;":          {Globals: []api.Global{{At: 11, Name: "n", Type: secretInt}}, Locks: []api.Lock{{At: 18, Name: "m"}}},
		"lock m;public int n;":          {Globals: []api.Global{{At: 18, Name: "n"}}, Locks: []api.Lock{{At: 5, Name: "m"}}},
		"lock m; lock m;lock n;":        {Locks: []api.Lock{{At: 5, Name: "m"}, {At: 13, Name: "m"}, {At: 20, Name: "n"}}},
		"public int n;secret bool n;":   {Globals: []api.Global{{At: 11, Name: "n"}, {At: 25, Name: "n", Type: secretBool}}},
		"thread{}":                      {Threads: [][]api.Stmt{nil}},
		"thread { } thread { out 1; }":  {Threads: [][]api.Stmt{nil, {{Kind: api.Put, At: 20, E: list(number(1, 24))}}}},
		"func f()public int{return 1;}": {Funcs: []api.Func{{At: 5, Name: "f", Ret: number(1, 26)}}},
		"func f(secret bool a) secret bool { return a; }": {Funcs: []api.Func{
			{At: 5, Name: "f", Params: []api.Param{{Name: "a", Type: secretBool}}, Type: secretBool, Ret: a("a", 43)}}},
		"func g(public int a, secret int b,public bool c) public bool { out a; return b; }": {Funcs: []api.Func{
			{At: 5, Name: "g", Params: []api.Param{{Name: "a", Type: publicInt}, {Name: "b", Type: secretInt}, {Name: "c", Type: publicBool}}, Type: publicBool,
				Body: []api.Stmt{{Kind: api.Put, At: 63, E: list(a("a", 67))}}, Ret: a("b", 77)}}},
	} {
		if got := of(t, s); !reflect.DeepEqual(got, want) {
			t.Errorf("Parse(%q) = %v, not %v", s, got, want)
		}
	}
}

// P4.1: each statement, with all that it may have, and with as little; all places.
func TestStatementsByHand(t *testing.T) {
	a := variable
	put := func(at int) []api.Stmt { return []api.Stmt{{Kind: api.Put, At: at, E: list(number(1, at+4))}} }
	for s, want := range map[string][]api.Stmt{
		"thread{var public int a=1;}":       {{Kind: api.Let, At: 7, Name: "a", E: list(number(1, 24))}},
		"thread{var secret bool a = b;}":    {{Kind: api.Let, At: 7, Name: "a", Type: secretBool, E: list(a("b", 27))}},
		"thread{var public bool a = b;}":    {{Kind: api.Let, At: 7, Name: "a", Type: publicBool, E: list(a("b", 27))}},
		"thread{var secret int a = b;}":     {{Kind: api.Let, At: 7, Name: "a", Type: secretInt, E: list(a("b", 26))}},
		"thread{ a = b; }":                  {{Kind: api.Assign, At: 8, Name: "a", E: list(a("b", 12))}},
		"thread{a[b]=1;}":                   {{Kind: api.Assign, At: 7, Name: "a", Index: list(a("b", 9)), E: list(number(1, 12))}},
		"thread{if(a){}}":                   {{Kind: api.If, At: 7, E: list(a("a", 10))}},
		"thread{if(a){}else{}}":             {{Kind: api.If, At: 7, E: list(a("a", 10))}},
		"thread{if(a){out 1;}}":             {{Kind: api.If, At: 7, E: list(a("a", 10)), Body: put(13)}},
		"thread{if(a){}else{out 1;}}":       {{Kind: api.If, At: 7, E: list(a("a", 10)), Else: put(19)}},
		"thread{if(a){out 1;}else{out 1;}}": {{Kind: api.If, At: 7, E: list(a("a", 10)), Body: put(13), Else: put(25)}},
		"thread{while(a){}}":                {{Kind: api.While, At: 7, E: list(a("a", 13))}},
		"thread{while(a){out 1;}}":          {{Kind: api.While, At: 7, E: list(a("a", 13)), Body: put(16)}},
		"thread{lock m{}}":                  {{Kind: api.Hold, At: 7, Name: "m"}},
		"thread{lock m{out 1;}}":            {{Kind: api.Hold, At: 7, Name: "m", Body: put(14)}},
		"thread{out 1;out(1);}":             {{Kind: api.Put, At: 7, E: list(number(1, 11))}, {Kind: api.Put, At: 13, E: list(number(1, 17))}},
		"thread{if(a){if(b){out 1;}else{}}else{b=a;}}": {{Kind: api.If, At: 7, E: list(a("a", 10)),
			Body: []api.Stmt{{Kind: api.If, At: 13, E: list(a("b", 16)), Body: put(19)}},
			Else: []api.Stmt{{Kind: api.Assign, At: 38, Name: "b", E: list(a("a", 40))}}}},
	} {
		want := api.Program{Threads: [][]api.Stmt{want}}
		if got := of(t, s); !reflect.DeepEqual(got, want) {
			t.Errorf("Parse(%q) = %v, not %v", s, got, want)
		}
		in := "func f()public int{" + s[len("thread{"):len(s)-1] + "return 1;}" // a function's statements are read likewise
		shift(&want.Threads, len("func f()public int{")-len("thread{"))
		if got := of(t, in); len(got.Funcs) != 1 || !reflect.DeepEqual(got.Funcs[0].Body, want.Threads[0]) {
			t.Errorf("Parse(%q) = %v, not %v", in, got, want.Threads[0])
		}
	}
}

// P4.1: the words that can't stand where they do.
func TestWrongWords(t *testing.T) {
	for s, at := range map[string]int{
		"x": 0, "1": 0, ";": 0, "int n;": 0, "var public int a = 1;": 0, "out 1;": 0, "if (a) { }": 0, "{ }": 0, "lock m; }": 8, "return 1;": 0, "true": 0,
		"public": 6, "public n;": 7, "public secret int n;": 7, "public int": 10, "public int ;": 11, "public int if;": 11, "public int int;": 11, "public int 1;": 11, "public int true;": 11, "secret lock m;": 7,
		"public int a": 12, "public int a, b;": 12, "public int a = 1;": 13, "public int a b;": 13, "public int a by": 15, "public int a by;": 15, "public int a by by;": 16,
		"public int a by out;": 16, "public int a by m": 17, "public int a by m[1];": 17, "public int a by m by m;": 18,
		"public int a[": 13, "public int a[];": 13, "public int a[x];": 13, "public int a[-1];": 13, "public int a[true];": 13, "public int a[1": 14, "public int a[1 + 1];": 15,
		"public int a[1);": 14, "public int a[1][2];": 15, "public int a by m [1];": 18, "public int (a);": 11,
		"lock": 4, "lock;": 4, "lock m": 6, "lock lock;": 5, "lock 1;": 5, "lock m, n;": 6, "lock m by n;": 7, "lock m { }": 7, "lock m[1];": 6,
		"func": 4, "func (": 5, "func func(": 5, "func f": 6, "func f;": 6, "func f[": 6, "func f(": 7, "func f(,": 7, "func f(a": 7, "func f(int a": 7, "func f(public a": 14,
		"func f(public int": 17, "func f(public int)": 17, "func f(public int out": 18, "func f(public int a": 19, "func f(public int a;": 19, "func f(public int a[1])": 19,
		"func f(public int a public int b)": 20, "func f(public int a,)": 20, "func f(public int a,": 20, "func f(public int a,,": 20, "func f() {": 9, "func f() int {": 9,
		"func f() public {": 16, "func f() public int": 19, "func f() public int;": 19, "func f() public int return 1;": 20,
		"func f() public int {": 21, "func f() public int { }": 22, "func f() public int { return": 28, "func f() public int { return; }": 28, "func f() public int { return 1 }": 31,
		"func f() public int { return 1;": 31, "func f() public int { return 1; return 1; }": 32, "func f() public int { return 1; out 1; }": 32,
		"func f() public int { if (a) { return 1; } return 1; }": 31, "func f() public int { lock m; return 1; }": 28, "func f() public int { func": 22,
		"func f() public int { return 1; };": 33, "func f() public int { return if; }": 29,
		"thread": 6, "thread;": 6, "thread t {": 7, "thread {": 8, "thread { } }": 11, "thread { ; }": 9, "thread { 1; }": 9, "thread { 1 = a; }": 9, "thread { a }": 11,
		"thread { a; }": 10, "thread { a(1); }": 10, "thread { a 1; }": 11, "thread { a == 1; }": 11, "thread { a = ; }": 13, "thread { a = 1 }": 15, "thread { a = 1": 14,
		"thread { a = b = 1; }": 15, "thread { a = b c; }": 15, "thread { a[ = 1; }": 12, "thread { a[] = 1; }": 11, "thread { a[1 = 1; }": 13, "thread { a[1][2] = 1; }": 13,
		"thread { a[1]; }": 13, "thread { a[1, 2] = 1; }": 12, "thread { a = (1; }": 15, "thread { true = 1; }": 9, "thread { int = 1; }": 9, "thread { by = 1; }": 9,
		"thread { return 1; }": 9, "thread { return; }": 9, "thread { func f": 9, "thread { public int a = 1; }": 9, "thread { secret": 9, "thread { thread { } }": 9, "thread { { } }": 9,
		"thread { else { } }": 9, "thread { }; thread { }": 10, "thread { a = 1;; }": 15, "thread { f(); }": 10, "thread { -a = 1; }": 9, "thread { (a) = 1; }": 9,
		"thread { var a = 1; }": 13, "thread { var public a = 1; }": 20, "thread { var int a = 1; }": 13, "thread { var public int = 1; }": 24, "thread { var public int a; }": 25,
		"thread { var public int a[1] = 1; }": 25, "thread { var public int a 1; }": 26, "thread { var public int a = ; }": 28, "thread { var public int a = 1, b = 1; }": 29,
		"thread { var public int var = 1; }": 24, "thread { var public int a by m = 1; }": 26,
		"thread { if a { } }": 12, "thread { if { } }": 12, "thread { if () { } }": 13, "thread { if (a { } }": 15, "thread { if (a) }": 16, "thread { if (a) out 1; }": 16,
		"thread { if (a, b) { } }": 14, "thread { if (a) { } else }": 25, "thread { if (a) { } else if (b) { } }": 25, "thread { if (a) { } else { } else { } }": 29,
		"thread { if (a) { out 1; else { } }": 25, "thread { if (a) { } out 1; else { } }": 27, "thread { if (a) (b) { } }": 16, "thread { if (a = b) { } }": 15,
		"thread { if [a] { } }": 12, "thread { if (a) { }": 19, "thread { if (a) { } else {": 26,
		"thread { while a { } }": 15, "thread { while () { } }": 16, "thread { while (a) }": 19, "thread { while (a); }": 18, "thread { while (a) { } else { } }": 23,
		"thread { while (a) { out 1; }": 29, "thread { while (a { } }": 18, "thread { while { } }": 15,
		"thread { lock { } }": 14, "thread { lock m; }": 15, "thread { lock m }": 16, "thread { lock m { } else { } }": 20, "thread { lock (m) { } }": 14, "thread { lock 1 { } }": 14,
		"thread { lock if { } }": 14, "thread { lock m, n { } }": 15, "thread { lock m[1] { } }": 15, "thread { lock m {": 17,
		"thread { out; }": 12, "thread { out 1, 2; }": 14, "thread { out = 1; }": 13, "thread { out 1 }": 15, "thread { out 1": 14, "thread { out out; }": 13, "thread { out 1 +; }": 16,
		"thread { out f(1; }": 16, "thread { out a b; }": 15, "thread { out [1]; }": 13,
	} {
		wrong(t, s, api.ErrSyntax, at)
	}
}

// P4.1: an error of the words goes ahead of all others; the text's length ahead of all.
func TestWrongTexts(t *testing.T) {
	long := strings.Repeat("a", 25)
	wrong(t, "$", api.ErrLex, 0)
	wrong(t, "x } ) $", api.ErrLex, 6)
	wrong(t, strings.Repeat("thread{}", 5)+" 1x", api.ErrLex, 41)
	wrong(t, "thread { out "+strings.Repeat("(", 33)+"\xff", api.ErrLex, 46)
	wrong(t, "public int a[65] 01", api.ErrLex, 17)
	wrong(t, "x "+long, api.ErrLimit, 2)
	wrong(t, "lock "+long+";", api.ErrLimit, 5)
	wrong(t, "thread { out 9223372036854775808; }", api.ErrLex, 13)
	wrong(t, strings.Repeat(" ", 16385), api.ErrLimit, 0)
	wrong(t, "x $ "+strings.Repeat(" ", 16384), api.ErrLimit, 0)
	of(t, strings.Repeat(" ", 16384))
	of(t, "lock m;"+strings.Repeat(" ", 16384-7))
	wrong(t, "lock m"+strings.Repeat(" ", 16384-6), api.ErrSyntax, 16384)
	of(t, "lock "+long[1:]+";")
}

// P4.1: texts as long as may be.
func TestLongTexts(t *testing.T) {
	many := strings.Repeat
	if p := of(t, "thread{"+many("a=1;", 4094)+"}"); len(p.Threads[0]) != 4094 || prog.Count(p.Threads[0]) != 4094 {
		t.Error("not 4094 statements")
	}
	if p := of(t, "thread{"+many("if(a){}else{b=1;}", 963)+"}"); len(p.Threads[0]) != 963 || prog.Count(p.Threads[0]) != 2*963 {
		t.Error("not 963 statements")
	}
	if p := of(t, "thread{out a"+many("+a", 8185)+";}"); len(p.Threads[0]) != 1 {
		t.Error("not one statement")
	}
	wrong(t, "thread{"+many("a=1;", 4094), api.ErrSyntax, 16383)
	wrong(t, "thread{"+many("a=1;", 4094)+")", api.ErrSyntax, 16383)
}
