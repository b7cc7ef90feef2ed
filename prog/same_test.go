package prog_test

import (
	"reflect"
	"strings"
	"testing"
	"unsafe"

	"paling/api"
	"paling/prog"
)

// whole is a text with each kind of thing and of statement, each with all that it may have.
const whole = "public int n; secret bool k[8] by m; lock m; lock o; func f(secret int a, public bool b) secret int { var secret int s = a; if (b) { s = 1; } return s; } func g() public int { return -1; } " +
	"thread { lock m { t[n] = f(n, true); } out n; out 1; if (a) { out 1; while (b) { n = 2; } } else { out 2; if (b) { } else { out 3; } } } thread { }"

// visit calls do for each thing within a program, and tells how many there are.
func visit(p *api.Program, do func(spot int, v reflect.Value)) int {
	spot := 0
	fields(reflect.ValueOf(p).Elem(), func(_ string, v reflect.Value) {
		do(spot, v)
		spot++
	})
	return spot
}

// change makes a value another one, in one of three ways.
func change(v reflect.Value, way int) {
	switch kind := v.Kind(); {
	case kind == reflect.Bool:
		v.SetBool(!v.Bool())
	case kind == reflect.String && way == 0:
		v.SetString(v.String() + "x")
	case kind == reflect.String:
		v.SetString("")
	case v.CanInt() && way == 0:
		v.SetInt(v.Int() + 1)
	case v.CanInt():
		v.SetInt(v.Int() - 1<<40)
	case kind == reflect.Slice && way == 0:
		v.Set(reflect.Append(v, reflect.Zero(v.Type().Elem())))
	case kind == reflect.Slice && way == 1 && v.Len() > 0:
		v.SetLen(v.Len() - 1)
	case kind == reflect.Slice && way == 2 && v.Len() > 1:
		reflect.Swapper(v.Interface())(0, 1)
	}
}

// bare is a program without its places.
func bare(p api.Program) api.Program {
	fields(reflect.ValueOf(&p).Elem(), func(name string, v reflect.Value) {
		if name == "At" {
			v.SetInt(0)
		}
	})
	return p
}

// P4.2: Same and Body hold all against each other but At: each thing of a program is changed in turn.
func TestSame(t *testing.T) {
	first := of(t, whole)
	spots := visit(&first, func(int, reflect.Value) {})
	same := 0
	for n := range spots {
		for way := range 3 {
			first, bent := of(t, whole), of(t, whole)
			visit(&bent, func(spot int, v reflect.Value) {
				if spot == n {
					change(v, way)
				}
			})
			if holdSame(t, first, bent) {
				same++
			}
		}
	}
	if same < 100 || same > spots*3-300 {
		t.Errorf("%d of %d are the same", same, spots*3)
	}
}

// holdSame holds Same and Body of two programs, that have as many functions and threads, against what is meant, and tells whether they are the same.
func holdSame(t *testing.T, a, b api.Program) bool {
	t.Helper()
	is := prog.Same(a, b)
	rows := [][2][]api.Stmt{}
	for i := range min(len(a.Threads), len(b.Threads)) {
		rows = append(rows, [2][]api.Stmt{a.Threads[i], b.Threads[i]})
	}
	for i := range min(len(a.Funcs), len(b.Funcs)) {
		rows = append(rows, [2][]api.Stmt{a.Funcs[i].Body, b.Funcs[i].Body})
	}
	bodies := make([]bool, len(rows))
	for i, r := range rows {
		bodies[i] = prog.Body(r[0], r[1])
		if prog.Body(r[1], r[0]) != bodies[i] {
			t.Errorf("Body of %v and %v hangs on their order", r[0], r[1])
		}
	}
	if prog.Same(b, a) != is {
		t.Errorf("Same of %v and %v hangs on their order", a, b)
	}
	a, b = bare(a), bare(b) // the rows are these programs', and bare now, too
	if is != reflect.DeepEqual(a, b) {
		t.Errorf("Same(%v, %v) is %v", a, b, is)
	}
	for i, r := range rows {
		if bodies[i] != alike(r[0], r[1]) {
			t.Errorf("Body(%v, %v) is %v", r[0], r[1], bodies[i])
		}
	}
	return is
}

// alike tells whether two lists are the same; nil and empty ones are one.
func alike(a, b []api.Stmt) bool { return len(a)+len(b) == 0 || reflect.DeepEqual(a, b) }

// P4.2: written out; texts that differ in their blanks, notes and brackets alone come to the same.
func TestSameByHand(t *testing.T) {
	for _, c := range []struct {
		a, b string
		is   bool
	}{
		{"", " // \n", true}, {whole, strings.ReplaceAll(whole, " ", " \t\n"), true}, {whole, "//\n" + whole, true}, {"thread{out(1);}", "thread { out 1; }", true}, {"thread{a=b+c*d;}", "thread{a=(b)+(c*d);}", true},
		{"thread{if(a){}}", "thread{if(a){}else{}}", true}, {"lock m; public int n; thread{}", "public int n; lock m; thread{}", true}, {"thread{} lock m; thread{out 1;}", "lock m; thread{} thread{out 1;}", true},
		{"", "thread{}", false}, {"thread{}", "thread{}thread{}", false}, {"lock m;", "lock n;", false}, {"lock m; lock n;", "lock n; lock m;", false}, {"public int n;", "lock n;", false}, {"public int n;", "public int n[1];", false}, {"public int n[1];", "public int n[2];", false}, {"public int n by m;", "public int n;", false}, {"public int n by m;", "public int n by n;", false}, {"public int n;", "public bool n;", false}, {"public int n;", "secret int n;", false},
		{"thread{out 1;}", "thread{}", false}, {"thread{out 1;}thread{}", "thread{}thread{out 1;}", false}, {"thread{out a;}", "thread{out -a;}", false}, {"thread{a=b+c*d;}", "thread{a=(b+c)*d;}", false}, {"thread{a=1;}", "thread{a[1]=1;}", false}, {"thread{a=1;}", "thread{var public int a=1;}", false}, {"thread{while(a){}}", "thread{if(a){}}", false}, {"thread{if(a){out 1;}}", "thread{if(a){}else{out 1;}}", false}, {"thread{if(a){out 1;}}", "thread{if(a){}out 1;}", false}, {"thread{lock m{}}", "thread{lock n{}}", false},
		{"func f()public int{return 1;}", "func f()public int{return 2;}", false}, {"func f()public int{return 1;}", "func g()public int{return 1;}", false}, {"func f()public int{return 1;}", "func f()public bool{return 1;}", false}, {"func f()public int{return 1;}", "func f(public int a)public int{return 1;}", false}, {"func f()public int{return 1;}", "func f()public int{out 1;return 1;}", false}, {"func f(public int a)public int{return 1;}", "func f(public int b)public int{return 1;}", false}, {"func f(public int a)public int{return 1;}", "func f(secret int a)public int{return 1;}", false},
	} {
		a, b := of(t, c.a), of(t, c.b)
		if prog.Same(a, b) != c.is || prog.Same(b, a) != c.is {
			t.Errorf("Same of %.60q and %.60q isn't %v", c.a, c.b, c.is)
		}
	}
	for seed := range 60 {
		a, b := write(seed, false), write(seed+1, false)
		if !prog.Same(a.program, of(t, a.text())) || prog.Same(a.program, b.program) && !reflect.DeepEqual(bare(a.program), bare(b.program)) {
			t.Errorf("seed %d", seed)
		}
	}
}

// Rule 3: nil and empty lists are one.
func TestSameOfEmptyLists(t *testing.T) {
	a, b := of(t, whole), of(t, whole)
	filled := 0
	visit(&b, func(_ int, v reflect.Value) {
		if v.Kind() == reflect.Slice && v.Len() == 0 {
			v.Set(reflect.MakeSlice(v.Type(), 0, 3))
			filled++
		}
	})
	if filled < 50 || !prog.Same(a, b) || !prog.Same(b, a) || !prog.Body(a.Threads[0], b.Threads[0]) || !prog.Body(nil, b.Threads[1]) || prog.Count(b.Threads[1]) != 0 {
		t.Errorf("%d empty lists aren't like nil ones", filled)
	}
}

// P4.2: how many statements there are, with those within.
func TestCount(t *testing.T) {
	for s, want := range map[string]int{
		"": 0, "out 1;": 1, "a = 1; a = 2; a = 3;": 3, "if (a) { }": 1, "if (a) { } else { }": 1, "if (a) { out 1; }": 2, "if (a) { } else { out 1; }": 2, "if (a) { out 1; } else { out 2; out 3; }": 4, "while (a) { out 1; out 2; }": 3, "lock m { }": 1, "lock m { out 1; } out 2;": 3,
		"if (a) { if (b) { while (c) { out 1; } } else { lock m { out 2; out 3; } } } else { if (d) { } else { out 4; } } out 5;": 10,
		"var public int i = 0; while (i < 3) { i = i + 1; } out i;":                                                               4,
		"lock m {" + nested([]string{"if(a){}else{", "while(b){out 1;"}, 30) + "}":                                                46,
	} {
		if got := prog.Count(of(t, "thread {"+s+"}").Threads[0]); got != want {
			t.Errorf("%d in %q, not %d", got, s, want)
		}
	}
	if prog.Count(nil) != 0 || prog.Count([]api.Stmt{}) != 0 || prog.Count(make([]api.Stmt, 1<<16)) != 1<<16 {
		t.Error("the statements of no text")
	}
	for seed := range 200 {
		w := write(seed, seed%20 == 0)
		n := 0
		for _, f := range w.program.Funcs {
			n += prog.Count(f.Body)
		}
		for _, l := range w.program.Threads {
			n += prog.Count(l)
		}
		if n != w.stmts {
			t.Errorf("%d in %q, not %d", n, w.text(), w.stmts)
		}
	}
}

// P4.2: deeper than any text may be, as lists may come from elsewhere.
func TestDeepLists(t *testing.T) {
	var a, b []api.Stmt
	for i := range 1 << 15 {
		a, b = []api.Stmt{{At: i, Body: a}}, []api.Stmt{{At: -i, Body: b}}
	}
	if prog.Count(a) != 1<<15 || !prog.Body(a, b) || prog.Body(a, a[0].Body) {
		t.Error("deep lists")
	}
}

// Rules 3 and 4: a program is new memory, no two lists of which share any, and the same again.
func TestParseKeepsNothing(t *testing.T) {
	s := strings.Clone(whole)
	p := of(t, s)
	begin := uintptr(unsafe.Pointer(unsafe.StringData(s)))
	fields(reflect.ValueOf(&p).Elem(), func(name string, v reflect.Value) {
		if v.Kind() == reflect.String && v.Len() > 0 {
			if at := uintptr(unsafe.Pointer(unsafe.StringData(v.String()))); begin <= at && at < begin+uintptr(len(s)) {
				t.Errorf("%s %q is a piece of the text that was handed in", name, v.String())
			}
		}
	})
	visit(&p, func(_ int, v reflect.Value) {
		if v.Kind() == reflect.Slice {
			room := v.Slice(0, v.Cap())
			for i := v.Len(); i < v.Cap(); i++ {
				scrawl(room.Index(i))
			}
		}
	})
	if again := of(t, whole); !reflect.DeepEqual(p, again) {
		t.Error("a list stands in another's room")
	}
	scrawl(reflect.ValueOf(&p).Elem())
	again, q := of(t, whole), of(t, whole)
	holdSame(t, again, q)
	again = of(t, whole)
	if q = of(t, whole); !reflect.DeepEqual(again, q) || reflect.DeepEqual(p, q) {
		t.Error("not the same again")
	}
}

// scrawl changes all within a thing, but how long its lists are.
func scrawl(v reflect.Value) {
	each := func(_ string, f reflect.Value) {
		if f.Kind() != reflect.Slice {
			change(f, 0)
		}
	}
	each("", v)
	fields(v, each)
}

// Rule 3: what is handed in isn't changed, the room behind its lists' ends included.
func TestSameChangesNothing(t *testing.T) {
	make2 := func() api.Program {
		p := of(t, whole)
		visit(&p, func(_ int, v reflect.Value) {
			if v.Kind() == reflect.Slice {
				for i := v.Len(); i < v.Cap(); i++ {
					scrawl(v.Slice(0, v.Cap()).Index(i))
				}
			}
		})
		return p
	}
	a, b, was := make2(), make2(), make2()
	prog.Same(a, b)
	for i := range a.Threads {
		prog.Body(a.Threads[i], b.Threads[i])
		prog.Count(a.Threads[i])
	}
	prog.Count(a.Funcs[0].Body)
	widen := func(p *api.Program) {
		visit(p, func(_ int, v reflect.Value) {
			if v.Kind() == reflect.Slice {
				v.SetLen(v.Cap())
			}
		})
	}
	widen(&a)
	widen(&b)
	widen(&was)
	if !reflect.DeepEqual(a, was) || !reflect.DeepEqual(b, was) {
		t.Error("what was handed in was changed")
	}
}
