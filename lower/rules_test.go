package lower_test

import (
	"math"
	"reflect"
	"slices"
	"strconv"
	"sync"
	"testing"

	"paling/api"
	"paling/lower"
	"paling/sample"
	"paling/show"
)

// lists does something with each list of a thing, those within others behind these.
func lists(v reflect.Value, do func(list reflect.Value)) {
	switch v.Kind() {
	case reflect.Struct:
		for i := range v.NumField() {
			lists(v.Field(i), do)
		}
	case reflect.Slice:
		do(v)
		for i := range v.Len() {
			lists(v.Index(i), do)
		}
	}
}

// roomy lets a list have room behind its end, in which nothing stands.
func roomy(list reflect.Value) {
	n := list.Len()
	l := reflect.MakeSlice(list.Type(), n+2, n+2)
	reflect.Copy(l, list)
	list.Set(l.Slice(0, n))
}

// open lets a list have what stands in the room behind its end.
func open(list reflect.Value) { list.Set(list.Slice(0, list.Cap())) }

// Rule 3: what is handed in isn't changed, the room behind its lists' ends included.
func TestNothingIsChanged(t *testing.T) {
	for seed := range 200 {
		p, same := sample.Write(seed).Program, sample.Write(seed).Program
		lists(reflect.ValueOf(&p).Elem(), roomy)
		lists(reflect.ValueOf(&same).Elem(), roomy)
		for n := -1; n <= len(p.Threads); n++ {
			lower.Thread(p, n)
		}
		lower.Program(p)
		lists(reflect.ValueOf(&p).Elem(), open)
		lists(reflect.ValueOf(&same).Elem(), open)
		if !reflect.DeepEqual(p, same) {
			t.Fatal(show.Program(sample.Write(seed).Program))
		}
	}
}

// Rules 3, 4: a program is told as it is now, and what was told of it stays as it was.
func TestNothingIsKept(t *testing.T) {
	p := program(t, "lock l; lock m; public int a; public int t[2]; func f(public int x) public int { return 7; } thread { lock m { out t[f(a)]; } }")
	first, _ := lower.Thread(p, 0)
	p.Locks[0], p.Locks[1] = p.Locks[1], p.Locks[0]
	p.Globals[0], p.Globals[1] = p.Globals[1], p.Globals[0]
	p.Globals[0].Len = 3
	p.Funcs[0].Ret = sample.Named("x")
	p.Threads[0][0].Body[0].E[0].Kids[0].Kids[0] = sample.Two(api.Div, sample.Named("a"), sample.Number(5))
	second, _ := lower.Thread(p, 0)
	if got := shown(first); got != "take 1; load r0 0; move r1 r0; set r2 7; set r3 2; calc r4 r2 below r3; zero r4 13; set r5 1; calc r6 r2 & r5; load r7 1 r6; out r7; give 1; halt; trap 2" {
		t.Error(got)
	}
	if got := shown(second); got != "take 0; load r0 3; set r1 5; zero r1 14; calc r2 r0 / r1; move r3 r2; move r4 r3; set r5 3; calc r6 r4 below r5; zero r6 15; load r7 0 r4; out r7; give 0; halt; trap 1; trap 2" {
		t.Error(got)
	}
}

// Rule 3: what is told is new memory each time, and shares nothing with what else is told.
func TestMemoryIsNew(t *testing.T) {
	p := program(t, several)
	p.Threads = append(p.Threads[:3:3], p.Threads[0])
	want, _ := lower.Program(p)
	for n := range want {
		all, _ := lower.Program(p)
		alone, _ := lower.Thread(p, n)
		for _, c := range []api.Code{all[n], alone} {
			for at := range c[:cap(c)] {
				c[:cap(c)][at] = api.Ins{Kind: api.Out, A: 77}
			}
		}
		again, _ := lower.Program(p)
		for i, c := range want {
			if i != n && !slices.Equal(all[i], c) || !slices.Equal(again[i], c) {
				t.Errorf("%d, %d: %s, %s, not %s", n, i, shown(all[i]), shown(again[i]), shown(c))
			}
		}
		clear(all[:cap(all)])
	}
}

// Rule 4: what is told hangs on the arguments alone, whoever else asks at the same time, and in which order.
func TestAlwaysTheSame(t *testing.T) {
	var programs []api.Program
	var wants [][]api.Code
	for seed := range 30 {
		p := sample.Write(seed).Program
		l, _ := lower.Program(p)
		programs, wants = append(programs, p), append(wants, l)
	}
	var group sync.WaitGroup
	for from := range 4 {
		group.Go(func() {
			for i := range 60 {
				n := (i*7 + from) % len(programs)
				if l, _ := lower.Program(programs[n]); !slices.EqualFunc(l, wants[n], slices.Equal[api.Code]) {
					t.Errorf("%d: %v, not %v", n, l, wants[n])
				}
			}
		})
	}
	group.Wait()
}

// another lets what stands in a list, or in one of its things, have another name, another place in a text, and, unless it is a global, a type of its own kind.
func another(list reflect.Value) {
	for i := range list.Len() {
		x := list.Index(i)
		if x.Kind() != reflect.Struct {
			continue
		}
		if ret := x.FieldByName("Ret"); ret.IsValid() {
			rename(ret)
		}
		if kind := x.FieldByName("Type"); kind.IsValid() && x.Type() != reflect.TypeFor[api.Global]() {
			kind.SetZero()
		}
		rename(x)
	}
}

// rename lets a thing have another name, if it has one, and another place.
func rename(x reflect.Value) {
	if name := x.FieldByName("Name"); name.String() != "" {
		name.SetString(name.String() + "_")
	}
	if at := x.FieldByName("At"); at.IsValid() {
		at.SetInt(99 - at.Int())
	}
}

// P13.1: where things stand in a text, what they are called, and what types they have, but for where globals stand, plays no part.
func TestWhatPlaysNoPart(t *testing.T) {
	for seed := range 300 {
		p := sample.Write(seed).Program
		want, _ := lower.Program(p)
		lists(reflect.ValueOf(&p).Elem(), another)
		if l, _ := lower.Program(p); !slices.EqualFunc(l, want, slices.Equal[api.Code]) {
			t.Fatalf("%s%v, not %v", show.Program(p), l, want)
		}
	}
}

// odd are expressions, and statements, as no program that may be has them: of kinds that there aren't, with names and kids that don't belong to them.
func odd() ([]api.Expr, []api.Stmt) {
	var exprs []api.Expr
	var stmts []api.Stmt
	for kind := -1; kind < 10; kind++ {
		for _, name := range []string{"", "g", "t", "m", "f", "late", "x", "none"} {
			for kids := range 4 {
				exprs = append(exprs, api.Expr{Kind: kind, Op: api.Div * (kids % 2), Name: name, N: math.MinInt64, Kids: make([]api.Expr, kids)})
				s := api.Stmt{Kind: kind, Name: name, E: make([]api.Expr, kids), Index: make([]api.Expr, kids/2)}
				stmts = append(stmts, s)
				s.Body, s.Else = stmts[len(stmts)-1:], stmts[len(stmts)-1:]
				stmts = append(stmts, s)
			}
		}
	}
	for _, e := range exprs {
		stmts = append(stmts, api.Stmt{Kind: api.Put, E: []api.Expr{e}}, api.Stmt{Kind: api.Assign, Name: "t", Index: []api.Expr{e}, E: []api.Expr{e}})
	}
	return exprs, stmts
}

// What no program is comes to an end, too, and to no panic.
func TestOddPrograms(t *testing.T) {
	exprs, stmts := odd()
	for i, s := range stmts {
		e := exprs[i%len(exprs)]
		body := []api.Stmt{s, {Kind: api.Let, Name: "x"}, s, {Kind: api.While, Body: []api.Stmt{s}}, {Kind: api.Put, E: []api.Expr{{Kind: api.Call, Name: "f", Kids: []api.Expr{e, e}}}}}
		p := api.Program{
			Globals: []api.Global{{Name: "g"}, {Name: "t", Len: 3}, {Name: "n", Len: math.MinInt}, {Name: "h", Len: math.MaxInt}},
			Locks:   []api.Lock{{Name: "m"}},
			Funcs:   []api.Func{{Name: "f", Params: []api.Param{{Name: "a"}, {Name: "b"}}, Body: body, Ret: e}, {Name: "late", Body: body, Ret: api.Expr{Kind: api.Call, Name: "f", Kids: []api.Expr{e, e}}}},
			Threads: [][]api.Stmt{body, {s}},
		}
		for n := range p.Threads {
			c, is := lower.Thread(p, n)
			if is == (len(c) == 0) || len(c) > api.MaxCode {
				t.Errorf("%+v: %t, %d", s, is, len(c))
			}
		}
	}
}

// Functions that call themselves, or one another, are none that may be, and come to an end.
func TestCallsThatMayNotBe(t *testing.T) {
	f := func(name, calls string, more ...api.Expr) api.Func {
		return api.Func{Name: name, Ret: api.Expr{Kind: api.Call, Name: calls, Kids: more}}
	}
	call := api.Expr{Kind: api.Call, Name: "f"}
	for _, funcs := range [][]api.Func{{f("f", "f")}, {f("f", "g"), f("g", "f")}, {f("g", "f"), f("f", "g")}, {f("f", "f"), f("f", "f"), f("g", "f"), f("f", "g"), f("f", "f")}, {f("f", "f", call, call)}, nil} {
		c, is := lower.Thread(api.Program{Funcs: funcs, Threads: [][]api.Stmt{{{Kind: api.Put, E: []api.Expr{call}}}}}, 0)
		if !is || len(c) < 2 {
			t.Errorf("%v: %t, %s", funcs, is, shown(c))
		}
	}
	var funcs []api.Func
	for i := range 1 << 16 {
		funcs = append(funcs, f("f"+strconv.Itoa(i+1), "f"+strconv.Itoa(i)))
	}
	funcs[0].Ret = sample.Number(5)
	call.Name = "f" + strconv.Itoa(len(funcs))
	c, is := lower.Thread(api.Program{Funcs: funcs, Threads: [][]api.Stmt{{{Kind: api.Put, E: []api.Expr{call}}}}}, 0)
	if got := shown(c); !is || got != "set r0 5; out r0; halt" {
		t.Errorf("%t: %s", is, got)
	}
}
