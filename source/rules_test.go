package source_test

import (
	"math"
	"reflect"
	"slices"
	"strconv"
	"strings"
	"sync"
	"testing"

	"paling/api"
	"paling/check"
	"paling/sample"
	"paling/show"
	"paling/source"
)

// roomy gives each list of a thing room behind its end, in which nothing stands.
func roomy(v reflect.Value) {
	switch v.Kind() {
	case reflect.Struct:
		for i := range v.NumField() {
			roomy(v.Field(i))
		}
	case reflect.Slice:
		n := v.Len()
		l := reflect.MakeSlice(v.Type(), n+2, n+2)
		reflect.Copy(l, v)
		for i := range n {
			roomy(l.Index(i))
		}
		v.Set(l.Slice(0, n))
	}
}

// all is all of a thing as text, with the room behind its lists' ends.
func all(b *strings.Builder, v reflect.Value) {
	switch v.Kind() {
	case reflect.Struct:
		for i := range v.NumField() {
			all(b, v.Field(i))
		}
	case reflect.Slice:
		b.WriteString("[" + strconv.Itoa(v.Len()) + ":")
		for i := range v.Cap() {
			all(b, v.Slice(0, v.Cap()).Index(i))
		}
		b.WriteString("]")
	case reflect.String:
		b.WriteString(v.String() + " ")
	case reflect.Bool:
		b.WriteString(strconv.FormatBool(v.Bool()) + " ")
	default:
		b.WriteString(strconv.FormatInt(v.Int(), 10) + " ")
	}
}

// text is all of a thing.
func text(x any) string {
	var b strings.Builder
	all(&b, reflect.ValueOf(x))
	return b.String()
}

// spoil changes all numbers, names and truths of a thing, those within its lists first.
func spoil(v reflect.Value) {
	switch v.Kind() {
	case reflect.Struct:
		for i := range v.NumField() {
			spoil(v.Field(i))
		}
	case reflect.Slice:
		for i := range v.Cap() {
			spoil(v.Slice(0, v.Cap()).Index(i))
		}
	case reflect.String:
		v.SetString("spoilt")
	case reflect.Bool:
		v.SetBool(!v.Bool())
	default:
		v.SetInt(v.Int() + 3)
	}
}

// turns is what turns of a run come to, by a seed.
func turns(r *source.Run, seed, threads int) []turned {
	dice := sample.Rolls(seed)
	var l []turned
	for range 60 {
		e, what := r.Next(dice.Roll(threads), some(dice))
		l = append(l, turned{e, what})
	}
	return l
}

// Rule 3: what is handed in is neither changed nor kept, the room behind its lists' ends included.
func TestNothingIsChangedOrKept(t *testing.T) {
	for seed := range 150 {
		w, mem := written(t, seed)
		want := source.New(w.Program, mem)
		p := sample.Write(seed).Program
		mem = slices.Clone(mem)
		roomy(reflect.ValueOf(&p).Elem())
		roomy(reflect.ValueOf(&mem).Elem())
		before := text(p) + text(mem)
		r := source.New(p, mem)
		first := turns(want, seed, len(p.Threads))
		turns(source.New(p, mem), seed, len(p.Threads))
		if text(p)+text(mem) != before {
			t.Fatal(show.Program(w.Program))
		}
		spoil(reflect.ValueOf(&p).Elem())
		spoil(reflect.ValueOf(&mem).Elem())
		if l := turns(r, seed, len(w.Program.Threads)); !slices.Equal(l, first) || !slices.Equal(r.Memory(), want.Memory()) {
			t.Fatalf("%s%v, not %v", show.Program(w.Program), l, first)
		}
	}
}

// Rule 3: what Memory tells is new memory each time, and two runs of one program have nothing in common.
func TestMemoryIsNew(t *testing.T) {
	p := program(t, "public int t[3]; thread { t[0] = t[0] + 1; out t[0]; t[1] = t[0]; out t[1]; }")
	mem := []int64{5, 6, 7, 8}
	r, other := source.New(p, mem), source.New(p, mem)
	for _, want := range [][]int64{{5, 6, 7}, {6, 6, 7}, {6, 6, 7}} {
		m := r.Memory()
		if !slices.Equal(m, want) {
			t.Errorf("%v, not %v", m, want)
		}
		for i := range m[:cap(m)] {
			m[:cap(m)][i] = 99
		}
		if again := r.Memory(); !slices.Equal(again, want) {
			t.Errorf("%v, not %v", again, want)
		}
		r.Next(0, 2)
	}
	if m := other.Memory(); !slices.Equal(m, []int64{5, 6, 7}) || !slices.Equal(mem, []int64{5, 6, 7, 8}) {
		t.Error(m, mem)
	}
	before := r.Memory()
	other.Next(0, 2)
	if got := next(other, 0, 2); got != "6" || !slices.Equal(r.Memory(), before) {
		t.Error(got, before)
	}
}

// Rule 4: what is told hangs on the arguments, and the run, alone, whoever else asks at the same time.
func TestAlwaysTheSame(t *testing.T) {
	w, mem := written(t, 7)
	want := turns(source.New(w.Program, mem), 1, len(w.Program.Threads))
	var group sync.WaitGroup
	for range 4 {
		group.Go(func() {
			for range 30 {
				if l := turns(source.New(w.Program, mem), 1, len(w.Program.Threads)); !slices.Equal(l, want) {
					t.Errorf("%v, not %v", l, want)
				}
			}
		})
	}
	group.Wait()
}

// Asking who owns a lock, or what stands in memory, or for what there isn't, changes nothing.
func TestAskingChangesNothing(t *testing.T) {
	for seed := range 100 {
		w, mem := written(t, seed)
		want := turns(source.New(w.Program, mem), seed, len(w.Program.Threads))
		asked := sample.Rolls(seed)
		r := source.New(w.Program, mem)
		for i, x := range want {
			r.Memory()
			for lock := -2; lock < 9; lock++ {
				r.Owner(lock)
			}
			r.Next(-1, plenty)
			r.Next(len(w.Program.Threads), plenty)
			if e, what := r.Next(asked.Roll(len(w.Program.Threads)), some(asked)); e != x.e || what != x.what {
				t.Fatalf("turn %d: %v, %d, not %v", i, e, what, x)
			}
		}
	}
}

// As many things as there may be: functions that call all ahead of them, params, locks one within the other, threads, and words.
func TestMost(t *testing.T) {
	var b strings.Builder
	b.WriteString("func f0(public int a) public int { return a + 1; }\n")
	for i := 1; i < api.MaxFuncs; i++ {
		n, before := strconv.Itoa(i), "f"+strconv.Itoa(i-1)
		b.WriteString("func f" + n + "(public int a) public int { return " + before + "(" + before + "(a)); }\n")
	}
	for i := range api.MaxLocks {
		b.WriteString("lock m" + strconv.Itoa(i) + ";\n")
	}
	for i := range api.MaxGlobals {
		b.WriteString("public int g" + strconv.Itoa(i) + "[64];\n")
	}
	b.WriteString("thread { out f15(5); }\nthread { out g31[63]; g31[63] = g0[0]; out g31[63]; out g31[64]; }\nthread { ")
	var want []string
	for i := range api.MaxLocks {
		b.WriteString("lock m" + strconv.Itoa(i) + " { ")
		want = append(want, "2: lock "+strconv.Itoa(i))
	}
	for i := range api.MaxLocks {
		want = append(want, "2: unlock "+strconv.Itoa(api.MaxLocks-1-i))
	}
	b.WriteString(strings.Repeat("} ", api.MaxLocks) + "}\nthread { " + strings.Repeat("if (true) { ", api.MaxNest-1) + "out 3; " + strings.Repeat("} ", api.MaxNest-1) + "}")
	mem := make([]int64, api.MaxGlobals*api.MaxLen)
	mem[0], mem[len(mem)-1] = 4, -4
	p := program(t, b.String())
	for thread, all := range []string{strconv.Itoa(5+1<<15) + ", halt", "1: -4, 1: 4, 1: trap 2", strings.Join(want, ", ") + ", 2: halt", "3: 3, 3: halt"} {
		if got := whole(source.New(p, mem), thread, plenty); got != all {
			t.Errorf("%d: %s, not %s", thread, got, all)
		}
	}
}

// nested is a row of statements within as many others.
func nested(levels int, l []api.Stmt) []api.Stmt {
	truth := []api.Expr{{Kind: api.Truth, N: 1}}
	for i := range levels {
		s := api.Stmt{Kind: api.If, E: truth, Body: l}
		if i%2 == 1 {
			s = api.Stmt{Kind: api.If, E: []api.Expr{{Kind: api.Truth}}, Else: l}
		}
		l = []api.Stmt{s}
	}
	return l
}

// How deep things are, and how many there are, plays no part.
func TestDeepAndLong(t *testing.T) {
	many := 1 << 16
	e := sample.Named("a")
	for range many / 2 {
		e = api.Expr{Kind: api.Neg, Kids: []api.Expr{sample.Two(api.Sub, sample.Number(1), e)}} // a less 1
	}
	f := api.Func{Name: "f", Params: []api.Param{{Name: "a"}}, Ret: e, Body: nested(many, []api.Stmt{{Kind: api.Assign, Name: "a", E: []api.Expr{sample.Two(api.Add, sample.Named("a"), sample.Number(7))}}})}
	call := api.Stmt{Kind: api.Put, E: []api.Expr{{Kind: api.Call, Name: "f", Kids: []api.Expr{sample.Number(5)}}}}
	var row []api.Stmt
	for i := range many {
		row = append(row, api.Stmt{Kind: api.Let, Name: "x" + strconv.Itoa(i), E: []api.Expr{sample.Number(i)}})
	}
	row = append(row, api.Stmt{Kind: api.Put, E: []api.Expr{sample.Named("x60000")}})
	p := api.Program{Funcs: []api.Func{f}, Threads: [][]api.Stmt{nested(many, []api.Stmt{call}), row}}
	if bad, at := check.Program(p); bad != api.OK {
		t.Fatal(bad, at)
	}
	r := source.New(p, nil)
	for i, x := range []turn{{0, 2*many + 2, "tired"}, {0, 2*many + 2, strconv.Itoa(12 - many/2)}, {0, 0, "halt"}, {1, many, "tired"}, {1, 1, "1: 60000"}, {1, 0, "1: halt"}} {
		if got := next(r, x.thread, x.fuel); got != x.want {
			t.Errorf("turn %d: %s, not %s", i, got, x.want)
		}
	}
}

// oddKinds are statements, and expressions, as no program that may be has them: with kids and names that don't belong to them.
func oddKinds() []api.Stmt {
	var l []api.Stmt
	var exprs []api.Expr
	for kind := -1; kind < 10; kind++ {
		for _, name := range []string{"", "g", "t", "m", "f", "late", "x", "none"} {
			for kids := range 4 {
				for op := -1; op < 20; op += 4 {
					exprs = append(exprs, api.Expr{Kind: kind, Op: op, Name: name, N: math.MinInt64, Kids: make([]api.Expr, kids)})
				}
			}
		}
	}
	for kind := -1; kind < 8; kind++ {
		for i, name := range []string{"", "g", "t", "m", "f", "x", "none"} {
			s := api.Stmt{Kind: kind, Name: name}
			l = append(l, s)
			s.E, s.Index = []api.Expr{{}, {N: 1}}, []api.Expr{{}, {N: 9}}
			l = append(l, s)
			s.E, s.Index = exprs[i:i+1], nil
			s.Body = slices.Clone(l[len(l)-2:])
			s.Else = s.Body
			l = append(l, s)
		}
	}
	for _, e := range exprs {
		l = append(l, api.Stmt{Kind: api.Put, E: []api.Expr{e}}, api.Stmt{Kind: api.Assign, Name: "t", Index: []api.Expr{e}, E: []api.Expr{e}})
	}
	return l
}

// What no program is comes to an end, too, and to no panic.
func TestOddPrograms(t *testing.T) {
	for _, s := range oddKinds() {
		body := []api.Stmt{s, {Kind: api.Let, Name: "x"}, s, {Kind: api.While, E: []api.Expr{{N: 1}}, Body: []api.Stmt{s}}}
		p := api.Program{
			Globals: []api.Global{{Name: "g"}, {Name: "t", Len: 3}},
			Locks:   []api.Lock{{Name: "m"}},
			Funcs:   []api.Func{{Name: "f", Params: []api.Param{{Name: "a"}, {Name: "b"}}, Body: body, Ret: api.Expr{Kind: api.Call, Name: "late", Kids: []api.Expr{{}}}}, {Name: "late", Body: []api.Stmt{s}}},
			Threads: [][]api.Stmt{body, {s}},
		}
		for _, fuel := range []int{100, 1} {
			r := source.New(p, nil)
			for i := range 20 {
				r.Next(i%2, fuel)
			}
			if m := r.Memory(); len(m) != 4 || r.Owner(1) != -1 {
				t.Errorf("%+v: %v", s, m)
			}
		}
	}
}

// P10.1: a thread waits for a lock that anybody owns, be it the thread itself, as of no program that may be.
func TestWaitsForItself(t *testing.T) {
	hold := api.Stmt{Kind: api.Hold, Name: "m", Body: []api.Stmt{{Kind: api.Hold, Name: "m"}}}
	r := source.New(api.Program{Locks: []api.Lock{{Name: "m"}}, Threads: [][]api.Stmt{{hold}}}, nil)
	for i, want := range []string{"lock 0", "waits", "waits"} {
		if got := next(r, 0, 9); got != want || r.Owner(0) != 0 {
			t.Errorf("turn %d: %s, not %s", i, got, want)
		}
	}
}

// Functions that call themselves, or one another, are none that may be, and come to an end with all the fuel that there is.
func TestCallsThatMayNotBe(t *testing.T) {
	own := api.Func{Name: "f", Ret: api.Expr{Kind: api.Call, Name: "f"}}
	later := api.Func{Name: "f", Ret: api.Expr{Kind: api.Call, Name: "g"}}
	other := api.Func{Name: "g", Ret: api.Expr{Kind: api.Call, Name: "f"}}
	put := func(name string) [][]api.Stmt {
		return [][]api.Stmt{{{Kind: api.Put, E: []api.Expr{{Kind: api.Call, Name: name}}}}}
	}
	for _, p := range []api.Program{{Funcs: []api.Func{own}, Threads: put("f")}, {Funcs: []api.Func{later, other}, Threads: put("f")}, {Funcs: []api.Func{later, other}, Threads: put("g")}, {Funcs: []api.Func{own, own, later, other, own}, Threads: put("f")}} {
		r := source.New(p, nil)
		if e, what := r.Next(0, math.MaxInt); what != source.Did || e.Kind != api.DidOut {
			t.Errorf("%v, %d", e, what)
		}
	}
}

// Globals of more words than there may be, or of fewer than none, have those that layout tells, and nothing else happens.
func TestOddGlobals(t *testing.T) {
	for _, lens := range [][]int{{-1}, {math.MinInt, 3}, {math.MaxInt}, {math.MaxInt, math.MaxInt}, {math.MaxInt, 2, 1}, {1 << 40}, {5, 1 << 40, 7}} {
		var p api.Program
		var body []api.Stmt
		for i, n := range lens {
			name := "g" + strconv.Itoa(i)
			p.Globals = append(p.Globals, api.Global{Name: name, Len: n, Type: api.Type{Secret: i%2 == 0}})
			body = append(body,
				api.Stmt{Kind: api.Assign, Name: name, E: []api.Expr{sample.Number(5)}},
				api.Stmt{Kind: api.Put, E: []api.Expr{sample.Named(name)}},
				api.Stmt{Kind: api.Assign, Name: name, Index: []api.Expr{sample.Number(0)}, E: []api.Expr{sample.Number(6)}},
				api.Stmt{Kind: api.Put, E: []api.Expr{{Kind: api.Elem, Name: name, Kids: []api.Expr{sample.Number(n - 1)}}}})
		}
		p.Threads = [][]api.Stmt{body}
		r := source.New(p, []int64{1, 2})
		for range 12 {
			r.Next(0, 50)
		}
	}
}
