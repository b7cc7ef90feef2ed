package names_test

import (
	"reflect"
	"runtime"
	"slices"
	"strings"
	"testing"
	"unsafe"
	"weak"

	"paling/api"
	"paling/names"
)

// parts calls do for a thing, and for all that it is made of.
func parts(v reflect.Value, do func(v reflect.Value)) {
	do(v)
	switch v.Kind() {
	case reflect.Struct:
		for i := range v.NumField() {
			parts(v.Field(i), do)
		}
	case reflect.Slice:
		for i := range v.Len() {
			parts(v.Index(i), do)
		}
	}
}

// scrawl changes all within a thing, but how long its lists are.
func scrawl(v reflect.Value) {
	parts(v, func(v reflect.Value) {
		switch {
		case v.Kind() == reflect.String:
			v.SetString(v.String() + "?")
		case v.Kind() == reflect.Bool:
			v.SetBool(!v.Bool())
		case v.CanInt():
			v.SetInt(v.Int() + 1)
		}
	})
}

// memory is where the lists and the texts of a thing stand.
func memory(v reflect.Value) map[unsafe.Pointer]string {
	at := map[unsafe.Pointer]string{}
	parts(v, func(v reflect.Value) {
		switch {
		case v.Kind() == reflect.String && v.Len() > 0:
			at[unsafe.Pointer(unsafe.StringData(v.String()))] = v.String()
		case v.Kind() == reflect.Slice && v.Cap() > 0:
			at[v.UnsafePointer()] = "a list of " + v.Type().Elem().Name()
		}
	})
	return at
}

// apart tells whether two things share no memory; what they share is told.
func apart(t *testing.T, a, b any) {
	t.Helper()
	first := memory(reflect.ValueOf(a))
	for at, what := range memory(reflect.ValueOf(b)) {
		if _, is := first[at]; is {
			t.Errorf("shared: %s", what)
		}
	}
	if len(first) == 0 {
		t.Error("nothing is held against anything")
	}
}

// Rule 3: what New is given isn't changed, and it can be changed later: all that is told of it stays.
func TestNewKeepsNothing(t *testing.T) {
	p, was := parsed(t, many), parsed(t, many)
	s := scope(t, p)
	if !reflect.DeepEqual(p, was) {
		t.Error("what was handed in was changed")
	}
	scrawl(reflect.ValueOf(&p).Elem())
	if reflect.DeepEqual(p, was) {
		t.Error("nothing was changed")
	}
	holdNames(t, s, was, "ok", "m", "one", "n", "o", "key", "two", "q", "last", "three")
	for _, g := range p.Globals {
		holdNames(t, s, was, g.Name)
	}
}

// wide is the program of a text, with room behind its lists' ends.
func wide(t *testing.T, text string) api.Program {
	t.Helper()
	p := parsed(t, text)
	p.Globals = slices.Grow(p.Globals, 5)
	p.Locks = slices.Grow(p.Locks, 5)
	p.Funcs = slices.Grow(p.Funcs, 5)
	for i := range p.Funcs {
		p.Funcs[i].Params = slices.Grow(p.Funcs[i].Params, 5)
		p.Funcs[i].Body = slices.Grow(p.Funcs[i].Body, 5)
	}
	return p
}

// whole is a program's lists, with the room behind their ends.
func whole(p api.Program) []any {
	l := []any{p.Globals[:cap(p.Globals)], p.Locks[:cap(p.Locks)], p.Funcs[:cap(p.Funcs)]}
	for _, f := range p.Funcs {
		l = append(l, f.Params[:cap(f.Params)], f.Body[:cap(f.Body)])
	}
	return l
}

// Rule 3: nothing of what is handed in is changed, also where a name is there twice, and also behind its lists' ends.
func TestNewChangesNothing(t *testing.T) {
	for text, want := range map[string]api.Errno{many: api.OK, "lock b; lock a; lock a; public int b; func a() public int { return 1; }": api.ErrName} {
		p, was := wide(t, text), wide(t, text)
		if _, bad, _ := names.New(p); bad != want {
			t.Errorf("%q: %v", text, bad)
		}
		if !reflect.DeepEqual(whole(p), whole(was)) {
			t.Errorf("%q was changed", text)
		}
	}
}

// Rule 3: what is told is new memory each time, and can be changed: what is told then is as it was.
func TestToldIsNew(t *testing.T) {
	p := parsed(t, many)
	s := scope(t, p)
	for _, name := range []string{"one", "two", "three"} {
		f, n := s.Func(name)
		again, _ := s.Func(name)
		apart(t, p.Funcs[n], f)
		apart(t, f, again)
		scrawl(reflect.ValueOf(&f).Elem())
		if reflect.DeepEqual(f, again) {
			t.Errorf("%q: nothing was changed", name)
		}
	}
	for _, name := range []string{"key", "n"} {
		g, n := s.Global(name)
		again, _ := s.Global(name)
		apart(t, p.Globals[n], g)
		apart(t, g, again)
	}
	holdNames(t, s, p, "ok", "m", "one", "n", "o", "key", "two", "q", "last", "three")
}

// Rule 3: a function's lists share no memory among themselves, the room behind their ends included.
func TestToldLists(t *testing.T) {
	s := scope(t, parsed(t, many))
	f, _ := s.Func("two")
	parts(reflect.ValueOf(&f).Elem(), func(v reflect.Value) {
		if v.Kind() == reflect.Slice {
			for i := v.Len(); i < v.Cap(); i++ {
				scrawl(v.Slice(0, v.Cap()).Index(i))
			}
		}
	})
	if again, _ := s.Func("two"); !reflect.DeepEqual(f, again) {
		t.Error("a list stands in another's room")
	}
}

// Rule 3: the names of locals are neither those that were handed in nor those that the scope keeps.
func TestLocalsAreNew(t *testing.T) {
	s := scope(t, parsed(t, has))
	s.Enter()
	given := []string{strings.Clone("first"), strings.Clone("second")}
	for _, name := range given {
		s.Let(name, api.Type{})
	}
	l, again := s.Locals(), s.Locals()
	apart(t, given, l)
	apart(t, l, again)
	l[0], l[1] = l[1], "third"
	for _, more := range [][]string{append(l, "fourth"), append(again[:1], "fifth")} {
		if len(more) == 0 || !slices.Equal(s.Locals(), given) {
			t.Errorf("%q, not %q", s.Locals(), given)
		}
	}
	was := s.Locals()
	s.Leave()
	s.Enter()
	s.Let("other", api.Type{})
	if !slices.Equal(was, given) {
		t.Errorf("%q, not %q", was, given)
	}
}

// P6.3: a function is told whole, also one that is deeper than any text may be.
func TestDeepFunction(t *testing.T) {
	var body []api.Stmt
	var ret api.Expr
	for i := range 1 << 15 {
		body = []api.Stmt{{Kind: i % 6, At: i, Name: "a", Body: body, Else: []api.Stmt{{Name: "b"}}, Index: []api.Expr{{N: 1}}, E: []api.Expr{{Op: i}}}}
		ret = api.Expr{Kind: i % 8, Op: i, N: int64(-i), Name: "c", Kids: []api.Expr{ret, {N: 3}}, At: -i}
	}
	p := api.Program{Funcs: []api.Func{{Name: "f", Body: body, Ret: ret}}}
	if f, n := scope(t, p).Func("f"); n != 0 || !reflect.DeepEqual(f, p.Funcs[0]) {
		t.Error("not as it was")
	}
}

// long is a text of its own, long enough to share its memory with no other one.
func long(c string) string { return strings.Repeat(c, 1000) }

// filled is a scope, made of long texts alone, and where these stood.
func filled(t *testing.T) (*names.Scope, []weak.Pointer[byte]) {
	e := []api.Expr{{Name: long("h")}}
	body := []api.Stmt{{Name: long("i"), Index: e, E: e, Body: []api.Stmt{{Name: long("j")}}}}
	p := api.Program{
		Globals: []api.Global{{Name: long("a"), By: long("b")}},
		Locks:   []api.Lock{{Name: long("c")}},
		Funcs:   []api.Func{{Name: long("d"), Params: []api.Param{{Name: long("e")}}, Body: body, Ret: api.Expr{Name: long("f"), Kids: e}}},
	}
	local := long("g")
	s := scope(t, p)
	s.Enter()
	if bad := s.Let(local, api.Type{}); bad != api.OK {
		t.Error(bad)
	}
	at := []weak.Pointer[byte]{weak.Make(unsafe.StringData(local))}
	parts(reflect.ValueOf(p), func(v reflect.Value) {
		if v.Kind() == reflect.String && v.Len() > 0 {
			at = append(at, weak.Make(unsafe.StringData(v.String())))
		}
	})
	return s, at
}

// Rule 3: no text that is handed in is kept.
func TestKeepsNoText(t *testing.T) {
	s, at := filled(t)
	runtime.GC()
	if len(at) != 12 {
		t.Errorf("%d texts", len(at))
	}
	for _, p := range at {
		if first := p.Value(); first != nil {
			t.Errorf("%q is kept", *first)
		}
	}
	if s.Kind(long("g")) != names.Local || s.Kind(long("d")) != names.Func {
		t.Error("a name isn't known")
	}
}
