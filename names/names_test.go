package names_test

import (
	"reflect"
	"slices"
	"strconv"
	"testing"

	"paling/api"
	"paling/names"
	"paling/prog"
)

// thing is a global, a lock or a function, as it is held against what New says of it.
type thing struct {
	kind int
	name string
	at   int
}

// of is the program of things, in their order.
func of(l []thing) api.Program {
	var p api.Program
	for i, x := range l {
		switch x.kind {
		case names.Global:
			p.Globals = append(p.Globals, api.Global{At: x.at, Name: x.name, Len: i})
		case names.Lock:
			p.Locks = append(p.Locks, api.Lock{At: x.at, Name: x.name})
		case names.Func:
			p.Funcs = append(p.Funcs, api.Func{At: x.at, Name: x.name})
		}
	}
	return p
}

// parsed is the program of a text.
func parsed(t *testing.T, text string) api.Program {
	t.Helper()
	p, bad, at := prog.Parse(text)
	if bad != api.OK {
		t.Fatalf("%q: %v at %d", text, bad, at)
	}
	return p
}

// scope is that of a program.
func scope(t *testing.T, p api.Program) *names.Scope {
	t.Helper()
	s, bad, at := names.New(p)
	if s == nil || bad != api.OK || at != 0 {
		t.Fatalf("%+v: %v, %v at %d", p, s, bad, at)
	}
	return s
}

// told is all that a scope tells of a name.
type told struct {
	kind      int
	of        api.Type
	global    api.Global
	globals   int
	lock      int
	function  api.Func
	functions int
}

// unknown is what is told of a name that isn't known.
func unknown() told { return told{globals: -1, lock: -1, functions: -1} }

// ask is all that a scope tells of a name.
func ask(s *names.Scope, name string) told {
	x := told{kind: s.Kind(name), of: s.Type(name), lock: s.Lock(name)}
	x.global, x.globals = s.Global(name)
	x.function, x.functions = s.Func(name)
	return x
}

// meant is what must be told of a name of a program's, without locals.
func meant(p api.Program, name string) told {
	x := unknown()
	for i, g := range p.Globals {
		if g.Name == name {
			x.kind, x.of, x.global, x.globals = names.Global, g.Type, g, i
		}
	}
	for i, l := range p.Locks {
		if l.Name == name {
			x.kind, x.lock = names.Lock, i
		}
	}
	for i, f := range p.Funcs {
		if f.Name == name {
			x.kind, x.function, x.functions = names.Func, f, i
		}
	}
	return x
}

// holdNames holds what a scope without locals tells of names against a program.
func holdNames(t *testing.T, s *names.Scope, p api.Program, all ...string) {
	t.Helper()
	for _, name := range all {
		if got, want := ask(s, name), meant(p, name); !reflect.DeepEqual(got, want) {
			t.Errorf("%q of %+v: %+v, not %+v", name, p, got, want)
		}
	}
	if l := s.Locals(); len(l) != 0 {
		t.Errorf("locals %q", l)
	}
}

// P6.1, P6.3: the kinds are numbers in this order.
func TestKinds(t *testing.T) {
	if got := []int{names.None, names.Global, names.Lock, names.Func, names.Local}; !slices.Equal(got, []int{0, 1, 2, 3, 4}) {
		t.Error(got)
	}
}

// many is a text with each kind of thing, several of each, one between the other.
const many = "secret bool ok; lock m; func one() public int { return 1; } public int n by m; lock o; secret int key[64] by o; " +
	"func two(public int x, secret bool y) secret int { var public int z = one(); if (y) { n[1] = z; } else { while (ok) { z = -2; } } return x + z; } " +
	"lock q; public bool last[1]; func three(secret int ok_) public bool { return !false; } thread { var public int local = 1; lock m { out local; } } thread { }"

// P6.1, P6.3: what is told of each name of a program, and of others; params and locals of its own aren't known.
func TestKnown(t *testing.T) {
	p := parsed(t, many)
	s := scope(t, p)
	all := []string{"ok", "m", "one", "n", "o", "key", "two", "q", "last", "three"}
	none := []string{"", "x", "y", "z", "ok_", "local", "N", "On", "on", "thre", "threee", " m", "m ", "m;", "lock", "true", "0", "_", "\x00", "m\x00", "\xff", "ä"}
	holdNames(t, s, p, all...)
	holdNames(t, s, p, none...)
	for _, name := range all {
		if s.Kind(name) == names.None {
			t.Errorf("%q isn't known", name)
		}
	}
	for _, name := range none {
		if got := ask(s, name); !reflect.DeepEqual(got, unknown()) {
			t.Errorf("%q is known: %+v", name, got)
		}
	}
}

// P6.3: by hand, what is told of each kind of thing.
func TestToldByHand(t *testing.T) {
	s := scope(t, parsed(t, many))
	secret := api.Type{Secret: true}
	for name, want := range map[string]told{
		"ok":  {kind: names.Global, of: api.Type{Truth: true, Secret: true}, global: api.Global{At: 12, Name: "ok", Type: api.Type{Truth: true, Secret: true}}, globals: 0, lock: -1, functions: -1},
		"key": {kind: names.Global, of: secret, global: api.Global{At: 98, Name: "key", Type: secret, Len: 64, By: "o"}, globals: 2, lock: -1, functions: -1},
		"m":   {kind: names.Lock, globals: -1, lock: 0, functions: -1},
		"q":   {kind: names.Lock, globals: -1, lock: 2, functions: -1},
		"one": {kind: names.Func, globals: -1, lock: -1, function: api.Func{At: 29, Name: "one", Ret: api.Expr{N: 1, At: 55}}, functions: 0},
	} {
		if got := ask(s, name); !reflect.DeepEqual(got, want) {
			t.Errorf("%q: %+v, not %+v", name, got, want)
		}
	}
	if f, n := s.Func("two"); n != 1 || len(f.Params) != 2 || f.Params[1] != (api.Param{Name: "y", Type: api.Type{Truth: true, Secret: true}}) || f.Type != secret || len(f.Body) != 2 || len(f.Body[1].Else) != 1 || f.Ret.Op != api.Add {
		t.Errorf("%d %+v", n, f)
	}
	if s.Type("two") != (api.Type{}) || s.Type("three") != (api.Type{}) || s.Type("m") != (api.Type{}) {
		t.Error("a function and a lock have no type")
	}
}

// P6.1: names that there are twice, by hand.
func TestTwice(t *testing.T) {
	const f = "() public int { return 1; } "
	for _, c := range []struct {
		text string
		at   int
	}{
		{"public int a; lock a;", 19},
		{"lock a; public int a;", 19},
		{"lock a; lock a;", 13},
		{"public int a; secret bool a[3] by a;", 26},
		{"func a" + f + "func a" + f, 39},
		{"func a" + f + "lock a;", 39},
		{"func a" + f + "public int a;", 45},
		{"public int a; func a" + f, 19},
		{"lock a; func a" + f, 13},
		{"lock a; lock a; lock a;", 13},
		{"lock a; lock b; lock b; lock a;", 21},
		{"lock a; lock b; lock a; lock b;", 21},
		{"lock c; func a" + f + "func c" + f + "public int a;", 47},
		{"func a" + f + "lock b; lock a; public int b;", 47},
		{"lock z; func a" + f + "func a" + f + "lock z; public int z;", 47},
	} {
		if s, bad, at := names.New(parsed(t, c.text)); s != nil || bad != api.ErrName || at != c.at {
			t.Errorf("%q: %v, %v at %d, not at %d", c.text, s, bad, at, c.at)
		}
	}
}

// P6.1: names that are alike, but not the same; and the same one where it is no thing's.
func TestNotTwice(t *testing.T) {
	for _, text := range []string{
		"", "thread { }", "lock a;", "lock a; lock A; lock aa; lock _a; lock a_; lock a1;",
		"public int a by a;", "lock m; public int a by m; public int b by m;",
		"func f(public int f, public int f) public int { var public int f = f; return f; }",
		"lock a; func f(public int a) public int { var public int a = 1; return a; } func g(public int f) public int { return f; }",
		"lock a; thread { var public int a = 1; var public int a = 1; b = c; lock d { } }",
	} {
		p := parsed(t, text)
		holdNames(t, scope(t, p), p, "a", "A", "aa", "b", "f", "g", "m", "")
	}
}

// P6.1: of all rows of few things, with all their places, in any order.
func TestSmallPrograms(t *testing.T) {
	ats := []int{7, -3, 0, 1 << 40}
	var l []thing
	var used [4]bool
	programs, bad := 0, 0
	var grow func()
	grow = func() {
		programs++
		if holdNew(t, l) {
			bad++
		}
		if len(l) == len(ats) {
			return
		}
		for i, at := range ats {
			if used[i] {
				continue
			}
			used[i] = true
			for kind := names.Global; kind <= names.Func; kind++ {
				for _, name := range []string{"a", "b"} {
					l = append(l, thing{kind, name, at})
					grow()
					l = l[:len(l)-1]
				}
			}
			used[i] = false
		}
	}
	grow()
	if programs < 30000 || bad < programs/3 || bad == programs {
		t.Errorf("%d programs, %d with an error", programs, bad)
	}
}

// holdNew holds New of things against what it must say, and tells whether that is an error.
func holdNew(t *testing.T, l []thing) bool {
	t.Helper()
	least, is := 0, false
	for _, x := range l {
		for _, y := range l {
			if x.name == y.name && y.at < x.at && (!is || x.at < least) {
				least, is = x.at, true
			}
		}
	}
	p := of(l)
	if !is {
		holdNames(t, scope(t, p), p, "a", "b", "c")
		return false
	}
	if s, bad, at := names.New(p); s != nil || bad != api.ErrName || at != least {
		t.Errorf("%v: %v, %v at %d, not at %d", l, s, bad, at, least)
	}
	return true
}

// P6.1: far more things than a text may have, without and with one that is there twice.
func TestManyThings(t *testing.T) {
	var l []thing
	for i := range 30000 {
		l = append(l, thing{names.Global + i%3, "n" + strconv.Itoa(i), 100000 - i})
	}
	p := of(l)
	holdNames(t, scope(t, p), p, "n0", "n1", "n2", "n29997", "n29998", "n29999", "n30000", "n")
	for _, other := range []int{0, 1, 2, 14999, 29999} {
		p.Locks[77].Name = "n" + strconv.Itoa(other)
		want := max(p.Locks[77].At, 100000-other)
		if s, bad, at := names.New(p); s != nil || bad != api.ErrName || at != want {
			t.Errorf("%v at %d, not at %d", bad, at, want)
		}
	}
}

// P6.3: of nil.
func TestNil(t *testing.T) {
	var s *names.Scope
	s.Enter()
	s.Leave()
	s.Leave()
	s.Enter()
	for _, name := range []string{"", "a", "x"} {
		if bad := s.Let(name, api.Type{}); bad != api.ErrName {
			t.Errorf("%q: %v", name, bad)
		}
		if got := ask(s, name); !reflect.DeepEqual(got, unknown()) {
			t.Errorf("%q is known: %+v", name, got)
		}
	}
	if l := s.Locals(); len(l) != 0 {
		t.Errorf("locals %q", l)
	}
}
