package names_test

import (
	"reflect"
	"slices"
	"strconv"
	"strings"
	"testing"

	"paling/api"
	"paling/names"
)

// has is a text with one thing of each kind.
const has = "public int g[3]; lock m; func f() public int { return 1; }"

// one is a local of a model.
type one struct {
	name  string
	of    api.Type
	block int
}

// model is a scope that keeps its locals in one row, and looks for each from the beginning.
type model struct {
	p      api.Program
	open   int
	locals []one
}

// ask is what must be told of a name.
func (m *model) ask(name string) told {
	x := meant(m.p, name)
	for _, l := range m.locals {
		if l.name == name {
			x.kind, x.of = names.Local, l.of
		}
	}
	return x
}

// let is what must come of a Let.
func (m *model) let(name string, of api.Type) api.Errno {
	if m.open == 0 || name == "" || m.ask(name).kind != names.None {
		return api.ErrName
	}
	m.locals = append(m.locals, one{name, of, m.open})
	return api.OK
}

// leave ends a block.
func (m *model) leave() {
	if m.open == 0 {
		return
	}
	m.locals = slices.DeleteFunc(m.locals, func(l one) bool { return l.block == m.open })
	m.open--
}

// names are those of the locals.
func (m *model) names() []string {
	var l []string
	for _, x := range m.locals {
		l = append(l, x.name)
	}
	return l
}

// pair is a scope and its model, to which the same is done.
type pair struct {
	t    *testing.T
	s    *names.Scope
	m    *model
	done []string
}

// newPair is one of a program.
func newPair(t *testing.T, p api.Program) *pair {
	return &pair{t: t, s: scope(t, p), m: &model{p: p}}
}

// enter begins a block of both.
func (x *pair) enter() {
	x.done = append(x.done, "enter")
	x.s.Enter()
	x.m.open++
}

// leave ends a block of both.
func (x *pair) leave() {
	x.done = append(x.done, "leave")
	x.s.Leave()
	x.m.leave()
}

// let makes a local known in both.
func (x *pair) let(name string, of api.Type) {
	x.done = append(x.done, "let "+name)
	if got, want := x.s.Let(name, of), x.m.let(name, of); got != want {
		x.t.Errorf("%q: %v, not %v", x.done, got, want)
	}
}

// hold holds all that is told against the model.
func (x *pair) hold(all []string) {
	for _, name := range all {
		if got, want := ask(x.s, name), x.m.ask(name); !reflect.DeepEqual(got, want) {
			x.t.Errorf("%q: %q: %+v, not %+v", x.done, name, got, want)
		}
	}
	if got, want := x.s.Locals(), x.m.names(); !slices.Equal(got, want) {
		x.t.Errorf("%q: locals %q, not %q", x.done, got, want)
	}
}

// kindOf is one of the four types.
func kindOf(n int) api.Type { return api.Type{Truth: n&1 != 0, Secret: n&2 != 0} }

// P6.2, P6.3: by hand.
func TestBlocks(t *testing.T) {
	s := scope(t, parsed(t, has))
	let := func(name string, want api.Errno) {
		t.Helper()
		if bad := s.Let(name, api.Type{Secret: true}); bad != want {
			t.Errorf("%q: %v, not %v", name, bad, want)
		}
	}
	locals := func(all string) {
		t.Helper()
		if got := s.Locals(); strings.Join(got, " ") != all {
			t.Errorf("locals %q, not %q", got, all)
		}
	}
	let("x", api.ErrName) // there is no block
	s.Leave()
	let("x", api.ErrName)
	s.Enter()
	for _, name := range []string{"", "g", "m", "f"} {
		let(name, api.ErrName)
	}
	let("x", api.OK)
	let("x", api.ErrName)
	let("a", api.OK)
	s.Enter()
	let("x", api.ErrName) // of a block around this one
	let("g", api.ErrName)
	let("b", api.OK)
	let("X", api.OK)
	locals("x a b X")
	s.Enter()
	s.Leave()
	locals("x a b X")
	s.Leave()
	locals("x a")
	let("b", api.OK) // the other one is known no more
	locals("x a b")
	s.Leave()
	locals("")
	let("x", api.ErrName)
	s.Leave()
	s.Enter()
	let("b", api.OK)
	let("x", api.OK)
	locals("b x")
}

// P6.2, P6.3: a Let that is refused changes nothing, and a local keeps the type of its own Let.
func TestRefusedLet(t *testing.T) {
	for n := range 4 {
		x := newPair(t, parsed(t, has))
		x.enter()
		x.let("x", kindOf(n))
		for other := range 4 {
			for _, name := range []string{"x", "g", "m", "f", ""} {
				x.let(name, kindOf(other))
				x.enter()
				x.let(name, kindOf(other))
				x.leave()
			}
		}
		if got := x.s.Type("x"); got != kindOf(n) {
			t.Errorf("%v, not %v", got, kindOf(n))
		}
		x.hold([]string{"x", "g", "m", "f", ""})
	}
}

// P6.2: any text but an empty one may be a local's, also one that no program tells.
func TestAnyName(t *testing.T) {
	all := []string{"x", "X", "x ", " x", " ", "1", "int", "true", "x\x00", "\x00", "\xff", "ä", "g[", "-", strings.Repeat("x", 1000)}
	x := newPair(t, parsed(t, has))
	x.enter()
	for i, name := range all {
		x.let(name, kindOf(i))
	}
	x.hold(all)
	if got := x.s.Locals(); !slices.Equal(got, all) {
		t.Errorf("%q", got)
	}
}

// P6.2, P6.3: all that can be done to a scope in a few steps, of programs with and without things.
func TestShortRuns(t *testing.T) {
	all := []string{"x", "y", "g", "m", "f", ""}
	for _, text := range []string{has, ""} {
		p := parsed(t, text)
		steps := []func(x *pair){
			(*pair).enter, (*pair).leave,
			func(x *pair) { x.let("x", api.Type{Secret: true}) },
			func(x *pair) { x.let("y", api.Type{Truth: true}) },
			func(x *pair) { x.let("g", api.Type{Truth: true, Secret: true}) },
		}
		for length := range 8 {
			most := 1
			for range length {
				most *= len(steps)
			}
			for run := range most {
				x := newPair(t, p)
				for n := run; len(x.done) < length; n /= len(steps) {
					steps[n%len(steps)](x)
				}
				x.hold(all)
			}
		}
	}
}

// P6.2, P6.3: long runs, in which blocks lie deep, and names come again.
func TestLongRuns(t *testing.T) {
	all := []string{"g", "m", "f", ""}
	for i := range 40 {
		all = append(all, "v"+strconv.Itoa(i))
	}
	p := parsed(t, has)
	for seed := range 60 {
		x := newPair(t, p)
		n := uint64(seed)*2 + 1
		roll := func(below int) int {
			n = n*6364136223846793005 + 1442695040888963407
			return int(n>>33) % below
		}
		for step := range 600 {
			switch k := roll(10); {
			case k < 2 || k == 2 && seed%2 == 0:
				x.enter()
			case k < 4:
				x.leave()
			default:
				x.let(all[roll(len(all))], kindOf(roll(4)))
			}
			if step%20 == 0 {
				x.hold(all)
			}
		}
		x.hold(all)
	}
}

// P6.4: behind Enter, any Lets, and Leave all is as it was; also if others are entered and left within.
func TestAsItWas(t *testing.T) {
	all := []string{"g", "m", "f", "", "a", "b", "c", "d", "e"}
	for ahead := range 64 {
		x := newPair(t, parsed(t, has))
		for i := range 6 { // two ways to each, so that there are few blocks and many, empty ones and full ones
			if ahead>>i&1 != 0 {
				x.enter()
			}
			x.let(all[4+i%4], kindOf(i))
		}
		var was []told
		for _, name := range all {
			was = append(was, ask(x.s, name))
		}
		locals := x.s.Locals()
		for lets := range 1 << len(all) {
			x.s.Enter()
			for i, name := range all {
				if lets>>i&1 != 0 {
					x.s.Let(name, kindOf(lets))
				}
			}
			if lets%5 == 0 {
				x.s.Enter()
				x.s.Let("e", kindOf(lets))
				x.s.Leave()
			}
			x.s.Leave()
			for i, name := range all {
				if got := ask(x.s, name); !reflect.DeepEqual(got, was[i]) {
					t.Fatalf("%q: %q: %+v, not %+v", x.done, name, got, was[i])
				}
			}
			if !slices.Equal(x.s.Locals(), locals) {
				t.Fatalf("%q: locals %q, not %q", x.done, x.s.Locals(), locals)
			}
		}
		x.leave() // blocks are as they were, too
		x.hold(all)
	}
}

// P6.2, P6.3: far more blocks and locals than a text may have.
func TestManyLocals(t *testing.T) {
	s := scope(t, parsed(t, has))
	const most = 1 << 16
	for i := range most {
		s.Enter()
		if bad := s.Let("v"+strconv.Itoa(i), kindOf(i)); bad != api.OK {
			t.Fatal(i, bad)
		}
	}
	if l := s.Locals(); len(l) != most || l[0] != "v0" || l[most-1] != "v"+strconv.Itoa(most-1) {
		t.Error(len(l))
	}
	for i := most - 1; i >= 0; i-- {
		name := "v" + strconv.Itoa(i)
		if s.Type(name) != kindOf(i) || s.Let(name, api.Type{}) != api.ErrName {
			t.Fatal(name)
		}
		s.Leave()
		if s.Kind(name) != names.None {
			t.Fatal(name)
		}
	}
	if l := s.Locals(); len(l) != 0 || s.Kind("g") != names.Global {
		t.Error(l)
	}
}

// Rule 5: a scope that New didn't make is that of a program without any thing.
func TestOwnScope(t *testing.T) {
	x := newPair(t, api.Program{})
	x.s = new(names.Scope)
	all := []string{"x", "y", "g", ""}
	x.hold(all)
	x.leave()
	x.let("x", api.Type{})
	x.enter()
	x.hold(all)
	x.let("x", api.Type{Truth: true})
	x.enter()
	x.let("y", api.Type{Secret: true})
	x.let("x", api.Type{})
	x.hold(all)
	x.leave()
	x.hold(all)
}

// Rule 4: what is done to one scope isn't seen in another one, also of the same program.
func TestApart(t *testing.T) {
	p := parsed(t, has)
	a, b := newPair(t, p), newPair(t, p)
	a.enter()
	a.let("x", api.Type{Secret: true})
	b.let("x", api.Type{})
	b.enter()
	b.let("y", api.Type{Truth: true})
	a.let("y", api.Type{})
	for _, x := range []*pair{a, b} {
		x.hold([]string{"x", "y", "g"})
	}
}
