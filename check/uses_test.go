package check_test

import (
	"reflect"
	"slices"
	"strconv"
	"strings"
	"testing"

	"paling/api"
	"paling/check"
	"paling/prog"
	"paling/show"
)

// usesOf are a text's, that may be, as one line: for each global, which threads use it, and which ones change it.
func usesOf(t *testing.T, text string) string {
	t.Helper()
	p, bad, at := check.Text(text)
	if bad != api.OK {
		t.Fatalf("%q: %v at %d", text, bad, at)
	}
	var l []string
	for _, u := range check.Uses(p) {
		l = append(l, numbers(u.Uses)+"/"+numbers(u.Changes))
	}
	return strings.Join(l, " ")
}

// numbers are threads' numbers, one behind the other.
func numbers(l []int) string {
	s := ""
	for _, n := range l {
		s += string(rune('0' + n))
	}
	return s
}

// P8.3: who uses what, by hand.
func TestUses(t *testing.T) {
	for text, want := range map[string]string{
		"": "", "thread { }": "", "lock m; thread { lock m { } }": "",
		"public int a;": "/", "public int a; secret bool b[4]; thread { } thread { }": "/ /",
		"public int a; thread { out a; }":                                                                                       "0/",
		"public int a; thread { a = 1; }":                                                                                       "0/0",
		"public int a; thread { } thread { a = a + 1; a = 2; out a; }":                                                          "1/1",
		"public int a[2]; thread { a[0] = 1; }":                                                                                 "0/0",
		"public int a[2]; public int b; public int c; thread { a[b] = c; }":                                                     "0/0 0/ 0/",
		"public int a[2]; public int b[2]; public int c; thread { out a[b[c]]; }":                                               "0/ 0/ 0/",
		"public int a; secret int b; thread { b = -a; }":                                                                        "0/ 0/0",
		"public bool a; public bool b; thread { if (a) { } else { b = !b; } }":                                                  "0/ 0/0",
		"public bool a; public bool b; thread { while (!a) { if (b) { } } }":                                                    "0/ 0/",
		"public int a; public int b; thread { var public int x = a; x = b; }":                                                   "0/ 0/",
		"public int a; public int b; func f(public int x, public int y) public int { return x; } thread { out f(a, f(1, b)); }": "0/ 0/",
		"public int b; public int a; thread { out a; } thread { b = a; } thread { out a; } thread { out a + a; out a; }":        "1/1 0123/",
		"thread { out a; } public int a; thread { b = 1; } thread { out a; } public int b;":                                     "02/ 1/1",
		"lock m; public int a by m; public int b[2] by m; public int c; thread { lock m { a = c; } } thread { out c; } thread { lock m { b[a] = c; } } thread { lock m { out b[1]; } }": "02/0 23/2 012/",
		"lock m; secret int a by m; thread { lock m { a = 1; } } thread { lock m { a = 2; } } thread { lock m { a = 3; } } thread { lock m { a = 4; } }":                                "0123/0123",
		"lock m; lock k; public int a by m; public int b by k; thread { lock k { lock m { a = b; } } } thread { lock m { lock k { b = a; } out a; } }":                                  "01/0 01/1",
		"lock m; public int a by m; public int b; thread { var secret int c = 1; lock m { if (a < 1) { while (b < a) { out a; } } else { a = 1; } } } thread { out b; }":                "0/0 01/",
	} {
		if got := usesOf(t, text); got != want {
			t.Errorf("%q: %q, not %q", text, got, want)
		}
	}
}

// P8.3: as many globals, locks, functions and threads as there may be.
func TestMost(t *testing.T) {
	var things, used strings.Builder
	for i := range api.MaxLocks {
		things.WriteString("lock m" + strconv.Itoa(i) + ";")
	}
	for i := range api.MaxGlobals {
		name, lock := "g"+strconv.Itoa(i), "m"+strconv.Itoa(i%api.MaxLocks)
		things.WriteString("public int " + name + "[64] by " + lock + ";")
		used.WriteString("lock " + lock + "{" + name + "[" + name + "[0]]=1;}")
	}
	call := "1"
	for i := range api.MaxFuncs {
		things.WriteString("func f" + strconv.Itoa(i) + "(public int a,public int b,public int c,public int d,public int e,public int f)public int{return " + call + ";}")
		call = "f" + strconv.Itoa(i) + "(a,b,c,d,e,f)"
	}
	threads := strings.Repeat("thread{"+used.String()+"}", api.MaxThreads)
	if got, want := usesOf(t, things.String()+threads), strings.Repeat("0123/0123 ", api.MaxGlobals); got+" " != want {
		t.Errorf("%q", got)
	}
}

// P8.3: Text tells what prog.Parse tells of a text that is no program, ahead of all that else may be wrong with it.
func TestNoProgram(t *testing.T) {
	for _, text := range []string{"x", "thread", "thread {", "thread { x = 1 }", "thread { { } }", "public int;", "public int a[0];", "public int a[65];", "1x", "thread { out 09; }", "#", "thread { out \"; }", "public int a; public int a; lock", "thread { u = 1; } 1x",
		"public int a by u; thread { out 1 }", strings.Repeat("public int a;", 33), strings.Repeat("lock m;", 9), strings.Repeat("thread { out u; }", 5), "thread { out u; } public int aaaaaaaaaaaaaaaaaaaaaaaaa;",
		"thread {" + strings.Repeat("if (u) {", 32) + strings.Repeat("}", 33), "thread { out " + strings.Repeat("(", 33) + "u" + strings.Repeat(")", 33) + "; }", strings.Repeat(" ", api.MaxText+1), "thread { out u; }" + strings.Repeat(" ", api.MaxText)} {
		_, want, where := prog.Parse(text)
		if want == api.OK {
			t.Fatalf("%q: a program", text)
		}
		if p, bad, at := check.Text(text); bad != want || at != where || !reflect.DeepEqual(p, api.Program{}) {
			t.Errorf("%q: %v at %d, not %v at %d", text, bad, at, want, where)
		}
	}
	fine(t, strings.Repeat(" ", api.MaxText-9)+"thread{ }", "thread {"+strings.Repeat("if (true) {", 31)+strings.Repeat("}", 32), "thread { out "+strings.Repeat("(", 32)+"1"+strings.Repeat(")", 32)+"; }")
	wrong(t, api.ErrName, "thread {"+strings.Repeat("if (true) {", 31)+"out @u;"+strings.Repeat("}", 32), "thread { out "+strings.Repeat("(", 32)+"@u"+strings.Repeat(")", 32)+"; }", strings.Repeat(" ", api.MaxText-15)+"thread{out @u; }")
}

// access is one use of a global, and what is held while it is used.
type access struct {
	thread  int
	changes bool
	held    []string
}

// accesses are all of a thread's: it goes each way that there is.
func accesses(l []api.Stmt, thread int, held []string, all map[string][]access) {
	read := func(row []api.Expr) {
		for _, e := range row {
			for _, part := range flat(e) {
				all[part.Name] = append(all[part.Name], access{thread, false, held})
			}
		}
	}
	for _, s := range l {
		read(s.Index)
		read(s.E)
		within := held
		if s.Kind == api.Assign {
			all[s.Name] = append(all[s.Name], access{thread, true, held})
		}
		if s.Kind == api.Hold {
			within = append(slices.Clip(held), s.Name)
		}
		accesses(s.Body, thread, within, all)
		accesses(s.Else, thread, within, all)
	}
}

// apart tells whether two accesses can't be at once, or may be: of one thread, without a change, or while one lock is held.
func apart(a, b access) bool {
	return a.thread == b.thread || !a.changes && !b.changes || slices.ContainsFunc(a.held, func(lock string) bool { return slices.Contains(b.held, lock) })
}

// functionsStepAside tells whether no function uses a global, or changes one.
func functionsStepAside(p api.Program) bool {
	all := map[string][]access{}
	for _, f := range p.Funcs {
		accesses(f.Body, 0, nil, all)
		accesses([]api.Stmt{{Kind: api.Put, E: []api.Expr{f.Ret}}}, 0, nil, all)
	}
	return !slices.ContainsFunc(p.Globals, func(g api.Global) bool { return len(all[g.Name]) > 0 })
}

// keptApart tells how many pairs of accesses of globals there are in a program of which one changes, and which a lock keeps apart; below 0: some are not apart.
func keptApart(p api.Program) int {
	all, pairs := map[string][]access{}, 0
	for i, body := range p.Threads {
		accesses(body, i, nil, all)
	}
	for _, g := range p.Globals {
		for _, a := range all[g.Name] {
			for _, b := range all[g.Name] {
				if !apart(a, b) {
					return -1
				}
				if a.thread != b.thread && (a.changes || b.changes) {
					pairs++
				}
			}
		}
	}
	return pairs
}

// P8.4: of programs that may be, written ones and such of which things were changed.
func TestNoTwoAtOnce(t *testing.T) {
	pairs, programs := 0, 0
	for seed := range 1200 {
		w := write(seed + 5000)
		for i := range 8 {
			p := w.p
			for range i {
				p = w.bent(p)
			}
			if p = placed(p, seed); !may(p) {
				continue
			}
			n := keptApart(p)
			if n < 0 || !functionsStepAside(p) {
				t.Fatal(show.Program(p))
			}
			programs, pairs = programs+1, pairs+min(n, 1)
		}
	}
	t.Log(programs, pairs)
	if programs < 2000 || pairs < 300 {
		t.Error(programs, pairs)
	}
}

// may tells whether a program may be.
func may(p api.Program) bool {
	bad, _ := check.Program(p)
	return bad == api.OK
}
