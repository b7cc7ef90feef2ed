package check

import (
	"paling/api"
	"paling/names"
)

// none is the number of the function in which a thread's statements stand.
const none = -1

// work is that of one program.
type work struct {
	scope    *names.Scope
	function int                 // in which one we are, or none
	thread   int                 // in which one we are, if in no function
	open     map[string]struct{} // the locks that are held
	users    map[int][]int       // which threads use a global, rising, by its place
	changers map[int][]int       // which ones change it
}

// newWork is one of a program, whose names must be known once each.
func newWork(p api.Program) *work {
	p.Funcs = heads(p.Funcs)
	scope, bad, at := names.New(p)
	failOn(bad, at)
	return &work{scope: scope, function: none, open: map[string]struct{}{}, users: map[int][]int{}, changers: map[int][]int{}}
}

// heads are functions without what they do: a scope copies the whole of one whenever it tells it, and nobody asks it for more.
func heads(l []api.Func) []api.Func {
	var c []api.Func
	for _, f := range l {
		c = append(c, api.Func{At: f.At, Name: f.Name, Params: f.Params, Type: f.Type})
	}
	return c
}

// whole looks at all things of a program.
func (w *work) whole(p api.Program) {
	for _, g := range p.Globals {
		w.guard(g)
	}
	for i, f := range p.Funcs {
		w.function = i
		w.define(f)
	}
	w.function = none
	for i, body := range p.Threads {
		w.thread = i
		w.block(body)
	}
	for i, g := range p.Globals {
		w.share(i, g)
	}
}

// guard looks at what is said to guard a global.
func (w *work) guard(g api.Global) {
	if g.By != "" && w.scope.Lock(g.By) < 0 {
		fail(api.ErrName, g.At)
	}
}

// share looks at who uses a global that nothing guards.
func (w *work) share(place int, g api.Global) {
	if g.By == "" && len(w.changers[place]) > 0 && len(w.users[place]) > 1 {
		fail(api.ErrGuard, g.At)
	}
}

// define looks at a function.
func (w *work) define(f api.Func) {
	w.scope.Enter()
	for _, p := range f.Params {
		failOn(w.scope.Let(p.Name, p.Type), f.At)
	}
	w.row(f.Body)
	w.fit(f.Ret, f.Type)
	w.scope.Leave()
}

// use keeps that the thread uses a global, if that may be where we are.
func (w *work) use(name string, at int) {
	g, place := w.scope.Global(name)
	_, open := w.open[g.By]
	if w.function != none || g.By != "" && !open {
		fail(api.ErrGuard, at)
	}
	w.users[place] = with(w.users[place], w.thread)
}

// change keeps that the thread changes a global.
func (w *work) change(name string) {
	_, place := w.scope.Global(name)
	w.changers[place] = with(w.changers[place], w.thread)
}

// with is rising threads with one, that isn't below the last of them.
func with(l []int, thread int) []int {
	if n := len(l); n > 0 && l[n-1] == thread {
		return l
	}
	return append(l, thread)
}
