package fold

import (
	"slices"

	"paling/api"
	"paling/calc"
)

// facts is what is known ahead of the places of a code, of what is asked for alone: first all is asked, then all is told.
type facts struct {
	code  api.Code
	steps []step
	known []map[int]fact  // by places: what registers have, of those that were asked for, less those of which nothing is known
	leads []map[int][]int // by places, and registers: where it's asked what they have behind that place
	asks  queue           // registers ahead of places
	ways  queue           // registers behind places
}

// fact is a number that a register has; as long as no way has told of it, that may be any one.
type fact struct {
	n    int64
	told bool
}

// factsOf is those of a code, of which nothing is asked yet.
func factsOf(c api.Code) *facts {
	many := len(c)
	return &facts{code: c, steps: stepsOf(c), known: make([]map[int]fact, many), leads: make([]map[int][]int, many), asks: queueOf(many), ways: queueOf(many)}
}

// ask asks for all that is asked for, and so for all on which that hangs.
func (f *facts) ask() {
	for !f.asks.empty() {
		at, regs := f.asks.next()
		for _, reg := range regs {
			if at != 0 && f.open(at, reg) { // nothing is ever known ahead of place 0
				for _, from := range f.steps[at].from {
					f.lead(f.source(from, reg), reg, at)
				}
			}
		}
	}
}

// open puts a register with those that are asked for ahead of a place; false: it was there.
func (f *facts) open(at, reg int) bool {
	if f.known[at] == nil {
		f.known[at] = map[int]fact{}
	}
	known := f.known[at]
	many := len(known)
	known[reg] = fact{}
	return len(known) > many
}

// source is the last place that writes a register, or where ways come together, on the one way that leads to behind a place: from there on nothing else becomes known of it.
func (f *facts) source(at, reg int) int {
	for f.steps[at].def != reg && !f.steps[at].together {
		at = f.steps[at].from[0]
	}
	return at
}

// lead lets what a register has behind a source be told ahead of another place, too. The first time that asks for what it hangs on; if that is nothing more, a way waits there to tell.
func (f *facts) lead(source, reg, to int) {
	if f.leads[source] == nil {
		f.leads[source] = map[int][]int{}
	}
	l := f.leads[source][reg]
	f.leads[source][reg] = append(l, to)
	s := f.steps[source]
	switch {
	case len(l) > 0:
	case source == 0 || s.def == reg && len(s.needs) == 0:
		f.ways.put(source, reg)
	case s.def == reg:
		for _, need := range s.needs {
			f.asks.put(source, need)
		}
	default:
		f.asks.put(source, reg)
	}
}

// tell lets each way that waits tell what its register has behind its place, until none waits. One that hangs on what isn't told yet waits anew when that is.
func (f *facts) tell() {
	for !f.ways.empty() {
		at, regs := f.ways.next()
		s := f.steps[at]
	ways:
		for _, reg := range regs {
			if reg == s.def {
				for _, need := range s.needs {
					if k, is := f.known[at][need]; is && !k.told {
						continue ways
					}
				}
			}
			n, is := f.behind(at, reg)
			for _, to := range f.leads[at][reg] {
				f.come(to, reg, n, is)
			}
		}
	}
}

// come lets a way that ends ahead of a place tell what a register has there. What the first one tells is known until another one tells otherwise, and then never again: so the most is known that can be. If that is something new, it's to be told behind the place, too.
func (f *facts) come(at, reg int, n int64, is bool) {
	k, was := f.known[at][reg]
	switch {
	case !was || k.told && is && k.n == n:
		return
	case !k.told && is:
		f.known[at][reg] = fact{n, true}
	default:
		delete(f.known[at], reg)
	}
	s := f.steps[at]
	if reg != s.def && s.together {
		f.ways.put(at, reg)
	}
	if slices.Contains(s.needs, reg) {
		f.ways.put(at, s.def)
	}
}

// ahead is what a register is known to have ahead of a place.
func (f *facts) ahead(at, reg int) (int64, bool) {
	k := f.known[at][reg]
	return k.n, k.told
}

// behind is what it is known to have behind a place, by what is known ahead of that.
func (f *facts) behind(at, reg int) (int64, bool) {
	if reg != f.steps[at].def {
		return f.ahead(at, reg)
	}
	i := f.code[at]
	a, isA := f.ahead(at, i.A)
	b, isB := f.ahead(at, i.B)
	d, isD := f.ahead(at, i.D)
	switch {
	case i.Kind == api.Set:
		return i.N, true
	case i.Kind == api.Move:
		return a, isA
	case i.Kind == api.Calc && isA && isB:
		return calc.Eval(i.Op, a, b), true
	case i.Kind == api.Pick && isA && a != 0:
		return b, isB
	case i.Kind == api.Pick && isA:
		return d, isD
	case i.Kind == api.Pick && isB && isD && b == d:
		return b, true
	}
	return 0, false
}
