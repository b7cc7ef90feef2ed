package copy

import (
	"slices"

	"paling/api"
	"paling/ins"
)

// stretch is places that are gone along one behind the other: ways come together ahead of the first alone, and part behind the last alone. What is the same ahead of it says what is the same all along it; so that alone is kept.
type stretch struct {
	places []int
	next   []*stretch
	of     map[int]int    // of what each register that it writes is behind it: of one ahead of it; below 0: of what is written at a place of it
	gave   map[int][]int  // the other way round: the registers that it writes which are of that
	same   map[int]*group // by registers: with which ones each is the same ahead of it; one of which nothing stands here is alone
	groups []*group       // all these
	gone   bool           // what is the same behind it was told
}

// group is registers that are the same ahead of a stretch: rising.
type group struct {
	at   *stretch
	regs []int
}

// stretchesOf is those of a code that can be come to, each behind one from which it is, place 0 first: unless ways lead back, behind all of these.
func stretchesOf(c api.Code) []*stretch {
	if len(c) == 0 {
		return nil
	}
	meet := meetings(c)
	of := map[int]*stretch{}
	var l []*stretch
	var visit func(at int)
	visit = func(at int) {
		s := stretchFrom(c, at, meet)
		of[at] = s
		last := s.places[len(s.places)-1]
		for _, to := range next(c, last) {
			if of[to] == nil {
				visit(to)
			}
			s.next = append(s.next, of[to])
		}
		l = append(l, s)
	}
	visit(0)
	slices.Reverse(l)
	return l
}

// next is the places of a code to which one leads.
func next(c api.Code, at int) []int {
	var l []int
	for _, to := range ins.Next(c[at], at) {
		if to >= 0 && to < len(c) {
			l = append(l, to)
		}
	}
	return l
}

// meetings tells of each place whether ways come together ahead of it.
func meetings(c api.Code) []bool {
	meet, reached := make([]bool, len(c)), make([]bool, len(c))
	reached[0] = true
	waits := []int{0}
	for len(waits) > 0 {
		last := len(waits) - 1
		at := waits[last]
		waits = waits[:last]
		for _, to := range next(c, at) {
			if reached[to] {
				meet[to] = true
				continue
			}
			reached[to] = true
			waits = append(waits, to)
		}
	}
	return meet
}

// stretchFrom is that which begins at a place.
func stretchFrom(c api.Code, at int, meet []bool) *stretch {
	s := &stretch{of: map[int]int{}, gave: map[int][]int{}}
	for {
		s.places = append(s.places, at)
		s.write(c[at], at)
		to := next(c, at)
		if len(to) != 1 || meet[to[0]] {
			break
		}
		at = to[0]
	}
	for reg, from := range s.of {
		s.gave[from] = append(s.gave[from], reg)
	}
	return s
}

// write lets what an instruction writes be the last of a stretch so far.
func (s *stretch) write(i api.Ins, at int) {
	d := ins.Def(i)
	switch {
	case d < 0:
	case i.Kind == api.Move && i.A >= 0:
		s.of[d] = s.from(i.A)
	default:
		s.of[d] = -1 - at
	}
}

// from is of what a register is behind it.
func (s *stretch) from(reg int) int {
	if from, is := s.of[reg]; is {
		return from
	}
	return reg
}

// behind is the registers that are, behind it, of some that are there ahead of it, or of what is written there: rising.
func (s *stretch) behind(some []int) []int {
	var l []int
	for _, from := range some {
		if _, written := s.of[from]; !written && from >= 0 {
			l = append(l, from)
		}
		l = append(l, s.gave[from]...)
	}
	slices.Sort(l)
	return l
}

// lowest is the lowest register that is the same as one.
func (s *stretch) lowest(reg int) int {
	if g := s.same[reg]; g != nil {
		return g.regs[0]
	}
	return reg
}

// put lets some registers be the same.
func (s *stretch) put(regs []int) *group {
	g := &group{at: s, regs: regs}
	s.groups = append(s.groups, g)
	for _, reg := range regs {
		s.same[reg] = g
	}
	return g
}
