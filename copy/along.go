package copy

import (
	"slices"

	"paling/api"
	"paling/ins"
)

// along goes along a stretch, and calls for each place, while what is the same is what it is ahead of it: none is kept of what it was ahead of the stretch.
func (s *stretch) along(c api.Code, do func(at int)) {
	for _, at := range s.places {
		do(at)
		i := c[at]
		d := ins.Def(i)
		switch {
		case d < 0:
		case i.Kind != api.Move || i.A < 0:
			s.leave(d)
		case s.lowest(d) != s.lowest(i.A):
			s.leave(d)
			s.join(d, i.A)
		}
	}
}

// leave lets a register be the same as itself alone.
func (s *stretch) leave(reg int) {
	if g := s.same[reg]; g != nil {
		g.regs = without(g.regs, []int{reg})
		delete(s.same, reg)
	}
}

// join lets one that is alone be the same as another one.
func (s *stretch) join(reg, other int) {
	if g := s.same[other]; g != nil {
		at, _ := slices.BinarySearch(g.regs, reg)
		g.regs = slices.Insert(g.regs, at, reg)
		s.same[reg] = g
		return
	}
	s.put([]int{min(reg, other), max(reg, other)})
}
