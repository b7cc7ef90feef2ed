package fold

import (
	"paling/api"
	"paling/ins"
)

// step is how a place is come to, and what its instruction does to what is known. Of one at which no way ends nothing stands here, and nobody asks.
type step struct {
	reached  bool
	together bool  // ways come together ahead of it, or begin there
	from     []int // the places that can be come to, from which it is gone on to here
	def      int   // the register that it writes; below 0: none
	needs    []int // the registers on which what it writes hangs
}

// stepsOf is those of a code.
func stepsOf(c api.Code) []step {
	l := make([]step, len(c))
	var waits []int
	reach := func(at int) {
		if !l[at].reached {
			l[at].reached, l[at].def, l[at].needs = true, ins.Def(c[at]), needs(c[at])
			waits = append(waits, at)
		}
	}
	if len(c) > 0 {
		reach(0)
		l[0].together = true
	}
	for len(waits) > 0 {
		at := waits[len(waits)-1]
		waits = waits[:len(waits)-1]
		for _, to := range ins.Next(c[at], at) {
			if to < 0 || to >= len(c) {
				continue
			}
			l[to].from = append(l[to].from, at)
			l[to].together = to == 0 || len(l[to].from) > 1
			reach(to)
		}
	}
	return l
}

// needs is the registers on which what an instruction writes hangs, as far as anything can be known of that.
func needs(i api.Ins) []int {
	switch i.Kind {
	case api.Move, api.Calc, api.Pick:
		return ins.Uses(i)
	}
	return nil
}
