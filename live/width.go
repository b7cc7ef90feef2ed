package live

import (
	"slices"

	"paling/api"
	"paling/ins"
)

// widths is ranges, by their registers.
type widths map[int]Range

// widen lets a register's range have a place.
func (w widths) widen(reg, at int) {
	r, is := w[reg]
	if !is {
		r = Range{reg, at, at}
	}
	w[reg] = Range{reg, min(r.First, at), max(r.Last, at)}
}

// touch lets ranges have each place that reads the register, or writes it.
func (w widths) touch(c api.Code) {
	for at, i := range c {
		for _, reg := range ins.Uses(i) {
			w.widen(reg, at)
		}
		if reg := ins.Def(i); reg >= 0 {
			w.widen(reg, at)
		}
	}
}

// need lets ranges have where stretches begin, and end, that the register is needed over: from any other place where it's needed, one leads back to such a place, or to one that writes it, and on to such a place, or to one that reads it. Each register is gone over just once from either side.
func (w widths) need(n *needs) {
	seen := set{}
	for s, t := range n.stretches {
		for _, reg := range seen.join(n.ahead[s]).rising() {
			w.widen(reg, t.first)
		}
	}
	seen = set{}
	for _, t := range slices.Backward(n.stretches) {
		for _, to := range t.to {
			for _, reg := range seen.join(n.ahead[to]).rising() {
				w.widen(reg, t.last)
			}
		}
	}
}
