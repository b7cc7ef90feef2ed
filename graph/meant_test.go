package graph_test

import (
	"slices"

	"paling/api"
)

// goes is where an instruction at a place goes on to within a code, as the document's words say it: what isn't a place of the code is nowhere.
func goes(c api.Code, at int) []int {
	var l []int
	switch i := c[at]; i.Kind {
	case api.Jump:
		l = []int{i.To}
	case api.Zero:
		l = []int{at + 1, i.To}
	case api.Trap, api.Halt:
	default:
		if 0 <= i.Kind && i.Kind <= api.Halt {
			l = []int{at + 1}
		}
	}
	return slices.DeleteFunc(l, func(to int) bool { return to < 0 || to >= len(c) })
}

// leads tells at which places a way ends that begins at one, and goes over none of which without tells.
func leads(c api.Code, from int, without func(at int) bool) []bool {
	l := make([]bool, len(c))
	if from >= len(c) || without(from) {
		return l
	}
	l[from] = true
	for grown := true; grown; {
		grown = false
		for at, is := range l {
			if !is {
				continue
			}
			for _, to := range goes(c, at) {
				if !l[to] && !without(to) {
					l[to], grown = true, true
				}
			}
		}
	}
	return l
}

// nowhere is without nothing.
func nowhere(int) bool { return false }

// only is without one place.
func only(h int) func(int) bool { return func(at int) bool { return at == h } }

// meantReach is Reach.
func meantReach(c api.Code) []bool { return leads(c, 0, nowhere) }

// meantPreds is Preds.
func meantPreds(c api.Code) [][]int {
	l, come := make([][]int, len(c)), meantReach(c)
	for to := range c {
		for at := range c {
			if come[at] && slices.Contains(goes(c, at), to) {
				l[to] = append(l[to], at)
			}
		}
	}
	return l
}

// meantDominates is Dominates: what is above a place is what can't be left out on the way there.
func meantDominates(c api.Code) [][]bool {
	l, come := make([][]bool, len(c)), meantReach(c)
	for at := range c {
		l[at] = make([]bool, len(c))
	}
	for above := range c {
		without := leads(c, 0, only(above))
		for at := range c {
			l[at][above] = come[at] && !without[at]
		}
	}
	return l
}

// meantLoops is Loops, and where each begins.
func meantLoops(c api.Code) (all [][]int, begins []int) {
	come, above := meantReach(c), meantDominates(c)
	for h := range c {
		var ends []int
		for j := range c {
			if come[j] && slices.Contains(goes(c, j), h) && above[j][h] {
				ends = append(ends, j)
			}
		}
		if len(ends) == 0 {
			continue
		}
		var l []int
		for p := range c {
			inner := leads(c, p, func(at int) bool { return at == h || !come[at] })
			if p == h || slices.ContainsFunc(ends, func(j int) bool { return inner[j] }) {
				l = append(l, p)
			}
		}
		all, begins = append(all, l), append(begins, h)
	}
	return all, begins
}

// meantDepth is Depth.
func meantDepth(c api.Code) []int {
	l := make([]int, len(c))
	all, _ := meantLoops(c)
	for _, loop := range all {
		for _, at := range loop {
			l[at]++
		}
	}
	return l
}
