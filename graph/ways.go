package graph

import (
	"slices"

	"paling/api"
	"paling/ins"
)

// none is no number.
const none = -1

// ways are those of a code, walked depth first. The places that can be come to have numbers, as they are come to: what is above another one has a lower number than that.
type ways struct {
	places  []int   // by numbers
	numbers []int   // by places; none: no way ends there
	from    []int   // by numbers: from which one it was come to; none, of the first
	to      [][]int // by numbers: the places to which it goes on
}

// waysOf walks a code.
func waysOf(c api.Code) *ways {
	w := &ways{numbers: slices.Repeat([]int{none}, len(c))}
	if len(c) == 0 {
		return w
	}
	gone := make([]int, len(c)) // by numbers: how many of what it goes on to are done
	wait := []int{w.come(c, 0, none)}
deeper:
	for len(wait) > 0 {
		last := wait[len(wait)-1]
		for gone[last] < len(w.to[last]) {
			at := w.to[last][gone[last]]
			gone[last]++
			if w.numbers[at] == none {
				wait = append(wait, w.come(c, at, last))
				continue deeper
			}
		}
		wait = wait[:len(wait)-1]
	}
	return w
}

// come gives a place its number, and tells that.
func (w *ways) come(c api.Code, at, from int) int {
	n := len(w.places)
	outside := func(to int) bool { return to < 0 || to >= len(c) }
	w.numbers[at] = n
	w.places = append(w.places, at)
	w.from = append(w.from, from)
	w.to = append(w.to, slices.DeleteFunc(ins.Next(c[at], at), outside))
	return n
}

// sources tells from which places each place can be come to, rising. What it tells isn't to be changed.
func (w *ways) sources() func(at int) []int {
	first := make([]int, len(w.numbers)+1) // where those of each place stand in a row
	for _, row := range w.to {
		for _, to := range row {
			first[to+1]++
		}
	}
	for at := range w.numbers {
		first[at+1] += first[at]
	}
	all, free := make([]int, first[len(w.numbers)]), slices.Clone(first)
	for at, n := range w.numbers {
		if n == none {
			continue
		}
		for _, to := range w.to[n] {
			all[free[to]] = at
			free[to]++
		}
	}
	return func(at int) []int { return all[first[at]:first[at+1]] }
}
