package live

import (
	"slices"

	"paling/api"
	"paling/ins"
)

// stretch is places on end: each but the last goes on to the one behind it alone, and that is come to from there alone. What is needed within one follows from what is needed at its end.
type stretch struct {
	first, last int
	from, to    []int // stretches: those that go on to its first place, and those to which its last place goes on
}

// cut cuts a code into stretches, each as long as may be, rising.
func cut(c api.Code) []stretch {
	next, come := goes(c)
	var l []stretch
	of := make([]int, len(c)) // by places: its stretch
	for at := range c {
		if at == 0 || come[at] != 1 || !slices.Equal(next[at-1], []int{at}) {
			l = append(l, stretch{first: at})
		}
		of[at] = len(l) - 1
		l[of[at]].last = at
	}
	for s, t := range l {
		for _, at := range next[t.last] {
			l[s].to = append(l[s].to, of[at])
			l[of[at]].from = append(l[of[at]].from, s)
		}
	}
	return l
}

// goes tells of each place to which ones of the code it goes on, and how many come there.
func goes(c api.Code) (next [][]int, come []int) {
	next, come = make([][]int, len(c)), make([]int, len(c))
	outside := func(at int) bool { return at < 0 || at >= len(c) }
	for at, i := range c {
		next[at] = slices.DeleteFunc(ins.Next(i, at), outside)
		for _, to := range next[at] {
			come[to]++
		}
	}
	return next, come
}
