package graph

// tree is numbers that stand under one another. In a row, each has all that are under it on end behind it.
type tree struct {
	first []int // by numbers: its place in the row
	size  []int // by numbers: how many it and those under it are
}

// under is a tree of numbers, told for each under which lower one it is; none: under no other.
func under(up []int) tree {
	t := tree{make([]int, len(up)), make([]int, len(up))}
	for v := len(up) - 1; v >= 0; v-- {
		t.size[v]++
		if up[v] != none {
			t.size[up[v]] += t.size[v]
		}
	}
	top, free := 0, make([]int, len(up)) // where the next one under none, and under each, stands
	for v, u := range up {
		next := &top
		if u != none {
			next = &free[u]
		}
		t.first[v] = *next
		*next += t.size[v]
		free[v] = t.first[v] + 1
	}
	return t
}

// has tells whether v is u, or under it.
func (t tree) has(u, v int) bool {
	return t.first[u] <= t.first[v] && t.first[v] < t.first[u]+t.size[u]
}

// nest is how loops stand in one another; all is told by numbers. Of two loops that have a place, one has all of the other.
type nest struct {
	begins []bool // does a loop begin there?
	around []int  // where the least loop begins that has it, but for the one that begins there itself; none
}

// nest finds the loops, those within others first: what such a one has counts as one from then on, so that nothing is gone over twice.
func (w *ways) nest() nest {
	many := len(w.places)
	n := nest{make([]bool, many), make([]int, many)}
	whole := make([]int, many) // itself, or one that counts for it
	for v := range many {
		n.around[v], whole[v] = none, v
	}
	above, from := under(w.nearest()), w.sources()
	for h := many - 1; h >= 0; h-- {
		var wait []int
		for _, at := range from(w.places[h]) {
			if v := w.numbers[at]; above.has(h, v) {
				wait = append(wait, v)
			}
		}
		n.begins[h] = len(wait) > 0
		for len(wait) > 0 {
			v := counts(whole, wait[len(wait)-1])
			wait = wait[:len(wait)-1]
			if v == h {
				continue
			}
			n.around[v], whole[v] = h, h
			for _, at := range from(w.places[v]) {
				wait = append(wait, w.numbers[at])
			}
		}
	}
	return n
}

// counts is what counts for one in the end.
func counts(whole []int, v int) int {
	for whole[v] != v {
		whole[v] = whole[whole[v]] // a shorter way, for the next time
		v = whole[v]
	}
	return v
}
