package graph

// climb finds what is above what, as Lengauer and Tarjan do: from the greatest number to the lowest, all below what was done is a forest, that grows together. All is told by numbers.
type climb struct {
	semi []int // the lowest number from which a way leads there over greater ones than its own alone
	up   []int // one that it is under in the forest; none, of what is under no other one there
	best []int // of those from it on up to that one, without that one, the one with the lowest semi
}

// newClimb is one of so many numbers, none of which is done.
func newClimb(many int) *climb {
	k := &climb{make([]int, many), make([]int, many), make([]int, many)}
	for v := range many {
		k.semi[v], k.up[v], k.best[v] = v, none, v
	}
	return k
}

// find is, of those from it on up to the top, without the top, the one with the lowest semi; of the top itself that.
func (k *climb) find(v int) int {
	if k.up[v] == none {
		return v
	}
	var path []int
	for u := v; k.up[k.up[u]] != none; u = k.up[u] {
		path = append(path, u)
	}
	for i := len(path) - 1; i >= 0; i-- { // from above, so that each comes to stand just under the top
		u := path[i]
		top := k.up[u]
		if k.semi[k.best[top]] < k.semi[k.best[u]] {
			k.best[u] = k.best[top]
		}
		k.up[u] = k.up[top]
	}
	return k.best[v]
}

// nearest tells of each number the greatest one, but its own, that is above it; none, of the first.
func (w *ways) nearest() []int {
	k, from := newClimb(len(w.places)), w.sources()
	l := make([]int, len(w.places))
	wait := make([][]int, len(w.places)) // by their semi, till what it goes over is in the forest
	for v := len(l) - 1; v > 0; v-- {
		for _, at := range from(w.places[v]) {
			k.semi[v] = min(k.semi[v], k.semi[k.find(w.numbers[at])])
		}
		wait[k.semi[v]] = append(wait[k.semi[v]], v)
		top := w.from[v]
		k.up[v] = top
		for _, u := range wait[top] {
			l[u] = top
			if y := k.find(u); k.semi[y] < top { // what is above that is above this, too
				l[u] = y
			}
		}
		wait[top] = nil
	}
	for v := range l {
		if v == 0 {
			l[v] = none
		} else if l[v] != k.semi[v] {
			l[v] = l[l[v]]
		}
	}
	return l
}
