package fold

// queue is registers that wait at places: those of one place come at once, as what is known there lies side by side.
type queue struct {
	places []int
	regs   [][]int // by places
}

// queueOf is one for so many places.
func queueOf(many int) queue { return queue{regs: make([][]int, many)} }

// empty tells whether none waits.
func (q *queue) empty() bool { return len(q.places) == 0 }

// put lets a register wait at a place.
func (q *queue) put(at, reg int) {
	if len(q.regs[at]) == 0 {
		q.places = append(q.places, at)
	}
	q.regs[at] = append(q.regs[at], reg)
}

// next is the place that waited first, and all that waited there.
func (q *queue) next() (int, []int) {
	at := q.places[0]
	q.places = q.places[1:]
	regs := q.regs[at]
	q.regs[at] = nil
	return at, regs
}
