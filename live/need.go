package live

import (
	"slices"

	"paling/api"
	"paling/ins"
)

// needs is what is needed where stretches begin.
type needs struct {
	code      api.Code
	stretches []stretch
	ahead     []set // by stretches: what is needed ahead of its first place
}

// needsOf finds what is needed: first what each stretch needs for itself, then what it needs for those that it leads to.
func needsOf(c api.Code) *needs {
	n := &needs{code: c, stretches: cut(c)}
	var writes []set
	waits := map[int][]int{} // by keys of sets: the stretches that need some of its registers for themselves
	for s, t := range n.stretches {
		needed, written := set{}, set{}
		for at := t.last; at >= t.first; at-- {
			needed.up(c[at])
			written.put(ins.Def(c[at]))
		}
		n.ahead, writes = append(n.ahead, needed), append(writes, written)
		for k := range needed {
			waits[k] = append(waits[k], s)
		}
	}
	for k, wait := range waits {
		n.grow(k, wait, writes)
	}
	return n
}

// grow lets what is needed ahead of stretches that wait be needed ahead of those that go on to them, too, but for what these write, until none grows. It does so for one key of the sets: registers of different ones never meet.
func (n *needs) grow(k int, wait []int, writes []set) {
	for len(wait) > 0 {
		s := wait[len(wait)-1]
		wait = wait[:len(wait)-1]
		needed := n.ahead[s][k]
		for _, q := range n.stretches[s].from {
			if fresh := needed &^ (n.ahead[q][k] | writes[q][k]); fresh != 0 {
				n.ahead[q][k] |= fresh
				wait = append(wait, q)
			}
		}
	}
}

// behind is what is needed behind a stretch's last place.
func (n *needs) behind(s int) set {
	needed := set{}
	for _, t := range n.stretches[s].to {
		needed.join(n.ahead[t])
	}
	return needed
}

// each tells of each place what is needed ahead of it, and behind it. Rows of one kind share no memory with one another.
func (n *needs) each(tell func(at int, ahead, behind []int)) {
	for s, t := range n.stretches {
		behind := n.behind(s).rising()
		for at := t.last; at >= t.first; at-- {
			ahead := above(behind, n.code[at])
			tell(at, ahead, behind)
			behind = ahead
		}
	}
}

// above is what is needed ahead of an instruction, by what is needed behind it.
func above(behind []int, i api.Ins) []int {
	uses := ins.Uses(i)
	l := append(make([]int, 0, len(behind)+len(uses)), behind...)
	if n, is := slices.BinarySearch(l, ins.Def(i)); is {
		l = slices.Delete(l, n, n+1)
	}
	for _, reg := range uses {
		if n, is := slices.BinarySearch(l, reg); !is {
			l = slices.Insert(l, n, reg)
		}
	}
	return l
}
