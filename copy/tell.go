package copy

import (
	"slices"

	"paling/api"
)

// teller tells stretches what is the same ahead of them. Behind what was told of a stretch may stand less than that; then the groups that it parted into wait to tell it.
type teller struct{ waiting []*group }

// told is a code's stretches, each of which knows what is the same ahead of it: the most that can be known so, as each takes what the first way tells, and none parts but where another way asks for it.
func told(c api.Code) []*stretch {
	l := stretchesOf(c)
	var t teller
	if len(l) > 0 {
		l[0].same = map[int]*group{}
	}
	for _, s := range l {
		s.gone = true
		for _, to := range s.next {
			if to.same == nil {
				s.tell(to)
			} else {
				t.agree(s, to)
			}
		}
	}
	for len(t.waiting) > 0 {
		last := len(t.waiting) - 1
		g := t.waiting[last]
		t.waiting = t.waiting[:last]
		regs := g.at.behind(g.regs)
		for _, to := range g.at.next {
			t.part(to, regs)
		}
	}
	return l
}

// tell lets the same be the same ahead of another stretch as behind this one.
func (s *stretch) tell(to *stretch) {
	to.same = make(map[int]*group, len(s.same))
	put := func(regs []int) {
		if len(regs) > 1 {
			to.put(regs)
		}
	}
	for _, g := range s.groups {
		put(s.behind(g.regs))
	}
	for from := range s.gave {
		if s.same[from] == nil {
			put(s.behind([]int{from}))
		}
	}
}

// together is things that are put together by what each is of: in the order of the first one of each.
func together[T any, K comparable](all []T, of func(T) K) [][]T {
	var rows [][]T
	places := map[K]int{}
	for _, thing := range all {
		what := of(thing)
		at, is := places[what]
		if !is {
			at = len(rows)
			places[what] = at
			rows = append(rows, nil)
		}
		rows[at] = append(rows[at], thing)
	}
	return rows
}

// agree lets those alone be the same ahead of a stretch that are so behind another one, too.
func (t *teller) agree(s, to *stretch) {
	for _, g := range to.groups {
		parts := together(g.regs, func(reg int) int { return s.lowest(s.from(reg)) })
		if len(parts) > 1 {
			t.split(g, parts)
		}
	}
}

// part lets some registers ahead of a stretch be the same as no others.
func (t *teller) part(to *stretch, some []int) {
	for _, regs := range together(some, to.lowest) {
		if g := to.same[regs[0]]; g != nil && len(regs) < len(g.regs) {
			t.split(g, [][]int{regs, without(g.regs, regs)})
		}
	}
}

// without is rising registers without some of them, in the same memory.
func without(all, some []int) []int {
	l := all[:0]
	for _, reg := range some {
		at, _ := slices.BinarySearch(all, reg)
		l = append(l, all[:at]...)
		all = all[at+1:]
	}
	return append(l, all...)
}

// split lets a group part. What its greatest part is goes on in its place, and is to be told behind the stretch if that was; else it's enough that the others are: by that it is parted there from these, and from all else it was already.
func (t *teller) split(g *group, parts [][]int) {
	most := 0
	for n, regs := range parts {
		if len(regs) > len(parts[most]) {
			most = n
		}
	}
	g.regs = parts[most]
	for n, regs := range parts {
		if n != most {
			part := g.at.put(regs)
			if g.at.gone {
				t.waiting = append(t.waiting, part)
			}
		}
	}
}
