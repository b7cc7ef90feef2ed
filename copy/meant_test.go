package copy_test

import (
	"slices"

	"paling/api"
)

// row is what is the same ahead of a place: of each register of a code (the lowest one first), which one is the first that is the same; nil, if no way ends there.
type row []int

// goes is where an instruction goes on to from a place within a code of so many, as the document's words say it.
func goes(i api.Ins, at, many int) []int {
	var l []int
	if i.Kind != api.Jump && i.Kind != api.Trap && i.Kind != api.Halt && i.Kind >= 0 && i.Kind < api.Halt && at+1 < many {
		l = append(l, at+1)
	}
	if (i.Kind == api.Jump || i.Kind == api.Zero) && i.To >= 0 && i.To < many && !slices.Contains(l, i.To) {
		l = append(l, i.To)
	}
	return l
}

// writes tells whether an instruction writes D.
func writes(i api.Ins) bool {
	return i.D >= 0 && (i.Kind == api.Set || i.Kind == api.Move || i.Kind == api.Calc || i.Kind == api.Pick || i.Kind == api.Load)
}

// firsts is a row by what each register is of: the same, if of the same. What that is, is told by 0 up to how many registers there are.
func firsts(of []int) row {
	l, first := make(row, len(of)), slices.Repeat([]int{-1}, len(of)+1)
	for n, what := range of {
		if first[what] < 0 {
			first[what] = n
		}
		l[n] = first[what]
	}
	return l
}

// behind is what is the same behind an instruction.
func behind(i api.Ins, regs []int, ahead row) row {
	if !writes(i) || i.Kind == api.Move && i.A == i.D {
		return ahead
	}
	of := slices.Clone(ahead)
	d, a := slices.Index(regs, i.D), slices.Index(regs, i.A)
	if i.Kind == api.Move && i.A >= 0 {
		of[d] = ahead[a]
	} else {
		of[d] = len(regs)
	}
	return firsts(of)
}

// agreed is what is the same in two rows.
func agreed(a, b row) row {
	of, both := make([]int, len(a)), map[[2]int]int{}
	for n := range of {
		what := [2]int{a[n], b[n]}
		if _, is := both[what]; !is {
			both[what] = n
		}
		of[n] = both[what]
	}
	return firsts(of)
}

// alone is what is the same where nothing is.
func alone(many int) row {
	l := make(row, many)
	for n := range l {
		l[n] = n
	}
	return l
}

// model is what is the same ahead of each place of a code.
type model struct {
	regs []int
	rows []row
}

// meantOf is that of a code, as the document's words say it: all places are gone over from the beginning on, until nothing is other than the time ahead of that. What hasn't been come to by then keeps nothing from being the same.
func meantOf(c api.Code) model {
	m := model{regs: regs(c)}
	for {
		is := make([]row, len(c))
		if len(c) > 0 {
			is[0] = alone(len(m.regs))
		}
		for at, ahead := range m.rows {
			if ahead == nil {
				continue
			}
			for _, to := range goes(c[at], at, len(c)) {
				told := behind(c[at], m.regs, ahead)
				if is[to] != nil {
					told = agreed(is[to], told)
				}
				is[to] = told
			}
		}
		if m.rows != nil && sameRows(m.rows, is) {
			return m
		}
		m.rows = is
	}
}

// sameRows tells whether two codes' rows are the same.
func sameRows(a, b []row) bool {
	return slices.EqualFunc(a, b, func(a, b row) bool { return (a == nil) == (b == nil) && slices.Equal(a, b) })
}

// same is the lowest register that is the same as one ahead of a place.
func (m model) same(at, reg int) int {
	n := slices.Index(m.regs, reg)
	if n < 0 || at < 0 || at >= len(m.rows) || m.rows[at] == nil {
		return reg
	}
	return m.regs[m.rows[at][n]]
}

// code is what a code becomes.
func (m model) code(c api.Code) api.Code {
	var l api.Code
	for at, i := range c {
		a, b := m.same(at, i.A), m.same(at, i.B)
		switch i.Kind {
		case api.Move:
			i.A = a
		case api.Calc:
			i.A, i.B = a, b
		case api.Pick:
			i.A, i.B = a, b
		case api.Load:
			i.A = a
		case api.Store:
			i.A, i.B = a, b
		case api.Zero:
			i.A = a
		case api.Out:
			i.A = a
		}
		l = append(l, i)
	}
	return l
}

// counts is how many registers have another one as the lowest that is the same, ahead of all places, and how many instructions become others.
func (m model) counts(c api.Code) (many, others int) {
	for _, l := range m.rows {
		for n, first := range l {
			if first != n {
				many++
			}
		}
	}
	for at, i := range m.code(c) {
		if i != c[at] {
			others++
		}
	}
	return many, others
}
