package live_test

import (
	"slices"

	"paling/api"
	"paling/live"
)

// reads is the registers that an instruction reads, as the document's words say it.
func reads(i api.Ins) []int {
	var l []int
	switch i.Kind {
	case api.Move, api.Zero, api.Out, api.Load:
		l = []int{i.A}
	case api.Calc, api.Store:
		l = []int{i.A, i.B}
	case api.Pick:
		l = []int{i.D, i.A, i.B}
	}
	return slices.DeleteFunc(l, func(reg int) bool { return reg < 0 })
}

// writes is the register that it writes; below 0: none.
func writes(i api.Ins) int {
	switch i.Kind {
	case api.Set, api.Move, api.Calc, api.Pick, api.Load:
		return i.D
	}
	return -1
}

// goes is where it goes on to from a place within a code of so many: what isn't a place of the code is nowhere.
func goes(i api.Ins, at, many int) []int {
	var l []int
	switch {
	case i.Kind == api.Jump:
		l = []int{i.To}
	case i.Kind == api.Zero:
		l = []int{at + 1, i.To}
	case 0 <= i.Kind && i.Kind < api.Trap:
		l = []int{at + 1}
	}
	return slices.DeleteFunc(l, func(to int) bool { return to < 0 || to >= many })
}

// model is a code, as the document's words tell of it.
type model struct {
	reads  [][]int
	writes []int
	goes   [][]int
}

// modelOf is that of a code.
func modelOf(c api.Code) model {
	var m model
	for at, i := range c {
		m.reads = append(m.reads, reads(i))
		m.writes = append(m.writes, writes(i))
		m.goes = append(m.goes, goes(i, at, len(c)))
	}
	return m
}

// regs is all registers that are read, or written, rising.
func (m model) regs() []int {
	l := slices.Concat(m.reads...)
	for _, reg := range m.writes {
		if reg >= 0 {
			l = append(l, reg)
		}
	}
	slices.Sort(l)
	return slices.Compact(l)
}

// needed tells whether a way leads from a place to one that reads the register, and goes over none that writes it ahead of that.
func (m model) needed(from, reg int) bool {
	been, wait := make([]bool, len(m.goes)), []int{from}
	for len(wait) > 0 {
		at := wait[0]
		wait = wait[1:]
		if been[at] {
			continue
		}
		been[at] = true
		if slices.Contains(m.reads[at], reg) {
			return true
		}
		if m.writes[at] != reg {
			wait = append(wait, m.goes[at]...)
		}
	}
	return false
}

// meant is all that there is to be told of a code.
type meant struct {
	ahead, behind [][]int
	ranges        []live.Range
	most          int
}

// meantOf is that, as the document's words tell it.
func meantOf(c api.Code) meant {
	m := modelOf(c)
	w := meant{ahead: make([][]int, len(c)), behind: make([][]int, len(c))}
	for _, reg := range m.regs() {
		is := make([]bool, len(c))
		for at := range c {
			if is[at] = m.needed(at, reg); is[at] {
				w.ahead[at] = append(w.ahead[at], reg)
			}
		}
		var begins, ends []int
		for at := range c {
			behind := slices.ContainsFunc(m.goes[at], func(to int) bool { return is[to] })
			if behind {
				w.behind[at] = append(w.behind[at], reg)
			}
			if m.writes[at] == reg || is[at] {
				begins = append(begins, at)
			}
			if m.writes[at] == reg || is[at] || behind {
				ends = append(ends, at)
			}
		}
		w.ranges = append(w.ranges, live.Range{Reg: reg, First: begins[0], Last: ends[len(ends)-1]})
	}
	for _, l := range w.ahead {
		w.most = max(w.most, len(l))
	}
	return w
}
