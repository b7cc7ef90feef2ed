package dead_test

import (
	"slices"

	"paling/api"
)

// goes is where an instruction goes on to from a place within a code of so many, as the document's words say it.
func goes(i api.Ins, at, many int) []int {
	var l []int
	if i.Kind != api.Jump && i.Kind != api.Trap && i.Kind >= 0 && i.Kind < api.Halt && at+1 < many {
		l = append(l, at+1)
	}
	if (i.Kind == api.Jump || i.Kind == api.Zero) && i.To >= 0 && i.To < many {
		l = append(l, i.To)
	}
	return l
}

// writes tells whether an instruction writes a register.
func writes(i api.Ins, reg int) bool {
	return i.D == reg && (i.Kind == api.Set || i.Kind == api.Move || i.Kind == api.Calc || i.Kind == api.Pick || i.Kind == api.Load)
}

// reads tells whether it reads one.
func reads(i api.Ins, reg int) bool {
	switch i.Kind {
	case api.Pick:
		return i.D == reg || i.A == reg || i.B == reg
	case api.Calc, api.Store:
		return i.A == reg || i.B == reg
	case api.Move, api.Load, api.Zero, api.Out:
		return i.A == reg
	}
	return false
}

// walk goes from some places of a code on to all that can be come to, each once, but not on from those at which it is told to stop.
func walk(c api.Code, from []int, stop func(at int) bool) {
	seen := make([]bool, len(c))
	for len(from) > 0 {
		at := from[0]
		from = from[1:]
		if at < len(c) && !seen[at] {
			seen[at] = true
			if !stop(at) {
				from = append(from, goes(c[at], at, len(c))...)
			}
		}
	}
}

// needed tells whether a register is needed behind a place.
func needed(c api.Code, at, reg int) bool {
	is := false
	walk(c, goes(c[at], at, len(c)), func(at int) bool {
		is = is || reg >= 0 && reads(c[at], reg)
		return writes(c[at], reg)
	})
	return is
}

// meantNeedless is what nobody needs.
func meantNeedless(c api.Code) []bool {
	l := slices.Repeat([]bool{true}, len(c))
	walk(c, []int{0}, func(at int) bool {
		i := c[at]
		l[at] = writes(i, i.D) && (!needed(c, at, i.D) || i.Kind == api.Move && i.D == i.A) || i.Kind == api.Jump && i.To == at+1
		return false
	})
	return l
}

// staying is how many ahead of a place aren't gone.
func staying(gone []bool, at int) int {
	many := 0
	for _, is := range gone[:at] {
		if !is {
			many++
		}
	}
	return many
}

// meantLess is a code without what is gone.
func meantLess(c api.Code, gone []bool) api.Code {
	var l api.Code
	for at, i := range c {
		if gone[at] {
			continue
		}
		if i.Kind == api.Jump || i.Kind == api.Zero {
			to := i.To
			for to < len(c) && gone[to] {
				to++
			}
			if i.To = staying(gone, len(c)) - 1; to < len(c) {
				i.To = staying(gone, to)
			}
		}
		l = append(l, i)
	}
	return l
}

// fewer is what is left of a code, round by round, of which places, and in how many rounds.
type fewer struct {
	code   api.Code
	gone   []bool
	rounds int
}

// meantCode is a code without what nobody needs.
func meantCode(c api.Code) fewer {
	f := fewer{slices.Clone(c), make([]bool, len(c)), 0}
	for {
		l := meantNeedless(f.code)
		if !slices.Contains(l, false) {
			return fewer{api.Code{{Kind: api.Halt}}, slices.Repeat([]bool{true}, len(c)), f.rounds}
		}
		if !slices.Contains(l, true) {
			return f
		}
		f.code = meantLess(f.code, l)
		f.rounds++
		n := 0
		for at := range f.gone {
			if !f.gone[at] {
				f.gone[at] = l[n]
				n++
			}
		}
	}
}

// meantInsert is a code with an instruction ahead of some places.
func meantInsert(c api.Code, i api.Ins, ahead []bool) api.Code {
	var l api.Code
	put := func(i api.Ins) {
		if i.Kind == api.Jump || i.Kind == api.Zero {
			for _, is := range ahead[:i.To] {
				if is {
					i.To++
				}
			}
		}
		l = append(l, i)
	}
	for at, is := range ahead {
		if is {
			put(i)
		}
		put(c[at])
	}
	return l
}
