package fold_test

import (
	"maps"

	"paling/api"
	"paling/calc"
)

// row is what registers are known to have.
type row map[int]int64

// goes is where an instruction goes on to from a place within a code of so many, as the document's words say it.
func goes(i api.Ins, at, many int) []int {
	var l []int
	for to := range many {
		ends := i.Kind == api.Jump || i.Kind == api.Trap || i.Kind == api.Halt || i.Kind < 0 || i.Kind > api.Halt
		leads := i.Kind == api.Jump || i.Kind == api.Zero
		if !ends && to == at+1 || leads && to == i.To {
			l = append(l, to)
		}
	}
	return l
}

// wrote is what D is known to have behind an instruction that writes it.
func wrote(i api.Ins, ahead row) (int64, bool) {
	a, isA := ahead[i.A]
	b, isB := ahead[i.B]
	d, isD := ahead[i.D]
	switch i.Kind {
	case api.Set:
		return i.N, true
	case api.Move:
		return a, isA
	case api.Calc:
		return calc.Eval(i.Op, a, b), isA && isB
	case api.Pick:
		if isA && a != 0 {
			return b, isB
		}
		if isA {
			return d, isD
		}
		return b, isB && isD && b == d
	}
	return 0, false
}

// writes tells whether an instruction writes D.
func writes(i api.Ins) bool {
	return i.D >= 0 && (i.Kind == api.Set || i.Kind == api.Move || i.Kind == api.Calc || i.Kind == api.Pick || i.Kind == api.Load)
}

// behind is what is known behind an instruction.
func behind(i api.Ins, ahead row) row {
	l := maps.Clone(ahead)
	if writes(i) {
		delete(l, i.D)
		if n, is := wrote(i, ahead); is {
			l[i.D] = n
		}
	}
	return l
}

// agreed is what two rows agree in.
func agreed(a, b row) row {
	l := row{}
	for reg, n := range a {
		if m, is := b[reg]; is && n == m {
			l[reg] = n
		}
	}
	return l
}

// meantOf is what is known ahead of each place, as the document's words say it (nil, if no way ends there): all of them are gone over from the beginning on, until nothing is other than the time ahead of that. What hasn't been come to by then keeps nothing from being known.
func meantOf(c api.Code) []row {
	var was []row
	for {
		is := make([]row, len(c))
		if len(c) > 0 {
			is[0] = row{}
		}
		for at, ahead := range was {
			if ahead == nil {
				continue
			}
			for _, to := range goes(c[at], at, len(c)) {
				told := behind(c[at], ahead)
				if is[to] != nil {
					told = agreed(is[to], told)
				}
				is[to] = told
			}
		}
		if was != nil && sameRows(was, is) {
			return is
		}
		was = is
	}
}

// sameRows tells whether two codes' rows are the same.
func sameRows(a, b []row) bool {
	for at := range a {
		if (a[at] == nil) != (b[at] == nil) || !maps.Equal(a[at], b[at]) {
			return false
		}
	}
	return true
}

// meantIns is what an instruction becomes, by what is known ahead of it.
func meantIns(i api.Ins, at int, ahead row) api.Ins {
	a, isA := ahead[i.A]
	b, isB := ahead[i.B]
	n, is := wrote(i, ahead)
	switch {
	case (i.Kind == api.Calc || i.Kind == api.Move) && is:
		return set(i.D, n)
	case i.Kind == api.Pick && isA && a == 0:
		return move(i.D, i.D)
	case i.Kind == api.Pick && isA && isB:
		return set(i.D, b)
	case i.Kind == api.Pick && isA:
		return move(i.D, i.B)
	case i.Kind == api.Zero && isA && a == 0:
		return jump(i.To)
	case i.Kind == api.Zero && isA:
		return jump(at + 1)
	}
	return i
}

// meantCode is what a code becomes.
func meantCode(c api.Code, known []row) api.Code {
	var l api.Code
	for at, i := range c {
		if known[at] != nil {
			i = meantIns(i, at, known[at])
		}
		l = append(l, i)
	}
	return l
}
