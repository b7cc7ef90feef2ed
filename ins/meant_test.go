package ins_test

import (
	"slices"
	"strconv"

	"paling/api"
	"paling/ins"
)

// What the calls are meant to tell, kind by kind, as the document's words say it.

// meantOwn tells whether all fields but those of the kind are 0.
func meantOwn(i api.Ins) bool {
	switch i.Kind {
	case api.Set:
		return i == api.Ins{Kind: i.Kind, D: i.D, N: i.N}
	case api.Move:
		return i == api.Ins{Kind: i.Kind, D: i.D, A: i.A}
	case api.Calc:
		return i == api.Ins{Kind: i.Kind, D: i.D, Op: i.Op, A: i.A, B: i.B}
	case api.Pick:
		return i == api.Ins{Kind: i.Kind, D: i.D, A: i.A, B: i.B}
	case api.Load:
		return i == api.Ins{Kind: i.Kind, D: i.D, A: i.A, N: i.N}
	case api.Store:
		return i == api.Ins{Kind: i.Kind, A: i.A, B: i.B, N: i.N}
	case api.Jump:
		return i == api.Ins{Kind: i.Kind, To: i.To}
	case api.Zero:
		return i == api.Ins{Kind: i.Kind, A: i.A, To: i.To}
	case api.Take, api.Give, api.Trap:
		return i == api.Ins{Kind: i.Kind, N: i.N}
	case api.Out:
		return i == api.Ins{Kind: i.Kind, A: i.A}
	}
	return i == api.Ins{Kind: i.Kind}
}

// meantRight tells whether an instruction may be one of a code of so many.
func meantRight(i api.Ins, b ins.Bound, many int) bool {
	if i.Kind < 0 || i.Kind > 13 || !meantOwn(i) {
		return false
	}
	regs := meantReads(i)
	if (i.Kind == api.Load || i.Kind == api.Store) && i.A == -1 {
		regs = regs[1:] // A stands first
	}
	if i.Kind <= api.Load {
		regs = append(regs, i.D)
	}
	for _, r := range regs {
		if r < 0 || r >= b.Regs {
			return false
		}
	}
	switch i.Kind {
	case api.Load, api.Store:
		return i.N >= 0 && i.N <= 65535
	case api.Take, api.Give:
		return i.N >= 0 && i.N < int64(b.Locks)
	case api.Trap:
		return i.N == 1 || i.N == 2
	case api.Jump, api.Zero:
		return i.To >= 0 && i.To < many
	}
	return i.Op >= 0 && i.Op <= 18
}

// meantCheck is Check.
func meantCheck(c api.Code, b ins.Bound) bool {
	if len(c) == 0 || len(c) > 4096 {
		return false
	}
	for _, i := range c {
		if !meantRight(i, b, len(c)) {
			return false
		}
	}
	last := c[len(c)-1].Kind
	return last == api.Jump || last == api.Trap || last == api.Halt
}

// meantReads is the registers that are read, A first, those below 0, too.
func meantReads(i api.Ins) []int {
	switch i.Kind {
	case api.Move, api.Zero, api.Out, api.Load:
		return []int{i.A}
	case api.Calc, api.Store:
		return []int{i.A, i.B}
	case api.Pick:
		return []int{i.A, i.B, i.D}
	}
	return nil
}

// meantUses is Uses.
func meantUses(i api.Ins) []int {
	l := meantReads(i)
	slices.Sort(l)
	for len(l) > 0 && l[0] < 0 {
		l = l[1:]
	}
	return slices.Compact(l)
}

// meantDef is Def.
func meantDef(i api.Ins) int {
	switch i.Kind {
	case api.Set, api.Move, api.Calc, api.Pick, api.Load:
		return i.D
	}
	return -1
}

// meantNext is Next.
func meantNext(i api.Ins, at int) []int {
	switch {
	case i.Kind < 0 || i.Kind > 13 || i.Kind == api.Trap || i.Kind == api.Halt:
		return nil
	case i.Kind == api.Jump:
		return []int{i.To}
	case i.Kind == api.Zero && i.To < at+1:
		return []int{i.To, at + 1}
	case i.Kind == api.Zero && i.To > at+1:
		return []int{at + 1, i.To}
	}
	return []int{at + 1}
}

// meantShow is Show.
func meantShow(i api.Ins) string {
	d, a, b := " r"+strconv.Itoa(i.D), " r"+strconv.Itoa(i.A), " r"+strconv.Itoa(i.B)
	n, to := " "+strconv.FormatInt(i.N, 10), " "+strconv.Itoa(i.To)
	some := a
	if i.A < 0 {
		some = ""
	}
	sign := "below"
	if signs := []string{"+", "-", "*", "/", "%", "&", "|", "^", "<<", ">>", "==", "!=", "<", "<=", ">", ">=", "below", "&&", "||"}; i.Op >= 0 && i.Op < len(signs) {
		sign = signs[i.Op]
	}
	switch i.Kind {
	case api.Set:
		return "set" + d + n
	case api.Move:
		return "move" + d + a
	case api.Calc:
		return "calc" + d + a + " " + sign + b
	case api.Pick:
		return "pick" + d + a + b
	case api.Load:
		return "load" + d + n + some
	case api.Store:
		return "store" + n + b + some
	case api.Jump:
		return "jump" + to
	case api.Zero:
		return "zero" + a + to
	case api.Fence:
		return "fence"
	case api.Take:
		return "take" + n
	case api.Give:
		return "give" + n
	case api.Out:
		return "out" + a
	case api.Trap:
		return "trap" + n
	case api.Halt:
		return "halt"
	}
	return ""
}
