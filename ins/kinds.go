package ins

import "paling/api"

// lastWord is the greatest place in memory that an instruction may name.
const lastWord = 65535

// part is one of the things that an instruction is made up of.
type part int

// The parts, each by what may stand in its field.
const (
	nothing part = iota
	regD         // D, a register that is written
	regA         // A, a register that is read
	someA        // A, a register that is read, or none
	regB         // B, a register that is read
	sign         // Op
	number       // N, any one
	word         // N, of memory
	lock         // N, of a lock
	why          // N, why a thread is trapped
	place        // To
)

// made is how a kind is made up.
type made struct {
	name  string
	parts [4]part // as its text tells them
	keeps bool    // what D has is read, too
	ends  bool    // it doesn't go on to the next place
}

// kinds has a row for each kind.
var kinds = [api.Halt + 1]made{
	api.Set:   {name: "set", parts: [4]part{regD, number}},
	api.Move:  {name: "move", parts: [4]part{regD, regA}},
	api.Calc:  {name: "calc", parts: [4]part{regD, regA, sign, regB}},
	api.Pick:  {name: "pick", parts: [4]part{regD, regA, regB}, keeps: true},
	api.Load:  {name: "load", parts: [4]part{regD, word, someA}},
	api.Store: {name: "store", parts: [4]part{word, regB, someA}},
	api.Jump:  {name: "jump", parts: [4]part{place}, ends: true},
	api.Zero:  {name: "zero", parts: [4]part{regA, place}},
	api.Fence: {name: "fence"},
	api.Take:  {name: "take", parts: [4]part{lock}},
	api.Give:  {name: "give", parts: [4]part{lock}},
	api.Out:   {name: "out", parts: [4]part{regA}},
	api.Trap:  {name: "trap", parts: [4]part{why}, ends: true},
	api.Halt:  {name: "halt", ends: true},
}

// known tells whether there is such a kind.
func known(kind int) bool { return api.Set <= kind && kind <= api.Halt }

// has tells whether a kind has a part.
func has(kind int, p part) bool {
	for _, q := range kinds[kind].parts {
		if q == p {
			return true
		}
	}
	return false
}

// fits tells whether what stands in a part's field may, in a code of so many instructions.
func fits(i api.Ins, p part, b Bound, many int) bool {
	switch p {
	case regD:
		return 0 <= i.D && i.D < b.Regs
	case regA:
		return 0 <= i.A && i.A < b.Regs
	case someA:
		return i.A == -1 || 0 <= i.A && i.A < b.Regs
	case regB:
		return 0 <= i.B && i.B < b.Regs
	case sign:
		return api.Add <= i.Op && i.Op <= api.Any
	case word:
		return 0 <= i.N && i.N <= lastWord
	case lock:
		return 0 <= i.N && i.N < int64(b.Locks)
	case why:
		return i.N == api.TrapDivide || i.N == api.TrapPlace
	case place:
		return 0 <= i.To && i.To < many
	}
	return true
}

// without is an instruction with 0 in a part's field.
func without(i api.Ins, p part) api.Ins {
	switch p {
	case regD:
		i.D = 0
	case regA, someA:
		i.A = 0
	case regB:
		i.B = 0
	case sign:
		i.Op = 0
	case number, word, lock, why:
		i.N = 0
	case place:
		i.To = 0
	}
	return i
}
