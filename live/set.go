package live

import (
	"cmp"
	"maps"
	"math/bits"
	"slices"

	"paling/api"
	"paling/ins"
)

// wide is how many registers that follow one another share a number of a set.
const wide = 64

// set is registers, a bit each: those that stand side by side grow at once. No number of it is 0.
type set map[int]uint64

// put puts a register in, unless it's below 0, which is none; it tells how many more that are.
func (s set) put(reg int) int {
	if reg < 0 {
		return 0
	}
	bit := uint64(1) << (reg % wide)
	if s[reg/wide]&bit != 0 {
		return 0
	}
	s[reg/wide] |= bit
	return 1
}

// drop takes a register out; it tells how many less that are.
func (s set) drop(reg int) int {
	if reg < 0 {
		return 0
	}
	had, bit := s[reg/wide], uint64(1)<<(reg%wide)
	if had&bit == 0 {
		return 0
	}
	if s[reg/wide] = had &^ bit; had == bit {
		delete(s, reg/wide)
	}
	return 1
}

// up makes what is needed behind an instruction what is needed ahead of it; it tells how many more that are.
func (s set) up(i api.Ins) int {
	more := -s.drop(ins.Def(i))
	for _, reg := range ins.Uses(i) {
		more += s.put(reg)
	}
	return more
}

// join puts in what another set has; it tells what wasn't there.
func (s set) join(from set) set {
	fresh := set{}
	for k, regs := range from {
		if regs &^= s[k]; regs != 0 {
			s[k] |= regs
			fresh[k] = regs
		}
	}
	return fresh
}

// many is how many there are.
func (s set) many() int {
	n := 0
	for _, regs := range s {
		n += bits.OnesCount64(regs)
	}
	return n
}

// rising is those that there are, rising.
func (s set) rising() []int {
	return row(s, func(l []int, k int, regs uint64) []int {
		for ; regs != 0; regs &= regs - 1 {
			l = append(l, k*wide+bits.TrailingZeros64(regs))
		}
		return l
	})
}

// row makes a map a row: each key puts its own behind, by rising keys.
func row[K cmp.Ordered, V, T any](m map[K]V, put func(l []T, k K, v V) []T) []T {
	var l []T
	for _, k := range slices.Sorted(maps.Keys(m)) {
		l = put(l, k, m[k])
	}
	return l
}
