package fold_test

import (
	"slices"
	"testing"

	"paling/api"
	"paling/fold"
	"paling/sample"
)

// made is a code of so many instructions, each told.
func made(many int, of func(at int) api.Ins) api.Code {
	c := make(api.Code, many)
	for at := range c {
		c[at] = of(at)
	}
	return c
}

// knownAt holds what is told of a register against a number.
func knownAt(t *testing.T, c api.Code, at, reg int, n int64) {
	t.Helper()
	if got, is := fold.Known(c, at, reg); got != n || !is {
		t.Fatal(at, reg, got, is)
	}
}

// P16.1, P16.2: as long as a code may be: half of it writes registers, the other half reads them.
func TestGreatest(t *testing.T) {
	many := api.MaxCode / 2
	c := made(2*many, func(at int) api.Ins {
		if at < many {
			return set(at, int64(at))
		}
		return move(at, at-many)
	})
	c[2*many-1] = halt
	want := slices.Clone(c)
	for at := many; at < 2*many-1; at++ {
		want[at] = set(at, int64(at-many))
	}
	becomes(t, c, want)
	knownAt(t, c, 2*many-1, 0, 0)
	knownAt(t, c, 2*many-1, 2*many-2, int64(many-2))
}

// P16.1, P16.2: a loop, as long as a code may be, of Moves of which each round makes one less known: all of them read one that is known till the round in which it isn't.
func TestRoundByRound(t *testing.T) {
	many := api.MaxCode/2 - 2
	c := made(api.MaxCode, func(at int) api.Ins {
		switch {
		case at < many:
			return set(at, 1)
		case at < 2*many-1:
			return move(2*many-1-at, 2*many-2-at) // the last one first: what a round brings goes on by one
		}
		return load(0)
	})
	c[2*many] = zero(many, many)
	c[2*many+1], c[2*many+2], c[2*many+3] = set(0, 7), move(1, 0), halt
	want := slices.Clone(c)
	want[2*many+2] = set(1, 7)
	becomes(t, c, want)
	for _, reg := range []int{0, 1, many / 2, many - 1} {
		knownAt(t, c, many-1, min(reg, many-2), 1)
		if n, is := fold.Known(c, many, reg); is {
			t.Fatal(reg, n)
		}
	}
	c[2*many-1] = set(0, 1) // and if it brings the same, all of them are known
	for at := many; at < 2*many-1; at++ {
		want[at] = set(c[at].D, 1)
	}
	want[2*many-1] = c[2*many-1]
	becomes(t, c, want)
	knownAt(t, c, 2*many, many-1, 1)
}

// P16.1, P16.2: many ways, each of which tells of many registers.
func TestManyWays(t *testing.T) {
	many := api.MaxCode / 4
	c := made(4*many, func(at int) api.Ins {
		switch {
		case at < many:
			return set(at, int64(at))
		case at < 3*many:
			return zero(5000, (at*137+7)%(2*many)+many)
		}
		return move(at, at-3*many)
	})
	c[4*many-1] = halt
	want := slices.Clone(c)
	for at := 3 * many; at < 4*many-1; at++ {
		want[at] = set(at, int64(at-3*many))
	}
	c[2*many] = load(many / 2) // one of them isn't known any more
	want[2*many], want[3*many+many/2] = c[2*many], c[3*many+many/2]
	becomes(t, c, want)
}

// Codes that are longer than any that may be come to an end, too.
func TestLong(t *testing.T) {
	many := 1 << 17
	c := made(many, func(at int) api.Ins { return does(at+1, at, api.Add, at) })
	c[0] = set(1, 1)
	got := fold.Code(c)
	for at := 1; at < many; at++ {
		n := int64(0) // doubled so often it wraps
		if at < 64 {
			n = 1 << at
		}
		if got[at] != set(at+1, n) {
			t.Fatal(at, got[at])
		}
	}
	c = made(many, func(at int) api.Ins { return jump(at - 1) }) // from the end on, back to the beginning
	c[0], c[1] = jump(many-1), zero(0, many-2)
	c[many-1] = set(0, 3)
	c = append(c, jump(many-2))
	want := slices.Clone(c)
	want[1] = jump(2)
	becomes(t, c, want)
	knownAt(t, c, 1, 0, 3)
}

// P16.2: long written codes, which seldom end, become what they are meant to.
func TestLongWritten(t *testing.T) {
	known, others := 0, 0
	for seed := range 10 {
		d := sample.Rolls(seed)
		c := code(d, 300, 25, 1)
		for at, i := range c[:299] {
			if i.Kind == api.Halt || i.Kind == api.Trap || i.Kind == api.Jump || i.Kind == api.Zero && d.Roll(3) > 0 {
				c[at] = set(d.Roll(25), int64(d.Roll(2)))
			}
		}
		m := meantOf(c)
		becomes(t, c, meantCode(c, m))
		many, become := kept(c, m)
		known, others = known+many, others+become
	}
	if known < 40000 || others < 500 {
		t.Error(known, others)
	}
}
