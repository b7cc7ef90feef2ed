package copy_test

import (
	"slices"
	"testing"

	"paling/api"
	"paling/copy"
)

// made is a code of so many instructions, each told.
func made(many int, of func(at int) api.Ins) api.Code {
	c := make(api.Code, many)
	for at := range c {
		c[at] = of(at)
	}
	return c
}

// sameAt holds what is told of a register against which one is the same.
func sameAt(t *testing.T, c api.Code, at, reg, want int) {
	t.Helper()
	if got := copy.Same(c, at, reg); got != want {
		t.Fatal(at, reg, got)
	}
}

// P17.1, P17.2: as long as a code may be: half of it moves each register from the one below it, the other half reads them, and ways come together everywhere.
func TestGreatest(t *testing.T) {
	many := api.MaxCode / 2
	c := made(2*many, func(at int) api.Ins {
		if at < many {
			return move(at+1, at)
		}
		return zero(at-many, at+2)
	})
	c[2*many-2], c[2*many-1] = out(many), halt
	want := slices.Clone(c)
	for at := range 2*many - 1 {
		want[at].A = 0
	}
	becomes(t, c, want)
	sameAt(t, c, 2*many-1, many, 0)
	sameAt(t, c, 2*many-1, many+1, many+1)
	sameAt(t, c, 100, 100, 0)
	sameAt(t, c, 100, 101, 101)
}

// P17.1, P17.2: registers two by two, and ways that come together everywhere.
func TestTwoByTwo(t *testing.T) {
	many := api.MaxCode / 2
	c := made(2*many, func(at int) api.Ins {
		if at < many {
			return move(2*at+1, 2*at)
		}
		return zero(2*(at-many)+1, at+2)
	})
	c[2*many-2], c[2*many-1] = out(1), halt
	want := slices.Clone(c)
	for at := many; at < 2*many-2; at++ {
		want[at].A--
	}
	want[2*many-2] = out(0)
	becomes(t, c, want)
	sameAt(t, c, 2*many-1, 2*many-1, 2*many-2)
}

// P17.1, P17.2: a loop, as long as a code may be, each round of which parts one more register from the others, at many places at which ways come together.
func TestRoundByRound(t *testing.T) {
	many, all := 250, api.MaxCode
	c := made(all, func(at int) api.Ins {
		switch {
		case at < many:
			return move(at+1, at)
		case at < 2*many:
			return move(2*many-at, 2*many-at-1) // the last one first: what a round brings goes on by one
		}
		return zero(at%many, min(at+2, all-2))
	})
	c[2*many] = load(0)
	c[all-2], c[all-1] = zero(many, many), halt
	want := slices.Clone(c)
	for at := range many {
		want[at].A = 0
	}
	becomes(t, c, want)
	sameAt(t, c, many, many, many)
	sameAt(t, c, 2*many, 1, 0)
	sameAt(t, c, all-1, 1, 1)
	c[2*many] = move(0, many) // and if it brings what was, none is parted
	for at := range c {
		if want[at] = c[at]; want[at] != halt {
			want[at].A = 0
		}
	}
	becomes(t, c, want)
	sameAt(t, c, all-1, many, 0)
}

// P17.1, P17.2: many ways back, to anywhere, of which one alone parts what is the same.
func TestManyWays(t *testing.T) {
	many := api.MaxCode / 4
	c := made(4*many, func(at int) api.Ins {
		switch {
		case at < many:
			return move(at+1, 0)
		case at < 3*many:
			return zero(at%many, (at*137+7)%(2*many)+many)
		}
		return out(at - 3*many)
	})
	c[4*many-1] = halt
	want := slices.Clone(c)
	for at := many; at < 4*many-1; at++ {
		want[at].A = 0
	}
	becomes(t, c, want)
	c[2*many] = load(many / 2) // one of them isn't the same any more
	want[2*many] = c[2*many]
	for at := many; at < 4*many-1; at++ {
		if c[at].A == many/2 {
			want[at].A = many / 2
		}
	}
	becomes(t, c, want)
	c[2*many] = load(0) // or all the others aren't the same as the lowest one
	want[2*many] = c[2*many]
	for at := many; at < 4*many-1; at++ {
		if at != 2*many {
			want[at].A = min(c[at].A, 1)
		}
	}
	becomes(t, c, want)
}

// Codes that are longer than any that may be come to an end, too.
func TestLong(t *testing.T) {
	many := 1 << 17
	c := made(many, func(at int) api.Ins { return move(at+1, at) })
	want := made(many, func(at int) api.Ins { return move(at+1, 0) })
	becomes(t, c, want)
	sameAt(t, c, many-1, many-1, 0)
	c = made(many, func(at int) api.Ins { return jump(at - 1) }) // from the end on, back to the beginning
	c[0], c[1] = jump(many-1), zero(1, many-2)
	c[many-1] = move(1, 0)
	c = append(c, jump(many-2))
	want = slices.Clone(c)
	want[1].A = 0
	becomes(t, c, want)
	sameAt(t, c, 1, 1, 0)
	c = made(many, func(at int) api.Ins { return zero(1, many-1-at) }) // ways come together everywhere
	c[0] = move(1, 0)
	c = append(c, halt)
	want = made(many, func(at int) api.Ins { return zero(0, many-1-at) })
	want[0] = move(1, 0)
	becomes(t, c, append(want, halt))
}
