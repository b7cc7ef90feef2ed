package dead_test

import (
	"slices"
	"strings"
	"testing"

	"paling/api"
	"paling/check"
	"paling/dead"
	"paling/lower"
)

// made is a code of so many instructions, each told; the last one ends.
func made(many int, of func(at int) api.Ins) api.Code {
	c := make(api.Code, many)
	for at := range many - 1 {
		c[at] = of(at)
	}
	c[many-1] = halt
	return c
}

// all is a row of so many that holds at all places but one.
func all(many, but int) []bool {
	l := make([]bool, many)
	for at := range l {
		l[at] = at != but
	}
	return l
}

// P18.1, P18.3: as long as a code may be, of which but one goes in each round.
func TestOneByOne(t *testing.T) {
	last := api.MaxCode - 1
	for name, c := range map[string]api.Code{
		"each by the next one": made(api.MaxCode, func(at int) api.Ins { return does(at+1, at, api.Add, at) }),
		"all of one":           made(api.MaxCode, func(at int) api.Ins { return does(0, 0, api.Add, 0) }),
		"of two":               made(api.MaxCode, func(at int) api.Ins { return move(at%2, 1-at%2) }),
		"far from each other":  made(api.MaxCode, func(at int) api.Ins { return pick((at+1)*1000, at*1000, at*1000) }),
	} {
		t.Run(name, func(t *testing.T) {
			needless(t, c, where(api.MaxCode, last-1))
			becomes(t, c, dead.Code(c), api.Code{halt})
			c[last-1] = out(c[last-1].A) // what the first rounds went by is needed now
			becomes(t, c, dead.Code(c), c)
		})
	}
}

// P18.3: likewise from both sides of places at which ways part, and come together.
func TestOneByOneWithWays(t *testing.T) {
	c := made(api.MaxCode, func(at int) api.Ins {
		if at%2 == 0 {
			return does(0, 0, api.Add, 0)
		}
		return zero(1, min(at+2, api.MaxCode-1))
	})
	becomes(t, c, dead.Code(c), made(api.MaxCode/2, func(at int) api.Ins { return zero(1, at+1) }))
	c[api.MaxCode-3] = zero(1, 0) // and round and round they need each other, but for the last one
	becomes(t, c, dead.Code(c), append(slices.Clone(c[:api.MaxCode-2]), halt))
}

// P18.3: Jumps over Jumps, of which but one goes in each round.
func TestJumpsOverJumps(t *testing.T) {
	c := made(api.MaxCode, func(at int) api.Ins { return jump(api.MaxCode - 1) })
	becomes(t, c, dead.Code(c), api.Code{halt})
	half := api.MaxCode / 2
	c = made(api.MaxCode, func(at int) api.Ins { // each over those behind it
		if at < half {
			return zero(0, half+at)
		}
		return jump(api.MaxCode - 1)
	})
	needless(t, c, where(api.MaxCode, api.MaxCode-2))
	becomes(t, c, dead.Code(c), made(half+1, func(at int) api.Ins { return zero(0, half) }))
	c[api.MaxCode-2] = jump(0) // which all of them have to leap over
	needless(t, c, where(api.MaxCode))
	becomes(t, c, dead.Code(c), c)
}

// P18.3: all registers are needed everywhere, and nothing goes.
func TestAllIsNeeded(t *testing.T) {
	many := api.MaxCode / 2
	for _, far := range []int{1, 64} {
		c := made(api.MaxCode, func(at int) api.Ins {
			if at < many {
				return load(at * far)
			}
			return does((at-many)*far, (at-many)*far, api.Add, (at*7%many)*far)
		})
		c[api.MaxCode-2] = zero(0, many)
		becomes(t, c, dead.Code(c), c)
	}
}

// P18.3: a program that reckons for nothing, as long as one may be.
func TestForNothing(t *testing.T) {
	p, bad, at := check.Text("public int n; thread { var public int x = n; " + strings.Repeat("x = x + n; ", 1350) + "}")
	if bad != api.OK {
		t.Fatal(bad, at)
	}
	c, is := lower.Thread(p, 0)
	if !is || len(c) < 4000 {
		t.Fatal(len(c), is)
	}
	becomes(t, c, dead.Code(c), api.Code{halt})
}

// P18.2, P18.4: all but one, and as many more.
func TestAllButOne(t *testing.T) {
	c := made(api.MaxCode, func(at int) api.Ins { return zero(at, api.MaxCode-1-at) })
	for _, but := range []int{0, 1, api.MaxCode / 2, api.MaxCode - 2} {
		becomes(t, c, dead.Less(c, all(api.MaxCode, but)), api.Code{zero(but, 0)})
	}
	ahead := all(api.MaxCode, -1)
	got := dead.Insert(c, fence, ahead)
	becomes(t, c, got, meantInsert(c, fence, ahead))
	becomes(t, got, dead.Less(got, inserted(ahead)), c)
}

// Codes that are longer than any that may be come to an end, too.
func TestLong(t *testing.T) {
	many := 1 << 17
	c := made(many, func(at int) api.Ins { return does(at+1, at, api.Add, at) })
	needless(t, c, where(many, many-2))
	becomes(t, c, dead.Code(c), api.Code{halt})
	c = made(many, func(at int) api.Ins { return zero(0, many-1-at) }) // ways come together everywhere
	needless(t, c, where(many))
	becomes(t, c, dead.Code(c), c)
	c = made(many, func(at int) api.Ins { return jump(many - 1 - at%2) })
	becomes(t, c, dead.Code(c), api.Code{halt})
	ahead := all(many, many/2)
	got := dead.Insert(c, fence, ahead)
	if len(got) != 2*many-1 {
		t.Fatal(len(got))
	}
	becomes(t, got, dead.Less(got, inserted(ahead)), c)
}
