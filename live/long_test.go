package live_test

import (
	"slices"
	"testing"

	"paling/api"
	"paling/live"
	"paling/sample"
)

// made is a code of so many instructions, each told.
func made(many int, of func(at int) api.Ins) api.Code {
	c := make(api.Code, many)
	for at := range c {
		c[at] = of(at)
	}
	return c
}

// line writes registers, and reads all of them then: so many of both.
func line(many int) api.Code {
	return made(2*many, func(at int) api.Ins {
		if at < many {
			return set(at)
		}
		return out(at - many)
	})
}

// P15.1: a code of as many instructions as a thread may have, with as many registers as may be on end.
func TestGreatest(t *testing.T) {
	many := api.MaxCode / 2
	c := line(many)
	ahead, behind := live.Ahead(c), live.Behind(c)
	for at := range c {
		low, high := max(0, at-many), min(at, many) // from the first one on that is needed ahead, up to the last one
		if l := ahead[at]; len(l) != high-low || len(l) > 0 && (l[0] != low || l[len(l)-1] != high-1 || !slices.IsSorted(l)) {
			t.Fatal(at, len(l))
		}
		if at > 0 && !slices.Equal(behind[at-1], ahead[at]) {
			t.Fatal(at)
		}
	}
}

// allNeeded holds a code of so many instructions, each of which reads a register of its own and may go on to one more place, against what is told where all lead to all.
func allNeeded(t *testing.T, many int, to func(at int) int) {
	t.Helper()
	c := made(many, func(at int) api.Ins { return zero(at, to(at)) })
	all := make([]int, many)
	for reg := range all {
		all[reg] = reg
	}
	for _, l := range slices.Concat(live.Ahead(c), live.Behind(c)) {
		if !slices.Equal(l, all) {
			t.Fatal(many, len(l))
		}
	}
	for reg, r := range live.Ranges(c) {
		if r != (live.Range{Reg: reg, First: 0, Last: many - 1}) {
			t.Fatal(many, r)
		}
	}
	if got := live.Most(c); got != many {
		t.Fatal(many, got)
	}
}

// P15.1, P15.2: codes, one as long as a thread's may be, where each register is needed everywhere.
func TestAllNeeded(t *testing.T) {
	allNeeded(t, api.MaxCode, func(int) int { return 0 })
	allNeeded(t, 1000, func(at int) int { return 999 - at })
	allNeeded(t, 1000, func(at int) int { return (at + 1) * 137 % 1000 })
}

// P15.2: codes that are longer than any that may be come to an end soon, too, however much is needed at once.
func TestLong(t *testing.T) {
	many := 1 << 16
	c := line(many)
	for reg, r := range live.Ranges(c) {
		if r != (live.Range{Reg: reg, First: reg, Last: many + reg}) {
			t.Fatal(r)
		}
	}
	if got := live.Most(c); got != many {
		t.Error(got)
	}
	c = append(c, jump(0)) // and from there to where they're written: nothing is needed on that way
	if r := live.Ranges(c); len(r) != many || r[0] != (live.Range{Reg: 0, First: 0, Last: many}) || live.Most(c) != many {
		t.Error(len(r), r[0])
	}
	c[2*many] = jump(1) // and to behind the first of them: that register is needed all the way
	if r := live.Ranges(c); len(r) != many || r[0] != (live.Range{Reg: 0, First: 0, Last: 2 * many}) || r[1] != (live.Range{Reg: 1, First: 1, Last: many + 1}) {
		t.Error(len(r), r[0], r[1])
	}
}

// P15.1, P15.2: each register lives from one place to the next: in a line, and where each place is gone to from afar, too.
func TestLongChains(t *testing.T) {
	many := 1 << 17
	c := made(many, func(at int) api.Ins { return move(at+1, at) })
	for at, l := range live.Ahead(c) {
		if !slices.Equal(l, is(at)) {
			t.Fatal(at, l)
		}
	}
	for reg, r := range live.Ranges(c) {
		if r != (live.Range{Reg: reg, First: max(0, reg-1), Last: min(reg, many-1)}) {
			t.Fatal(r)
		}
	}
	c = made(many, func(at int) api.Ins { return jump(at - 1) })
	c[0], c[many-2] = out(7), set(8)
	c[many-1] = zero(8, many-3)
	ahead, behind := live.Ahead(c), live.Behind(c)
	for at := range c[:many-2] { // each goes back to the one ahead of it, up to the first
		if !slices.Equal(ahead[at], is(7)) || !slices.Equal(behind[at], is(7)) {
			t.Fatal(at, ahead[at], behind[at])
		}
	}
	if got := live.Ranges(c); !slices.Equal(got, []live.Range{{Reg: 7, First: 0, Last: many - 1}, {Reg: 8, First: many - 2, Last: many - 1}}) || live.Most(c) != 2 {
		t.Error(got)
	}
}

// P15.1, P15.2: loops in one another, as deep as half of the places.
func TestNested(t *testing.T) {
	many := 1 << 15
	c := made(2*many, func(at int) api.Ins {
		if at < many {
			return set(1)
		}
		return zero(0, 2*many-1-at)
	})
	c = append(c, out(1))
	for at, l := range live.Ahead(c) {
		if at < many && !slices.Equal(l, is(0)) || at >= many && at < 2*many && !slices.Equal(l, is(0, 1)) {
			t.Fatal(at, l)
		}
	}
	if got := live.Ranges(c); !slices.Equal(got, []live.Range{{Reg: 0, First: 0, Last: 2*many - 1}, {Reg: 1, First: 0, Last: 2 * many}}) || live.Most(c) != 2 {
		t.Error(got)
	}
}

// P15.1 to P15.3: long written codes.
func TestLongWritten(t *testing.T) {
	for seed := range 4 {
		d := sample.Rolls(seed)
		follows(t, code(d, 1<<15, 6+d.Roll(10), 1+20*seed, true))
	}
}
