package graph_test

import (
	"slices"
	"testing"

	"paling/api"
	"paling/graph"
	"paling/lower"
	"paling/sample"
)

// against holds what is told of a code against what is meant, and tells how many loops it has.
func against(t *testing.T, c api.Code) int {
	t.Helper()
	if got, want := graph.Reach(c), meantReach(c); !slices.Equal(got, want) {
		t.Fatalf("%v: reach %v, not %v", c, got, want)
	}
	if got, want := graph.Preds(c), meantPreds(c); !same(got, want) {
		t.Fatalf("%v: preds %v, not %v", c, got, want)
	}
	if got, want := graph.Dominates(c), meantDominates(c); !same(got, want) {
		t.Fatalf("%v: dominates %v, not %v", c, got, want)
	}
	want, _ := meantLoops(c)
	if got := graph.Loops(c); !same(got, want) {
		t.Fatalf("%v: loops %v, not %v", c, got, want)
	}
	if got, want := graph.Depth(c), meantDepth(c); !slices.Equal(got, want) {
		t.Fatalf("%v: depth %v, not %v", c, got, want)
	}
	return len(want)
}

// leaps are all that go to a place from one on, up to another, and more.
func leaps(first, last int, more ...api.Ins) []api.Ins {
	for to := first; to <= last; to++ {
		more = append(more, zero(to), jump(to))
	}
	return more
}

// P14.1 to P14.3: all codes of up to four places, with ways to nowhere, and all of five whose ways lead to places, or end.
func TestEveryShortCode(t *testing.T) {
	count, loops := 0, 0
	do := func(c api.Code) {
		count++
		loops += against(t, c)
	}
	for many := range 5 {
		sample.Every(many, leaps(-1, many, set, halt), do)
	}
	sample.Every(5, leaps(0, 4, halt), do)
	if count != 1+8+100+1728+38416+161051 || loops < 50000 {
		t.Error(count, loops)
	}
}

// kinds are some that go on, and some that don't: so many of ten are a Zero.
func kinds(zeros int) []int {
	l := slices.Repeat([]int{api.Zero}, zeros)
	return append(l, []int{api.Jump, api.Load, api.Store, api.Calc, api.Out, api.Jump, api.Halt, api.Pick, api.Jump, api.Trap}[:10-zeros]...)
}

// code is a written one: of any fields, with ways that lead back, and on, most of them not far if it is near.
func code(d *sample.Dice, many, zeros int, near bool) api.Code {
	c := make(api.Code, many)
	of := kinds(zeros)
	for at := range c {
		c[at] = api.Ins{Kind: of[d.Roll(len(of))], Op: d.Roll(9), D: d.Roll(many), A: d.Roll(9) - 1, B: d.Roll(many), N: int64(d.Roll(many)), To: d.Roll(many+2) - 1}
		if near && d.Roll(10) > 0 {
			c[at].To = at + d.Roll(9) - 4
		}
	}
	return c
}

// P14.1 to P14.3: written codes, longer ones.
func TestWrittenCodes(t *testing.T) {
	loops := 0
	for seed := range 3000 {
		d := sample.Rolls(seed)
		loops += against(t, code(d, 5+d.Roll(26), d.Roll(11), d.Roll(2) == 0))
	}
	for seed := range 60 {
		d := sample.Rolls(seed)
		loops += against(t, code(d, 100+d.Roll(100), 4+d.Roll(7), d.Roll(4) > 0))
	}
	if loops < 5000 {
		t.Error(loops)
	}
}

// P14.1 to P14.3: what programs come to: each loop of a program is one.
func TestPrograms(t *testing.T) {
	count, loops := 0, 0
	for seed := range 150 {
		l, _ := lower.Program(sample.Write(seed).Program)
		for _, c := range l {
			if len(c) <= 200 {
				count++
				loops += against(t, c)
			}
		}
	}
	if count < 50 || loops < 50 {
		t.Error(count, loops)
	}
}

// follows holds what P14.4 says against a code.
func follows(t *testing.T, c api.Code) {
	t.Helper()
	above := graph.Dominates(c)
	for at, row := range above {
		for k, is := range row {
			if !is {
				continue
			}
			for top, over := range above[k] {
				if over && !row[top] {
					t.Fatalf("%v: %d is above %d, that above %d", c, top, k, at)
				}
			}
		}
	}
	_, begins := meantLoops(c)
	for n, loop := range graph.Loops(c) {
		for _, at := range loop {
			if !above[at][begins[n]] {
				t.Fatalf("%v: %d isn't above %d", c, begins[n], at)
			}
		}
	}
}

// P14.4: what is above what is above something is above it; the place from which a loop begins is above all of it. Two loops that have a place stand in one another.
func TestWhatFollows(t *testing.T) {
	for seed := range 1000 {
		d := sample.Rolls(seed)
		c := code(d, 1+d.Roll(30), d.Roll(11), d.Roll(2) == 0)
		follows(t, c)
		loops := graph.Loops(c)
		for n, a := range loops {
			for _, b := range loops[n+1:] {
				both := 0
				for _, at := range a {
					if slices.Contains(b, at) {
						both++
					}
				}
				if both != 0 && both != min(len(a), len(b)) {
					t.Fatalf("%v: %v, %v", c, a, b)
				}
			}
		}
	}
}
