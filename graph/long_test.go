package graph_test

import (
	"slices"
	"testing"

	"paling/api"
	"paling/graph"
	"paling/sample"
)

// line is so many instructions, one behind the other.
func line(many int) api.Code { return append(make(api.Code, many-1), halt) }

// nested is loops, each in one another: so many, all with ways back from behind the last one's first place.
func nested(many int) api.Code {
	c := make(api.Code, 2*many+1)
	for n := range many {
		c[2*many-1-n] = zero(n)
	}
	c[2*many] = halt
	return c
}

// P14.2: a code of as many instructions as a thread may have.
func TestGreatest(t *testing.T) {
	c := line(api.MaxCode)
	for at, row := range graph.Dominates(c) {
		for k, is := range row {
			if is != (k <= at) {
				t.Fatal(at, k)
			}
		}
	}
	for at := range c[:api.MaxCode-1] {
		c[at] = zero(api.MaxCode - 1)
	}
	if l := graph.Dominates(c); !slices.Equal(l[api.MaxCode-1], truths(api.MaxCode, 0, api.MaxCode-1)) || slices.Contains(l[api.MaxCode-2][:api.MaxCode-1], false) {
		t.Error("what is above the last ones")
	}
}

// P14.3: loops in one another, as many as there may be in a code of that size.
func TestNested(t *testing.T) {
	many := (api.MaxCode - 1) / 2
	c := nested(many)
	l := graph.Loops(c)
	if len(l) != many {
		t.Fatal(len(l))
	}
	for n, loop := range l {
		if len(loop) != 2*(many-n) || loop[0] != n || loop[len(loop)-1] != 2*many-1-n || !slices.IsSorted(loop) {
			t.Fatal(n, len(loop))
		}
	}
}

// P14.1, P14.3: codes that are longer than any that may be come to an end soon, too.
func TestLong(t *testing.T) {
	many := 1 << 17
	c := line(many)
	if l := graph.Preds(c); slices.Contains(graph.Reach(c), false) || len(l[0]) != 0 || l[many-1][0] != many-2 || len(graph.Loops(c)) != 0 {
		t.Error("a line")
	}
	for at := range c {
		c[at] = zero(at)
	}
	for at, l := range graph.Loops(c) {
		if !slices.Equal(l, []int{at}) {
			t.Fatal(at, l)
		}
	}
	for at := range c {
		c[at] = zero(0)
	}
	if l := graph.Loops(c); len(l) != 1 || len(l[0]) != many || len(graph.Preds(c)[0]) != many || slices.Contains(graph.Depth(c), 0) {
		t.Error("all of them to the first one")
	}
	for at := range c {
		c[at] = zero(many - 1 - at)
	}
	for at, deep := range graph.Depth(c) { // each to the one across: a loop, with those within
		if deep != min(at+1, many-at) {
			t.Fatal(at, deep)
		}
	}
}

// P14.3: many loops in one another, told how deep alone.
func TestDeep(t *testing.T) {
	many := 1 << 16
	for at, deep := range graph.Depth(nested(many)) {
		if deep != min(at+1, 2*many-at) {
			t.Fatal(at, deep)
		}
	}
}

// P14.3: of long written codes Depth tells how many of Loops have each place.
func TestLongWritten(t *testing.T) {
	for seed := range 6 {
		d := sample.Rolls(seed)
		c := code(d, 1<<16, 10, seed > 0)
		depth := make([]int, len(c))
		for _, l := range graph.Loops(c) {
			for _, at := range l {
				depth[at]++
			}
		}
		if !slices.Equal(graph.Depth(c), depth) {
			t.Fatal(seed)
		}
	}
}
