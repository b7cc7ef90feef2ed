package graph_test

import (
	"slices"
	"sync"
	"testing"

	"paling/api"
	"paling/graph"
	"paling/sample"
)

// Rule 3: a code that is handed in isn't changed, nor what stands behind its end; and that plays no part.
func TestNothingIsChanged(t *testing.T) {
	for seed := range 300 {
		d := sample.Rolls(seed)
		c := code(d, 1+d.Roll(40), 6, true)
		was := slices.Clone(c)
		part := c[:d.Roll(len(c)+1)]
		against(t, part)
		if !slices.Equal(c, was) {
			t.Fatalf("%v, not %v", c, was)
		}
	}
}

// spoil writes over all the room of some rows but one, and tells that one.
func spoil[T any](l [][]T, but int, with T) []T {
	for n, row := range l {
		for i := range row[:cap(row)] {
			if n != but {
				row[:cap(row)][i] = with
			}
		}
	}
	return l[but]
}

// Rule 3: what is told is new memory each time; no two rows share any, the room behind their ends included.
func TestMemoryIsNew(t *testing.T) {
	for seed := range 40 {
		d := sample.Rolls(seed)
		c := code(d, 1+d.Roll(30), 7, true)
		preds, above, loops, depth, reach := meantPreds(c), meantDominates(c), [][]int(nil), meantDepth(c), meantReach(c)
		loops, _ = meantLoops(c)
		for n := range preds {
			if got := spoil(graph.Preds(c), n, 99); !slices.Equal(got, preds[n]) {
				t.Fatalf("%v: %d: %v", c, n, got)
			}
			if got := spoil(graph.Dominates(c), n, true); !slices.Equal(got, above[n]) {
				t.Fatalf("%v: %d: %v", c, n, got)
			}
		}
		for n := range loops {
			if got := spoil(graph.Loops(c), n, 99); !slices.Equal(got, loops[n]) {
				t.Fatalf("%v: %d: %v", c, n, got)
			}
		}
		for range 2 {
			got, come := graph.Depth(c), graph.Reach(c)
			if !slices.Equal(got, depth) || !slices.Equal(come, reach) {
				t.Fatalf("%v: %v, %v", c, got, come)
			}
			spoil([][]int{got, nil}, 1, 99)
			spoil([][]bool{come, nil}, 1, false)
		}
	}
}

// Rule 4: what is told hangs on the code alone, whoever else asks at the same time, and in which order.
func TestAlwaysTheSame(t *testing.T) {
	var codes []api.Code
	var wants [][][]int
	for seed := range 30 {
		codes = append(codes, code(sample.Rolls(seed), 60, 6, true))
		wants = append(wants, graph.Loops(codes[seed]))
	}
	var group sync.WaitGroup
	for from := range 4 {
		group.Go(func() {
			for i := range 120 {
				n := (i*7 + from) % len(codes)
				if got := graph.Loops(codes[n]); !same(got, wants[n]) {
					t.Errorf("%d: %v, not %v", n, got, wants[n])
				}
			}
		})
	}
	group.Wait()
}

// What else an instruction has plays no part.
func TestWhatPlaysNoPart(t *testing.T) {
	for seed := range 200 {
		c := code(sample.Rolls(seed), 20, 5, true)
		bare := make(api.Code, len(c))
		for at, i := range c {
			bare[at].Kind = i.Kind
			if i.Kind == api.Jump || i.Kind == api.Zero {
				bare[at].To = i.To
			}
		}
		if !slices.Equal(graph.Reach(c), graph.Reach(bare)) || !same(graph.Preds(c), graph.Preds(bare)) || !same(graph.Dominates(c), graph.Dominates(bare)) || !same(graph.Loops(c), graph.Loops(bare)) || !slices.Equal(graph.Depth(c), graph.Depth(bare)) {
			t.Fatalf("%v: not as %v", c, bare)
		}
	}
}
