package live_test

import (
	"slices"
	"sync"
	"testing"

	"paling/api"
	"paling/live"
	"paling/sample"
)

// Rule 3: a code that is handed in isn't changed, nor what stands behind its end; and that plays no part.
func TestNothingIsChanged(t *testing.T) {
	for seed := range 500 {
		c := some(seed)
		was := slices.Clone(c)
		part := c[:sample.Rolls(seed).Roll(len(c)+1)]
		holds(t, part, meantOf(slices.Clip(part)))
		if !slices.Equal(c, was) {
			t.Fatalf("%v, not %v", c, was)
		}
	}
}

// spoil writes over all the room of some rows but one, and tells that one.
func spoil(l [][]int, but int) []int {
	for n, row := range l {
		for i := range row[:cap(row)] {
			if n != but {
				row[:cap(row)][i] = 99
			}
		}
	}
	return l[but]
}

// Rule 3: what is told is new memory each time; no two rows share any, the room behind their ends included; a code that is changed behind its call plays no part.
func TestMemoryIsNew(t *testing.T) {
	for seed := range 200 {
		c := some(seed)
		w := meantOf(c)
		for n := range c {
			if got := spoil(live.Ahead(c), n); !slices.Equal(got, w.ahead[n]) {
				t.Fatalf("%v: %d: %v", c, n, got)
			}
			if got := spoil(live.Behind(c), n); !slices.Equal(got, w.behind[n]) {
				t.Fatalf("%v: %d: %v", c, n, got)
			}
		}
		ahead, behind, ranges := live.Ahead(c), live.Behind(c), live.Ranges(c)
		again := live.Ranges(c)
		clear(again[:cap(again)])
		clear(c)
		if !same(ahead, w.ahead) || !same(behind, w.behind) || !slices.Equal(ranges, w.ranges) {
			t.Fatalf("%v, %v, %v", ahead, behind, ranges)
		}
	}
}

// Rule 4: what is told hangs on the code alone, whoever else asks at the same time, and in which order.
func TestAlwaysTheSame(t *testing.T) {
	var codes []api.Code
	var wants []meant
	for seed := range 30 {
		codes = append(codes, code(sample.Rolls(seed), 60, 100, 1+seed, true))
		wants = append(wants, meantOf(codes[seed]))
	}
	var group sync.WaitGroup
	for from := range 4 {
		group.Go(func() {
			for i := range 120 {
				n := (i*7 + from) % len(codes)
				if !same(live.Ahead(codes[n]), wants[n].ahead) || !same(live.Behind(codes[n]), wants[n].behind) || !slices.Equal(live.Ranges(codes[n]), wants[n].ranges) || live.Most(codes[n]) != wants[n].most {
					t.Errorf("%d: not %v", n, wants[n])
				}
			}
		})
	}
	group.Wait()
}

// What else an instruction has plays no part.
func TestWhatPlaysNoPart(t *testing.T) {
	for seed := range 300 {
		c := some(seed)
		w := meantOf(c)
		d := sample.Rolls(seed)
		for at, i := range c {
			c[at].Op, c[at].N = d.Roll(30)-5, int64(d.Roll(90))-9
			if i.Kind < api.Set || i.Kind > api.Load {
				c[at].D = d.Roll(9)
			}
			if i.Kind != api.Jump && i.Kind != api.Zero {
				c[at].To = d.Roll(len(c))
			}
			if i.Kind <= api.Set || i.Kind == api.Jump || i.Kind > api.Zero && i.Kind != api.Out {
				c[at].A = d.Roll(9)
			}
			if i.Kind != api.Calc && i.Kind != api.Pick && i.Kind != api.Store {
				c[at].B = d.Roll(9)
			}
		}
		holds(t, c, w)
	}
}
