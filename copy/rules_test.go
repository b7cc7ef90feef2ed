package copy_test

import (
	"slices"
	"sync"
	"testing"

	"paling/api"
	"paling/copy"
	"paling/sample"
)

// Rule 3: a code that is handed in isn't changed, nor what stands behind its end; and that plays no part.
func TestNothingIsChanged(t *testing.T) {
	for seed := range 600 {
		c := some(seed)
		was := slices.Clone(c)
		part := c[:sample.Rolls(seed).Roll(len(c)+1)]
		holds(t, part, meantOf(slices.Clip(part)))
		if !slices.Equal(c, was) {
			t.Fatalf("%v, not %v", c, was)
		}
	}
}

// Rule 3: what is told is new memory each time, the room behind its end included; a code that is changed behind its call plays no part.
func TestMemoryIsNew(t *testing.T) {
	for seed := range 600 {
		c := some(seed)
		want := meantOf(c).code(c)
		first, second := copy.Code(c), copy.Code(c)
		again := second[:cap(second)]
		for at := range again {
			again[at] = api.Ins{Kind: api.Trap, N: 99}
		}
		if got := copy.Code(c); !slices.Equal(got, want) || !slices.Equal(first, want) {
			t.Fatalf("%v, %v, not %v", got, first, want)
		}
		clear(c)
		if !slices.Equal(first, want) {
			t.Fatalf("%v, not %v", first, want)
		}
	}
}

// Rule 4: what is told hangs on the code alone, whoever else asks at the same time, and in which order.
func TestAlwaysTheSame(t *testing.T) {
	var codes []api.Code
	var models []model
	for seed := range 40 {
		codes = append(codes, rounds(sample.Rolls(seed)))
		models = append(models, meantOf(codes[seed]))
	}
	var group sync.WaitGroup
	for from := range 4 {
		group.Go(func() {
			for i := range 200 {
				n := (i*7 + from) % len(codes)
				if !slices.Equal(copy.Code(codes[n]), models[n].code(codes[n])) {
					t.Errorf("%d becomes another one", n)
				}
				at, reg := (i*11+from)%len(codes[n]), i%8
				if got, want := copy.Same(codes[n], at, reg), models[n].same(at, reg); got != want {
					t.Errorf("%d: r%d ahead of %d: r%d, not r%d", n, reg, at, got, want)
				}
			}
		})
	}
	group.Wait()
}

// What an instruction has beside what is its own plays no part, and stays: of codes that may not be, too.
func TestWhatPlaysNoPart(t *testing.T) {
	for seed := range 400 {
		c := some(seed)
		sample.Rolls(seed).Stray(c)
		holds(t, c, meantOf(c))
	}
}
