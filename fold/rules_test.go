package fold_test

import (
	"slices"
	"sync"
	"testing"

	"paling/api"
	"paling/fold"
	"paling/sample"
)

// Rule 3: a code that is handed in isn't changed, nor what stands behind its end; and that plays no part.
func TestNothingIsChanged(t *testing.T) {
	for seed := range 600 {
		c := some(seed)
		was := slices.Clone(c)
		part := c[:sample.Rolls(seed).Roll(len(c)+1)]
		holds(t, part, meantOf(slices.Clip(part)))
		if !slices.Equal(c, was) {
			t.Fatalf("%v, not %v", c, was)
		}
	}
}

// Rule 3: what is told is new memory each time, the room behind its end included; a code that is changed behind its call plays no part.
func TestMemoryIsNew(t *testing.T) {
	for seed := range 600 {
		c := some(seed)
		want := meantCode(c, meantOf(c))
		first, second := fold.Code(c), fold.Code(c)
		again := second[:cap(second)]
		for at := range again {
			again[at] = api.Ins{Kind: api.Trap, N: 99}
		}
		if got := fold.Code(c); !slices.Equal(got, want) || !slices.Equal(first, want) {
			t.Fatalf("%v, %v, not %v", got, first, want)
		}
		clear(c)
		if !slices.Equal(first, want) {
			t.Fatalf("%v, not %v", first, want)
		}
	}
}

// Rule 4: what is told hangs on the code alone, whoever else asks at the same time, and in which order.
func TestAlwaysTheSame(t *testing.T) {
	var codes []api.Code
	var knowns [][]row
	for seed := range 40 {
		codes = append(codes, code(sample.Rolls(seed), 60, 8, 1))
		knowns = append(knowns, meantOf(codes[seed]))
	}
	var group sync.WaitGroup
	for from := range 4 {
		group.Go(func() {
			for i := range 200 {
				n := (i*7 + from) % len(codes)
				if !slices.Equal(fold.Code(codes[n]), meantCode(codes[n], knowns[n])) {
					t.Errorf("%d becomes another one", n)
				}
				at, reg := (i*11+from)%60, i%8
				want, wanted := knowns[n][at][reg]
				if got, is := fold.Known(codes[n], at, reg); got != want || is != wanted {
					t.Errorf("%d: r%d ahead of %d: %d, %v", n, reg, at, got, is)
				}
			}
		})
	}
	group.Wait()
}

// What an instruction has beside what is its own plays no part: of codes that may not be, too.
func TestWhatPlaysNoPart(t *testing.T) {
	for seed := range 400 {
		c := some(seed)
		known := meantOf(c)
		d := sample.Rolls(seed)
		d.Stray(c)
		for at, i := range c { // nor does what is read, where nothing comes of it
			if i.Kind == api.Load || i.Kind == api.Out {
				c[at].A = d.Roll(9)
			}
		}
		holds(t, c, known)
	}
}
