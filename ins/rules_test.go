package ins_test

import (
	"slices"
	"strings"
	"sync"
	"testing"

	"paling/api"
	"paling/ins"
)

// Rule 3: a code that is handed in isn't changed, nor what stands behind its end.
func TestNothingIsChanged(t *testing.T) {
	for seed := range 300 {
		w := write(seed)
		b := w.bounds()
		c := append(w.code(b), w.code(b)...)
		was := slices.Clone(c)
		part := c[:w.roll(len(c)+1)]
		ins.Check(part, b)
		ins.Text(part)
		if !slices.Equal(c, was) {
			t.Fatalf("%+v, not %+v", c, was)
		}
	}
}

// Rule 3: rows are new memory each time.
func TestRowsAreNew(t *testing.T) {
	i := api.Ins{Kind: api.Pick, D: 5, A: 6, B: 7}
	zero := api.Ins{Kind: api.Zero, A: 1, To: 3}
	for range 3 {
		uses, next := ins.Uses(i), ins.Next(zero, 8)
		if !slices.Equal(uses, []int{5, 6, 7}) || !slices.Equal(next, []int{3, 9}) {
			t.Fatal(uses, next)
		}
		for _, l := range [][]int{uses, next} {
			for n := range l[:cap(l)] {
				l[:cap(l)][n] = 99
			}
		}
	}
}

// Rule 4: what is told hangs on the arguments alone, whoever else asks at the same time.
func TestAlwaysTheSame(t *testing.T) {
	b := ins.Bound{Regs: 16, Locks: 8}
	c := write(3).code(b)
	want := ins.Text(c)
	var group sync.WaitGroup
	for range 4 {
		group.Go(func() {
			for range 100 {
				if !ins.Check(c, b) || ins.Text(c) != want {
					t.Error("not the same")
				}
				for at, i := range c {
					if !slices.Equal(ins.Uses(i), meantUses(i)) || ins.Def(i) != meantDef(i) || !slices.Equal(ins.Next(i, at), meantNext(i, at)) {
						t.Errorf("%+v: not the same", i)
					}
				}
			}
		})
	}
	group.Wait()
}

// Codes that are longer than any that may be have a text, too, and are refused at once.
func TestLong(t *testing.T) {
	many := 1 << 18
	c := make(api.Code, many)
	c[many-1] = halt
	text := ins.Text(c)
	if ins.Check(c, bound) || strings.Count(text, "\n") != many || !strings.HasSuffix(text, "\n262142 set r0 0\n262143 halt\n") {
		t.Errorf("%.60q", text)
	}
}
