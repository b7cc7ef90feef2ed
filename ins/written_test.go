package ins_test

import (
	"math"
	"slices"
	"strconv"
	"strings"
	"testing"

	"paling/api"
	"paling/ins"
)

// everyIns calls for instructions of each kind, and of some that there aren't, with all of some numbers in each field.
func everyIns(do func(api.Ins)) {
	for kind := -1; kind <= 14; kind++ {
		for _, op := range []int{-1, 0, 1, 16, 18, 19} {
			for _, d := range []int{-1, 0, 1, 2, 3} {
				for _, a := range []int{-2, -1, 0, 1, 2, 3} {
					for _, b := range []int{-1, 0, 1, 2, 3} {
						for _, n := range []int64{-1, 0, 1, 2, 3, 65535, 65536} {
							for _, to := range []int{-1, 0, 1, 2, 3} {
								do(api.Ins{Kind: kind, Op: op, D: d, A: a, B: b, N: n, To: to})
							}
						}
					}
				}
			}
		}
	}
}

// P11.1 to P11.3: all of some instructions, held against what is meant.
func TestEveryInstruction(t *testing.T) {
	bound := ins.Bound{Regs: 3, Locks: 2}
	right := map[int]int{}
	everyIns(func(i api.Ins) {
		c := api.Code{{}, i, halt}
		if got := ins.Check(c, bound); got != meantCheck(c, bound) {
			t.Fatalf("%+v: %v", i, got)
		} else if got {
			right[i.Kind]++
		}
		if got, want := ins.Uses(i), meantUses(i); !slices.Equal(got, want) {
			t.Fatalf("%+v: uses %v, not %v", i, got, want)
		}
		if got, want := ins.Def(i), meantDef(i); got != want {
			t.Fatalf("%+v: writes %d, not %d", i, got, want)
		}
		if got, want := ins.Next(i, 1), meantNext(i, 1); !slices.Equal(got, want) {
			t.Fatalf("%+v: goes to %v, not %v", i, got, want)
		}
		if got, want := ins.Show(i), meantShow(i); got != want {
			t.Fatalf("%+v: %q, not %q", i, got, want)
		}
	})
	for kind, want := range map[int]int{api.Set: 21, api.Move: 9, api.Calc: 108, api.Pick: 27, api.Load: 60, api.Store: 60, api.Jump: 3, api.Zero: 9, api.Fence: 1, api.Take: 2, api.Give: 2, api.Out: 3, api.Trap: 2, api.Halt: 1} {
		if right[kind] != want {
			t.Errorf("of kind %d %d may be, not %d", kind, right[kind], want)
		}
	}
}

// writer writes codes. What it writes hangs on its seed alone.
type writer struct{ n uint64 }

// write is one of a seed.
func write(seed int) *writer { return &writer{uint64(seed)*2 + 1} }

// roll is the next of its numbers below another.
func (w *writer) roll(below int) int {
	w.n = w.n*6364136223846793005 + 1442695040888963407
	return int(w.n>>33) % below
}

// one is an instruction that may stand in a code of so many, with a bound of one at least of each.
func (w *writer) one(kind int, b ins.Bound, many int) api.Ins {
	d, a, r, some := w.roll(b.Regs), w.roll(b.Regs), w.roll(b.Regs), w.roll(b.Regs+1)-1
	word, lock, to := int64(w.roll(65536)), int64(w.roll(b.Locks)), w.roll(many)
	switch kind {
	case api.Set:
		return api.Ins{Kind: kind, D: d, N: int64(w.roll(1<<30))<<w.roll(34) - word}
	case api.Move:
		return api.Ins{Kind: kind, D: d, A: a}
	case api.Calc:
		return api.Ins{Kind: kind, Op: w.roll(api.Any + 1), D: d, A: a, B: r}
	case api.Pick:
		return api.Ins{Kind: kind, D: d, A: a, B: r}
	case api.Load:
		return api.Ins{Kind: kind, D: d, A: some, N: word}
	case api.Store:
		return api.Ins{Kind: kind, A: some, B: r, N: word}
	case api.Jump:
		return api.Ins{Kind: kind, To: to}
	case api.Zero:
		return api.Ins{Kind: kind, A: a, To: to}
	case api.Take, api.Give:
		return api.Ins{Kind: kind, N: lock}
	case api.Out:
		return api.Ins{Kind: kind, A: a}
	case api.Trap:
		return api.Ins{Kind: kind, N: 1 + lock%2}
	}
	return api.Ins{Kind: kind}
}

// code is a code that may be.
func (w *writer) code(b ins.Bound) api.Code {
	c := make(api.Code, 1+w.roll(40))
	for at := range c {
		c[at] = w.one(w.roll(api.Halt+1), b, len(c))
	}
	c[len(c)-1] = w.one([]int{api.Jump, api.Trap, api.Halt}[w.roll(3)], b, len(c))
	return c
}

// bounds is some registers, and some locks.
func (w *writer) bounds() ins.Bound { return ins.Bound{Regs: 1 + w.roll(20), Locks: 1 + w.roll(9)} }

// harm changes a field of an instruction of a code.
func (w *writer) harm(c api.Code) {
	i := &c[w.roll(len(c))]
	n := []int{-2, -1, 0, 1, 2, 3, 7, 8, 9, 13, 14, 15, 16, 18, 19, 20, len(c) - 1, len(c), 65535, 65536, math.MinInt, math.MaxInt}[w.roll(22)]
	if field := w.roll(7); field < 6 {
		*[]*int{&i.Kind, &i.Op, &i.D, &i.A, &i.B, &i.To}[field] = n
	} else {
		i.N = int64(n)
	}
}

// P11.1: written codes that may be, and the same with a field changed, or cut short, held against what is meant.
func TestWrittenCodes(t *testing.T) {
	may := map[bool]int{}
	for seed := range 3000 {
		w := write(seed)
		b := w.bounds()
		c := w.code(b)
		if !ins.Check(c, b) || !meantCheck(c, b) {
			t.Fatalf("%+v: %+v may not be", b, c)
		}
		for range 12 {
			harmed := slices.Clone(c)
			w.harm(harmed)
			if w.roll(6) == 0 {
				harmed = harmed[:w.roll(len(harmed))+1]
			}
			got := ins.Check(harmed, b)
			if got != meantCheck(harmed, b) {
				t.Fatalf("%+v: %+v: %v", b, harmed, got)
			}
			may[got]++
		}
	}
	if may[true] < 2000 || may[false] < 10000 {
		t.Error(may)
	}
}

// P11.3: Text of written codes, right and harmed, line by line.
func TestWrittenTexts(t *testing.T) {
	for seed := range 1000 {
		w := write(seed)
		c := w.code(w.bounds())
		w.harm(c)
		var b strings.Builder
		for at, i := range c {
			b.WriteString(strconv.Itoa(at) + " " + meantShow(i) + "\n")
		}
		if got := ins.Text(c); got != b.String() {
			t.Fatalf("%q, not %q", got, b.String())
		}
	}
}

// P11.4: where a code may be, each place that an instruction may go to is one of it.
func TestWhereItGoes(t *testing.T) {
	count := 0
	for seed := range 4000 {
		w := write(seed)
		b := w.bounds()
		c := w.code(b)
		if w.roll(2) == 0 {
			w.harm(c)
		}
		if !ins.Check(c, b) {
			continue
		}
		count++
		for at, i := range c {
			for _, next := range ins.Next(i, at) {
				if next < 0 || next >= len(c) {
					t.Fatalf("%+v: from %d to %d", c, at, next)
				}
			}
			for _, r := range append(ins.Uses(i), max(ins.Def(i), 0)) {
				if r < 0 || r >= b.Regs {
					t.Fatalf("%+v: at %d register %d", c, at, r)
				}
			}
		}
	}
	if count < 2000 {
		t.Error(count)
	}
}
