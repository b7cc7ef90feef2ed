package fold_test

import (
	"math"
	"slices"
	"testing"

	"paling/api"
	"paling/calc"
	"paling/fold"
	"paling/ins"
	"paling/lower"
	"paling/sample"
)

// leaps are all that go to a place of so many, by a register that isn't known, or at once, and more.
func leaps(many int, more ...api.Ins) []api.Ins {
	for to := range many {
		more = append(more, zero(2, to), jump(to))
	}
	return more
}

// P16.1, P16.2: all codes of up to four places of some instructions.
func TestEveryShortCode(t *testing.T) {
	count, known := 0, 0
	do := func(c api.Code) {
		m := meantOf(c)
		holds(t, c, m)
		count++
		for _, l := range m {
			known += len(l)
		}
	}
	for many := range 4 {
		sample.Every(many, leaps(many, set(0, 0), set(0, 1), set(1, 1), move(1, 0), does(0, 0, api.Ne, 1), pick(0, 1, 1), load(0), zero(0, 1), halt), do)
	}
	sample.Every(4, leaps(4, set(0, 0), set(1, 1), move(0, 1), does(1, 1, api.Xor, 0), pick(1, 2, 0)), do)
	if count != 1+11+13*13+15*15*15+13*13*13*13 || known < 15000 {
		t.Error(count, known)
	}
}

// kinds are all, those that write more often.
var kinds = []int{
	api.Set, api.Move, api.Calc, api.Pick, api.Load, api.Store, api.Jump, api.Zero, api.Fence, api.Take, api.Give, api.Out, api.Trap, api.Halt,
	api.Set, api.Set, api.Set, api.Set, api.Set, api.Set, api.Set, api.Set, api.Set, api.Set, api.Set, api.Set, api.Move, api.Move, api.Move, api.Move,
	api.Calc, api.Calc, api.Calc, api.Calc, api.Calc, api.Pick, api.Pick, api.Pick, api.Pick, api.Zero, api.Zero, api.Zero, api.Zero, api.Out,
}

// code is a written one that may be, of so many instructions and so many registers, each so far from the next one.
func code(d *sample.Dice, many, regs, far int) api.Code { return d.Code(kinds, many, regs, far) }

// some is a written code, by a seed.
func some(seed int) api.Code {
	d := sample.Rolls(seed)
	return code(d, 1+d.Roll(30), 1+d.Roll(6), 1+d.Roll(100))
}

// kept is how many registers are known in all, and how many instructions become others.
func kept(c api.Code, known []row) (many, others int) {
	for at, l := range known {
		many += len(l)
		if l != nil && meantIns(c[at], at, l) != c[at] {
			others++
		}
	}
	return many, others
}

// P16.1, P16.2: written codes.
func TestWrittenCodes(t *testing.T) {
	known, others := 0, 0
	for seed := range 6000 {
		c := some(seed)
		if !ins.Check(c, ins.Bound{Regs: 1000, Locks: 3}) || !ins.Check(fold.Code(c), ins.Bound{Regs: 1000, Locks: 3}) {
			t.Fatalf("%v may not be", c)
		}
		m := meantOf(c)
		holds(t, c, m)
		many, become := kept(c, m)
		known, others = known+many, others+become
	}
	if known < 50000 || others < 8000 {
		t.Error(known, others)
	}
}

// P16.1, P16.2: longer ones.
func TestLongerCodes(t *testing.T) {
	known, others := 0, 0
	for seed := range 400 {
		d := sample.Rolls(seed)
		c := code(d, 100+d.Roll(150), 4+d.Roll(60), 1)
		m := meantOf(c)
		becomes(t, c, meantCode(c, m))
		for range 60 {
			knows(t, c, m, d.Roll(len(c)+2)-1, d.Roll(66)-1)
		}
		many, become := kept(c, m)
		known, others = known+many, others+become
	}
	if known < 50000 || others < 800 {
		t.Error(known, others)
	}
}

// P16.1, P16.2: what programs come to.
func TestPrograms(t *testing.T) {
	count, others := 0, 0
	for seed := range 150 {
		l, _ := lower.Program(sample.Write(seed).Program)
		d := sample.Rolls(seed)
		for _, c := range l {
			if len(c) > 300 {
				continue
			}
			m := meantOf(c)
			becomes(t, c, meantCode(c, m))
			for range 40 {
				knows(t, c, m, d.Roll(len(c)), d.Roll(len(c)))
			}
			_, become := kept(c, m)
			count, others = count+1, others+become
		}
	}
	if count < 100 || others < 1000 {
		t.Error(count, others)
	}
}

// along calls for all ways that end at a place of a code without ways back, each by its places.
func along(c api.Code, way []int, do func([]int)) {
	do(way)
	at := way[len(way)-1]
	for _, to := range goes(c[at], at, len(c)) {
		along(c, append(slices.Clip(way), to), do)
	}
}

// P16.1: what is known is so, and the same, along all ways that end there.
func TestAlongAllWays(t *testing.T) {
	ways := 0
	for seed := range 1500 {
		d := sample.Rolls(seed)
		c := code(d, 2+d.Roll(18), 1+d.Roll(4), 1)
		for at, i := range c {
			if (i.Kind == api.Jump || i.Kind == api.Zero) && i.To <= at {
				c[at].To = min(at+1, len(c)-1)
			}
		}
		c[len(c)-1] = halt
		along(c, []int{0}, func(way []int) {
			ways++
			ahead := row{}
			for _, at := range way[:len(way)-1] {
				ahead = behind(c[at], ahead)
			}
			last := way[len(way)-1]
			for _, reg := range regs(c) {
				if n, is := fold.Known(c, last, reg); is {
					if m, told := ahead[reg]; !told || m != n {
						t.Fatalf("\n%salong %v r%d is %d, %v, not %d", ins.Text(c), way, reg, m, told, n)
					}
				}
			}
		})
	}
	if ways < 12000 {
		t.Error(ways)
	}
}

// P16.1: what any instruction writes is known by what was known ahead of it, whatever that is.
func TestByWhatIsKnown(t *testing.T) {
	numbers := []int64{math.MinInt64, -1, 0, 1, math.MaxInt64}
	for seed := range 4000 {
		d := sample.Rolls(seed)
		var c api.Code
		ahead := row{}
		for reg := range 4 {
			if d.Roll(4) > 0 {
				ahead[reg] = numbers[d.Roll(len(numbers))]
				c = append(c, set(reg, ahead[reg]))
			}
		}
		i := d.Ins(kinds, 0, 1, 4, 1)
		if i.Kind == api.Jump || i.Kind == api.Trap || i.Kind == api.Halt {
			continue
		}
		if i.To = 0; i.Kind == api.Zero {
			i.To = len(c) + 1
		}
		c = append(c, i, halt)
		want := behind(i, ahead)
		if i.Kind == api.Calc && len(want) == 4 && want[i.D] != calc.Eval(i.Op, ahead[i.A], ahead[i.B]) {
			t.Fatal(i, want)
		}
		for reg := range 5 {
			n, is := fold.Known(c, len(c)-1, reg)
			if m, wanted := want[reg]; n != m || is != wanted {
				t.Fatalf("\n%sr%d: %d, %v, not %d, %v", ins.Text(c), reg, n, is, m, wanted)
			}
		}
	}
}
