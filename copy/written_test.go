package copy_test

import (
	"slices"
	"testing"

	"paling/api"
	"paling/copy"
	"paling/ins"
	"paling/lower"
	"paling/sample"
)

// leaps are all that go to a place of so many, by a register, or at once, and more.
func leaps(many int, more ...api.Ins) []api.Ins {
	for to := range many {
		more = append(more, zero(1, to), jump(to))
	}
	return more
}

// P17.1, P17.2: all codes of up to five places of some instructions.
func TestEveryShortCode(t *testing.T) {
	count, others := 0, 0
	do := func(c api.Code) {
		m := meantOf(c)
		holds(t, c, m)
		count++
		_, become := m.counts(c)
		others += become
	}
	for many := range 4 {
		sample.Every(many, leaps(many, move(1, 0), move(0, 1), move(2, 1), move(1, 1), load(0), does(1, 2, api.Add, 1), pick(1, 1, 2), out(1), halt), do)
	}
	sample.Every(4, leaps(4, move(1, 0), move(2, 1), move(0, 2), load(1), out(2)), do)
	sample.Every(5, []api.Ins{move(1, 0), move(0, 2), move(2, 1), load(0), zero(2, 1), zero(2, 2), zero(1, 4)}, do)
	if count != 1+11+13*13+15*15*15+13*13*13*13+7*7*7*7*7 || others < 15000 {
		t.Error(count, others)
	}
}

// kinds are all, those that are of most use more often.
var kinds = []int{
	api.Set, api.Move, api.Calc, api.Pick, api.Load, api.Store, api.Jump, api.Zero, api.Fence, api.Take, api.Give, api.Out, api.Trap, api.Halt,
	api.Move, api.Move, api.Move, api.Move, api.Move, api.Move, api.Move, api.Move, api.Move, api.Move, api.Move, api.Move, api.Move, api.Move, api.Move,
	api.Calc, api.Calc, api.Pick, api.Load, api.Store, api.Store, api.Zero, api.Zero, api.Zero, api.Zero, api.Zero, api.Out, api.Out,
}

// code is a written one that may be, of so many instructions and so many registers, each so far from the next one.
func code(d *sample.Dice, many, regs, far int) api.Code { return d.Code(kinds, many, regs, far) }

// some is a written code, by a seed.
func some(seed int) api.Code {
	d := sample.Rolls(seed)
	return code(d, 1+d.Roll(30), 1+d.Roll(6), 1+d.Roll(100))
}

// P17.1, P17.2: written codes.
func TestWrittenCodes(t *testing.T) {
	sames, others := 0, 0
	for seed := range 6000 {
		c := some(seed)
		if b := (ins.Bound{Regs: 1000, Locks: 3}); !ins.Check(c, b) || !ins.Check(copy.Code(c), b) {
			t.Fatalf("%v may not be", c)
		}
		m := meantOf(c)
		holds(t, c, m)
		many, become := m.counts(c)
		sames, others = sames+many, others+become
	}
	if sames < 30000 || others < 7000 {
		t.Error(sames, others)
	}
}

// P17.1, P17.2: longer ones, of some which seldom end.
func TestLongerCodes(t *testing.T) {
	sames, others := 0, 0
	for seed := range 150 {
		d := sample.Rolls(seed)
		c := code(d, 100+d.Roll(150), 4+d.Roll(60), 1)
		for at, i := range c[:len(c)-1] {
			if i.Kind == api.Halt || i.Kind == api.Trap || i.Kind == api.Jump && d.Roll(2) > 0 {
				c[at] = move(d.Roll(9), d.Roll(30))
			}
		}
		m := meantOf(c)
		becomes(t, c, m.code(c))
		for range 60 {
			same(t, c, m, d.Roll(len(c)+2)-1, d.Roll(66)-1)
		}
		many, become := m.counts(c)
		sames, others = sames+many, others+become
	}
	if sames < 80000 || others < 3000 {
		t.Error(sames, others)
	}
}

// rounds is a code of some Moves, and then of loops one in another that seldom make anything else: what is the same goes from round to round.
func rounds(d *sample.Dice) api.Code {
	regs, many := 4+d.Roll(20), 20+d.Roll(60)
	var c api.Code
	for reg := range regs - 1 {
		c = append(c, move(reg+1, d.Roll(reg+1)))
	}
	for at := range many {
		switch d.Roll(12) {
		case 0, 1, 2:
			c = append(c, zero(d.Roll(regs), regs-1+d.Roll(at+1)))
		case 3:
			c = append(c, zero(d.Roll(regs), min(regs+at+d.Roll(9), regs-1+many)))
		case 4:
			c = append(c, does(d.Roll(regs), d.Roll(regs), api.Add, d.Roll(regs)))
		case 5, 6, 7, 8:
			c = append(c, out(d.Roll(regs)))
		default:
			c = append(c, move(d.Roll(regs), d.Roll(regs)))
		}
	}
	return append(c, halt)
}

// P17.1, P17.2: rounds.
func TestRounds(t *testing.T) {
	sames, others := 0, 0
	for seed := range 800 {
		c := rounds(sample.Rolls(seed))
		m := meantOf(c)
		becomes(t, c, m.code(c))
		for _, reg := range m.regs {
			same(t, c, m, sample.Rolls(seed).Roll(len(c)), reg)
		}
		many, become := m.counts(c)
		sames, others = sames+many, others+become
	}
	if sames < 300000 || others < 20000 {
		t.Error(sames, others)
	}
}

// P17.1, P17.2: what programs come to.
func TestPrograms(t *testing.T) {
	count, others := 0, 0
	for seed := range 150 {
		l, _ := lower.Program(sample.Write(seed).Program)
		d := sample.Rolls(seed)
		for _, c := range l {
			if len(c) > 300 {
				continue
			}
			m := meantOf(c)
			becomes(t, c, m.code(c))
			for range 40 {
				same(t, c, m, d.Roll(len(c)), d.Roll(len(c)))
			}
			_, become := m.counts(c)
			count, others = count+1, others+become
		}
	}
	if count < 100 || others < 300 {
		t.Error(count, others)
	}
}

// along calls for all ways that end at a place of a code without ways back, each by its places.
func along(c api.Code, way []int, do func([]int)) {
	do(way)
	at := way[len(way)-1]
	for _, to := range goes(c[at], at, len(c)) {
		along(c, append(slices.Clip(way), to), do)
	}
}

// P17.1: what is the same is so along all ways that end there; and if it is so along all of them, it is the same.
func TestAlongAllWays(t *testing.T) {
	ways, sames := 0, 0
	for seed := range 1500 {
		d := sample.Rolls(seed)
		c := code(d, 2+d.Roll(18), 1+d.Roll(4), 1)
		for at, i := range c {
			if (i.Kind == api.Jump || i.Kind == api.Zero) && i.To <= at {
				c[at].To = min(at+1, len(c)-1)
			}
		}
		c[len(c)-1] = halt
		all := regs(c)
		rows := make([]row, len(c))
		along(c, []int{0}, func(way []int) {
			ways++
			ahead := alone(len(all))
			for _, at := range way[:len(way)-1] {
				ahead = behind(c[at], all, ahead)
			}
			last := way[len(way)-1]
			if rows[last] != nil {
				ahead = agreed(rows[last], ahead)
			}
			rows[last] = ahead
		})
		for at, l := range rows {
			for n, reg := range all {
				want := reg
				if l != nil {
					want = all[l[n]]
				}
				if want != reg {
					sames++
				}
				if got := copy.Same(c, at, reg); got != want {
					t.Fatalf("\n%sr%d ahead of %d: r%d, not r%d", ins.Text(c), reg, at, got, want)
				}
			}
		}
	}
	if ways < 12000 || sames < 4000 {
		t.Error(ways, sames)
	}
}
