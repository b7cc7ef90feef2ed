package live_test

import (
	"slices"
	"testing"

	"paling/api"
	"paling/live"
	"paling/lower"
	"paling/sample"
)

// leaps are all that go to a place from one on, up to another, and more.
func leaps(first, last int, more ...api.Ins) []api.Ins {
	for to := first; to <= last; to++ {
		more = append(more, zero(0, to), jump(to))
	}
	return more
}

// P15.1, P15.2: all codes of up to four places that read and write two registers, with ways to nowhere.
func TestEveryShortCode(t *testing.T) {
	count, most := 0, 0
	do := func(c api.Code) {
		count++
		w := meantOf(c)
		holds(t, c, w)
		most += w.most
	}
	for many := range 4 {
		sample.Every(many, leaps(-1, many, set(0), out(0), move(1, 0), pick(0, 1, 1), halt), do)
	}
	sample.Every(4, leaps(0, 3, set(0), set(1), out(1), move(0, 1), halt), do)
	if count != 1+11+13*13+15*15*15+13*13*13*13 || most < 30000 {
		t.Error(count, most)
	}
}

// kinds are all, those that lead elsewhere, or read, more often.
var kinds = []int{
	api.Set, api.Move, api.Calc, api.Pick, api.Load, api.Store, api.Jump, api.Zero, api.Fence, api.Take, api.Give, api.Out, api.Trap, api.Halt,
	api.Jump, api.Zero, api.Zero, api.Zero, api.Out, api.Store, api.Move, api.Set,
}

// code is a written one: of so many registers, each so far from the next one, with ways that lead back, and on, most of them not far if it is near.
func code(d *sample.Dice, many, regs, far int, near bool) api.Code {
	c := make(api.Code, many)
	reg := func() int { return (d.Roll(regs+1) - 1) * far }
	for at := range c {
		c[at] = api.Ins{Kind: kinds[d.Roll(len(kinds))], Op: d.Roll(19), D: reg(), A: reg(), B: reg(), N: int64(d.Roll(9)), To: d.Roll(many+2) - 1}
		if near && d.Roll(10) > 0 {
			c[at].To = at + d.Roll(9) - 4
		}
		if d.Roll(60) == 0 {
			c[at].Kind = d.Roll(40) - 20
		}
	}
	return c
}

// some is a written code, by a seed.
func some(seed int) api.Code {
	d := sample.Rolls(seed)
	return code(d, 1+d.Roll(30), 1+d.Roll(6), 1+d.Roll(100), d.Roll(2) == 0)
}

// P15.1, P15.2: written codes, longer ones.
func TestWrittenCodes(t *testing.T) {
	most := 0
	for seed := range 5000 {
		c := some(seed)
		w := meantOf(c)
		holds(t, c, w)
		most += w.most
	}
	for seed := range 60 {
		d := sample.Rolls(seed)
		c := code(d, 100+d.Roll(100), 20+d.Roll(130), 1+d.Roll(40), d.Roll(4) > 0)
		w := meantOf(c)
		holds(t, c, w)
		most += w.most
	}
	if most < 12000 {
		t.Error(most)
	}
}

// P15.1, P15.2: what programs come to.
func TestPrograms(t *testing.T) {
	count, most := 0, 0
	for seed := range 150 {
		l, _ := lower.Program(sample.Write(seed).Program)
		for _, c := range l {
			if len(c) > 200 {
				continue
			}
			w := meantOf(c)
			holds(t, c, w)
			count++
			most += w.most
		}
	}
	if count < 50 || most < 300 {
		t.Error(count, most)
	}
}

// follows holds what P15.3 says against a code, and that the other calls tell of the same.
func follows(t *testing.T, c api.Code) {
	t.Helper()
	ahead, behind := live.Ahead(c), live.Behind(c)
	ranges := map[int]live.Range{}
	for _, r := range live.Ranges(c) {
		ranges[r.Reg] = r
	}
	most := 0
	for at, i := range c {
		most = max(most, len(ahead[at]))
		for _, reg := range reads(i) {
			if !slices.Contains(ahead[at], reg) {
				t.Fatalf("%v: %d is read at %d, and isn't needed ahead of it", c, reg, at)
			}
		}
		for _, reg := range ahead[at] {
			if !slices.Contains(reads(i), reg) && !slices.Contains(behind[at], reg) {
				t.Fatalf("%v: %d is needed ahead of %d alone", c, reg, at)
			}
		}
		for _, reg := range slices.Concat(ahead[at], behind[at]) {
			if r, is := ranges[reg]; !is || at < r.First || at > r.Last {
				t.Fatalf("%v: %d is needed at %d, out of %v", c, reg, at, r)
			}
		}
	}
	if got := live.Most(c); got != most {
		t.Fatalf("%v: most %d, not %d", c, got, most)
	}
}

// P15.3: what is read at a place is needed ahead of it; what is needed ahead of a place is read there, or needed behind it.
func TestWhatFollows(t *testing.T) {
	for seed := range 1000 {
		follows(t, some(seed))
	}
	for seed := range 20 {
		d := sample.Rolls(seed)
		follows(t, code(d, 1000, 300, 1+d.Roll(3), seed%4 > 0))
		l, _ := lower.Program(sample.Write(seed).Program)
		for _, c := range l {
			follows(t, c)
		}
	}
}
