package dead_test

import (
	"testing"

	"paling/api"
	"paling/copy"
	"paling/dead"
	"paling/fold"
	"paling/lower"
	"paling/sample"
)

// leaps are all that go to a place of so many, by a register, or at once, and more.
func leaps(many int, more ...api.Ins) []api.Ins {
	for to := range many {
		more = append(more, zero(0, to), jump(to))
	}
	return more
}

// P18.1, P18.3: all codes that may be of up to five places of some instructions.
func TestEveryShortCode(t *testing.T) {
	count, rounds := 0, 0
	do := func(c api.Code) {
		if mayBe(c) {
			count++
			rounds += holds(t, c).rounds
		}
	}
	for many := range 5 {
		sample.Every(many, leaps(many, set(0, 1), move(0, 0), move(1, 0), does(0, 0, api.Add, 1), pick(1, 0, 0), out(0), halt), do)
	}
	sample.Every(5, []api.Ins{set(0, 1), move(1, 0), move(0, 1), out(1), zero(0, 1), zero(1, 3), jump(3), jump(4), halt}, do)
	if count != 2+3*11+4*13*13+5*15*15*15+3*9*9*9*9 || rounds < 30000 {
		t.Error(count, rounds)
	}
}

// mayGo tells whether some of a code's instructions may be gone.
func mayGo(c api.Code, gone []bool) bool {
	last := len(c) - 1
	for last >= 0 && gone[last] {
		last--
	}
	is := last >= 0
	walk(c, []int{0}, func(at int) bool {
		is = is && at <= last
		return false
	})
	return is
}

// rows calls for each row of so many that holds at some places, or at none.
func rows(many int, do func([]bool)) {
	for n := range 1 << many {
		l := make([]bool, many)
		for at := range l {
			l[at] = n>>at&1 == 1
		}
		do(l)
	}
}

// P18.2, P18.4, P18.5: of all short codes that may be, any that may be gone, and anything ahead of any.
func TestEveryLess(t *testing.T) {
	less, more := 0, 0
	do := func(c api.Code) {
		if !mayBe(c) {
			return
		}
		rows(len(c), func(l []bool) {
			if mayGo(c, l) {
				less++
				becomes(t, c, dead.Less(c, l), meantLess(c, l))
			}
			for _, i := range []api.Ins{fence, set(1, 3), jump(len(c) - 1), zero(0, len(c)/2)} {
				more++
				got := dead.Insert(c, i, l)
				becomes(t, c, got, meantInsert(c, i, l))
				becomes(t, got, dead.Less(got, inserted(l)), c)
			}
		})
	}
	for many := range 5 {
		sample.Every(many, leaps(many, set(0, 1), out(0), halt), do)
	}
	if less < 70000 || more != 4*(2*2+4*3*7+8*4*9*9+16*5*11*11*11) {
		t.Error(less, more)
	}
}

// kinds are all, those that write more often.
var kinds = []int{
	api.Set, api.Move, api.Calc, api.Pick, api.Load, api.Store, api.Jump, api.Zero, api.Fence, api.Take, api.Give, api.Out, api.Trap, api.Halt,
	api.Set, api.Set, api.Move, api.Move, api.Move, api.Move, api.Calc, api.Calc, api.Calc, api.Calc, api.Calc, api.Pick, api.Pick, api.Load, api.Load, api.Load,
	api.Store, api.Zero, api.Zero, api.Zero, api.Zero, api.Out, api.Jump,
}

// some is a written code that may be, by a seed.
func some(seed int) api.Code {
	d := sample.Rolls(seed)
	return d.Code(kinds, 1+d.Roll(30), 1+d.Roll(8), 1+d.Roll(100))
}

// most is one of which no way comes to an end ahead of the last place.
func most(d *sample.Dice, many, regs int) api.Code {
	c := d.Code(kinds, many, regs, 1)
	for at, i := range c[:many-1] {
		if i.Kind == api.Halt || i.Kind == api.Trap || i.Kind == api.Jump && d.Roll(3) > 0 {
			c[at] = move(d.Roll(regs), d.Roll(regs))
		}
	}
	return c
}

// many is how many of a row hold.
func many(l []bool) int { return len(l) - staying(l, len(l)) }

// P18.1, P18.3: written codes.
func TestWrittenCodes(t *testing.T) {
	gone, rounds := 0, 0
	hold := func(c api.Code) {
		if !mayBe(c) {
			t.Fatalf("%v may not be", c)
		}
		f := holds(t, c)
		if !mayBe(f.code) {
			t.Fatalf("%v may not be", f.code)
		}
		gone, rounds = gone+many(f.gone), rounds+f.rounds
	}
	for seed := range 8000 {
		hold(some(seed))
	}
	for seed := range 300 {
		d := sample.Rolls(seed)
		hold(most(d, 100+d.Roll(150), 4+d.Roll(60)))
	}
	if gone < 70000 || rounds < 14000 {
		t.Error(gone, rounds)
	}
}

// P18.3: nothing of what is left is needless, and what is left stays.
func TestNothingMoreGoes(t *testing.T) {
	for seed := range 4000 {
		c := dead.Code(some(seed))
		needless(t, c, where(len(c)))
		becomes(t, c, dead.Code(c), c)
	}
}

// roll is a row of so many, of which some hold: the greater few is, the fewer.
func roll(d *sample.Dice, many, few int) []bool {
	l := make([]bool, many)
	for at := range l {
		l[at] = d.Roll(few) == 0
	}
	return l
}

// P18.2, P18.4, P18.5: written codes, with any that may be gone, and anything ahead of any.
func TestWrittenLess(t *testing.T) {
	less, more := 0, 0
	for seed := range 4000 {
		d, c := sample.Rolls(seed), some(seed)
		if seed%4 == 0 {
			c = most(d, 30+d.Roll(200), 1+d.Roll(20))
		}
		for few := 1; few < 6; few++ {
			gone, ahead := roll(d, len(c), few), roll(d, len(c), few)
			for at := len(c) - 1; !mayGo(c, gone); at-- {
				gone[at] = false
			}
			if many(gone) > 0 {
				less++
				becomes(t, c, dead.Less(c, gone), meantLess(c, gone))
			}
			i := d.Ins(kinds, 0, len(c), 9, 1)
			got := dead.Insert(c, i, ahead)
			more += len(got) - len(c)
			becomes(t, c, got, meantInsert(c, i, ahead))
			becomes(t, got, dead.Less(got, inserted(ahead)), c)
		}
	}
	if less < 15000 || more < 300000 {
		t.Error(less, more)
	}
}

// P18.1, P18.3: what programs come to, as it is, and with what is known in it.
func TestPrograms(t *testing.T) {
	count, gone := 0, 0
	for seed := range 200 {
		l, _ := lower.Program(sample.Write(seed).Program)
		for _, c := range l {
			if len(c) > 400 {
				continue
			}
			count++
			gone += many(holds(t, c).gone)
			gone += many(holds(t, fold.Code(copy.Code(fold.Code(c)))).gone)
		}
	}
	if count < 150 || gone < 12000 {
		t.Error(count, gone)
	}
}
