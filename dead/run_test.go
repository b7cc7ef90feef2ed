package dead_test

import (
	"slices"
	"testing"

	"paling/api"
	"paling/copy"
	"paling/dead"
	"paling/fold"
	"paling/ins"
	"paling/layout"
	"paling/live"
	"paling/lower"
	"paling/sample"
	"paling/seq"
)

// tandem is threads that run as they are, and without some of their instructions, which do nothing that anybody needs: side by side, step by step.
type tandem struct {
	codes, less []api.Code
	gone        [][]bool
	needed      [][][]int // ahead of each place of what is left
	was, is     *seq.Run
	over, done  int // how many steps went over what is gone, and how many did something
}

// tandemOf is one.
func tandemOf(codes, less []api.Code, gone [][]bool, mem []int64) *tandem {
	x := &tandem{codes: codes, less: less, gone: gone, was: seq.New(codes, mem), is: seq.New(less, mem)}
	for _, c := range less {
		x.needed = append(x.needed, live.Ahead(c))
	}
	return x
}

// step lets a thread of both do an instruction; one that is gone is nothing but a step there.
func (x *tandem) step(t *testing.T, n int) {
	t.Helper()
	at, mem := x.was.Place(n), x.was.Memory()
	if x.gone[n][at] {
		x.over++
		if _, what := x.was.Next(n, 1); what != seq.Tired || !slices.Equal(mem, x.was.Memory()) {
			t.Fatalf("\n%swithout %d", ins.Text(x.codes[n]), at)
		}
		return
	}
	x.done++
	x.standAlike(t, n, at)
	want, wanted := x.was.Next(n, 1)
	if e, what := x.is.Next(n, 1); e != want || what != wanted || !slices.Equal(x.is.Memory(), x.was.Memory()) {
		t.Fatalf("\n%sbecomes\n%sat %d: %v, %d, not %v, %d", ins.Text(x.codes[n]), ins.Text(x.less[n]), at, e, what, want, wanted)
	}
	for lock := range int64(4) {
		if x.is.Owner(lock) != x.was.Owner(lock) {
			t.Fatalf("\n%slock %d behind %d", ins.Text(x.codes[n]), lock, at)
		}
	}
}

// standAlike holds where a thread stands, ahead of what is left, and what it needs there, against one another.
func (x *tandem) standAlike(t *testing.T, n, at int) {
	t.Helper()
	place := staying(x.gone[n], at)
	if x.is.Place(n) != place {
		t.Fatalf("\n%sbecomes\n%sat %d, not %d", ins.Text(x.codes[n]), ins.Text(x.less[n]), x.is.Place(n), place)
	}
	for _, reg := range x.needed[n][place] {
		if x.is.Reg(n, reg) != x.was.Reg(n, reg) {
			t.Fatalf("\n%sbecomes\n%sr%d ahead of %d", ins.Text(x.codes[n]), ins.Text(x.less[n]), reg, place)
		}
	}
}

// words are some, for a memory.
func words(d *sample.Dice, many int) []int64 {
	l := make([]int64, many)
	for at := range l {
		l[at] = int64(d.Roll(5) - 2)
	}
	return l
}

// cleaned is what is left of threads' codes, and which of their instructions are gone.
func cleaned(codes []api.Code) (less []api.Code, gone [][]bool) {
	for _, c := range codes {
		less = append(less, dead.Code(c))
		gone = append(gone, meantCode(c).gone)
	}
	return less, gone
}

// P18.5: step by step, a code without what nobody needs does what it did.
func TestRunsAsItDid(t *testing.T) {
	over, done := 0, 0
	for seed := range 1500 {
		d := sample.Rolls(seed)
		codes := []api.Code{some(seed), most(d, 40, 4), some(seed + 9000)}
		less, gone := cleaned(codes)
		x := tandemOf(codes, less, gone, words(d, 4))
		for range 150 {
			x.step(t, d.Roll(3))
		}
		over, done = over+x.over, done+x.done
	}
	if over < 20000 || done < 100000 {
		t.Error(over, done)
	}
}

// P18.5: so does one with Fences, or what nobody needs, inserted.
func TestRunsAsItDidWithMore(t *testing.T) {
	over, done := 0, 0
	for seed := range 1000 {
		d := sample.Rolls(seed)
		codes := []api.Code{some(seed), most(d, 40, 4)}
		var more []api.Code
		var gone [][]bool
		for n, c := range codes {
			ahead := roll(d, len(c), 1+d.Roll(4))
			more = append(more, dead.Insert(c, []api.Ins{fence, set(1000, 7), move(n, n), load(1000)}[d.Roll(4)], ahead))
			gone = append(gone, inserted(ahead))
		}
		x := tandemOf(more, codes, gone, words(d, 4))
		for range 150 {
			x.step(t, d.Roll(2))
		}
		over, done = over+x.over, done+x.done
	}
	if over < 20000 || done < 100000 {
		t.Error(over, done)
	}
}

// known is threads' codes, with what is known in them, and what is the same.
func known(codes []api.Code) []api.Code {
	var l []api.Code
	for _, c := range codes {
		l = append(l, fold.Code(copy.Code(fold.Code(c))))
	}
	return l
}

// P18.5: programs that are lowered do what they did, whatever stands in memory.
func TestProgramsRunAsTheyDid(t *testing.T) {
	over, done := 0, 0
	for seed := range 120 {
		w, d := sample.Write(seed), sample.Rolls(seed)
		codes, is := lower.Program(w.Program)
		if !is || slices.ContainsFunc(codes, func(c api.Code) bool { return len(c) > 600 }) { // too long
			continue
		}
		if seed%2 == 0 {
			codes = known(codes)
		}
		less, gone := cleaned(codes)
		for range 3 {
			x := tandemOf(codes, less, gone, layout.Memory(layout.Of(w.Program), w.Words()))
			for range 2000 {
				x.step(t, d.Roll(len(codes)))
			}
			over, done = over+x.over, done+x.done
		}
	}
	if over < 3000 || done < 100000 {
		t.Error(over, done)
	}
}
