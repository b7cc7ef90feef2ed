package fold_test

import (
	"slices"
	"testing"

	"paling/api"
	"paling/fold"
	"paling/ins"
	"paling/layout"
	"paling/lower"
	"paling/sample"
	"paling/seq"
)

// folded is what threads' codes become.
func folded(threads []api.Code) []api.Code {
	var l []api.Code
	for _, c := range threads {
		l = append(l, fold.Code(c))
	}
	return l
}

// words are some, for a memory.
func words(d *sample.Dice, many int) []int64 {
	l := make([]int64, many)
	for at := range l {
		l[at] = int64(d.Roll(5) - 2)
	}
	return l
}

// P16.3: step by step, a code that is folded does what it did: the same events, and the same in memory, in registers and where it stands. And what is known of a register is what it has.
func TestRunsAsItDid(t *testing.T) {
	steps, knew := 0, 0
	for seed := range 1500 {
		d := sample.Rolls(seed)
		threads := []api.Code{some(seed), some(seed + 5000), some(seed + 9000)}
		known := [][]row{meantOf(threads[0]), meantOf(threads[1]), meantOf(threads[2])}
		mem := words(d, 4)
		was, is := seq.New(threads, mem), seq.New(folded(threads), mem)
		for range 120 {
			n := d.Roll(3)
			for reg, number := range known[n][was.Place(n)] {
				if knew++; was.Reg(n, reg) != number {
					t.Fatalf("\n%sr%d ahead of %d: %d, not %d", ins.Text(threads[n]), reg, was.Place(n), was.Reg(n, reg), number)
				}
			}
			want, wanted := was.Next(n, 1)
			if e, what := is.Next(n, 1); e != want || what != wanted || is.Place(n) != was.Place(n) || !slices.Equal(is.Memory(), was.Memory()) {
				t.Fatalf("\n%sbecomes\n%sat %d: %v, %d, not %v, %d", ins.Text(threads[n]), ins.Text(fold.Code(threads[n])), was.Place(n), e, what, want, wanted)
			}
			for _, reg := range regs(threads[n]) {
				if is.Reg(n, reg) != was.Reg(n, reg) {
					t.Fatalf("\n%sr%d behind %d", ins.Text(threads[n]), reg, was.Place(n))
				}
			}
			if wanted == seq.Tired {
				steps++
			}
		}
	}
	if steps < 30000 || knew < 50000 {
		t.Error(steps, knew)
	}
}

// P16.3: programs that are lowered and folded, once and twice, come to the same events, whatever stands in memory.
func TestProgramsRunAsTheyDid(t *testing.T) {
	events := 0
	for seed := range 120 {
		w, d := sample.Write(seed), sample.Rolls(seed)
		once, is := lower.Program(w.Program)
		if !is { // too long
			continue
		}
		twice := folded(once)
		thrice := folded(twice)
		for range 3 {
			mem := layout.Memory(layout.Of(w.Program), w.Words())
			was := seq.New(once, mem)
			others := []*seq.Run{seq.New(twice, mem), seq.New(thrice, mem)}
			for range 60 {
				n := d.Roll(len(once))
				want, wanted := was.Next(n, 2000)
				for _, r := range others {
					if e, what := r.Next(n, 2000); e != want || what != wanted || !slices.Equal(r.Memory(), was.Memory()) {
						t.Fatalf("%d: %v, %d, not %v, %d", seed, e, what, want, wanted)
					}
				}
				if wanted == seq.Did {
					events++
				}
			}
		}
	}
	if events < 1000 {
		t.Error(events)
	}
}
