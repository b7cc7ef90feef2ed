package copy_test

import (
	"slices"
	"testing"

	"paling/api"
	"paling/copy"
	"paling/ins"
	"paling/layout"
	"paling/lower"
	"paling/sample"
	"paling/seq"
)

// copied is what threads' codes become.
func copied(threads []api.Code) []api.Code {
	var l []api.Code
	for _, c := range threads {
		l = append(l, copy.Code(c))
	}
	return l
}

// words are some, for a memory.
func words(d *sample.Dice, many int) []int64 {
	l := make([]int64, many)
	for at := range l {
		l[at] = int64(d.Roll(5) - 2)
	}
	return l
}

// P17.3: step by step, a code that reads what was copied does what it did: the same events, and the same in memory, in registers and where it stands. And a register has what its Same has.
func TestRunsAsItDid(t *testing.T) {
	steps, sames := 0, 0
	for seed := range 1000 {
		d := sample.Rolls(seed)
		threads := []api.Code{some(seed), some(seed + 5000), rounds(d)}
		var models []model
		for _, c := range threads {
			models = append(models, meantOf(c))
		}
		mem := words(d, 4)
		was, is := seq.New(threads, mem), seq.New(copied(threads), mem)
		for range 120 {
			n := d.Roll(3)
			for _, reg := range models[n].regs {
				other := models[n].same(was.Place(n), reg)
				if other != reg {
					sames++
				}
				if was.Reg(n, reg) != was.Reg(n, other) {
					t.Fatalf("\n%sahead of %d: r%d has %d, r%d has %d", ins.Text(threads[n]), was.Place(n), reg, was.Reg(n, reg), other, was.Reg(n, other))
				}
			}
			want, wanted := was.Next(n, 1)
			if e, what := is.Next(n, 1); e != want || what != wanted || is.Place(n) != was.Place(n) || !slices.Equal(is.Memory(), was.Memory()) {
				t.Fatalf("\n%sbecomes\n%sat %d: %v, %d, not %v, %d", ins.Text(threads[n]), ins.Text(copy.Code(threads[n])), was.Place(n), e, what, want, wanted)
			}
			for _, reg := range models[n].regs {
				if is.Reg(n, reg) != was.Reg(n, reg) {
					t.Fatalf("\n%sr%d behind %d", ins.Text(threads[n]), reg, was.Place(n))
				}
			}
			if wanted == seq.Tired {
				steps++
			}
		}
	}
	if steps < 30000 || sames < 100000 {
		t.Error(steps, sames)
	}
}

// P17.3: programs that are lowered and copied come to the same events, whatever stands in memory.
func TestProgramsRunAsTheyDid(t *testing.T) {
	events := 0
	for seed := range 120 {
		w, d := sample.Write(seed), sample.Rolls(seed)
		once, is := lower.Program(w.Program)
		if !is { // too long
			continue
		}
		twice := copied(once)
		thrice := copied(twice)
		for range 3 {
			mem := layout.Memory(layout.Of(w.Program), w.Words())
			was := seq.New(once, mem)
			others := []*seq.Run{seq.New(twice, mem), seq.New(thrice, mem)}
			for range 60 {
				n := d.Roll(len(once))
				want, wanted := was.Next(n, 2000)
				for _, r := range others {
					if e, what := r.Next(n, 2000); e != want || what != wanted || !slices.Equal(r.Memory(), was.Memory()) {
						t.Fatalf("%d: %v, %d, not %v, %d", seed, e, what, want, wanted)
					}
				}
				if wanted == seq.Did {
					events++
				}
			}
		}
	}
	if events < 1000 {
		t.Error(events)
	}
}
