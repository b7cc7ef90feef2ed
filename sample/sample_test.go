package sample_test

import (
	"reflect"
	"slices"
	"testing"

	"paling/api"
	"paling/check"
	"paling/ins"
	"paling/prog"
	"paling/sample"
	"paling/show"
)

// What is written may be, and a text tells it, wherever that isn't too long.
func TestProgramsMayBe(t *testing.T) {
	for seed := range 800 {
		p := sample.Write(seed).Program
		text := show.Program(p)
		if bad, _ := check.Program(p); bad != api.OK {
			t.Fatalf("%d: %v:\n%s", seed, bad, text)
		}
		if len(text) > api.MaxText {
			continue
		}
		if again, bad, at := prog.Parse(text); bad != api.OK || !prog.Same(p, again) {
			t.Fatalf("%d: %v at %d:\n%s", seed, bad, at, text)
		}
	}
}

// What is written hangs on the seed alone, and seeds write different things.
func TestSeeds(t *testing.T) {
	texts := map[string]int{}
	for seed := range 300 {
		w, again := sample.Write(seed), sample.Write(seed)
		if !reflect.DeepEqual(w.Program, again.Program) || !reflect.DeepEqual(w.Words(), again.Words()) {
			t.Fatal(seed)
		}
		texts[show.Program(w.Program)]++
	}
	if len(texts) < 295 {
		t.Error(len(texts))
	}
}

// Dice roll each number below another, and no other ones.
func TestRoll(t *testing.T) {
	for below := 1; below < 20; below++ {
		d, seen := sample.Rolls(below), make([]int, below)
		for range 1000 {
			seen[d.Roll(below)]++
		}
		for n, many := range seen {
			if many < 10 {
				t.Errorf("%d of %d: %d times", n, below, many)
			}
		}
	}
}

// kinds are all.
var kinds = []int{
	api.Set, api.Move, api.Calc, api.Pick, api.Load, api.Store, api.Jump, api.Zero, api.Fence, api.Take, api.Give, api.Out, api.Trap, api.Halt,
}

// Codes that are written may be, have all kinds, and hang on what is asked for alone.
func TestCodesMayBe(t *testing.T) {
	seen := map[int]int{}
	for seed := range 2000 {
		many, regs, far := 1+seed%40, 1+seed%9, 1+seed%100
		c := sample.Rolls(seed).Code(kinds, many, regs, far)
		if b := (ins.Bound{Regs: (regs-1)*far + 1, Locks: 3}); len(c) != many || !ins.Check(c, b) {
			t.Fatalf("%d:\n%s", seed, ins.Text(c))
		}
		if again := sample.Rolls(seed).Code(kinds, many, regs, far); !slices.Equal(c, again) {
			t.Fatal(seed)
		}
		for _, i := range c {
			seen[i.Kind]++
		}
	}
	for _, kind := range kinds {
		if seen[kind] < 1000 {
			t.Errorf("of kind %d: %d", kind, seen[kind])
		}
	}
}

// own is what is left of an instruction without what isn't its own.
func own(i api.Ins) api.Ins {
	l := api.Ins{Kind: i.Kind}
	switch i.Kind {
	case api.Set:
		l.D, l.N = i.D, i.N
	case api.Move:
		l.D, l.A = i.D, i.A
	case api.Calc:
		l.D, l.Op, l.A, l.B = i.D, i.Op, i.A, i.B
	case api.Pick:
		l.D, l.A, l.B = i.D, i.A, i.B
	case api.Load:
		l.D, l.A, l.N = i.D, i.A, i.N
	case api.Store:
		l.A, l.B, l.N = i.A, i.B, i.N
	case api.Jump:
		l.To = i.To
	case api.Zero:
		l.A, l.To = i.A, i.To
	case api.Take, api.Give, api.Trap:
		l.N = i.N
	case api.Out:
		l.A = i.A
	}
	return l
}

// Stray changes what isn't an instruction's own, all of that, and nothing else.
func TestStray(t *testing.T) {
	changed := map[int]api.Ins{}
	for seed := range 300 {
		d := sample.Rolls(seed)
		c := d.Code(kinds, 30, 9, 1)
		was := slices.Clone(c)
		d.Stray(c)
		for at, i := range c {
			if own(i) != was[at] {
				t.Fatalf("%v, not %v", i, was[at])
			}
			x := changed[i.Kind]
			x.Kind, x.Op, x.D, x.A, x.B, x.N, x.To = i.Kind, x.Op|i.Op, x.D|i.D, x.A|i.A, x.B|i.B, x.N|i.N, x.To|i.To
			changed[i.Kind] = x
		}
	}
	for _, kind := range kinds {
		if x := changed[kind]; x.Op == 0 || x.D == 0 || x.A == 0 || x.B == 0 || x.N == 0 || x.To == 0 {
			t.Errorf("%v", x)
		}
	}
}

// Every tells all codes, each once.
func TestEvery(t *testing.T) {
	of := []api.Ins{sample.Set(0, 1), sample.Move(1, 0), sample.Calc(0, 1, api.Add, 1), sample.Pick(0, 1, 0), sample.Load(1), sample.Jump(0), sample.Zero(0, 0), sample.Out(0), sample.Halt()}
	for many, want := range []int{1, 9, 81, 729} {
		count, seen := 0, map[string]int{}
		sample.Every(many, of, func(c api.Code) {
			count++
			seen[ins.Text(c)]++
			if may := many > 0 && (c[many-1] == of[5] || c[many-1] == of[8]); len(c) != many || ins.Check(c, ins.Bound{Regs: 2}) != may {
				t.Errorf("%v", c)
			}
		})
		if count != want || len(seen) != want {
			t.Error(many, count, len(seen))
		}
	}
}
