package sample_test

import (
	"reflect"
	"testing"

	"paling/api"
	"paling/check"
	"paling/prog"
	"paling/sample"
	"paling/show"
)

// What is written may be, and a text tells it, wherever that isn't too long.
func TestProgramsMayBe(t *testing.T) {
	for seed := range 800 {
		p := sample.Write(seed).Program
		text := show.Program(p)
		if bad, _ := check.Program(p); bad != api.OK {
			t.Fatalf("%d: %v:\n%s", seed, bad, text)
		}
		if len(text) > api.MaxText {
			continue
		}
		if again, bad, at := prog.Parse(text); bad != api.OK || !prog.Same(p, again) {
			t.Fatalf("%d: %v at %d:\n%s", seed, bad, at, text)
		}
	}
}

// What is written hangs on the seed alone, and seeds write different things.
func TestSeeds(t *testing.T) {
	texts := map[string]int{}
	for seed := range 300 {
		w, again := sample.Write(seed), sample.Write(seed)
		if !reflect.DeepEqual(w.Program, again.Program) || !reflect.DeepEqual(w.Words(), again.Words()) {
			t.Fatal(seed)
		}
		texts[show.Program(w.Program)]++
	}
	if len(texts) < 295 {
		t.Error(len(texts))
	}
}

// Dice roll each number below another, and no other ones.
func TestRoll(t *testing.T) {
	for below := 1; below < 20; below++ {
		d, seen := sample.Rolls(below), make([]int, below)
		for range 1000 {
			seen[d.Roll(below)]++
		}
		for n, many := range seen {
			if many < 10 {
				t.Errorf("%d of %d: %d times", n, below, many)
			}
		}
	}
}
