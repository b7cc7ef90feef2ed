package layout_test

import (
	"cmp"
	"math"
	"slices"
	"testing"

	"paling/api"
	"paling/layout"
)

// roomy is a row with room behind its end, and all of it, that room too.
func roomy[T any](l []T, behind T) (row, all []T) {
	all = append(slices.Clone(l), behind, behind, behind, behind)
	for len(all) < 4*len(l)+4 {
		all = append(all, behind)
	}
	return all[:len(l)], all
}

// same fails, unless a row is as it was.
func same[T comparable](t *testing.T, what string, now, was []T) {
	t.Helper()
	if !slices.Equal(now, was) {
		t.Errorf("%s: %v, not %v", what, now, was)
	}
}

// Rules 3 and 4: nothing that is handed in is changed, nor the room behind it; the same answers come again.
func TestNothingChanged(t *testing.T) {
	for seed := range 300 {
		w := write(seed + 40000)
		p := w.program()
		globals, allGlobals := roomy(p.Globals, api.Global{Name: "behind", Len: 9, Type: secretBit})
		wereGlobals := slices.Clone(allGlobals)
		p.Globals = globals
		l, allPlaces := roomy(layout.Of(p), layout.Place{Base: 3, Len: 5, Type: secretBit})
		mem, allMem := roomy(w.words(layout.Words(l)), -77)
		secrets, allSecrets := roomy(w.words(layout.Words(l)), -88)
		werePlaces, wereMem, wereSecrets := slices.Clone(allPlaces), slices.Clone(allMem), slices.Clone(allSecrets)
		for range 2 {
			same(t, "Of", layout.Of(p), l)
			same(t, "Areas", layout.Areas(l), layout.Areas(slices.Clone(l)))
			same(t, "Memory", layout.Memory(l, mem), meantTwin(p, mem, nil))
			same(t, "Twin", layout.Twin(l, mem, secrets), meantTwin(p, mem, secrets))
			layout.Words(l)
			layout.Look(l, w.roll(100))
		}
		same(t, "globals", allGlobals, wereGlobals)
		same(t, "places", allPlaces, werePlaces)
		same(t, "mem", allMem, wereMem)
		same(t, "secrets", allSecrets, wereSecrets)
	}
}

// Rule 3: what is answered is new memory: who changes it changes nothing else, and it isn't changed with what was handed in.
func TestNothingShared(t *testing.T) {
	p := api.Program{Globals: []api.Global{{Type: secretNum, Len: 2}, {Type: num, Len: 3}, {Type: secretBit}}}
	l := layout.Of(p)
	mem, secrets := []int64{1, 2, 3, 4, 5, 6}, []int64{7, 8, 1}
	for _, answer := range []func() []int64{
		func() []int64 { return layout.Memory(l, mem) },
		func() []int64 { return layout.Twin(l, mem, secrets) },
		func() []int64 { return layout.Twin(l, mem, nil) },
	} {
		a, b := answer(), answer()
		was := slices.Clone(a)
		clear(mem)
		clear(secrets)
		same(t, "kept", a, was)
		copy(mem, []int64{1, 2, 3, 4, 5, 6})
		copy(secrets, []int64{7, 8, 1})
		clear(a)
		same(t, "another answer", b, was)
		same(t, "mem", mem, []int64{1, 2, 3, 4, 5, 6})
		same(t, "secrets", secrets, []int64{7, 8, 1})
		same(t, "again", answer(), was)
	}
	places, areas := slices.Clone(l), layout.Areas(l)
	clear(layout.Of(p))
	clear(layout.Areas(l))
	same(t, "Of", layout.Of(p), places)
	same(t, "Areas", layout.Areas(l), areas)
	clear(p.Globals)
	same(t, "places", l, places)
}

// odd are places that no program has.
var odd = [][]layout.Place{
	{{}}, {{}, {}, {}},
	{{Len: -1}}, {{Len: -1, Type: secretBit}, {Len: 3, Type: bit}}, {{Len: math.MinInt, Type: secretBit}, {Len: math.MinInt, Type: bit}},
	{{Base: -1, Len: 3, Type: secretBit}}, {{Base: -5, Len: 3, Type: bit}}, {{Base: math.MinInt, Len: 2, Type: secretBit}}, {{Base: math.MinInt, Len: 8, Type: bit}, {Len: 4}},
	{{Base: 7, Len: 2, Type: secretBit}}, {{Base: 1, Len: 2, Type: bit}}, {{Base: math.MaxInt, Len: 2, Type: secretBit}}, {{Base: math.MaxInt - 1, Len: 1, Type: bit}},
	{{Len: math.MaxInt, Type: secretBit}}, {{Len: math.MaxInt, Type: bit}, {Len: math.MaxInt, Type: secretBit}},
	{{Len: 1 << 62, Type: secretBit}, {Len: 1 << 62}, {Len: 1 << 62}, {Len: 1<<62 + 2}},
	{{Len: 1 << 40, Type: secretBit}}, {{Len: 1 << 28, Type: secretBit}}, {{Len: 2}, {Len: 2, Type: secretBit}, {Len: 2, Type: bit}}, {{Base: 2, Len: 2, Type: secretBit}, {Base: 0, Len: 2, Type: secretNum}},
}

// No call panics, and each ends, whatever places it is given; there are as many words as all Lens are in sum, if there may be so many.
func TestOddPlaces(t *testing.T) {
	for _, l := range odd {
		was := slices.Clone(l)
		words := 0
		for _, x := range l {
			words += x.Len
		}
		if got := layout.Words(l); got != words {
			t.Errorf("%v: %d words, not %d", l, got, words)
		}
		if areas := layout.Areas(l); len(areas) != len(l) || !slices.IsSortedFunc(areas, func(a, b api.Area) int { return cmp.Compare(a.Base, b.Base) }) {
			t.Errorf("%v: %v", l, areas)
		}
		for _, word := range []int{math.MinInt, -1, 0, 1, 5, math.MaxInt} {
			if i, ahead := layout.Look(l, word); i < -1 || i >= len(l) || i == -1 && ahead != 0 {
				t.Errorf("%v: %d: %d, %d", l, word, i, ahead)
			}
		}
		want := words
		if words < 0 || words > (1<<31-1)/8 {
			want = 0
		}
		if m := layout.Memory(l, []int64{1, 2, 3}); len(m) != want {
			t.Errorf("%v: %d words, not %d", l, len(m), want)
		}
		if m := layout.Twin(l, []int64{1, 2, 3}, []int64{4, 5, 6}); len(m) != want {
			t.Errorf("%v: a twin of %d words, not %d", l, len(m), want)
		}
		same(t, "places", l, was)
	}
}

// Of ends without a panic, too, of globals that no text has: none is shorter than a word.
func TestOddGlobals(t *testing.T) {
	for _, lens := range [][]int{{-1}, {-5, 3, math.MinInt}, {math.MaxInt, math.MaxInt, 1}, {65, 1 << 40}} {
		var p api.Program
		for i, length := range lens {
			p.Globals = append(p.Globals, api.Global{Len: length, Type: api.Type{Secret: i%2 == 0}})
		}
		l := layout.Of(p)
		if len(l) != len(lens) || slices.ContainsFunc(l, func(x layout.Place) bool { return x.Len < 1 }) {
			t.Errorf("%v: %v", lens, l)
		}
	}
}
