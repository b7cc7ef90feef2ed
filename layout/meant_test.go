package layout_test

import (
	"slices"
	"testing"

	"paling/api"
	"paling/layout"
)

// writer writes programs, and words. What it writes hangs on its seed alone.
type writer struct{ n uint64 }

// write is one of a seed.
func write(seed int) *writer { return &writer{uint64(seed)*2 + 1} }

// roll is the next of its numbers below another.
func (w *writer) roll(below int) int {
	w.n = w.n*6364136223846793005 + 1442695040888963407
	return int(w.n>>33) % below
}

// program is one of some globals; the rest of it plays no part.
func (w *writer) program() api.Program {
	var p api.Program
	many, longest := w.roll(api.MaxGlobals+1), 1+w.roll(api.MaxLen)
	for i := range many {
		p.Globals = append(p.Globals, api.Global{At: i, Name: "g", Type: api.Type{Truth: w.roll(2) == 0, Secret: w.roll(2) == 0}, Len: w.roll(longest + 1)})
	}
	return p
}

// words are some: fewer than so many, or more.
func (w *writer) words(about int) []int64 {
	m := make([]int64, w.roll(about*5/4+2))
	for i := range m {
		if m[i] = int64(w.roll(3)); w.roll(4) == 0 {
			m[i] = int64(w.roll(1<<30)) << w.roll(33) * int64(1-2*w.roll(2))
		}
	}
	return m
}

// meant is a program's words, one by one, each as the global that has it and how many words of that stand ahead; and how many of them are public.
func meant(p api.Program) (words [][2]int, public int) {
	for _, secret := range []bool{false, true} {
		for i, g := range p.Globals {
			for k := 0; g.Type.Secret == secret && k < max(g.Len, 1); k++ {
				words = append(words, [2]int{i, k})
			}
		}
		if !secret {
			public = len(words)
		}
	}
	return words, public
}

// at is what a row has at a place; 0 behind its end.
func at(m []int64, i int) int64 {
	if i < len(m) {
		return m[i]
	}
	return 0
}

// meantTwin is what Twin is to tell, word by word.
func meantTwin(p api.Program, mem, secrets []int64) []int64 {
	words, public := meant(p)
	var m []int64
	for i, word := range words {
		v := at(mem, i)
		if k := i - public; k >= 0 && k < len(secrets) {
			v = secrets[k]
		}
		if p.Globals[word[0]].Type.Truth && v != 0 {
			v = 1
		}
		m = append(m, v)
	}
	return m
}

// P9.1, P9.2: of written programs, held against what their words are meant to be, one by one.
func TestWrittenPlaces(t *testing.T) {
	for seed := range 3000 {
		p := write(seed).program()
		words, _ := meant(p)
		l := layout.Of(p)
		if len(l) != len(p.Globals) || layout.Words(l) != len(words) {
			t.Fatalf("%v: %v", p.Globals, l)
		}
		var areas []api.Area
		for i, word := range words {
			g, k := p.Globals[word[0]], word[1]
			if l[word[0]] != (layout.Place{Base: i - k, Len: max(g.Len, 1), Type: g.Type}) {
				t.Fatalf("%v: %v", p.Globals, l)
			}
			if place, ahead := layout.Look(l, i); place != word[0] || ahead != k {
				t.Fatalf("%v: word %d: %d, %d", p.Globals, i, place, ahead)
			}
			if k == 0 {
				areas = append(areas, api.Area{Base: i, Len: max(g.Len, 1), Secret: g.Type.Secret})
			}
		}
		if got := layout.Areas(l); !slices.Equal(got, areas) {
			t.Fatalf("%v: %v, not %v", p.Globals, got, areas)
		}
		for _, word := range []int{-1, len(words)} {
			if place, ahead := layout.Look(l, word); place != -1 || ahead != 0 {
				t.Fatalf("%v: word %d: %d, %d", p.Globals, word, place, ahead)
			}
		}
	}
}

// P9.3: of written programs and words.
func TestWrittenWords(t *testing.T) {
	for seed := range 3000 {
		w := write(seed)
		p := w.program()
		words, public := meant(p)
		l := layout.Of(p)
		for range 5 {
			mem, secrets := w.words(len(words)), w.words(len(words)-public)
			if got, want := layout.Memory(l, mem), meantTwin(p, mem, nil); !slices.Equal(got, want) {
				t.Fatalf("%v: %v: %v, not %v", p.Globals, mem, got, want)
			}
			if got, want := layout.Twin(l, mem, secrets), meantTwin(p, mem, secrets); !slices.Equal(got, want) {
				t.Fatalf("%v: %v, %v: %v, not %v", p.Globals, mem, secrets, got, want)
			}
		}
	}
}

// P9.4: areas stand one behind the other, from word 0 to the last one, public ones ahead of secret ones.
func TestNoGaps(t *testing.T) {
	for seed := range 2000 {
		l := layout.Of(write(seed + 5000).program())
		end, secret := 0, false
		for _, a := range layout.Areas(l) {
			if a.Base != end || a.Len < 1 || secret && !a.Secret {
				t.Fatalf("%v: %v", l, a)
			}
			end, secret = a.Base+a.Len, a.Secret
		}
		if end != layout.Words(l) {
			t.Fatalf("%v: end at %d", l, end)
		}
	}
}

// P9.4: a twin has the same public words as the memory it is of, and its secret ones hang on what it was told.
func TestTwinsArePubliclyAlike(t *testing.T) {
	parted := 0
	for seed := range 2000 {
		w := write(seed + 9000)
		l := layout.Of(w.program())
		mem := w.words(layout.Words(l))
		m, twin := layout.Memory(l, mem), layout.Twin(l, mem, w.words(layout.Words(l)))
		if len(m) != len(twin) || len(m) != layout.Words(l) {
			t.Fatalf("%v: %d, %d", l, len(m), len(twin))
		}
		if !slices.Equal(m, twin) {
			parted++
		}
		for i := range m {
			if place, _ := layout.Look(l, i); !l[place].Type.Secret && m[i] != twin[i] {
				t.Fatalf("%v: word %d: %d, %d", l, i, m[i], twin[i])
			}
		}
	}
	if parted < 1000 {
		t.Error(parted)
	}
}

// P9.3, P9.4: Memory takes what it told, and Twin with the secrets that a memory has is that memory; a twin's twin may be the first one again.
func TestAgain(t *testing.T) {
	for seed := range 1000 {
		w := write(seed + 20000)
		p := w.program()
		l := layout.Of(p)
		_, public := meant(p)
		m := layout.Memory(l, w.words(layout.Words(l)))
		twin := layout.Twin(l, m, w.words(layout.Words(l)))
		if !slices.Equal(layout.Memory(l, m), m) || !slices.Equal(layout.Twin(l, m, m[public:]), m) || !slices.Equal(layout.Twin(l, twin, m[public:]), m) {
			t.Fatalf("%v: %v, %v", l, m, twin)
		}
	}
}
