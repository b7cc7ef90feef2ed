package layout_test

import (
	"math"
	"slices"
	"strconv"
	"strings"
	"testing"

	"paling/api"
	"paling/layout"
	"paling/prog"
)

// The types.
var (
	num       = api.Type{}
	bit       = api.Type{Truth: true}
	secretNum = api.Type{Secret: true}
	secretBit = api.Type{Truth: true, Secret: true}
)

// of is the layout of a text's program.
func of(t *testing.T, text string) []layout.Place {
	t.Helper()
	p, bad, at := prog.Parse(text)
	if bad != api.OK {
		t.Fatalf("%q: %v at %d", text, bad, at)
	}
	return layout.Of(p)
}

// repeated is a text of so many things, each with its number in place of #.
func repeated(many int, thing string) string {
	var b strings.Builder
	for i := range many {
		b.WriteString(strings.ReplaceAll(thing, "#", strconv.Itoa(i)))
	}
	return b.String()
}

// laid are texts, and where their globals stand, in order.
var laid = map[string][]layout.Place{
	"":                  nil,
	"thread { out 1; }": nil,
	"lock m; func f() public int { return 1; } thread { }": nil,
	"public int a;":                                        {{0, 1, num}},
	"secret int a;":                                        {{0, 1, secretNum}},
	"public bool a;":                                       {{0, 1, bit}},
	"secret bool a;":                                       {{0, 1, secretBit}},
	"public int a[1];":                                     {{0, 1, num}},
	"public int a[64];":                                    {{0, 64, num}},
	"secret bool a[64];":                                   {{0, 64, secretBit}},
	"public int a; public int b;":                          {{0, 1, num}, {1, 1, num}},
	"secret int a; secret int b;":                          {{0, 1, secretNum}, {1, 1, secretNum}},
	"public int a; secret int b;":                          {{0, 1, num}, {1, 1, secretNum}},
	"secret int a; public int b;":                          {{1, 1, secretNum}, {0, 1, num}},
	"secret int k; public int t[3];":                       {{3, 1, secretNum}, {0, 3, num}},
	"secret bool k[3]; public bool t;":                     {{1, 3, secretBit}, {0, 1, bit}},
	"public int b; public int a;":                          {{0, 1, num}, {1, 1, num}},
	"public int a[64]; public int b[2]; public int c[33];": {{0, 64, num}, {64, 2, num}, {66, 33, num}},
	"secret int a[2]; secret bool b[64]; secret int c[33]; secret int d;":                                                          {{0, 2, secretNum}, {2, 64, secretBit}, {66, 33, secretNum}, {99, 1, secretNum}},
	"public int a; secret int b; public int c; secret int d; public int e;":                                                        {{0, 1, num}, {3, 1, secretNum}, {1, 1, num}, {4, 1, secretNum}, {2, 1, num}},
	"secret int a[5]; public bool b[2]; secret bool c; public int d; public int e[7]; secret int f[3];":                            {{10, 5, secretNum}, {0, 2, bit}, {15, 1, secretBit}, {2, 1, num}, {3, 7, num}, {16, 3, secretNum}},
	"public bool a; secret bool b; secret int c; public int d;":                                                                    {{0, 1, bit}, {2, 1, secretBit}, {3, 1, secretNum}, {1, 1, num}},
	"secret int a by m; thread { } public int b[4] by m; lock m; secret int c[2]; func f() secret int { return 1; } public int d;": {{5, 1, secretNum}, {0, 4, num}, {6, 2, secretNum}, {4, 1, num}},
	"public int a[2]; secret int a[3]; public int a by a;":                                                                         {{0, 2, num}, {3, 3, secretNum}, {2, 1, num}},
}

// P9.1: Of, by hand: public ones first, in the program's order, whatever else stands between.
func TestOf(t *testing.T) {
	for text, want := range laid {
		if l := of(t, text); !slices.Equal(l, want) {
			t.Errorf("%q: %v, not %v", text, l, want)
		}
	}
}

// P9.1: names, locks, guards and Ats of globals play no part, nor does what else a program has.
func TestOfTypesAndLensAlone(t *testing.T) {
	for text, want := range laid {
		p, _, _ := prog.Parse(text)
		for i := range p.Globals {
			p.Globals[i] = api.Global{Type: p.Globals[i].Type, Len: p.Globals[i].Len, Name: "x", By: "y", At: -i}
		}
		p.Locks, p.Funcs, p.Threads = make([]api.Lock, 3), nil, make([][]api.Stmt, 2)
		if l := layout.Of(p); !slices.Equal(l, want) {
			t.Errorf("%q: %v, not %v", text, l, want)
		}
	}
}

// P9.1: as many globals as there may be, each as long as it may be.
func TestMost(t *testing.T) {
	for text, want := range map[string]func(i int) layout.Place{
		repeated(32, "public int g#[64];"):  func(i int) layout.Place { return layout.Place{Base: 64 * i, Len: 64, Type: num} },
		repeated(32, "secret bool g#[64];"): func(i int) layout.Place { return layout.Place{Base: 64 * i, Len: 64, Type: secretBit} },
		repeated(32, "secret int g#;"):      func(i int) layout.Place { return layout.Place{Base: i, Len: 1, Type: secretNum} },
		repeated(16, "secret int k#[64]; public bool g#[64];"): func(i int) layout.Place {
			if i%2 == 0 {
				return layout.Place{Base: 1024 + 32*i, Len: 64, Type: secretNum}
			}
			return layout.Place{Base: 32 * (i - 1), Len: 64, Type: bit}
		},
	} {
		l := of(t, text)
		if len(l) != 32 {
			t.Errorf("%.30q: %d", text, len(l))
		}
		for i, x := range l {
			if x != want(i) {
				t.Errorf("%.30q: %d: %v, not %v", text, i, x, want(i))
			}
		}
	}
	for text, want := range map[string]int{repeated(32, "public int g#[64];"): 2048, repeated(32, "secret bool g#[64];"): 2048, repeated(32, "secret int g#;"): 32} {
		if words := layout.Words(of(t, text)); words != want {
			t.Errorf("%.30q: %d words", text, words)
		}
	}
}

// P9.1: Words, by hand.
func TestWords(t *testing.T) {
	for text, want := range map[string]int{
		"": 0, "lock m; thread { }": 0, "public int a;": 1, "secret bool a;": 1, "public int a[1];": 1, "secret int a[64];": 64,
		"secret int a; public int b;": 2, "public int a[3]; secret int b; public bool c[60];": 64, "secret int a[5]; public bool b[2]; secret bool c; public int d; public int e[7]; secret int f[3];": 19,
	} {
		if words := layout.Words(of(t, text)); words != want {
			t.Errorf("%q: %d, not %d", text, words, want)
		}
	}
}

// P9.2: Areas, by hand: by rising Base, not in the program's order.
func TestAreas(t *testing.T) {
	for text, want := range map[string][]api.Area{
		"":                               nil,
		"thread { }":                     nil,
		"public bool a;":                 {{Base: 0, Len: 1}},
		"secret int a[64];":              {{Base: 0, Len: 64, Secret: true}},
		"secret int k; public int t[3];": {{Base: 0, Len: 3}, {Base: 3, Len: 1, Secret: true}},
		"public int a; public int b[2];": {{Base: 0, Len: 1}, {Base: 1, Len: 2}},
		"secret int a[5]; public bool b[2]; secret bool c; public int d; public int e[7]; secret int f[3];": {
			{Base: 0, Len: 2}, {Base: 2, Len: 1}, {Base: 3, Len: 7}, {Base: 10, Len: 5, Secret: true}, {Base: 15, Len: 1, Secret: true}, {Base: 16, Len: 3, Secret: true}},
	} {
		if areas := layout.Areas(of(t, text)); !slices.Equal(areas, want) {
			t.Errorf("%q: %v, not %v", text, areas, want)
		}
	}
}

// P9.2: Look of each word, and of such as nobody has.
func TestLook(t *testing.T) {
	for text, words := range map[string][][2]int{
		"":                               nil,
		"thread { }":                     nil,
		"public int a;":                  {{0, 0}},
		"secret bool a[2];":              {{0, 0}, {0, 1}},
		"secret int k; public int t[3];": {{1, 0}, {1, 1}, {1, 2}, {0, 0}},
		"public int a; secret bool b[3]; public bool c[2]; secret int d;": {{0, 0}, {2, 0}, {2, 1}, {1, 0}, {1, 1}, {1, 2}, {3, 0}},
	} {
		l := of(t, text)
		for word, want := range words {
			if i, ahead := layout.Look(l, word); i != want[0] || ahead != want[1] {
				t.Errorf("%q: %d: %d, %d, not %v", text, word, i, ahead, want)
			}
		}
		for _, word := range []int{math.MinInt, math.MinInt + 1, -64, -2, -1, len(words), len(words) + 1, len(words) + 64, math.MaxInt - 1, math.MaxInt} {
			if i, ahead := layout.Look(l, word); i != -1 || ahead != 0 {
				t.Errorf("%q: %d: %d, %d", text, word, i, ahead)
			}
		}
	}
}

// first is what stands in a text's words at first.
type first struct {
	text       string
	init, want []int64
}

// P9.3: Memory, by hand.
func TestMemory(t *testing.T) {
	const all = "secret bool b[3]; public int a; secret int d[2]; public bool c[2];" // a, c, c, b, b, b, d, d
	for _, x := range []first{
		{"", nil, nil},
		{"", []int64{1, 2}, nil},
		{"thread { }", []int64{1}, nil},
		{"public int a;", nil, []int64{0}},
		{"public int a;", []int64{}, []int64{0}},
		{"public int a;", []int64{7, 8}, []int64{7}},
		{"secret int a;", []int64{math.MinInt64}, []int64{math.MinInt64}},
		{"public bool a;", []int64{0}, []int64{0}},
		{"public bool a;", []int64{1}, []int64{1}},
		{"public bool a;", []int64{2, 0}, []int64{1}},
		{"secret bool a[6];", []int64{-1, math.MinInt64, math.MaxInt64, 1 << 32, 0, 2}, []int64{1, 1, 1, 1, 0, 1}},
		{"secret int k; public int t[3];", []int64{1, 2, 3, 4}, []int64{1, 2, 3, 4}},
		{"secret bool k; public int t[3];", []int64{5, 6, 7, 8}, []int64{5, 6, 7, 1}},
		{all, nil, make([]int64, 8)},
		{all, []int64{9}, []int64{9, 0, 0, 0, 0, 0, 0, 0}},
		{all, []int64{9, 9, 9, 9}, []int64{9, 1, 1, 1, 0, 0, 0, 0}},
		{all, []int64{-2, -1, 0, 4, 0, 2, -3, 3}, []int64{-2, 1, 0, 1, 0, 1, -3, 3}},
		{all, []int64{0, 0, 0, 0, 0, 0, 0, 5, 5, 5}, []int64{0, 0, 0, 0, 0, 0, 0, 5}},
	} {
		if m := layout.Memory(of(t, x.text), x.init); !slices.Equal(m, x.want) {
			t.Errorf("%q: %v: %v, not %v", x.text, x.init, m, x.want)
		}
	}
}

// other is words with other secrets.
type other struct {
	text               string
	mem, secrets, want []int64
}

// P9.3: Twin, by hand.
func TestTwin(t *testing.T) {
	const all = "secret bool b[3]; public int a; secret int d[2]; public bool c[2];" // a, c, c, b, b, b, d, d
	mem := []int64{-2, -1, 0, 4, 0, 2, -3, 3}
	for _, x := range []other{
		{"", nil, nil, nil},
		{"", []int64{1}, []int64{2}, nil},
		{"public int a;", nil, []int64{7}, []int64{0}},
		{"public int a; public bool b;", []int64{5, 6}, []int64{7, 8}, []int64{5, 1}},
		{"public int a; public bool b;", []int64{5, 6, 9}, []int64{7, 8, 4}, []int64{5, 1}},
		{"secret int a;", []int64{5}, []int64{7}, []int64{7}},
		{"secret int a;", []int64{5}, nil, []int64{5}},
		{"secret int a;", nil, []int64{7, 8}, []int64{7}},
		{"secret int a;", []int64{5}, []int64{0}, []int64{0}},
		{"secret bool a[4];", []int64{1, 0, 3, 0}, []int64{0, 3}, []int64{0, 1, 1, 0}},
		{"secret int k; public int t[3];", []int64{1, 2, 3, 4}, []int64{5}, []int64{1, 2, 3, 5}},
		{"secret int k; public int t[3];", []int64{1}, []int64{5, 6}, []int64{1, 0, 0, 5}},
		{"secret int k; public int t[3];", nil, []int64{5}, []int64{0, 0, 0, 5}},
		{"secret int k[2]; public int t;", []int64{1, 2}, []int64{5}, []int64{1, 5, 0}},
		{"secret int k[2]; public int t;", []int64{1, 2, 3, 4}, []int64{5}, []int64{1, 5, 3}},
		{"secret int k[2]; public int t;", []int64{1, 2, 3, 4, 5}, nil, []int64{1, 2, 3}},
		{all, mem, nil, []int64{-2, 1, 0, 1, 0, 1, -3, 3}},
		{all, mem, []int64{0}, []int64{-2, 1, 0, 0, 0, 1, -3, 3}},
		{all, mem, []int64{0, 9, 0, 9}, []int64{-2, 1, 0, 0, 1, 0, 9, 3}},
		{all, mem, []int64{0, -1, 0, -1, math.MaxInt64}, []int64{-2, 1, 0, 0, 1, 0, -1, math.MaxInt64}},
		{all, mem, []int64{0, -1, 0, 9, 8, 7, 6}, []int64{-2, 1, 0, 0, 1, 0, 9, 8}},
		{all, mem[:2], []int64{5, 5, 5, 5, 5}, []int64{-2, 1, 0, 1, 1, 1, 5, 5}},
		{all, mem[:5], []int64{5}, []int64{-2, 1, 0, 1, 0, 0, 0, 0}},
		{all, nil, nil, make([]int64, 8)},
	} {
		if m := layout.Twin(of(t, x.text), x.mem, x.secrets); !slices.Equal(m, x.want) {
			t.Errorf("%q: %v, %v: %v, not %v", x.text, x.mem, x.secrets, m, x.want)
		}
	}
}
