package ins_test

import (
	"math"
	"slices"
	"testing"

	"paling/api"
	"paling/ins"
)

// told is an instruction, and what is to be told of it: at place 7 for next.
type told struct {
	i    api.Ins
	text string
	uses []int
	def  int
	next []int
}

// each are instructions of all kinds, by hand.
var each = []told{
	{api.Ins{Kind: api.Set}, "set r0 0", nil, 0, []int{8}},
	{api.Ins{Kind: api.Set, D: 12, N: math.MinInt64}, "set r12 -9223372036854775808", nil, 12, []int{8}},
	{api.Ins{Kind: api.Set, D: 1, N: math.MaxInt64}, "set r1 9223372036854775807", nil, 1, []int{8}},
	{api.Ins{Kind: api.Move, D: 3, A: 1}, "move r3 r1", []int{1}, 3, []int{8}},
	{api.Ins{Kind: api.Move, D: 4, A: 4}, "move r4 r4", []int{4}, 4, []int{8}},
	{api.Ins{Kind: api.Calc, Op: api.Add, D: 1, A: 2, B: 3}, "calc r1 r2 + r3", []int{2, 3}, 1, []int{8}},
	{api.Ins{Kind: api.Calc, Op: api.Sub, D: 1, A: 3, B: 2}, "calc r1 r3 - r2", []int{2, 3}, 1, []int{8}},
	{api.Ins{Kind: api.Calc, Op: api.Below, D: 2, A: 2, B: 2}, "calc r2 r2 below r2", []int{2}, 2, []int{8}},
	{api.Ins{Kind: api.Calc, Op: api.Any, D: 5, A: 0, B: 9}, "calc r5 r0 || r9", []int{0, 9}, 5, []int{8}},
	{api.Ins{Kind: api.Pick, D: 1, A: 2, B: 3}, "pick r1 r2 r3", []int{1, 2, 3}, 1, []int{8}},
	{api.Ins{Kind: api.Pick, D: 3, A: 2, B: 1}, "pick r3 r2 r1", []int{1, 2, 3}, 3, []int{8}},
	{api.Ins{Kind: api.Pick, D: 3, A: 1, B: 2}, "pick r3 r1 r2", []int{1, 2, 3}, 3, []int{8}},
	{api.Ins{Kind: api.Pick, D: 2, A: 3, B: 1}, "pick r2 r3 r1", []int{1, 2, 3}, 2, []int{8}},
	{api.Ins{Kind: api.Pick, D: 2, A: 2, B: 1}, "pick r2 r2 r1", []int{1, 2}, 2, []int{8}},
	{api.Ins{Kind: api.Pick, D: 1, A: 2, B: 2}, "pick r1 r2 r2", []int{1, 2}, 1, []int{8}},
	{api.Ins{Kind: api.Pick, D: 2, A: 1, B: 2}, "pick r2 r1 r2", []int{1, 2}, 2, []int{8}},
	{api.Ins{Kind: api.Pick, D: 6, A: 6, B: 6}, "pick r6 r6 r6", []int{6}, 6, []int{8}},
	{api.Ins{Kind: api.Load, D: 2, A: 0, N: 17}, "load r2 17 r0", []int{0}, 2, []int{8}},
	{api.Ins{Kind: api.Load, D: 2, A: 2}, "load r2 0 r2", []int{2}, 2, []int{8}},
	{api.Ins{Kind: api.Load, D: 2, A: -1, N: 65535}, "load r2 65535", nil, 2, []int{8}},
	{api.Ins{Kind: api.Store, A: 4, B: 3, N: 17}, "store 17 r3 r4", []int{3, 4}, -1, []int{8}},
	{api.Ins{Kind: api.Store, A: 0, B: 3}, "store 0 r3 r0", []int{0, 3}, -1, []int{8}},
	{api.Ins{Kind: api.Store, A: 3, B: 3, N: 1}, "store 1 r3 r3", []int{3}, -1, []int{8}},
	{api.Ins{Kind: api.Store, A: -1, B: 0, N: 65535}, "store 65535 r0", []int{0}, -1, []int{8}},
	{api.Ins{Kind: api.Jump}, "jump 0", nil, -1, []int{0}},
	{api.Ins{Kind: api.Jump, To: 4095}, "jump 4095", nil, -1, []int{4095}},
	{api.Ins{Kind: api.Jump, To: 7}, "jump 7", nil, -1, []int{7}},
	{api.Ins{Kind: api.Zero}, "zero r0 0", []int{0}, -1, []int{0, 8}},
	{api.Ins{Kind: api.Zero, A: 5, To: 7}, "zero r5 7", []int{5}, -1, []int{7, 8}},
	{api.Ins{Kind: api.Zero, A: 5, To: 8}, "zero r5 8", []int{5}, -1, []int{8}},
	{api.Ins{Kind: api.Zero, A: 5, To: 9}, "zero r5 9", []int{5}, -1, []int{8, 9}},
	{api.Ins{Kind: api.Fence}, "fence", nil, -1, []int{8}},
	{api.Ins{Kind: api.Take, N: 7}, "take 7", nil, -1, []int{8}},
	{api.Ins{Kind: api.Take}, "take 0", nil, -1, []int{8}},
	{api.Ins{Kind: api.Give, N: 3}, "give 3", nil, -1, []int{8}},
	{api.Ins{Kind: api.Out}, "out r0", []int{0}, -1, []int{8}},
	{api.Ins{Kind: api.Out, A: 15}, "out r15", []int{15}, -1, []int{8}},
	{api.Ins{Kind: api.Trap, N: 1}, "trap 1", nil, -1, nil},
	{api.Ins{Kind: api.Trap, N: 2}, "trap 2", nil, -1, nil},
	{api.Ins{Kind: api.Halt}, "halt", nil, -1, nil},
}

// odd are instructions of all kinds as no code that may be has them: registers below 0, and places, locks and numbers of any size.
var odd = []told{
	{api.Ins{Kind: api.Set, D: -3, N: -7}, "set r-3 -7", nil, -3, []int{8}},
	{api.Ins{Kind: api.Move, D: -1, A: -1}, "move r-1 r-1", nil, -1, []int{8}},
	{api.Ins{Kind: api.Move, D: 5000, A: 9000}, "move r5000 r9000", []int{9000}, 5000, []int{8}},
	{api.Ins{Kind: api.Calc, Op: 19, D: 1, A: -2, B: 3}, "calc r1 r-2 below r3", []int{3}, 1, []int{8}},
	{api.Ins{Kind: api.Calc, Op: -1, D: 1, A: 2, B: -3}, "calc r1 r2 below r-3", []int{2}, 1, []int{8}},
	{api.Ins{Kind: api.Calc, Op: math.MaxInt, D: math.MaxInt, A: math.MaxInt}, "calc r9223372036854775807 r9223372036854775807 below r0", []int{0, math.MaxInt}, math.MaxInt, []int{8}},
	{api.Ins{Kind: api.Pick, D: -1, A: 2, B: 0}, "pick r-1 r2 r0", []int{0, 2}, -1, []int{8}},
	{api.Ins{Kind: api.Pick, D: -2, A: -1, B: math.MinInt}, "pick r-2 r-1 r-9223372036854775808", nil, -2, []int{8}},
	{api.Ins{Kind: api.Load, D: 3, A: -9, N: -1}, "load r3 -1", nil, 3, []int{8}},
	{api.Ins{Kind: api.Load, D: -4, A: 300, N: math.MaxInt64}, "load r-4 9223372036854775807 r300", []int{300}, -4, []int{8}},
	{api.Ins{Kind: api.Store, A: math.MinInt, B: -1, N: -5}, "store -5 r-1", nil, -1, []int{8}},
	{api.Ins{Kind: api.Store, A: 4, B: -2, N: 70000}, "store 70000 r-2 r4", []int{4}, -1, []int{8}},
	{api.Ins{Kind: api.Jump, To: -6}, "jump -6", nil, -1, []int{-6}},
	{api.Ins{Kind: api.Jump, To: math.MaxInt}, "jump 9223372036854775807", nil, -1, []int{math.MaxInt}},
	{api.Ins{Kind: api.Zero, A: -1, To: -2}, "zero r-1 -2", nil, -1, []int{-2, 8}},
	{api.Ins{Kind: api.Zero, A: 77, To: math.MaxInt}, "zero r77 9223372036854775807", []int{77}, -1, []int{8, math.MaxInt}},
	{api.Ins{Kind: api.Take, N: -8}, "take -8", nil, -1, []int{8}},
	{api.Ins{Kind: api.Give, N: math.MinInt64}, "give -9223372036854775808", nil, -1, []int{8}},
	{api.Ins{Kind: api.Out, A: -1}, "out r-1", nil, -1, []int{8}},
	{api.Ins{Kind: api.Trap, N: 44}, "trap 44", nil, -1, nil},
	{api.Ins{Kind: -1, Op: 1, D: 1, A: 1, B: 1, N: 1, To: 1}, "", nil, -1, nil},
	{api.Ins{Kind: 14, Op: 1, D: 1, A: 1, B: 1, N: 1, To: 1}, "", nil, -1, nil},
	{api.Ins{Kind: math.MinInt, D: 1, A: 1, B: 1, To: 1}, "", nil, -1, nil},
	{api.Ins{Kind: math.MaxInt, D: 1, A: 1, B: 1, To: 1}, "", nil, -1, nil},
}

// P11.2, P11.3: each kind by hand, and odd ones.
func TestEach(t *testing.T) {
	for _, x := range append(slices.Clone(each), odd...) {
		if got := ins.Show(x.i); got != x.text {
			t.Errorf("%+v: %q, not %q", x.i, got, x.text)
		}
		if got := ins.Uses(x.i); !slices.Equal(got, x.uses) {
			t.Errorf("%+v: uses %v, not %v", x.i, got, x.uses)
		}
		if got := ins.Def(x.i); got != x.def {
			t.Errorf("%+v: writes %d, not %d", x.i, got, x.def)
		}
		if got := ins.Next(x.i, 7); !slices.Equal(got, x.next) {
			t.Errorf("%+v: goes to %v, not %v", x.i, got, x.next)
		}
	}
}

// others is an instruction with something else in each field that isn't one of its kind's own.
func others(i api.Ins, n int) api.Ins {
	own := map[int]string{api.Set: "DN", api.Move: "DA", api.Calc: "DOAB", api.Pick: "DAB", api.Load: "DAN", api.Store: "ABN", api.Jump: "T", api.Zero: "AT", api.Take: "N", api.Give: "N", api.Trap: "N", api.Out: "A"}[i.Kind]
	for _, f := range []struct {
		name  string
		field *int
	}{{"D", &i.D}, {"A", &i.A}, {"B", &i.B}, {"O", &i.Op}, {"T", &i.To}} {
		if !slices.Contains([]byte(own), f.name[0]) {
			*f.field = n
		}
	}
	if !slices.Contains([]byte(own), 'N') {
		i.N = int64(n)
	}
	return i
}

// P11.2, P11.3: what stands in a field that isn't one of a kind's own plays no part.
func TestOwnFieldsAlone(t *testing.T) {
	for _, x := range append(slices.Clone(each), odd...) {
		for _, n := range []int{1, 2, 6, -1, 77} {
			i := others(x.i, n)
			if got := ins.Show(i); got != x.text {
				t.Errorf("%+v: %q, not %q", i, got, x.text)
			}
			if uses, def, next := ins.Uses(i), ins.Def(i), ins.Next(i, 7); !slices.Equal(uses, x.uses) || def != x.def || !slices.Equal(next, x.next) {
				t.Errorf("%+v: %v, %d, %v", i, uses, def, next)
			}
		}
	}
}

// P11.2: Next from any place, whether there is such a one or not.
func TestNextFromAnywhere(t *testing.T) {
	for _, at := range []int{math.MinInt, -5, -2, -1, 0, 1, 4094, 4095, 4096, 1 << 40, math.MaxInt - 1} {
		for _, kind := range []int{api.Set, api.Move, api.Calc, api.Pick, api.Load, api.Store, api.Fence, api.Take, api.Give, api.Out} {
			if got := ins.Next(api.Ins{Kind: kind, To: 3}, at); !slices.Equal(got, []int{at + 1}) {
				t.Errorf("kind %d from %d: %v", kind, at, got)
			}
		}
		for _, to := range []int{math.MinInt, -1, 0, 3, at - 1, at, at + 1, at + 2, math.MaxInt} {
			want := []int{min(at+1, to), max(at+1, to)}
			if at+1 == to {
				want = want[:1]
			}
			if got := ins.Next(api.Ins{Kind: api.Zero, To: to}, at); !slices.Equal(got, want) {
				t.Errorf("zero to %d from %d: %v", to, at, got)
			}
			if got := ins.Next(api.Ins{Kind: api.Jump, To: to}, at); !slices.Equal(got, []int{to}) {
				t.Errorf("jump to %d from %d: %v", to, at, got)
			}
		}
		for _, kind := range []int{api.Trap, api.Halt, -1, 14} {
			if got := ins.Next(api.Ins{Kind: kind, To: 3}, at); len(got) > 0 {
				t.Errorf("kind %d from %d: %v", kind, at, got)
			}
		}
	}
}

// P11.3: Show of each operator: its sign, and a name for the one that has none.
func TestOperators(t *testing.T) {
	signs := []string{"+", "-", "*", "/", "%", "&", "|", "^", "<<", ">>", "==", "!=", "<", "<=", ">", ">=", "below", "&&", "||"}
	for op, s := range signs {
		if got, want := ins.Show(api.Ins{Kind: api.Calc, Op: op, D: 1, A: 22, B: 333}), "calc r1 r22 "+s+" r333"; got != want {
			t.Errorf("%q, not %q", got, want)
		}
	}
}

// P11.3: Text, by hand.
func TestText(t *testing.T) {
	for want, c := range map[string]api.Code{
		"":                               nil,
		"0 halt\n":                       {halt},
		"0 \n":                           {{Kind: 14}},
		"0 \n1 \n":                       {{Kind: -1}, {Kind: 99, D: 1}},
		"0 jump -5\n":                    {{Kind: api.Jump, To: -5}},
		"0 set r0 6\n1 out r0\n2 halt\n": {{Kind: api.Set, N: 6}, {Kind: api.Out}, halt},
		"0 load r2 17 r0\n1 fence\n2 zero r2 0\n3 \n4 store 3 r2\n5 trap 2\n": {{Kind: api.Load, D: 2, N: 17}, {Kind: api.Fence}, {Kind: api.Zero, A: 2}, {Kind: 20}, {Kind: api.Store, A: -1, B: 2, N: 3}, {Kind: api.Trap, N: 2}},
	} {
		if got := ins.Text(c); got != want {
			t.Errorf("%q, not %q", got, want)
		}
	}
}
