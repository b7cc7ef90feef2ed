package calc_test

import (
	"math"
	"math/big"
	"slices"
	"testing"

	"paling/api"
	"paling/calc"
)

// numbers are those at whose edges operators do something of their own.
func numbers() []int64 {
	l := []int64{0, 5, 6, 7, 10, 12, 31, 32, 33, 100, 1000003, 0x5555555555555555, 0x0123456789abcdef, 3037000499, 3037000500}
	for _, p := range []uint{0, 1, 2, 5, 6, 7, 8, 31, 32, 61, 62} {
		l = append(l, 1<<p-1, 1<<p, 1<<p+1)
	}
	for _, n := range slices.Clone(l) {
		l = append(l, -n, math.MinInt64+n, math.MaxInt64-n)
	}
	slices.Sort(l)
	return slices.Compact(l)
}

// wrapped is a number of any size, wrapped by adding or taking 2^64.
func wrapped(n *big.Int) int64 {
	all := new(big.Int).Lsh(big.NewInt(1), 64)
	n = new(big.Int).Mod(n, all)
	if n.Cmp(big.NewInt(math.MaxInt64)) > 0 {
		n.Sub(n, all)
	}
	return n.Int64()
}

// unsigned is a number to which 2^64 is added, if it is below 0.
func unsigned(n int64) *big.Int {
	b := big.NewInt(n)
	if n < 0 {
		b.Add(b, new(big.Int).Lsh(big.NewInt(1), 64))
	}
	return b
}

func one(is bool) *big.Int {
	if is {
		return big.NewInt(1)
	}
	return big.NewInt(0)
}

// meant is what P1.1 says of an operator, told with numbers of any size.
func meant(op int, a, b int64) int64 {
	x, y, z := big.NewInt(a), big.NewInt(b), new(big.Int)
	times := new(big.Int).Exp(big.NewInt(2), new(big.Int).Mod(y, big.NewInt(64)), nil)
	switch op {
	case api.Add:
		z.Add(x, y)
	case api.Sub:
		z.Sub(x, y)
	case api.Mul:
		z.Mul(x, y)
	case api.Div:
		if b != 0 {
			z.Quo(x, y)
		}
	case api.Rem:
		z.Set(x)
		if b != 0 {
			z.Rem(x, y)
		}
	case api.And:
		z.And(x, y)
	case api.Or:
		z.Or(x, y)
	case api.Xor:
		z.Xor(x, y)
	case api.Shl:
		z.Mul(x, times)
	case api.Shr:
		z.Div(x, times) // of a divisor above 0 it rounds down
	case api.Eq:
		z = one(x.Cmp(y) == 0)
	case api.Ne:
		z = one(x.Cmp(y) != 0)
	case api.Lt:
		z = one(x.Cmp(y) < 0)
	case api.Le:
		z = one(x.Cmp(y) <= 0)
	case api.Gt:
		z = one(x.Cmp(y) > 0)
	case api.Ge:
		z = one(x.Cmp(y) >= 0)
	case api.Below:
		z = one(unsigned(a).Cmp(unsigned(b)) < 0)
	case api.Both:
		z = one(a != 0 && b != 0)
	case api.Any:
		z = one(a != 0 || b != 0)
	}
	return wrapped(z)
}

// P1.1: every operator, and numbers that are none, of all pairs of numbers at edges.
func TestEvalIsWhatIsMeant(t *testing.T) {
	l := numbers()
	for op := -2; op <= api.Any+2; op++ {
		for _, a := range l {
			for _, b := range l {
				if got, want := calc.Eval(op, a, b), meant(op, a, b); got != want {
					t.Fatalf("Eval(%d, %d, %d) = %d, not %d", op, a, b, got, want)
				}
			}
		}
	}
}

// P1.1: what the chapter itself tells, written out.
func TestEvalByHand(t *testing.T) {
	const low, high = math.MinInt64, math.MaxInt64
	for _, c := range []struct {
		op         int
		a, b, want int64
	}{
		{api.Add, high, high, -2}, {api.Add, low, low, 0}, {api.Sub, 0, low, low}, {api.Mul, low, -1, low}, {api.Mul, 1 << 32, 1 << 32, 0},
		{api.Div, low, -1, low}, {api.Div, 7, 0, 0}, {api.Div, low, 0, 0}, {api.Div, 7, -2, -3}, {api.Div, -7, -2, 3}, {api.Div, 0, 5, 0},
		{api.Rem, 7, 0, 7}, {api.Rem, low, 0, low}, {api.Rem, low, -1, 0}, {api.Rem, -7, 2, -1}, {api.Rem, 7, -2, 1}, {api.Rem, -7, -2, -1},
		{api.And, -1, 9, 9}, {api.Or, low, 1, low + 1}, {api.Xor, -1, 5, -6},
		{api.Shl, 1, 0, 1}, {api.Shl, 1, 63, low}, {api.Shl, 1, 64, 1}, {api.Shl, 1, -64, 1}, {api.Shl, 1, -63, 2}, {api.Shl, 3, high, low}, {api.Shl, 5, low, 5},
		{api.Shr, -1, 1, -1}, {api.Shr, -5, 1, -3}, {api.Shr, low, 63, -1}, {api.Shr, high, 63, 0}, {api.Shr, -8, 65, -4}, {api.Shr, 9, -64, 9},
		{api.Below, 5, -1, 1}, {api.Below, -1, 5, 0}, {api.Below, low, high, 0}, {api.Below, high, low, 1}, {api.Below, -2, -1, 1}, {api.Below, 3, 3, 0},
		{api.Lt, low, high, 1}, {api.Ge, low, high, 0}, {api.Both, 1, 2, 1}, {api.Both, -1, 0, 0}, {api.Any, 1, -1, 1}, {api.Any, 0, 0, 0},
		{math.MinInt, 1, 1, 0}, {math.MaxInt, 1, 1, 0}, {-1, 1, 1, 0}, {19, 1, 1, 0},
	} {
		if got := calc.Eval(c.op, c.a, c.b); got != c.want {
			t.Errorf("Eval(%d, %d, %d) = %d, not %d", c.op, c.a, c.b, got, c.want)
		}
	}
}

// P1.4: what is divided is the quotient times the divisor, and the rest.
func TestQuotientAndRest(t *testing.T) {
	for _, a := range numbers() {
		for _, b := range numbers() {
			back := calc.Eval(api.Add, calc.Eval(api.Mul, calc.Eval(api.Div, a, b), b), calc.Eval(api.Rem, a, b))
			if back != a {
				t.Fatalf("%d through %d: back comes %d", a, b, back)
			}
		}
	}
}
