package calc_test

import (
	"math"
	"math/big"
	"strings"
	"testing"

	"paling/api"
	"paling/calc"
)

// rows are the operators as P1.2 tells them, from Add on.
var rows = []struct {
	op    int
	sign  string
	rank  int
	truth bool
}{
	{api.Add, "+", 9, false}, {api.Sub, "-", 9, false}, {api.Mul, "*", 10, false}, {api.Div, "/", 10, false}, {api.Rem, "%", 10, false},
	{api.And, "&", 5, false}, {api.Or, "|", 3, false}, {api.Xor, "^", 4, false}, {api.Shl, "<<", 8, false}, {api.Shr, ">>", 8, false},
	{api.Eq, "==", 6, true}, {api.Ne, "!=", 6, true}, {api.Lt, "<", 7, true}, {api.Le, "<=", 7, true}, {api.Gt, ">", 7, true}, {api.Ge, ">=", 7, true},
	{api.Below, "", 0, true}, {api.Both, "&&", 2, true}, {api.Any, "||", 1, true},
}

// P1.2: Sign, Rank and Truth of each operator; P1.4: Op of its sign is the operator.
func TestOperators(t *testing.T) {
	for n, r := range rows {
		if r.op != n {
			t.Errorf("row %d is of operator %d", n, r.op)
		}
		if calc.Sign(r.op) != r.sign || calc.Rank(r.op) != r.rank || calc.Truth(r.op) != r.truth {
			t.Errorf("operator %d: %q, %d, %v", r.op, calc.Sign(r.op), calc.Rank(r.op), calc.Truth(r.op))
		}
		if r.sign != "" && calc.Op(r.sign) != r.op {
			t.Errorf("Op(%q) = %d", r.sign, calc.Op(r.sign))
		}
	}
}

// P1.2: numbers that are no operator have no sign, no rank, and come to no truth.
func TestNoOperator(t *testing.T) {
	for _, op := range []int{math.MinInt, -19, -1, 19, 20, 64, math.MaxInt} {
		if calc.Sign(op) != "" || calc.Rank(op) != 0 || calc.Truth(op) {
			t.Errorf("%d: %q, %d, %v", op, calc.Sign(op), calc.Rank(op), calc.Truth(op))
		}
	}
}

// P1.2: texts that are no operator's sign: all others of two signs, and a few more.
func TestNoSign(t *testing.T) {
	signed := map[string]int{}
	for _, r := range rows {
		if r.sign != "" {
			signed[r.sign] = r.op
		}
	}
	const signs = "+-*/%&|^<>!=()[]{};, a1"
	wrong := []string{"", "!", "<<<", "+ ", " +", "&&&", "add", "\x00", "\xff", "＋"}
	for _, a := range signs {
		wrong = append(wrong, string(a))
		for _, b := range signs {
			wrong = append(wrong, string(a)+string(b))
		}
	}
	for _, s := range wrong {
		want := -1
		if op, is := signed[s]; is {
			want = op
		}
		if got := calc.Op(s); got != want {
			t.Errorf("Op(%q) = %d, not %d", s, got, want)
		}
	}
}

// P1.3: Digits of any number; Number takes them back, unless it is below 0.
func TestDigitsAndNumber(t *testing.T) {
	for _, n := range numbers() {
		s := calc.Digits(n)
		if s != big.NewInt(n).String() {
			t.Errorf("Digits(%d) = %q", n, s)
		}
		want := max(n, 0)
		if got, is := calc.Number(s); got != want || is != (n >= 0) {
			t.Errorf("Number(%q) = %d, %v", s, got, is)
		}
	}
	for n, want := range map[int64]string{0: "0", 7: "7", -7: "-7", math.MaxInt64: "9223372036854775807", math.MinInt64: "-9223372036854775808"} {
		if got := calc.Digits(n); got != want {
			t.Errorf("Digits(%d) = %q", n, got)
		}
	}
}

// P1.3: texts that are no number's Digits, or those of one that is none of 64 bits, or below 0.
func TestNoNumber(t *testing.T) {
	for _, s := range []string{
		"", "-", "+", " ", "-0", "-1", "-9223372036854775808", "+0", "+1", "00", "01", "007", "0000000000000000001", " 1", "1 ", "1\n", "1.0", "1e3",
		"0x1", "0b1", "0o1", "1_000", "_1", "1a", "a", "١", "１", "1\x00", "\xff", "true",
		"9223372036854775808", "9223372036854775810", "9999999999999999999", "10000000000000000000", "18446744073709551616", "18446744073709551617",
		strings.Repeat("0", 100), strings.Repeat("1", 1<<20), "1" + strings.Repeat("0", 64),
	} {
		if n, is := calc.Number(s); n != 0 || is {
			t.Errorf("Number(%.30q) = %d, %v", s, n, is)
		}
	}
	if n, is := calc.Number("9223372036854775807"); n != math.MaxInt64 || !is {
		t.Errorf("the greatest one: %d, %v", n, is)
	}
}
