// Package calc is layer 1: numbers of 64 bits.
package calc

import (
	"strconv"

	"paling/api"
)

// longest is how many digits the greatest number has.
const longest = 19

// written is how an operator stands in a program: its sign, and how strongly that binds.
type written struct {
	sign string
	rank int
}

// signs has a row for each operator. Below's is empty, as no program can ask for it.
var signs = [api.Any + 1]written{
	api.Add:  {"+", 9},
	api.Sub:  {"-", 9},
	api.Mul:  {"*", 10},
	api.Div:  {"/", 10},
	api.Rem:  {"%", 10},
	api.And:  {"&", 5},
	api.Or:   {"|", 3},
	api.Xor:  {"^", 4},
	api.Shl:  {"<<", 8},
	api.Shr:  {">>", 8},
	api.Eq:   {"==", 6},
	api.Ne:   {"!=", 6},
	api.Lt:   {"<", 7},
	api.Le:   {"<=", 7},
	api.Gt:   {">", 7},
	api.Ge:   {">=", 7},
	api.Both: {"&&", 2},
	api.Any:  {"||", 1},
}

// Sign is how an operator is written; empty: it isn't.
func Sign(op int) string {
	if !known(op) {
		return ""
	}
	return signs[op].sign
}

// Op is the operator of a sign; below 0: there is none.
func Op(sign string) int {
	if sign == "" { // else it would find the row of the operator that has no sign
		return -1
	}
	for op := range api.Any + 1 {
		if signs[op].sign == sign {
			return op
		}
	}
	return -1
}

// Rank is how strongly an operator binds, from 1 on; 0: it isn't written.
func Rank(op int) int {
	if !known(op) {
		return 0
	}
	return signs[op].rank
}

// Truth tells whether an operator comes to a truth.
func Truth(op int) bool { return api.Eq <= op && op <= api.Any }

// known tells whether there is such an operator.
func known(op int) bool { return api.Add <= op && op <= api.Any }

// Number is the number of digits; false: they are none.
func Number(s string) (int64, bool) {
	if len(s) > longest { // a text of any length is answered at once
		return 0, false
	}
	n, err := strconv.ParseInt(s, 10, 64)
	if err != nil || n < 0 || Digits(n) != s { // Digits tells a plus and noughts ahead, which ParseInt takes
		return 0, false
	}
	return n, true
}

// Digits is a number in digits.
func Digits(n int64) string { return strconv.FormatInt(n, 10) }
