package calc

import "paling/api"

// doing is what an operator does to two numbers.
type doing func(a, b int64) int64

// Eval is what an operator comes to of two numbers; 0 of one that there isn't.
// Each family of operators has a map of its own: a call makes the one that it
// asks anew, and a small one is made far sooner than one of all operators.
func Eval(op int, a, b int64) int64 {
	switch {
	case op < api.And:
		return sum(op, a, b)
	case op < api.Eq:
		return bitwise(op, a, b)
	case op < api.Both:
		return order(op, a, b)
	}
	return both(op, a, b)
}

// sum does Add to Rem.
func sum(op int, a, b int64) int64 {
	return do(map[int]doing{
		api.Add: func(a, b int64) int64 { return a + b },
		api.Sub: func(a, b int64) int64 { return a - b },
		api.Mul: func(a, b int64) int64 { return a * b },
		api.Div: func(a, b int64) int64 { return quotient(a, b) },
		api.Rem: func(a, b int64) int64 { return a - b*quotient(a, b) },
	}, op, a, b)
}

// bitwise does And to Shr.
func bitwise(op int, a, b int64) int64 {
	return do(map[int]doing{
		api.And: func(a, b int64) int64 { return a & b },
		api.Or:  func(a, b int64) int64 { return a | b },
		api.Xor: func(a, b int64) int64 { return a ^ b },
		api.Shl: func(a, b int64) int64 { return a << places(b) },
		api.Shr: func(a, b int64) int64 { return a >> places(b) },
	}, op, a, b)
}

// order does Eq to Below.
func order(op int, a, b int64) int64 {
	return do(map[int]doing{
		api.Eq:    func(a, b int64) int64 { return truth(a == b) },
		api.Ne:    func(a, b int64) int64 { return truth(a != b) },
		api.Lt:    func(a, b int64) int64 { return truth(a < b) },
		api.Le:    func(a, b int64) int64 { return truth(a <= b) },
		api.Gt:    func(a, b int64) int64 { return truth(a > b) },
		api.Ge:    func(a, b int64) int64 { return truth(a >= b) },
		api.Below: func(a, b int64) int64 { return truth(uint64(a) < uint64(b)) },
	}, op, a, b)
}

// both does Both and Any.
func both(op int, a, b int64) int64 {
	return do(map[int]doing{
		api.Both: func(a, b int64) int64 { return truth(a != 0 && b != 0) },
		api.Any:  func(a, b int64) int64 { return truth(a != 0 || b != 0) },
	}, op, a, b)
}

// do asks a family for what an operator comes to; 0, if it has no such one.
func do(family map[int]doing, op int, a, b int64) int64 {
	what, is := family[op]
	if !is {
		return 0
	}
	return what(a, b)
}

// quotient is a through b; 0, if b is 0, so that the rest then is a.
func quotient(a, b int64) int64 {
	if b == 0 {
		return 0
	}
	return a / b
}

// places is how far a shift by n goes.
func places(n int64) uint { return uint(n & 63) }

// truth is a bool as a number.
func truth(is bool) int64 {
	if is {
		return 1
	}
	return 0
}
