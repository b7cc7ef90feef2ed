package sample

import "paling/api"

// Set is an instruction that writes a number.
func Set(d int, n int64) api.Ins { return api.Ins{Kind: api.Set, D: d, N: n} }

// Move is one that writes what another register has.
func Move(d, a int) api.Ins { return api.Ins{Kind: api.Move, D: d, A: a} }

// Calc is one that writes what an operator comes to.
func Calc(d, a, op, b int) api.Ins { return api.Ins{Kind: api.Calc, D: d, Op: op, A: a, B: b} }

// Pick is one that writes what B has, if A isn't 0.
func Pick(d, a, b int) api.Ins { return api.Ins{Kind: api.Pick, D: d, A: a, B: b} }

// Load is one that writes what stands in a word.
func Load(d int) api.Ins { return api.Ins{Kind: api.Load, D: d, A: -1} }

// Jump is one that goes to a place.
func Jump(to int) api.Ins { return api.Ins{Kind: api.Jump, To: to} }

// Zero is one that goes on, or to a place.
func Zero(a, to int) api.Ins { return api.Ins{Kind: api.Zero, A: a, To: to} }

// Out is one that reads a register.
func Out(a int) api.Ins { return api.Ins{Kind: api.Out, A: a} }

// Halt is one that ends.
func Halt() api.Ins { return api.Ins{Kind: api.Halt} }
