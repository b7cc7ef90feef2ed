package names

import (
	"strings"

	"paling/api"
)

// copies is a row of each one's copy. None stays none, so that what is told is just what was given.
func copies[T any](l []T, one func(T) T) []T {
	if l == nil {
		return nil
	}
	c := make([]T, len(l))
	for i, x := range l {
		c[i] = one(x)
	}
	return c
}

// copyGlobal is a global that shares nothing with one.
func copyGlobal(g api.Global) api.Global {
	g.Name = strings.Clone(g.Name)
	g.By = strings.Clone(g.By)
	return g
}

// copyFunc is a function that shares nothing with one.
func copyFunc(f api.Func) api.Func {
	f.Name = strings.Clone(f.Name)
	f.Params = copies(f.Params, copyParam)
	f.Body = copies(f.Body, copyStmt)
	f.Ret = copyExpr(f.Ret)
	return f
}

// copyParam is a param that shares nothing with one.
func copyParam(p api.Param) api.Param {
	p.Name = strings.Clone(p.Name)
	return p
}

// copyStmt is a statement that shares nothing with one.
func copyStmt(s api.Stmt) api.Stmt {
	s.Name = strings.Clone(s.Name)
	s.Index = copies(s.Index, copyExpr)
	s.E = copies(s.E, copyExpr)
	s.Body = copies(s.Body, copyStmt)
	s.Else = copies(s.Else, copyStmt)
	return s
}

// copyExpr is an expression that shares nothing with one.
func copyExpr(e api.Expr) api.Expr {
	e.Name = strings.Clone(e.Name)
	e.Kids = copies(e.Kids, copyExpr)
	return e
}
