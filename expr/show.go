package expr

import (
	"strings"

	"paling/api"
	"paling/calc"
)

// show writes an expression's text.
func show(b *strings.Builder, e api.Expr) {
	switch e.Kind {
	case api.Num:
		b.WriteString(calc.Digits(e.N))
	case api.Truth:
		b.WriteString(truth(e.N))
	case api.Var:
		b.WriteString(e.Name)
	case api.Elem:
		row(b, e, "[", "]")
	case api.Call:
		row(b, e, "(", ")")
	case api.Neg, api.Not:
		one(b, e)
	case api.Two:
		two(b, e)
	}
}

// truth is a truth's text.
func truth(n int64) string {
	if n == 0 {
		return "false"
	}
	return "true"
}

// row writes a name, and its kids in brackets.
func row(b *strings.Builder, e api.Expr, opening, closing string) {
	b.WriteString(e.Name + opening)
	for i, kid := range e.Kids {
		if i > 0 {
			b.WriteString(", ")
		}
		show(b, kid)
	}
	b.WriteString(closing)
}

// one writes a sign and its kid.
func one(b *strings.Builder, e api.Expr) {
	if e.Kind == api.Neg {
		b.WriteString("-")
	} else {
		b.WriteString("!")
	}
	for _, kid := range e.Kids {
		part(b, kid, kid.Kind == api.Two)
	}
}

// two writes an operator between its kids.
func two(b *strings.Builder, e api.Expr) {
	rank := calc.Rank(e.Op)
	for i, kid := range e.Kids {
		within := calc.Rank(kid.Op)
		if i == 0 {
			part(b, kid, kid.Kind == api.Two && within < rank)
			continue
		}
		b.WriteString(" " + calc.Sign(e.Op) + " ")
		part(b, kid, kid.Kind == api.Two && within <= rank)
	}
}

// part writes a kid, in brackets if it needs them.
func part(b *strings.Builder, kid api.Expr, brackets bool) {
	if brackets {
		b.WriteString("(")
	}
	show(b, kid)
	if brackets {
		b.WriteString(")")
	}
}
