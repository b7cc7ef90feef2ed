package ins

import (
	"strings"

	"paling/api"
	"paling/calc"
)

// Show is an instruction's text.
func Show(i api.Ins) string {
	if !known(i.Kind) {
		return ""
	}
	text := kinds[i.Kind].name
	for _, p := range kinds[i.Kind].parts {
		if t := told(i, p); t != "" {
			text += " " + t
		}
	}
	return text
}

// Text is a code's, a line each.
func Text(c api.Code) string {
	var b strings.Builder
	for at, i := range c {
		b.WriteString(digits(at))
		b.WriteByte(' ')
		b.WriteString(Show(i))
		b.WriteByte('\n')
	}
	return b.String()
}

// told is a part's text; empty: there is nothing to tell.
func told(i api.Ins, p part) string {
	switch p {
	case regD:
		return register(i.D)
	case regA:
		return register(i.A)
	case someA:
		if i.A < 0 {
			return ""
		}
		return register(i.A)
	case regB:
		return register(i.B)
	case sign:
		return operator(i.Op)
	case number, word, lock, why:
		return calc.Digits(i.N)
	case place:
		return digits(i.To)
	}
	return ""
}

// register is a register's text.
func register(n int) string { return "r" + digits(n) }

// operator is an operator's text: one that programs can't write has a name in place of a sign.
func operator(op int) string {
	if s := calc.Sign(op); s != "" {
		return s
	}
	return "below"
}

// digits is a place's, or a register's, number in digits.
func digits(n int) string { return calc.Digits(int64(n)) }
