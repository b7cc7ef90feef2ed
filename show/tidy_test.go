package show_test

import (
	"strconv"
	"strings"
	"testing"

	"paling/api"
	"paling/lex"
	"paling/prog"
	"paling/show"
)

// die tells numbers that hang on what it was at first.
type die uint64

// roll is the next of its numbers below another.
func (d *die) roll(below int) int {
	*d = *d*6364136223846793005 + 1442695040888963407
	return int(*d>>33) % below
}

// one is one of some texts.
func (d *die) one(all ...string) string { return all[d.roll(len(all))] }

// name is one.
func (d *die) name() string {
	return d.one("a", "b", "n_0", "If", "x9", "_", "lock_", "by1", "abcdefghijklmnopqrstuvwx")
}

// kind is a type's text.
func (d *die) kind() string { return d.one("public int", "secret int", "public bool", "secret bool") }

// value is an expression's text, as it is shown.
func (d *die) value() string {
	return d.one("a", "0", "-1", "true", "false", "f()", "f(a, -b, !(c || d))", "t[i + 1]", "t[t[0]]", "a + b * c", "(a + b) * c",
		"a - b - c", "a - (b - c)", "-(a << 2)", "!!x", "a < b && !(c == d)", "9223372036854775807", "-t[i] % (f(1) | 2)")
}

// stmt is the lines of a statement, as they are shown with some tabs.
func (d *die) stmt(tabs, deep int) string {
	ahead := strings.Repeat("\t", tabs)
	kinds := 7
	if deep == 0 {
		kinds = 4
	}
	switch d.roll(kinds) {
	case 0:
		return ahead + "var " + d.kind() + " " + d.name() + " = " + d.value() + ";\n"
	case 1:
		return ahead + d.name() + " = " + d.value() + ";\n"
	case 2:
		return ahead + d.name() + "[" + d.value() + "] = " + d.value() + ";\n"
	case 3:
		return ahead + "out " + d.value() + ";\n"
	case 4:
		text := ahead + "if (" + d.value() + ") {\n" + d.body(tabs+1, deep-1)
		if other := d.body(tabs+1, deep-1); other != "" {
			text += ahead + "} else {\n" + other
		}
		return text + ahead + "}\n"
	case 5:
		return ahead + "while (" + d.value() + ") {\n" + d.body(tabs+1, deep-1) + ahead + "}\n"
	}
	return ahead + "lock " + d.name() + " {\n" + d.body(tabs+1, deep-1) + ahead + "}\n"
}

// body is the lines of some statements, perhaps of none.
func (d *die) body(tabs, deep int) string {
	text := ""
	for range d.roll(4) {
		text += d.stmt(tabs, deep)
	}
	return text
}

// global is the line of one.
func (d *die) global() string {
	text := d.kind() + " " + d.name()
	if d.roll(2) == 0 {
		text += "[" + strconv.Itoa(d.roll(64)+1) + "]"
	}
	if d.roll(2) == 0 {
		text += " by " + d.name()
	}
	return text + ";\n"
}

// function is the lines of one.
func (d *die) function() string {
	var params []string
	for range d.roll(7) {
		params = append(params, d.kind()+" "+d.name())
	}
	return "func " + d.name() + "(" + strings.Join(params, ", ") + ") " + d.kind() + " {\n" + d.body(1, 3) + "\treturn " + d.value() + ";\n}\n"
}

// things are a program's, kind by kind, as they are shown, and in their order.
func (d *die) things() [4][]string {
	var l [4][]string
	for range d.roll(4) {
		l[0] = append(l[0], "lock "+d.name()+";\n")
	}
	for range d.roll(5) {
		l[1] = append(l[1], d.global())
	}
	for range d.roll(4) {
		l[2] = append(l[2], d.function())
	}
	for range d.roll(5) {
		l[3] = append(l[3], "thread {\n"+d.body(1, 4)+"}\n")
	}
	return l
}

// mixed are things in an order in which those of each kind keep theirs.
func (d *die) mixed(l [4][]string) []string {
	var all []string
	for len(l[0])+len(l[1])+len(l[2])+len(l[3]) > 0 {
		if i := d.roll(4); len(l[i]) > 0 {
			all = append(all, l[i][0])
			l[i] = l[i][1:]
		}
	}
	return all
}

// untidy is a tidy text as someone might write it: with other blanks, with notes, with brackets that aren't needed, and with an Else without statements here and there.
func (d *die) untidy(t *testing.T, text string) string {
	words, bad, at := lex.Words(text)
	if bad != api.OK {
		t.Fatal(text, bad, at)
	}
	var out strings.Builder
	var open []string // what each block that is open belongs to
	first, closing := "", false
	for i, w := range words[:len(words)-1] {
		if closing && w.Text == ";" {
			out.WriteString(")")
			closing = false
		}
		d.gap(&out, w.Text)
		out.WriteString(w.Text)
		if first == "" {
			first = w.Text
		}
		switch w.Text {
		case "{":
			open, first = append(open, first), ""
		case ";":
			first = ""
		case "}":
			if last := open[len(open)-1]; last == "if" && words[i+1].Text != "else" && d.roll(2) == 0 {
				out.WriteString("else{ }")
			}
			open, first = open[:len(open)-1], ""
		case "=", "out", "return":
			if d.roll(2) == 0 {
				out.WriteString("(")
				closing = true
			}
		}
	}
	return out.String()
}

// gap writes what may stand ahead of a word: nothing, where a bracket keeps it apart.
func (d *die) gap(out *strings.Builder, word string) {
	sofar := out.String()
	apart := sofar == "" || strings.ContainsAny(word[:1]+sofar[len(sofar)-1:], "()[]{};,")
	if !apart || d.roll(3) == 0 {
		out.WriteString(d.one(" ", " ", "\n", "\t", "\r\n", "  ", "// if (a) {\n", "//\n"))
	}
}

// P5.1 to P5.3: a program that was written otherwise is shown as it should be; what is shown is the same program, and is shown as itself.
func TestTidy(t *testing.T) {
	for seed := range 1500 {
		d := die(seed)
		l := d.things()
		tidy := ""
		for _, kind := range l {
			tidy += strings.Join(kind, "")
		}
		text := ""
		for _, thing := range d.mixed(l) {
			text += d.untidy(t, thing) + " "
		}
		if len(text) > api.MaxText || len(tidy) > api.MaxText {
			continue
		}
		p, bad, at := prog.Parse(text)
		if bad != api.OK {
			t.Fatalf("seed %d: %v at %d of\n%s", seed, bad, at, text)
		}
		got := show.Program(p)
		if got != tidy {
			t.Fatalf("seed %d: shown as\n%s\nnot as\n%s", seed, got, tidy)
		}
		q, bad, at := prog.Parse(got)
		if bad != api.OK || !prog.Same(p, q) || show.Program(q) != got {
			t.Fatalf("seed %d: %v at %d: not the same as what is shown:\n%s", seed, bad, at, got)
		}
	}
}

// P5.3: what is as long as a text may be is parsed again; one byte more is too long, though what it was shown of was not.
func TestLongest(t *testing.T) {
	const around = len("thread {\n}\n")
	rows := (api.MaxText - around - 40) / len("\tout a;\n")
	body := strings.Repeat("out a;", rows)
	rest := api.MaxText - around - rows*len("\tout a;\n") - len("\tout ;\n")
	for more, want := range map[int]api.Errno{0: api.OK, 1: api.ErrLimit} {
		last := strings.Repeat("-", rest+more-24) + strings.Repeat("a", 24) // a name as long as may be
		p, bad, at := prog.Parse("thread{" + body + "out " + last + ";}")
		if bad != api.OK {
			t.Fatal(bad, at)
		}
		got := show.Program(p)
		if len(got) != api.MaxText+more {
			t.Fatalf("%d bytes are shown with %d more", len(got), more)
		}
		q, bad, _ := prog.Parse(got)
		if bad != want || bad == api.OK && !prog.Same(p, q) {
			t.Errorf("with %d bytes more: %v", more, bad)
		}
	}
}
