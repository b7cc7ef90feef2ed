package show

import (
	"strings"

	"paling/api"
	"paling/expr"
)

// writer is a text that grows by lines.
type writer struct {
	strings.Builder
	tabs int // ahead of the next line
}

// line writes one, of parts. Its tabs are counted, not repeated, as there may be fewer than none.
func (w *writer) line(parts ...string) {
	for range w.tabs {
		w.WriteByte('\t')
	}
	for _, part := range parts {
		w.WriteString(part)
	}
	w.WriteByte('\n')
}

// function writes one.
func (w *writer) function(f api.Func) {
	w.line("func ", f.Name, "(", params(f.Params), ") ", Type(f.Type), " {")
	w.within(f.Body)
	w.tabs++
	w.line("return ", expr.Show(f.Ret), ";")
	w.tabs--
	w.line("}")
}

// stmts writes statements.
func (w *writer) stmts(l []api.Stmt) {
	for _, s := range l {
		w.stmt(s)
	}
}

// stmt writes one.
func (w *writer) stmt(s api.Stmt) {
	switch s.Kind {
	case api.Let:
		w.line("var ", Type(s.Type), " ", s.Name, " = ", only(s.E), ";")
	case api.Assign:
		w.line(s.Name, index(s.Index), " = ", only(s.E), ";")
	case api.If:
		w.branch(s)
	case api.While:
		w.block(s.Body, "while (", only(s.E), ") {")
	case api.Hold:
		w.block(s.Body, "lock ", s.Name, " {")
	case api.Put:
		w.line("out ", only(s.E), ";")
	}
}

// branch writes a statement that goes one way or the other.
func (w *writer) branch(s api.Stmt) {
	w.line("if (", only(s.E), ") {")
	w.within(s.Body)
	if len(s.Else) > 0 {
		w.line("} else {")
		w.within(s.Else)
	}
	w.line("}")
}

// block writes a block: the line that opens it, of parts, what is within, and the line that closes it.
func (w *writer) block(body []api.Stmt, parts ...string) {
	w.line(parts...)
	w.within(body)
	w.line("}")
}

// within writes the statements of a block.
func (w *writer) within(l []api.Stmt) {
	w.tabs++
	w.stmts(l)
	w.tabs--
}
