package prog_test

import (
	"strconv"
	"strings"

	"paling/api"
	"paling/expr"
)

// writer writes a program's text, and what that is meant to come to. What it writes hangs on its seed alone.
type writer struct {
	n       uint64
	b       strings.Builder
	open    int
	stmts   int // how many are written
	program api.Program
}

// write is one that has written; large: as many things as there may be.
func write(seed int, large bool) *writer {
	w := &writer{n: uint64(seed)*2 + 1}
	most := func(limit int) int {
		if large {
			return limit
		}
		return w.roll(limit + 1)
	}
	left := []int{most(8), most(6), most(5), most(4)}
	if large {
		left = []int{32, 8, 16, 4}
	}
	things := []func(){w.global, w.lock, w.function, w.thread}
	for left[0]+left[1]+left[2]+left[3] > 0 {
		if i := w.roll(4); left[i] > 0 {
			left[i]--
			things[i]()
		}
	}
	w.gap()
	return w
}

// text is what was written.
func (w *writer) text() string { return w.b.String() }

// roll is the next of its numbers below another.
func (w *writer) roll(below int) int {
	w.n = w.n*6364136223846793005 + 1442695040888963407
	return int(w.n>>33) % below
}

// one is one of the words of a text.
func (w *writer) one(text string) string {
	l := strings.Fields(text)
	return l[w.roll(len(l))]
}

// gap writes blanks, or a note.
func (w *writer) gap() {
	w.b.WriteString([]string{" ", " ", "\n", "\t", "\r\n", "  ", "// if (a) {\n", "//\n"}[w.roll(8)])
}

// put writes a text, and tells where it begins.
func (w *writer) put(text string) int {
	sofar := w.b.String()
	if sofar != "" && (sign(sofar[len(sofar)-1]) || sign(text[0])) && w.roll(3) > 0 {
		at := len(sofar) // no gap is needed
		w.b.WriteString(text)
		return at
	}
	w.gap()
	at := w.b.Len()
	w.b.WriteString(text)
	return at
}

// sign tells whether a byte is one of our signs that belong to no longer one.
func sign(c byte) bool { return strings.IndexByte("()[]{};,", c) >= 0 }

// puts writes words.
func (w *writer) puts(text string) {
	for _, word := range strings.Fields(text) {
		w.put(word)
	}
}

// kind writes a type.
func (w *writer) kind() api.Type {
	t := api.Type{Secret: w.roll(2) == 0, Truth: w.roll(2) == 0}
	if t.Secret {
		w.put("secret")
	} else {
		w.put("public")
	}
	if t.Truth {
		w.put("bool")
	} else {
		w.put("int")
	}
	return t
}

// name writes one, and tells where.
func (w *writer) name() (string, int) {
	s := w.one("a b n_0 If Public x9 _ lock_ thread1 abcdefghijklmnopqrstuvwx")
	return s, w.put(s)
}

// value writes an expression.
func (w *writer) value() []api.Expr {
	text := w.expression(w.roll(6) + 1)
	e, bad, _ := expr.Of(text)
	if bad != api.OK {
		panic(text)
	}
	shift(&e, w.put(text))
	return []api.Expr{e}
}

// expression is the text of one of some size.
func (w *writer) expression(size int) string {
	if size <= 1 {
		return w.one("a b n_0 0 7 9223372036854775807 true false f()")
	}
	part := w.roll(size-1) + 1
	switch w.roll(6) {
	case 0:
		return "-" + w.expression(size-1)
	case 1:
		return "( ! " + w.expression(size-1) + ")"
	case 2:
		return "t[" + w.expression(size-1) + " ]"
	case 3:
		return "f (" + w.expression(part) + "," + w.expression(size-part) + ")"
	}
	return w.expression(part) + " " + w.one("+ * & << == >= && ||") + " " + w.expression(size-part)
}

// global writes one.
func (w *writer) global() {
	g := api.Global{Type: w.kind()}
	g.Name, g.At = w.name()
	if w.roll(2) == 0 {
		g.Len = w.roll(64) + 1
		w.puts("[ " + strconv.Itoa(g.Len) + " ]")
	}
	if w.roll(2) == 0 {
		w.put("by")
		g.By, _ = w.name()
	}
	w.put(";")
	w.program.Globals = append(w.program.Globals, g)
}

// lock writes one.
func (w *writer) lock() {
	w.put("lock")
	var l api.Lock
	l.Name, l.At = w.name()
	w.put(";")
	w.program.Locks = append(w.program.Locks, l)
}

// function writes one.
func (w *writer) function() {
	w.put("func")
	var f api.Func
	f.Name, f.At = w.name()
	w.put("(")
	for i := range w.roll(7) {
		if i > 0 {
			w.put(",")
		}
		p := api.Param{Type: w.kind()}
		p.Name, _ = w.name()
		f.Params = append(f.Params, p)
	}
	w.put(")")
	f.Type = w.kind()
	w.put("{")
	f.Body = w.row(2)
	w.put("return")
	f.Ret = w.value()[0]
	w.puts("; }")
	w.program.Funcs = append(w.program.Funcs, f)
}

// thread writes one.
func (w *writer) thread() {
	w.put("thread")
	w.program.Threads = append(w.program.Threads, w.block(3))
}

// block writes statements in brackets.
func (w *writer) block(deep int) []api.Stmt {
	w.put("{")
	l := w.row(deep)
	w.put("}")
	return l
}

// row writes statements, with others within up to some depth.
func (w *writer) row(deep int) []api.Stmt {
	var l []api.Stmt
	for range w.roll(4) {
		l = append(l, w.stmt(w.roll(6), deep))
		w.stmts++
	}
	return l
}

// stmt writes a statement of a kind, unless that needs more depth than there is.
func (w *writer) stmt(kind, deep int) api.Stmt {
	if deep == 0 {
		kind = []int{api.Let, api.Assign, api.Put}[kind%3]
	}
	s := api.Stmt{Kind: kind}
	switch kind {
	case api.Let:
		s.At = w.put("var")
		s.Type = w.kind()
		s.Name, _ = w.name()
		w.put("=")
		s.E = w.value()
		w.put(";")
	case api.Assign:
		s.Name, s.At = w.name()
		if w.roll(2) == 0 {
			w.put("[")
			s.Index = w.value()
			w.put("]")
		}
		w.put("=")
		s.E = w.value()
		w.put(";")
	case api.Put:
		s.At = w.put("out")
		s.E = w.value()
		w.put(";")
	default:
		w.around(&s, deep)
	}
	return s
}

// around writes a statement that others are within.
func (w *writer) around(s *api.Stmt, deep int) {
	switch s.Kind {
	case api.If:
		s.At = w.put("if")
	case api.While:
		s.At = w.put("while")
	case api.Hold:
		s.At = w.put("lock")
		s.Name, _ = w.name()
	}
	if s.Kind != api.Hold {
		w.put("(")
		s.E = w.value()
		w.put(")")
	}
	s.Body = w.block(deep - 1)
	if s.Kind == api.If && w.roll(2) == 0 {
		w.put("else")
		s.Else = w.block(deep - 1)
	}
}
