package prog

import (
	"paling/api"
	"paling/expr"
	"paling/lex"
)

// anyName is what all names are looked for by, as they are read alike; with its space it is no word's text.
const anyName = "a name"

// reader reads a program from words. Once something is wrong, nothing but the end is left to be read: so each part goes on as if all were well, and only the first thing that is wrong is told.
type reader struct {
	words   []lex.Word // up to an End, which is never read
	next    int        // the word that is to be read
	open    int        // how many blocks are
	things  map[string]func()
	stmts   map[string]func() api.Stmt
	program api.Program
	bad     api.Errno // what is wrong, and where
	at      int
}

// newReader is one of words.
func newReader(words []lex.Word) *reader {
	r := &reader{words: words}
	r.things = map[string]func(){
		"public": r.global,
		"secret": r.global,
		"lock":   r.lock,
		"func":   r.function,
		"thread": r.thread,
	}
	r.stmts = map[string]func() api.Stmt{
		"var":   r.let,
		anyName: r.assign,
		"if":    r.branch,
		"while": r.while,
		"lock":  r.hold,
		"out":   r.put,
	}
	return r
}

// begin is what the thing or the statement that a word begins is looked for by; empty: it begins none.
func begin(w lex.Word) string {
	switch {
	case w.Kind != lex.Name:
		return ""
	case lex.Key(w.Text):
		return w.Text
	}
	return anyName
}

// whole reads all things up to the end.
func (r *reader) whole() {
	for {
		read, is := r.things[begin(r.word())]
		if !is {
			break
		}
		read()
	}
	if r.word().Kind != lex.End {
		r.fail(api.ErrSyntax)
	}
}

// global reads one.
func (r *reader) global() {
	r.room(len(r.program.Globals), api.MaxGlobals)
	var g api.Global
	g.Type = r.kind()
	g.At = r.word().At
	g.Name = r.name()
	if r.take("[") {
		g.Len = r.length()
		r.need("]")
	}
	if r.take("by") {
		g.By = r.name()
	}
	r.need(";")
	r.program.Globals = append(r.program.Globals, g)
}

// lock reads one.
func (r *reader) lock() {
	r.room(len(r.program.Locks), api.MaxLocks)
	r.need("lock")
	var l api.Lock
	l.At = r.word().At
	l.Name = r.name()
	r.need(";")
	r.program.Locks = append(r.program.Locks, l)
}

// function reads one.
func (r *reader) function() {
	r.room(len(r.program.Funcs), api.MaxFuncs)
	r.need("func")
	var f api.Func
	f.At = r.word().At
	f.Name = r.name()
	f.Params = r.params()
	f.Type = r.kind()
	r.enter()
	f.Body = r.row()
	f.Ret = r.between("return", ";")
	r.leave()
	r.program.Funcs = append(r.program.Funcs, f)
}

// thread reads one.
func (r *reader) thread() {
	r.room(len(r.program.Threads), api.MaxThreads)
	r.need("thread")
	body := r.block()
	r.program.Threads = append(r.program.Threads, body)
}

// params reads a function's, in their brackets.
func (r *reader) params() []api.Param {
	r.need("(")
	if r.take(")") {
		return nil
	}
	var l []api.Param
	for more := true; more; more = r.take(",") {
		r.room(len(l), api.MaxParams)
		l = append(l, r.param())
	}
	r.need(")")
	return l
}

// param reads one.
func (r *reader) param() api.Param {
	var p api.Param
	p.Type = r.kind()
	p.Name = r.name()
	return p
}

// block reads statements in their brackets.
func (r *reader) block() []api.Stmt {
	r.enter()
	l := r.row()
	r.leave()
	return l
}

// row reads statements as long as some begin.
func (r *reader) row() []api.Stmt {
	var l []api.Stmt
	for {
		first := r.word()
		read, is := r.stmts[begin(first)]
		if !is {
			return l
		}
		s := read()
		s.At = first.At
		l = append(l, s)
	}
}

// let reads a statement that makes a local.
func (r *reader) let() api.Stmt {
	r.need("var")
	s := api.Stmt{Kind: api.Let}
	s.Type = r.kind()
	s.Name = r.name()
	s.E = list(r.between("=", ";"))
	return s
}

// assign reads a statement that changes something.
func (r *reader) assign() api.Stmt {
	s := api.Stmt{Kind: api.Assign, Name: r.name()}
	if r.is("[") {
		s.Index = list(r.between("[", "]"))
	}
	s.E = list(r.between("=", ";"))
	return s
}

// branch reads a statement that goes one way or the other.
func (r *reader) branch() api.Stmt {
	r.need("if")
	s := api.Stmt{Kind: api.If}
	s.E = list(r.between("(", ")"))
	s.Body = r.block()
	if r.take("else") {
		s.Else = r.block()
	}
	return s
}

// while reads a statement that goes on.
func (r *reader) while() api.Stmt {
	r.need("while")
	s := api.Stmt{Kind: api.While}
	s.E = list(r.between("(", ")"))
	s.Body = r.block()
	return s
}

// hold reads a statement that holds a lock.
func (r *reader) hold() api.Stmt {
	r.need("lock")
	s := api.Stmt{Kind: api.Hold}
	s.Name = r.name()
	s.Body = r.block()
	return s
}

// put reads a statement that puts something out.
func (r *reader) put() api.Stmt {
	return api.Stmt{Kind: api.Put, E: list(r.between("out", ";"))}
}

// between reads an expression that stands between two words.
func (r *reader) between(ahead, behind string) api.Expr {
	r.need(ahead)
	e := r.expression()
	r.need(behind)
	return e
}

// list is an expression as a statement has it.
func list(e api.Expr) []api.Expr { return []api.Expr{e} }

// expression reads one.
func (r *reader) expression() api.Expr {
	e, behind, bad, at := expr.Parse(r.words, r.next)
	if bad != api.OK {
		r.failAt(bad, at)
		return api.Expr{}
	}
	r.next = behind
	return e
}

// kind reads a type.
func (r *reader) kind() api.Type {
	var t api.Type
	if t.Secret = r.take("secret"); !t.Secret {
		r.need("public")
	}
	if t.Truth = r.take("bool"); !t.Truth {
		r.need("int")
	}
	return t
}

// name reads a name that means nothing of its own.
func (r *reader) name() string {
	w := r.word()
	if begin(w) != anyName {
		r.fail(api.ErrSyntax)
		return ""
	}
	r.next++
	return w.Text
}

// length reads how long an array is.
func (r *reader) length() int {
	w := r.word()
	switch {
	case w.Kind != lex.Number:
		r.fail(api.ErrSyntax)
		return 0
	case w.N < 1 || w.N > api.MaxLen:
		r.fail(api.ErrLimit)
		return 0
	}
	r.next++
	return int(w.N)
}

// enter reads the bracket that opens a block, unless too many are open.
func (r *reader) enter() {
	if r.is("{") {
		r.room(r.open, api.MaxNest)
	}
	r.need("{")
	r.open++
}

// leave reads the bracket that closes a block.
func (r *reader) leave() {
	r.need("}")
	r.open--
}

// room asks for room for one more than there are.
func (r *reader) room(there, most int) {
	if there == most {
		r.fail(api.ErrLimit)
	}
}

// is tells whether a sign or a key is to be read. Its text alone tells it: no name, no number and no end has the same.
func (r *reader) is(text string) bool { return r.word().Text == text }

// take reads a sign or a key, if it is there.
func (r *reader) take(text string) bool {
	if !r.is(text) {
		return false
	}
	r.next++
	return true
}

// need reads a sign or a key, which must be there.
func (r *reader) need(text string) {
	if !r.take(text) {
		r.fail(api.ErrSyntax)
	}
}

// word is the one that is to be read.
func (r *reader) word() lex.Word { return r.words[r.next] }

// fail keeps what is wrong with the word that is to be read.
func (r *reader) fail(bad api.Errno) { r.failAt(bad, r.word().At) }

// failAt keeps what is wrong, and where, if nothing was yet; but the end is left.
func (r *reader) failAt(bad api.Errno, at int) {
	if r.bad != api.OK {
		return
	}
	r.bad, r.at = bad, at
	r.words, r.next = []lex.Word{{Kind: lex.End}}, 0
}
