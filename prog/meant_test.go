package prog_test

import (
	"reflect"
	"slices"
	"strings"
	"testing"

	"paling/api"
	"paling/expr"
	"paling/lex"
	"paling/prog"
)

// grammar is what each part of a program goes on to, by the word that is to be read; the empty one is any other. What has a row of its own is a part; what begins with a # is counted.
var grammar = map[string]map[string]string{
	"Things": {"public": "#global Global Things", "secret": "#global Global Things", "lock": "#lock lock name ; Things", "func": "#func func name ( Params ) Type { Stmts return expression ; } Things", "thread": "#thread thread Block Things", "": "end"},
	"Global": {"": "Type name Length Guard ;"},
	"Type":   {"public": "public Base", "": "secret Base"},
	"Base":   {"int": "int", "": "bool"},
	"Length": {"[": "[ number ]", "": ""},
	"Guard":  {"by": "by name", "": ""},
	"Params": {")": "", "": "#param Type name More"},
	"More":   {",": ", #param Type name More", "": ""},
	"Block":  {"": "{ Stmts }"},
	"Stmts":  {"var": "var Type name = expression ; Stmts", "name": "name Index = expression ; Stmts", "if": "if ( expression ) Block Else Stmts", "while": "while ( expression ) Block Stmts", "lock": "lock name Block Stmts", "out": "out expression ; Stmts", "": ""},
	"Index":  {"[": "[ expression ]", "": ""},
	"Else":   {"else": "else Block", "": ""},
}

// limits are how many there may be of what is counted.
var limits = map[string]int{"#global": 32, "#lock": 8, "#func": 16, "#thread": 4, "#param": 6, "{": 32}

// keys are the names that mean something of their own.
var keys = strings.Fields("public secret int bool by lock func return thread var if else while out true false")

// fault is what is wrong with a text: the error, and its place.
type fault struct {
	bad api.Errno
	at  int
}

// class is what the grammar calls a word.
func class(w lex.Word) string {
	switch {
	case w.Kind == lex.Number:
		return "number"
	case w.Kind == lex.End:
		return "end"
	case w.Kind == lex.Name && !slices.Contains(keys, w.Text):
		return "name"
	}
	return w.Text
}

// faultOf is what is wrong with a text, told by a pile of what must still come.
func faultOf(s string) fault {
	l, bad, at := lex.Words(s)
	if bad != api.OK {
		return fault{bad, at}
	}
	pile, counts, next := []string{"Things"}, map[string]int{}, 0
	for len(pile) > 0 {
		top := pile[len(pile)-1]
		pile = pile[:len(pile)-1]
		w := l[next]
		if ways, is := grammar[top]; is {
			way, is := ways[class(w)]
			if !is {
				way = ways[""]
			}
			symbols := strings.Fields(way)
			slices.Reverse(symbols)
			pile = append(pile, symbols...)
			continue
		}
		if top == "#func" {
			counts["#param"] = 0
		}
		if most := limits[top]; most > 0 && (top[0] == '#' || class(w) == top) {
			if counts[top]++; counts[top] > most {
				return fault{api.ErrLimit, w.At}
			}
		}
		switch {
		case top[0] == '#':
			continue
		case top == "expression":
			_, behind, bad, at := expr.Parse(l, next)
			if bad != api.OK {
				return fault{bad, at}
			}
			next = behind
			continue
		case class(w) != top:
			return fault{api.ErrSyntax, w.At}
		case top == "number" && (w.N < 1 || w.N > 64):
			return fault{api.ErrLimit, w.At}
		case top == "}":
			counts["{"]--
		}
		next++
	}
	return fault{}
}

// agrees holds Parse of a text against what is meant to be wrong with it.
func agrees(t *testing.T, s string) {
	t.Helper()
	want := faultOf(s)
	p, bad, at := prog.Parse(s)
	if (fault{bad, at}) != want || bad != api.OK && !reflect.DeepEqual(p, api.Program{}) {
		t.Fatalf("Parse(%q) = %v, %d, %d, not %d, %d", s, p, int(bad), at, int(want.bad), want.at)
	}
}

const sample = "public int n ; secret bool k [ 8 ] by m ; lock m ; " +
	"func f ( secret int a , public bool b ) secret int { var secret int s = a + t [ 1 ] ; if ( b ) { s = - 2 ; } else { while ( a ) { } } return s ; } " +
	"thread { lock m { t [ n ] = f ( n , true ) ; } out n ; } thread { }"

// P4.1: whatever two words stand behind each beginning of a program.
func TestParseOfAnyTwoWords(t *testing.T) {
	some := strings.Fields("false x 0 8 65 ( ) [ ] { } ; , = - + $")
	words := strings.Fields(sample)
	for n := range len(words) + 1 {
		ahead := strings.Join(words[:n], " ") + " "
		agrees(t, ahead)
		for _, a := range append(some, keys...) {
			agrees(t, ahead+a)
			for _, b := range []string{"x", "8", "true", "bool", "lock", "return", "(", "]", "{", "}", ";", "="} {
				agrees(t, ahead+a+" "+b)
			}
		}
	}
}

// P4.1: all rows of up to four words, alone, and within.
func TestParseOfFewWords(t *testing.T) {
	some := strings.Fields("public int lock by thread if ( a ) [ 1 ] { } = ;")
	var grow func(s string, left int)
	grow = func(s string, left int) {
		agrees(t, s)
		if left > 0 {
			for _, w := range some {
				grow(s+" "+w, left-1)
			}
		}
	}
	for _, ahead := range []string{"", "public int a", "thread {", "func f (", "func f ( ) public int {", "thread { if ( a ) {"} {
		grow(ahead, 3)
	}
	grow("", 4)
}

// P4.1: programs of all kinds come to what they were written for, at just those places.
func TestParseOfWritten(t *testing.T) {
	for seed := range 400 {
		w := write(seed, seed%5 == 0)
		p, bad, at := prog.Parse(w.text())
		if bad != api.OK || at != 0 || !reflect.DeepEqual(p, w.program) {
			t.Fatalf("Parse(%q) = %v, %d, %d, not %v", w.text(), p, int(bad), at, w.program)
		}
		agrees(t, w.text())
	}
}

// P4.1: the same programs with a word or two changed, left out, put in, or cut off.
func TestParseOfBent(t *testing.T) {
	some := strings.Fields("public secret int bool by lock func return thread var if else while out true x 0 1 64 65 ( ) [ ] { } ; , = - + ! ==")
	for seed := range 300 {
		w := write(seed, false)
		l, _, _ := lex.Words(w.text())
		var words []string
		for _, word := range l[:len(l)-1] {
			words = append(words, word.Text)
		}
		for range 25 {
			bent := slices.Clone(words)
			for range w.roll(2) + 1 {
				at := w.roll(len(bent))
				switch other := some[w.roll(len(some))]; w.roll(5) {
				case 0:
					bent = slices.Delete(bent, at, at+1)
				case 1:
					bent = slices.Insert(bent, at, other)
				case 2:
					bent = slices.Insert(bent, at, bent[at])
				case 3:
					bent = bent[:at+1]
				default:
					bent[at] = other
				}
			}
			agrees(t, strings.Join(bent, " "))
		}
	}
}

// P4.3: two programs, one behind the other, are one, with the things of both, if they aren't too many.
func TestTwoPrograms(t *testing.T) {
	one, many := 0, 0
	for seed := range 1000 {
		a, b := write(2*seed, false), write(2*seed+1, seed%3 == 0)
		first := a.text() + "\n" // what ends with a note needs it
		both := first + b.text()
		p, bad, at := prog.Parse(both)
		want := join(a.program, shifted(of(t, b.text()), len(first)))
		if len(want.Globals) > 32 || len(want.Locks) > 8 || len(want.Funcs) > 16 || len(want.Threads) > 4 || len(both) > 16384 {
			many++
			if bad != api.ErrLimit || at == 0 != (len(both) > 16384) || !reflect.DeepEqual(p, api.Program{}) {
				t.Fatalf("%q: %d, %d", both, int(bad), at)
			}
			continue
		}
		one++
		if bad != api.OK || at != 0 || !reflect.DeepEqual(p, want) || !prog.Same(p, join(a.program, b.program)) {
			t.Fatalf("%q: %v, %d, %d, not %v", both, p, int(bad), at, want)
		}
	}
	if one < 200 || many < 200 {
		t.Errorf("%d came to one, %d were too many", one, many)
	}
}

// join is the things of two programs.
func join(a, b api.Program) api.Program {
	return api.Program{
		Globals: slices.Concat(a.Globals, b.Globals), Locks: slices.Concat(a.Locks, b.Locks),
		Funcs: slices.Concat(a.Funcs, b.Funcs), Threads: slices.Concat(a.Threads, b.Threads),
	}
}

// shifted is a program, all places of which are changed to ones further behind.
func shifted(p api.Program, by int) api.Program {
	shift(&p, by)
	return p
}

// shift adds to all places of what is pointed to.
func shift(p any, by int) {
	fields(reflect.ValueOf(p).Elem(), func(name string, v reflect.Value) {
		if name == "At" {
			v.SetInt(v.Int() + int64(by))
		}
	})
}

// fields calls do for each field within a thing, and for each list within a list, ahead of what is within that.
func fields(v reflect.Value, do func(name string, v reflect.Value)) {
	switch v.Kind() {
	case reflect.Slice:
		for i := range v.Len() {
			if v.Index(i).Kind() == reflect.Slice {
				do("", v.Index(i))
			}
			fields(v.Index(i), do)
		}
	case reflect.Struct:
		for i := range v.NumField() {
			do(v.Type().Field(i).Name, v.Field(i))
			fields(v.Field(i), do)
		}
	}
}
