package prog_test

import (
	"strconv"
	"strings"
	"testing"

	"paling/api"
)

const function = "func f() public int { return 1; }"

// P4.1: how many things there may be, of each kind, and what is told of one more: where its first word is, whatever is behind that.
func TestHowManyThings(t *testing.T) {
	for _, c := range []struct {
		thing, first string
		most         int
	}{
		{"public int a; ", "public", 32}, {"secret bool a[2] by m; ", "secret", 32}, {"lock m; ", "lock", 8}, {function + " ", "func", 16}, {"thread { } ", "thread", 4}, {"thread { if (a) { lock m { } } } ", "thread", 4},
	} {
		full := strings.Repeat(c.thing, c.most)
		p := of(t, full)
		if n := len(p.Globals) + len(p.Locks) + len(p.Funcs) + len(p.Threads); n != c.most {
			t.Errorf("%d of %q, not %d", n, c.thing, c.most)
		}
		wrong(t, full+c.thing, api.ErrLimit, len(full))
		wrong(t, full+c.first, api.ErrLimit, len(full))
		wrong(t, full+c.first+" ) "+c.thing, api.ErrLimit, len(full))
		wrong(t, full+"x "+c.thing, api.ErrSyntax, len(full))
		wrong(t, full[:len(full)-2]+") "+c.thing, api.ErrSyntax, len(full)-2)
	}
	of(t, strings.Repeat("lock m;", 8)+strings.Repeat("thread{lock m{}lock m{}}", 4)+strings.Repeat(function, 16)+strings.Repeat("public int a;secret int a;", 16))
	wrong(t, strings.Repeat("public int a;secret int a;", 16)+"lock m;secret int a;", api.ErrLimit, 26*16+7)
	wrong(t, strings.Repeat("thread{}lock m;", 4)+"lock n;thread{}", api.ErrLimit, 15*4+7)
}

// P4.1: how many params a function may have, and what is told of one more: where the word is that is behind the comma.
func TestHowManyParams(t *testing.T) {
	param := "secret bool a"
	six := "func f(" + strings.Repeat(param+",", 5) + param
	if p := of(t, six+") public int { return 1; }"); len(p.Funcs[0].Params) != 6 {
		t.Error("not six params")
	}
	for _, rest := range []string{param, param + ")", "secret", "a", ")", ",", "1", "{", "", "if", "thread { }"} {
		wrong(t, six+", "+rest, api.ErrLimit, len(six)+2)
	}
	wrong(t, six+" "+param, api.ErrSyntax, len(six)+1)
	wrong(t, six+";", api.ErrSyntax, len(six))
	wrong(t, six[:len(six)-1]+", "+param, api.ErrSyntax, len(six)-1)
	whole := six + ") public int { return f(1, 2, 3, 4, 5, 6, 7); } "
	of(t, whole+whole) // each function's own
	wrong(t, whole+six+",", api.ErrLimit, len(whole)+len(six)+1)
}

// P4.1: how long an array may be.
func TestHowLongArrays(t *testing.T) {
	for n := range 65 {
		s := "lock m; secret bool a [ " + strconv.Itoa(n) + "]by m;"
		if n == 0 {
			wrong(t, s, api.ErrLimit, 24)
		} else if g := of(t, s).Globals[0]; g.Len != n || g.At != 20 || g.By != "m" {
			t.Errorf("%q: %v", s, g)
		}
	}
	for _, n := range []string{"0", "65", "66", "100", "128", "256", "257", "65537", "4294967296", "4294967297", "9223372036854775807"} {
		for _, rest := range []string{"];", "]", "", ")", "+ 1];", " 1];"} {
			wrong(t, "public int a["+n+rest, api.ErrLimit, 13)
		}
	}
	wrong(t, "public int a["+strings.Repeat("9", 19)+"];", api.ErrLex, 13)
}

// P4.1: how many blocks may be open, of each kind and mixed, in threads and in functions, with these' own.
func TestHowDeepBlocks(t *testing.T) {
	kinds := []string{"if(a){", "while(a){", "lock m{", "if(a){}else{", "if(a){lock m{}}else{b=1;"}
	for _, around := range [][2]string{{"thread{", "}"}, {"func f()public int{", "return 1;}"}} {
		for _, openings := range [][]string{kinds[:1], kinds[1:2], kinds[2:3], kinds[3:4], kinds[:4], kinds[2:4], kinds[:3]} {
			for _, n := range []int{0, 1, 30, 31} {
				of(t, around[0]+nested(openings, n)+around[1])
			}
			s := around[0] + nested(openings, 32) + around[1]
			at := tooDeep(s)
			wrong(t, s, api.ErrLimit, at)
			wrong(t, s[:at+1], api.ErrLimit, at)
			wrong(t, s[:at]+"{)", api.ErrLimit, at)
			wrong(t, s[:at]+";", api.ErrSyntax, at)
			wrong(t, s[:at], api.ErrSyntax, at)
		}
		of(t, around[0]+nested(kinds[4:], 30)+around[1])
		s := around[0] + nested(kinds[4:], 31) + around[1]
		wrong(t, s, api.ErrLimit, tooDeep(s))
	}
	wrong(t, "thread "+strings.Repeat("{if(a)", 33), api.ErrLimit, 7+32*6)
}

// nested is so many blocks, each within the one ahead of it, that begin in some ways in turn.
func nested(openings []string, n int) string {
	var b strings.Builder
	for i := range n {
		b.WriteString(openings[i%len(openings)])
	}
	return b.String() + strings.Repeat("}", n)
}

// tooDeep is where the first bracket stands by which 33 blocks would be open.
func tooDeep(s string) int {
	open := 0
	for at, r := range s {
		switch r {
		case '{':
			open++
		case '}':
			open--
		}
		if open > 32 {
			return at
		}
	}
	return -1
}

// P4.1: blocks that have ended aren't open any more.
func TestClosedBlocks(t *testing.T) {
	deep := "{" + nested([]string{"if(a){", "while(a){"}, 31) + "}"
	of(t, strings.Repeat("thread"+deep, 4))
	of(t, strings.Repeat("func f()public int"+deep[:len(deep)-1]+"return 1;}", 16))
	of(t, "thread{"+nested([]string{"lock m{"}, 31)+nested([]string{"if(a){}else{"}, 30)+"if(a)"+deep[:7]+"}}}")
	of(t, "thread{"+strings.Repeat("if(a){}else{}while(a){}lock m{}", 100)+nested([]string{"lock m{"}, 31)+"}")
	s := "thread{" + strings.Repeat("if(a){}else{}while(a){}lock m{}", 100) + nested([]string{"lock m{"}, 32) + "}"
	wrong(t, s, api.ErrLimit, tooDeep(s))
}

// P4.1: an expression's own limit holds wherever it stands, whatever is open around it.
func TestDeepExpressions(t *testing.T) {
	blocks := nested([]string{"lock m{"}, 31)
	ahead, behind := "thread{"+blocks[:31*7], blocks[31*7:]+"}"
	for _, c := range [][2]string{{"out ", ";"}, {"a=", ";"}, {"a[", "]=1;"}, {"var public int a=", ";"}, {"if(", "){}"}, {"while(", "){}"}, {"} return ", ";"}} {
		open, end := ahead, behind
		switch {
		case c[0][0] == '}':
			open, end = "func f()public int{if(a){", "}"
		case c[1] == "){}":
			open, end = ahead[:len(ahead)-7], behind[1:] // it opens a block of its own
		}
		at := len(open + c[0])
		deep := strings.Repeat("-(f(t[", 8)
		of(t, open+c[0]+deep+"1"+strings.Repeat("]))", 8)+c[1]+end)
		wrong(t, open+c[0]+deep+"-1"+strings.Repeat("]))", 8)+c[1]+end, api.ErrLimit, at+len(deep))
		wrong(t, open+c[0]+deep+"(", api.ErrLimit, at+len(deep))
		wrong(t, open+c[0]+deep+"a[1]", api.ErrLimit, at+len(deep)+1)
		wrong(t, open+c[0]+deep+")", api.ErrSyntax, at+len(deep))
		wrong(t, open+c[0]+c[1]+end, api.ErrSyntax, at)
	}
}

// P4.1: of several things that are wrong, the first from the front on is told.
func TestWrongAndTooMany(t *testing.T) {
	many := strings.Repeat
	wrong(t, many("thread{}", 5)+"x", api.ErrLimit, 32)
	wrong(t, many("thread{}", 4)+"x thread{}", api.ErrSyntax, 32)
	wrong(t, "public int a[0] x", api.ErrLimit, 13)
	wrong(t, "public int x x[0];", api.ErrSyntax, 13)
	wrong(t, "public int a[0]; public int a[65];", api.ErrLimit, 13)
	wrong(t, "public int a[x]; public int a[65];", api.ErrSyntax, 13)
	wrong(t, "thread { out 1 1; out "+many("(", 33), api.ErrSyntax, 15)
	wrong(t, "thread { out "+many("(", 33)+"; out 1 1;", api.ErrLimit, 45)
	wrong(t, many("lock m;", 8)+"thread { } } lock m;", api.ErrSyntax, 67)
	wrong(t, many("lock m;", 9)+"} lock m;", api.ErrLimit, 56)
}
