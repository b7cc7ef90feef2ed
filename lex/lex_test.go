package lex_test

import (
	"math"
	"slices"
	"strings"
	"testing"

	"paling/api"
	"paling/lex"
)

// P2.2: the keys; each is a name of one word, too.
func TestKeys(t *testing.T) {
	for _, s := range all() {
		if !lex.Key(s) {
			t.Errorf("%q is no key", s)
		}
		if l, e, _ := lex.Words(s); e != api.OK || len(l) != 2 || l[0] != (lex.Word{Kind: lex.Name, Text: s}) {
			t.Errorf("the words of %q: %v, %d", s, l, int(e))
		}
	}
}

// all are the keys, as P2.2 tells them.
func all() []string {
	return []string{"public", "secret", "int", "bool", "by", "lock", "func", "return", "thread", "var", "if", "else", "while", "out", "true", "false"}
}

// P2.2: what is no key: others, and what differs from one by little.
func TestNoKeys(t *testing.T) {
	no := []string{"", " ", "a", "main", "for", "break", "halt", "and", "Public", "IF", "ınt", "inT", "1", "+", "&&", "\x00", "\xff", "if else", "publicint", strings.Repeat("if", 1<<16)}
	for _, s := range all() {
		no = append(no, s+" ", " "+s, s+"s", "_"+s, s+"\x00", s+"\n", strings.ToUpper(s), strings.ToUpper(s[:1])+s[1:], s+s)
		for n := range len(s) {
			no = append(no, s[:n], s[n+1:], s[:n]+"_"+s[n+1:])
		}
	}
	for _, s := range no {
		if lex.Key(s) && !slices.Contains(all(), s) {
			t.Errorf("%.40q is a key", s)
		}
	}
}

// P2.3: a place's line, and its byte in that, counted one by one.
func TestLineIsWhatIsMeant(t *testing.T) {
	for _, s := range []string{"", "a", "\n", "\n\n", "a\n\nb", "a\nb\n", "\r\n\r\n", "a\rb", "é\né", "\xff\n\xff", "ab\ncd // e\n\n\tf", strings.Repeat("\nab", 6000)} {
		line, in := 1, 1
		for at := 0; at <= len(s); at++ {
			if a, b := lex.Line(s, at); a != line || b != in {
				t.Fatalf("Line(%.40q, %d) = %d, %d, not %d, %d", s, at, a, b, line, in)
			}
			if at < len(s) {
				in++
				if s[at] == '\n' {
					line, in = line+1, 1
				}
			}
		}
		for _, at := range []int{len(s) + 1, len(s) + 100, math.MaxInt} {
			if a, b := lex.Line(s, at); a != line || b != in {
				t.Errorf("Line(%.40q, %d) = %d, %d, not %d, %d", s, at, a, b, line, in)
			}
		}
		for _, at := range []int{-1, -100, math.MinInt} {
			if a, b := lex.Line(s, at); a != 1 || b != 1 {
				t.Errorf("Line(%.40q, %d) = %d, %d", s, at, a, b)
			}
		}
	}
}

// P2.3: written out; it counts bytes, and a place on a newline is of the line that this ends.
func TestLineByHand(t *testing.T) {
	for _, c := range []struct {
		s            string
		at, line, in int
	}{
		{"", 0, 1, 1}, {"a\nb", 1, 1, 2}, {"a\nb", 2, 2, 1}, {"a\nb", 3, 2, 2}, {"a\n\nb", 2, 2, 1}, {"a\n\nb", 3, 3, 1},
		{"é b", 3, 1, 4}, {"a\r\nb", 2, 1, 3}, {"a\r\nb", 3, 2, 1}, {"a\rb", 2, 1, 3}, {"ab", 9, 1, 3}, {"\nab", -9, 1, 1},
	} {
		if line, in := lex.Line(c.s, c.at); line != c.line || in != c.in {
			t.Errorf("Line(%q, %d) = %d, %d, not %d, %d", c.s, c.at, line, in, c.line, c.in)
		}
	}
}
