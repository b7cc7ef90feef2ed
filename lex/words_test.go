package lex_test

import (
	"math"
	"math/big"
	"reflect"
	"regexp"
	"strings"
	"testing"
	"unsafe"

	"paling/api"
	"paling/lex"
)

// wrong is what Words answers beside a text's words.
type wrong struct {
	e  api.Errno
	at int
}

// What P2.1 says of a text, told another way: by expressions that are tried one behind the other.
var (
	between = regexp.MustCompile(`^(?:[ \t\n\r]|//[^\n]*)+`)
	named   = regexp.MustCompile(`^[A-Za-z_][A-Za-z_0-9]*`)
	counted = regexp.MustCompile(`^[0-9][A-Za-z_0-9]*`)
	digits  = regexp.MustCompile(`^(?:0|[1-9][0-9]*)$`)
	signed  = regexp.MustCompile(`^(?:&&|\|\||==|!=|<=|>=|<<|>>|[-+*/%&|^<>!=()\[\]{};,])`)
)

// meant is what P2.1 says of a text.
func meant(s string) ([]lex.Word, wrong) {
	if len(s) > 16384 {
		return nil, wrong{api.ErrLimit, 0}
	}
	var l []lex.Word
	for at := 0; at < len(s); {
		rest := s[at:]
		if n := len(between.FindString(rest)); n > 0 {
			at += n
			continue
		}
		w := lex.Word{At: at}
		if w.Text = named.FindString(rest); w.Text != "" {
			w.Kind = lex.Name
			if len(w.Text) > 24 {
				return nil, wrong{api.ErrLimit, at}
			}
		} else if w.Text = counted.FindString(rest); w.Text != "" {
			n, _ := new(big.Int).SetString(w.Text, 10)
			if !digits.MatchString(w.Text) || n == nil || !n.IsInt64() {
				return nil, wrong{api.ErrLex, at}
			}
			w.Kind, w.N = lex.Number, n.Int64()
		} else if w.Text = signed.FindString(rest); w.Text != "" {
			w.Kind = lex.Sign
		} else {
			return nil, wrong{api.ErrLex, at}
		}
		l = append(l, w)
		at += len(w.Text)
	}
	return append(l, lex.Word{Kind: lex.End, At: len(s)}), wrong{}
}

// hold asks for the words of a text, and holds them against what is meant.
func hold(t *testing.T, s string) {
	t.Helper()
	got, e, at := lex.Words(s)
	want, bad := meant(s)
	if (wrong{e, at}) != bad || len(got) != len(want) || len(got) > 0 && !reflect.DeepEqual(got, want) {
		t.Fatalf("Words(%.60q) = %.300v, %d, %d, not %.300v, %v", s, got, int(e), at, want, bad)
	}
}

// texts calls do for each text of up to so many pieces.
func texts(pieces []string, upTo int, do func(s string)) {
	var grow func(s string, left int)
	grow = func(s string, left int) {
		do(s)
		if left > 0 {
			for _, p := range pieces {
				grow(s+p, left-1)
			}
		}
	}
	grow("", upTo)
}

// P2.1: the kinds, texts, numbers and places of words, written out.
func TestWordsByHand(t *testing.T) {
	for s, want := range map[string][]lex.Word{
		"":         {{lex.End, "", 0, 0}},
		" \t\r\n ": {{lex.End, "", 0, 5}},
		"//":       {{lex.End, "", 0, 2}},
		"a<=-1":    {{lex.Name, "a", 0, 0}, {lex.Sign, "<=", 0, 1}, {lex.Sign, "-", 0, 3}, {lex.Number, "1", 1, 4}, {lex.End, "", 0, 5}},
		"while (i < 4) {\n\tout n; // it goes out\n}\n": {
			{lex.Name, "while", 0, 0}, {lex.Sign, "(", 0, 6}, {lex.Name, "i", 0, 7}, {lex.Sign, "<", 0, 9}, {lex.Number, "4", 4, 11}, {lex.Sign, ")", 0, 12}, {lex.Sign, "{", 0, 14},
			{lex.Name, "out", 0, 17}, {lex.Name, "n", 0, 21}, {lex.Sign, ";", 0, 22}, {lex.Sign, "}", 0, 39}, {lex.End, "", 0, 41}},
		"9223372036854775807": {{lex.Number, "9223372036854775807", math.MaxInt64, 0}, {lex.End, "", 0, 19}},
		"0 10":                {{lex.Number, "0", 0, 0}, {lex.Number, "10", 10, 2}, {lex.End, "", 0, 4}},
		"_ A9_z":              {{lex.Name, "_", 0, 0}, {lex.Name, "A9_z", 0, 2}, {lex.End, "", 0, 6}},
		"&&&|||":              {{lex.Sign, "&&", 0, 0}, {lex.Sign, "&", 0, 2}, {lex.Sign, "||", 0, 3}, {lex.Sign, "|", 0, 5}, {lex.End, "", 0, 6}},
		"a/b//c\nd/ /e":       {{lex.Name, "a", 0, 0}, {lex.Sign, "/", 0, 1}, {lex.Name, "b", 0, 2}, {lex.Name, "d", 0, 7}, {lex.Sign, "/", 0, 8}, {lex.Sign, "/", 0, 10}, {lex.Name, "e", 0, 11}, {lex.End, "", 0, 12}},
		"// \xff é $\n1":      {{lex.Number, "1", 1, 10}, {lex.End, "", 0, 11}},
		"// \xe2\n1":          {{lex.Number, "1", 1, 5}, {lex.End, "", 0, 6}},
		"///// a\r\nb":        {{lex.Name, "b", 0, 9}, {lex.End, "", 0, 10}},
	} {
		if got, e, at := lex.Words(s); e != api.OK || at != 0 || !reflect.DeepEqual(got, want) {
			t.Errorf("Words(%q) = %v, %d at %d", s, got, int(e), at)
		}
	}
}

// P2.1: the error and its place, of the first thing from the front on that is wrong.
func TestWrongWords(t *testing.T) {
	long, longer := strings.Repeat("a", 24), strings.Repeat("a", 25)
	for s, want := range map[string]wrong{
		"1x": {api.ErrLex, 0}, "a 1x": {api.ErrLex, 2}, "1_": {api.ErrLex, 0}, "00": {api.ErrLex, 0}, "-01": {api.ErrLex, 1}, "0x1": {api.ErrLex, 0},
		"9223372036854775808": {api.ErrLex, 0}, "9223372036854775807_": {api.ErrLex, 0}, "1 18446744073709551617": {api.ErrLex, 2}, "1" + long + long: {api.ErrLex, 0},
		"a $": {api.ErrLex, 2}, "a.b": {api.ErrLex, 1}, "a:b": {api.ErrLex, 1}, "\"": {api.ErrLex, 0}, "a\n#": {api.ErrLex, 2}, "// x\n\t~": {api.ErrLex, 6}, "a<=?": {api.ErrLex, 3},
		"\x00": {api.ErrLex, 0}, "a\v": {api.ErrLex, 1}, "a\f": {api.ErrLex, 1}, "\x7f": {api.ErrLex, 0}, "xé": {api.ErrLex, 1}, " é": {api.ErrLex, 1}, "１": {api.ErrLex, 0}, "٣": {api.ErrLex, 0},
		"a\u00a0b": {api.ErrLex, 1}, "\ufeffa": {api.ErrLex, 0}, "\u2028": {api.ErrLex, 0}, "a\xff": {api.ErrLex, 1}, "\xc3(": {api.ErrLex, 0}, "é//": {api.ErrLex, 0},
		longer: {api.ErrLimit, 0}, " " + longer: {api.ErrLimit, 1}, "_" + long: {api.ErrLimit, 0}, long + "9": {api.ErrLimit, 0}, "//x\n" + longer + "é": {api.ErrLimit, 4}, strings.Repeat("_", 16384): {api.ErrLimit, 0},
		long: {}, long + " " + long: {}, long + "+" + long: {}, "a9" + long[:22]: {}, "// " + longer: {},
		"1x " + longer: {api.ErrLex, 0}, longer + " 1x": {api.ErrLimit, 0}, "$ 1x": {api.ErrLex, 0}, "1x $": {api.ErrLex, 0}, "a " + longer + " $": {api.ErrLimit, 2},
	} {
		l, e, at := lex.Words(s)
		if (wrong{e, at}) != want || (len(l) == 0) != (want.e != api.OK) {
			t.Errorf("Words(%.40q): %d words, %d at %d, not %v", s, len(l), int(e), at, want)
		}
	}
}

// P2.1: a text's greatest length; of one that is longer nothing else is told.
func TestTextLimit(t *testing.T) {
	for _, fill := range []string{"a ", "( ", "  ", "//", "1\n", "1x", "$ ", "é"} {
		whole := strings.Repeat(fill, 8192)
		hold(t, whole[:16383])
		hold(t, whole)
		for _, s := range []string{whole + " ", whole + "\xff", whole + whole, " " + whole} {
			if l, e, at := lex.Words(s); len(l) != 0 || e != api.ErrLimit || at != 0 {
				t.Errorf("%q again and again, %d bytes: %d words, %d at %d", fill, len(s), len(l), int(e), at)
			}
		}
	}
	if l, e, _ := lex.Words(strings.Repeat("(", 16384)); e != api.OK || len(l) != 16385 {
		t.Errorf("as many words as there can be: %d, %d", len(l), int(e))
	}
}

// P2.1: every byte, alone, behind and ahead of what begins a word; every rune of two bytes, and others.
func TestEveryByte(t *testing.T) {
	for b := range 256 {
		for _, c := range []string{"", " ", "a", "1", "<", "/", "//", "é", "\xe2\x82", "\n"} {
			hold(t, c+string([]byte{byte(b)}))
			hold(t, string([]byte{byte(b)})+c)
			hold(t, c+string([]byte{byte(b)})+c)
		}
	}
	for r := rune(0x80); r < 0x3000; r++ {
		hold(t, string(r))
		hold(t, "a"+string(r)+"1")
		hold(t, "//"+string(r)+"\na")
	}
}

// P2.1: all short texts of pieces that stand in each other's way.
func TestShortTexts(t *testing.T) {
	texts([]string{"&", "|", "=", "!", "<", ">", "/", "-", "a", "1", " ", "\n"}, 5, func(s string) { hold(t, s) })
	texts([]string{"_Z", "0", "9", "x", "+", "//", "\r", "\n", "é", "\xc3", "$"}, 4, func(s string) { hold(t, s) })
	texts([]string{"+", "-", "*", "/", "%", "&", "|", "^", "<", ">", "!", "=", "(", ")", "[", "]", "{", "}", ";", ","}, 3, func(s string) { hold(t, s) })
	texts([]string{strings.Repeat("q", 12), "q", "7", strings.Repeat("9", 18), "/"}, 5, func(s string) { hold(t, s) })
}

// P2.4: words joined with spaces are the same words again, but for their places.
func TestJoined(t *testing.T) {
	again := func(s string) {
		l, e, _ := lex.Words(s)
		if e != api.OK {
			return
		}
		var parts []string
		for n, w := range l {
			parts = append(parts, w.Text)
			if at := w.At; w.Text != s[at:at+len(w.Text)] || n > 0 && at < l[n-1].At+len(l[n-1].Text) {
				t.Fatalf("word %d of %q: %v", n, s, w)
			}
		}
		joined := strings.Join(parts, " ")
		back, e, at := lex.Words(joined)
		if e != api.OK || at != 0 || len(back) != len(l) {
			t.Fatalf("%q joined: %d words, %d at %d", s, len(back), int(e), at)
		}
		for n := range back {
			back[n].At, l[n].At = 0, 0
			if back[n] != l[n] {
				t.Fatalf("word %d of %q joined: %v, not %v", n, s, back[n], l[n])
			}
		}
	}
	texts([]string{"a", "12", "<", "=", "/", "&", "\n", " "}, 5, again)
	again("lock m;\npublic int tab[5] by m; // by it\nthread { while (i<4) { tab[i]=tab[i]+-1; } out !x&&y||z; }")
}

// Rules 3 and 4: an answer is new memory, and the same again.
func TestAnswersAreNew(t *testing.T) {
	s := strings.Clone("a <= 12")
	l, _, _ := lex.Words(s)
	begin := uintptr(unsafe.Pointer(unsafe.StringData(s)))
	for n, w := range l {
		if p := uintptr(unsafe.Pointer(unsafe.StringData(w.Text))); w.Text != "" && begin <= p && p < begin+uintptr(len(s)) {
			t.Errorf("word %d is a piece of the text that was handed in", n)
		}
	}
	for n := range l {
		l[n] = lex.Word{Kind: lex.End, Text: "x", N: 1, At: 1}
	}
	hold(t, s)
}
