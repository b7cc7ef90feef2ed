package check_test

import (
	"reflect"
	"slices"
	"testing"

	"paling/api"
	"paling/check"
	"paling/prog"
	"paling/show"
)

// sameUses tells whether two rows are the same; no threads are as good as none.
func sameUses(a, b []check.Use) bool {
	return slices.EqualFunc(a, b, func(a, b check.Use) bool {
		return slices.Equal(a.Uses, b.Uses) && slices.Equal(a.Changes, b.Changes)
	})
}

// agrees holds what is told of a program against what is meant, and tells that.
func agrees(t *testing.T, p api.Program) complaint {
	t.Helper()
	c, uses := meant(p)
	if bad, at := check.Program(p); bad != c.bad || at != c.at {
		t.Fatalf("%s\n%v at %d, not %+v", show.Program(p), bad, at, c)
	}
	if got := check.Uses(p); !sameUses(got, uses) {
		t.Fatalf("%s\n%v, not %v", show.Program(p), got, uses)
	}
	return c
}

// agreesAsText is agrees, of a program's text; false: it is too long, or too deep.
func agreesAsText(t *testing.T, p api.Program) bool {
	t.Helper()
	text := show.Program(p)
	p, bad, _ := prog.Parse(text)
	if bad != api.OK {
		return false
	}
	c := agrees(t, p)
	want := p
	if c.bad != api.OK {
		want = api.Program{}
	}
	if got, bad, at := check.Text(text); bad != c.bad || at != c.at || !reflect.DeepEqual(got, want) {
		t.Fatalf("%s\nText: %v at %d, not %+v", text, bad, at, c)
	}
	return true
}

// P8.1, P8.2, P8.3: programs that are written to be as they may, and who uses what of them.
func TestWritten(t *testing.T) {
	used, texts := 0, 0
	for seed := range 1500 {
		w := write(seed)
		p := placed(w.p, seed)
		if c := agrees(t, p); c != (complaint{}) {
			t.Fatalf("%s\n%+v", show.Program(p), c)
		}
		told := check.Uses(p)
		if !sameUses(told, w.told()) {
			t.Fatalf("%s\n%v, not %v", show.Program(p), told, w.told())
		}
		for _, u := range told {
			used += len(u.Uses) * len(u.Changes)
		}
		if agreesAsText(t, p) {
			texts++
		}
	}
	if used < 1000 || texts < 1000 {
		t.Error(used, texts)
	}
}

// reasons are all that a program can be complained of for.
var reasons = []string{"twice", "by", "param", "return type", "return secret", "let type", "let secret", "let name", "branch type", "branch secret",
	"lock name", "lock type", "lock in function", "lock again", "out in function", "out secret", "assign name", "assign kind", "assign array", "assign place",
	"place type", "place secret", "assign type", "assign secret", "expression", "called early", "read in function", "read unguarded", "changed in function", "changed unguarded", "shared"}

// P8.1, P8.2, P8.3: programs of which some things were changed.
func TestBent(t *testing.T) {
	counts := map[string]int{}
	for seed := range 1200 {
		w := write(seed)
		for i := range 12 {
			p := w.p
			for range 1 + w.roll(3) {
				p = w.bent(p)
			}
			counts[agrees(t, placed(p, seed)).why]++
			if i == 0 {
				agreesAsText(t, p)
			}
		}
	}
	t.Log(counts)
	for _, why := range append(reasons, "") {
		if counts[why] < 10 {
			t.Errorf("%q: %d", why, counts[why])
		}
	}
}
