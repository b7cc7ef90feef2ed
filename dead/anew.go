package dead

import "paling/api"

// anew is a code that is put anew, place by place, by a closure. What led to a place leads to the first that was put for it; if that is nothing, to what comes next, or else to the last one. What led to nowhere still does.
func anew(c api.Code, put func(l api.Code, at int) api.Code) api.Code {
	var l api.Code
	firsts := make([]int, len(c))
	for at := range len(c) {
		firsts[at] = len(l)
		l = put(l, at)
	}
	lead(l, func(to int) int {
		switch {
		case to < 0:
			return to
		case to >= len(c):
			return to - len(c) + len(l)
		}
		return min(firsts[to], len(l)-1)
	})
	return l
}

// lead lets each instruction that leads to a place lead to what is told of that.
func lead(l api.Code, place func(to int) int) {
	for at := range len(l) {
		if l[at].Kind == api.Jump || l[at].Kind == api.Zero {
			l[at].To = place(l[at].To)
		}
	}
}

// holds tells whether that is so for a place; it isn't for those of which nothing stands there.
func holds(l []bool, at int) bool { return at < len(l) && l[at] }
