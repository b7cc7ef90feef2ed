package layout

// mostWords is how many an answer may have: nothing is promised beyond 2^31 - 1 bytes.
const mostWords = (1<<31 - 1) / 8

// Memory is what stands in the words at first: all that init has, as no other secrets are told.
func Memory(l []Place, init []int64) []int64 { return Twin(l, init, nil) }

// Twin is words with other secrets.
func Twin(l []Place, mem, secrets []int64) []int64 {
	m := room(l)
	copy(m, mem)
	used := 0
	for _, x := range side(l, true) {
		used += copy(within(m, x), secrets[used:])
	}
	makeTruths(l, m)
	return m
}

// room is a word of 0 for each that there is; none of places that are no program's, if they have too many, or fewer than none.
func room(l []Place) []int64 {
	n := Words(l)
	if n < 0 || n > mostWords {
		return nil
	}
	return make([]int64, n)
}

// within is the words of a place; of one that is no program's, those that there are.
func within(m []int64, x Place) []int64 {
	from := min(max(x.Base, 0), len(m))
	to := min(max(x.Base+x.Len, from), len(m))
	return m[from:to]
}

// makeTruths lets each word of a truth be one: 1, unless it is 0.
func makeTruths(l []Place, m []int64) {
	for _, x := range l {
		if !x.Type.Truth {
			continue
		}
		words := within(m, x)
		for i, n := range words {
			if n != 0 {
				words[i] = 1
			}
		}
	}
}
