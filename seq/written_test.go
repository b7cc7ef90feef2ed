package seq_test

import (
	"math"
	"slices"
	"testing"

	"paling/api"
	"paling/ins"
	"paling/seq"
)

// writer writes codes. What it writes hangs on its seed alone.
type writer struct{ n uint64 }

// write is one of a seed.
func write(seed int) *writer { return &writer{uint64(seed)*2 + 1} }

// roll is the next of its numbers below another.
func (w *writer) roll(below int) int {
	w.n = w.n*6364136223846793005 + 1442695040888963407
	return int(w.n>>33) % below
}

// reg is a register: mostly one of few, seldom one that nobody has, or that is far away.
func (w *writer) reg() int {
	switch w.roll(30) {
	case 0:
		return []int{math.MinInt, -1 << 32, -2, 6, 16, 5000, 1 << 32, math.MaxInt}[w.roll(8)]
	case 1, 2:
		return -1
	}
	return w.roll(5)
}

// number is one: mostly a small one.
func (w *writer) number() int64 {
	switch w.roll(12) {
	case 0:
		return []int64{math.MinInt64, math.MinInt64 + 1, -1 << 32, 1<<32 - 1, 1 << 32, 1<<32 + 1, math.MaxInt64 - 1, math.MaxInt64}[w.roll(8)]
	case 1:
		return int64(w.roll(1<<30))<<w.roll(34) - int64(w.roll(1<<20))
	}
	return int64(w.roll(12) - 3)
}

// to is a place in a code of so many, seldom one that there isn't.
func (w *writer) to(many int) int {
	switch w.roll(25) {
	case 0:
		return []int{math.MinInt, -1 << 32, -1, many, many + 1, 1 << 32, math.MaxInt}[w.roll(7)]
	case 1:
		return many
	}
	return w.roll(many)
}

// kinds are those of the instructions, the ones that make a run go on most often.
var kinds = []int{
	api.Set, api.Set, api.Set, api.Move, api.Calc, api.Calc, api.Calc, api.Calc, api.Pick, api.Pick, api.Load, api.Load, api.Load, api.Store, api.Store, api.Store,
	api.Jump, api.Zero, api.Zero, api.Fence, api.Take, api.Give, api.Out, api.Out,
}

// ins is an instruction of a code of so many: in each field something, whatever its kind.
func (w *writer) ins(many int) api.Ins {
	i := api.Ins{Op: w.roll(api.Any + 1), D: w.reg(), A: w.reg(), B: w.reg(), N: w.number(), To: w.to(many)}
	switch w.roll(40) {
	case 0:
		i.Kind = []int{math.MinInt, -1, 14, 15, 256, 1 << 32, math.MaxInt}[w.roll(7)]
	case 1:
		i.Kind, i.Op = api.Calc, []int{-1, 19, math.MinInt, math.MaxInt}[w.roll(4)]
	case 2:
		i.Kind = []int{api.Trap, api.Halt}[w.roll(2)]
	default:
		i.Kind = kinds[w.roll(len(kinds))]
	}
	if i.Kind == api.Take || i.Kind == api.Give {
		i.N = []int64{0, 1, 1, 2, -1, 1 << 32, math.MinInt64}[w.roll(7)]
	}
	return i
}

// code is one, which may be empty.
func (w *writer) code() api.Code {
	c := make(api.Code, w.roll(30))
	for at := range c {
		c[at] = w.ins(len(c))
	}
	return c
}

// codes are some threads', and words of memory.
func (w *writer) codes() ([]api.Code, []int64) {
	threads := make([]api.Code, 1+w.roll(4))
	for i := range threads {
		threads[i] = w.code()
	}
	mem := make([]int64, w.roll(9))
	for at := range mem {
		mem[at] = w.number()
	}
	return threads, mem
}

// some is some fuel, mostly little.
func (w *writer) some() int {
	switch w.roll(8) {
	case 0:
		return -w.roll(3)
	case 1, 2:
		return 40
	}
	return w.roll(9)
}

// texts are threads, as text.
func texts(threads []api.Code) string {
	s := ""
	for _, c := range threads {
		s += "thread\n" + ins.Text(c)
	}
	return s
}

// registers are those that the codes here have most often, and some others.
var registers = []int{0, 1, 2, 3, 4, 5, 6, 7, 16, 5000, 1 << 32, math.MaxInt, -1, -2, math.MinInt}

// holds holds a run against what is meant.
func holds(t *testing.T, r *seq.Run, m *meant) bool {
	t.Helper()
	is := slices.Equal(r.Memory(), m.memory())
	for thread := -1; thread <= len(m.threads); thread++ {
		is = is && r.Place(thread) == m.place(thread)
		for _, n := range registers {
			is = is && r.Reg(thread, n) == m.reg(thread, n)
		}
	}
	for _, lock := range []int64{0, 1, 2, 3, -1, 1 << 32, math.MinInt64} {
		is = is && r.Owner(lock) == m.owner(lock)
	}
	return is
}

// came is what a turn came to.
type came struct {
	e    api.Event
	what int
}

// P12.1, P12.2: codes that are written, with threads in any order, and any fuel: each turn comes to what is meant, and so do memory, registers, places and locks behind it.
func TestWritten(t *testing.T) {
	seen := map[came]int{}
	for seed := range 4000 {
		w := write(seed)
		threads, mem := w.codes()
		r, m := seq.New(threads, mem), &meant{threads: threads, first: mem}
		over := make([]bool, len(threads))
		for turn := range 10 + w.roll(30) {
			thread, fuel := w.roll(len(threads)), w.some()
			if over[thread] && w.roll(5) > 0 { // few turns of those that have ended are enough
				thread = max(slices.Index(over, false), 0)
			}
			e, what := r.Next(thread, fuel)
			want, wanted := m.next(thread, fuel)
			if e != want || what != wanted {
				t.Fatalf("%s%v, turn %d of %d with %d: %v, %d, not %v, %d", texts(threads), mem, turn, thread, fuel, e, what, want, wanted)
			}
			if !holds(t, r, m) {
				t.Fatalf("%s%v, turn %d of %d with %d: it isn't as it is meant", texts(threads), mem, turn, thread, fuel)
			}
			over[thread] = what == seq.Ended
			if e.Thread = 0; e.Kind == api.DidOut || e.Kind == api.DidTrap {
				e.N = 0
			}
			seen[came{e, what}]++
		}
	}
	for _, x := range []came{{what: seq.Waits}, {what: seq.Ended}, {what: seq.Tired}, {e: api.Event{Kind: api.DidOut}}, {e: api.Event{Kind: api.DidLock, N: -1}}, {e: api.Event{Kind: api.DidUnlock, N: 1 << 32}}, {e: api.Event{Kind: api.DidTrap}}, {e: api.Event{Kind: api.DidHalt}}} {
		if seen[x] < 200 {
			t.Errorf("%v: seen %d times only", x, seen[x])
		}
	}
}

// P12.3: with fuel for two turns' instructions, or more turns', it does what they do.
func TestFuelTogether(t *testing.T) {
	split := 0
	for seed := range 3000 {
		w := write(seed)
		threads, mem := w.codes()
		r, whole := seq.New(threads, mem), seq.New(threads, mem)
		for turn := range 40 {
			thread, fuel := w.roll(len(threads)), w.roll(12)
			e, what := r.Next(thread, fuel)
			for what == seq.Tired && w.roll(4) > 0 {
				more := w.roll(12)
				fuel += more
				e, what = r.Next(thread, more)
				split++
			}
			if got, is := whole.Next(thread, fuel); got != e || is != what {
				t.Fatalf("%s%v, turn %d of %d with %d: %v, %d, not %v, %d", texts(threads), mem, turn, thread, fuel, got, is, e, what)
			}
			if !alike(r, whole, len(threads)) {
				t.Fatalf("%s%v, turn %d of %d with %d: it isn't as it was in turns", texts(threads), mem, turn, thread, fuel)
			}
		}
	}
	if split < 10000 {
		t.Error(split)
	}
}

// alike tells whether two runs of so many threads stand alike.
func alike(a, b *seq.Run, threads int) bool {
	is := slices.Equal(a.Memory(), b.Memory())
	for thread := range threads {
		is = is && a.Place(thread) == b.Place(thread)
		for _, n := range registers {
			is = is && a.Reg(thread, n) == b.Reg(thread, n)
		}
	}
	for _, lock := range []int64{0, 1, 2, -1, 1 << 32, math.MinInt64} {
		is = is && a.Owner(lock) == b.Owner(lock)
	}
	return is
}

// without is threads in which another kind stands in place of some kinds.
func without(threads []api.Code, kinds ...int) []api.Code {
	var l []api.Code
	for _, c := range threads {
		c = slices.Clone(c)
		for at := range c {
			if slices.Contains(kinds, c[at].Kind) {
				c[at].Kind = api.Out
			}
		}
		l = append(l, c)
	}
	return l
}

// again is a code that first lets registers have what they have in a run, then goes on at a place of another code; and how many instructions that takes.
func again(r *seq.Run, c api.Code) (api.Code, int) {
	var l api.Code
	for _, n := range registers {
		l = append(l, api.Ins{Kind: api.Set, D: n, N: r.Reg(0, n)})
	}
	many := len(l) + 1
	move := func(to int) int {
		if to < 0 || to >= len(c) {
			return math.MaxInt
		}
		return to + many
	}
	l = append(l, api.Ins{Kind: api.Jump, To: move(r.Place(0))})
	for _, i := range c {
		i.To = move(i.To)
		l = append(l, i)
	}
	return l, many
}

// P12.3: what a thread does hangs on its registers and on memory alone, whatever was done ahead: one that begins with the same does the same.
func TestRegistersAndMemoryAlone(t *testing.T) {
	count := 0
	for seed := range 3000 {
		w := write(seed)
		threads, mem := w.codes()
		threads = without(threads[:1], api.Take) // what waits hangs on locks
		r := seq.New(threads, mem)
		for range w.roll(20) {
			r.Next(0, w.some())
		}
		if _, what := r.Next(0, 0); what == seq.Ended {
			continue
		}
		c, many := again(r, threads[0])
		other := seq.New([]api.Code{c}, r.Memory())
		if got := next(other, 0, many); got != "tired" {
			t.Fatal(got)
		}
		for turn := range 20 {
			fuel := w.some()
			want, wanted := r.Next(0, fuel)
			if e, what := other.Next(0, fuel); e != want || what != wanted || !slices.Equal(r.Memory(), other.Memory()) {
				t.Fatalf("%s%v, turn %d with %d: %v, %d, not %v, %d", texts(threads), mem, turn, fuel, e, what, want, wanted)
			}
			count++
		}
	}
	if count < 10000 {
		t.Error(count)
	}
}

// P12.3: of threads that neither write words nor wait each does the same, whatever the others do.
func TestOthersPlayNoPart(t *testing.T) {
	for seed := range 1500 {
		w := write(seed)
		threads, mem := w.codes()
		threads = without(threads, api.Take, api.Store)
		r := seq.New(threads, mem)
		turns := make([][]came, len(threads))
		for range 60 {
			thread := w.roll(len(threads))
			e, what := r.Next(thread, 30)
			turns[thread] = append(turns[thread], came{e, what})
		}
		for thread, all := range turns {
			own := seq.New(threads, mem)
			for i, want := range all {
				if e, what := own.Next(thread, 30); e != want.e || what != want.what {
					t.Fatalf("%s%v, thread %d, turn %d: %v, %d, not %v", texts(threads), mem, thread, i, e, what, want)
				}
			}
		}
	}
}
