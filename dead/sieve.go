package dead

import (
	"paling/api"
	"paling/graph"
	"paling/ins"
)

// sieve finds what nobody needs of a code, what nobody needs once that is gone, and so on. Nothing becomes needed by what goes, so that it plays no part what goes first; and by what went less is needed of the registers that it read alone: so it looks at no others anew.
type sieve struct {
	code   api.Code
	from   [][]int // by places: from where each is come to
	gone   []bool
	regs   map[int]*register
	waits  []int // registers to look at
	behind []int // by places: at which look a register was last found to be needed behind it
	looks  int
}

// register is the places that read one, and those that do nothing but write it.
type register struct {
	reads, writes []int
	waits         bool
}

// sifted tells which instructions of a code nobody needs at last.
func sifted(c api.Code) []bool {
	s := sieveOf(c)
	for len(s.waits) > 0 {
		last := len(s.waits) - 1
		reg := s.waits[last]
		s.waits = s.waits[:last]
		s.look(reg)
	}
	s.leap()
	return s.gone
}

// sieveOf is that of a code, from which is gone what nobody needs whatever registers are needed; all that are written wait.
func sieveOf(c api.Code) *sieve {
	many := len(c)
	s := &sieve{code: c, from: graph.Preds(c), gone: make([]bool, many), regs: map[int]*register{}, behind: make([]int, many)}
	reached := graph.Reach(c)
	for at := range many {
		if s.gone[at] = !reached[at] || stays(c[at]); s.gone[at] {
			continue
		}
		for _, reg := range ins.Uses(c[at]) {
			r := s.register(reg)
			r.reads = append(r.reads, at)
		}
		if writes(c[at]) {
			r := s.register(c[at].D)
			r.writes = append(r.writes, at)
			s.wait(c[at].D)
		}
	}
	return s
}

// register is one.
func (s *sieve) register(reg int) *register {
	r := s.regs[reg]
	if r == nil {
		r = &register{}
		s.regs[reg] = r
	}
	return r
}

// wait lets a register wait, once.
func (s *sieve) wait(reg int) {
	if r := s.register(reg); !r.waits {
		r.waits = true
		s.waits = append(s.waits, reg)
	}
}

// look lets go what writes a register that isn't needed behind it; then those that it read are to be looked at anew.
func (s *sieve) look(reg int) {
	s.need(reg)
	r := s.regs[reg]
	r.waits = false
	for _, at := range r.writes {
		if s.gone[at] || s.behind[at] == s.looks {
			continue
		}
		s.gone[at] = true
		for _, read := range ins.Uses(s.code[at]) {
			s.wait(read)
		}
	}
}

// need finds behind which places a register is needed, from those that read it on back to those that write it.
func (s *sieve) need(reg int) {
	s.looks++
	var ahead []int // places ahead of which it's needed
	for _, at := range s.regs[reg].reads {
		if !s.gone[at] {
			ahead = append(ahead, at)
		}
	}
	for len(ahead) > 0 {
		last := len(ahead) - 1
		at := ahead[last]
		ahead = ahead[:last]
		for _, from := range s.from[at] {
			if s.behind[from] == s.looks {
				continue
			}
			s.behind[from] = s.looks
			if s.gone[from] || ins.Def(s.code[from]) != reg {
				ahead = append(ahead, from)
			}
		}
	}
}

// leap lets go the jumps that leap over nothing but what is gone: from the end on, as some leap over others.
func (s *sieve) leap() {
	next := len(s.code) // the next one that isn't gone
	for n := range len(s.code) {
		at := len(s.code) - 1 - n
		if leaps(s.code[at], at, next) {
			s.gone[at] = true
		}
		if !s.gone[at] {
			next = at
		}
	}
}
