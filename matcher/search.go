package matcher

import (
	"cmp"
	"slices"

	"logtide/api"
)

// state is where a search is: before an instruction, at an offset. Moved tells whether the current repetition of the innermost loop around the instruction has taken a byte; outside of all loops it is true. The loops further out need no flag: their repetitions cannot end before that of the innermost one has taken a byte, which is then a byte of theirs, too. So what a state leads to does not depend on how it was reached, and a state that led to no match need not be tried again.
type state struct {
	pc, at int
	moved  bool
}

// search looks for matches of a program in a string, by trying the ways in their order.
type search struct {
	program
	text    string
	from    int      // the least offset
	tried   []uint64 // a bit for the number of each state that was entered; after a match, only those that led to none
	pending []int32  // the numbers of the forks and loops on the current way whose other way was not taken, in the order of the way; the limits keep them small
}

// newSearch returns a search at offsets from the given one on.
func newSearch(p program, text string, from int) *search {
	return &search{program: p, text: text, from: from}
}

// find returns the match at the least offset from the given one on.
func (s *search) find(from int) (api.Match, bool) {
	for at := from; at <= len(s.text); at++ {
		if m, found := s.match(at); found {
			return m, true
		}
	}
	return api.Match{}, false
}

// match returns the first way from an offset.
func (s *search) match(at int) (api.Match, bool) {
	first := state{pc: s.start, at: at, moved: true}
	if !s.run(first) {
		return api.Match{}, false
	}
	return s.retrace(first), true
}

// run reports whether there is a way from t to the end of the program. If there is one, pending tells the first one.
func (s *search) run(t state) bool {
	s.pending = s.pending[:0]
	for s.code[t.pc].op != accept {
		next, possible := s.enter(t)
		if !possible {
			next, possible = s.back()
		}
		if !possible {
			return false
		}
		t = next
	}
	return true
}

// enter goes on from t in the preferred way, unless this was tried before.
func (s *search) enter(t state) (state, bool) {
	number := s.number(t)
	if !s.isNew(number) {
		return state{}, false
	}
	if op := s.code[t.pc].op; op == fork || op == loop {
		s.pending = append(s.pending, int32(number))
	}
	return s.step(t)
}

// back goes on in the other way of the last fork or loop whose other way was not taken.
func (s *search) back() (state, bool) {
	if len(s.pending) == 0 {
		return state{}, false
	}
	last := len(s.pending) - 1
	t := s.numbered(int(s.pending[last]))
	s.pending = s.pending[:last]
	return s.otherWay(t), true
}

// step carries out the instruction of t in the preferred way, if that is possible.
func (s *search) step(t state) (state, bool) {
	i := &s.code[t.pc]
	possible := true
	switch i.op {
	case consume:
		possible = t.at < len(s.text) && i.set.has(s.text[t.at])
		t.at++
		t.moved = true
	case atBegin:
		possible = t.at == 0
	case atEnd:
		possible = t.at == len(s.text)
	case loop:
		t.moved = false
	case again:
		possible = t.moved
	}
	t.pc = i.next
	return t, possible
}

// otherWay carries out the fork or loop of t in the other way. What follows a loop is in the loop around it, whose flag t has.
func (s *search) otherWay(t state) state {
	t.pc = s.code[t.pc].other
	return t
}

// retrace walks the way that run has found from t, and returns its match. The states on it are those that were tried and led to a match, so they may be tried again.
func (s *search) retrace(t state) api.Match {
	from := t.at
	groups := make([]api.Group, len(s.names))
	pending := s.pending
	for s.code[t.pc].op != accept {
		number := s.number(t)
		s.tried[number/64] &^= 1 << (number % 64)
		i := &s.code[t.pc]
		switch i.op {
		case open:
			groups[i.capture].Span.From = t.at
		case shut:
			groups[i.capture].Name = s.names[i.capture]
			groups[i.capture].Span.To = t.at
		case fork, loop:
			if len(pending) == 0 || int(pending[0]) != number {
				t = s.otherWay(t)
				continue
			}
			pending = pending[1:]
		}
		t, _ = s.step(t)
	}
	return api.Match{Span: api.Span{From: from, To: t.at}, Groups: inOrder(groups)}
}

// inOrder returns the groups that have a name, which only captures on the way got, in ascending order of their beginnings.
func inOrder(groups []api.Group) []api.Group {
	groups = slices.DeleteFunc(groups, func(g api.Group) bool { return g.Name == "" })
	slices.SortStableFunc(groups, func(a, b api.Group) int { return cmp.Compare(a.Span.From, b.Span.From) })
	return groups
}

// number returns the number of a state: different ones for different states, and greater ones for greater offsets.
func (s *search) number(t state) int {
	number := (t.at-s.from)*len(s.code) + t.pc
	if t.moved {
		return 2*number + 1
	}
	return 2 * number
}

// numbered returns the state with a number.
func (s *search) numbered(number int) state {
	half := number / 2
	return state{pc: half % len(s.code), at: s.from + half/len(s.code), moved: number%2 == 1}
}

// isNew reports whether the state with this number was not tried before, and notes that it is tried now. The bits grow with the offsets that are reached, so that a match that ends early costs little in a long string.
func (s *search) isNew(number int) bool {
	word, bit := number/64, uint64(1)<<(number%64)
	if missing := word + 1 - len(s.tried); missing > 0 {
		s.tried = append(s.tried, make([]uint64, missing)...)
	}
	if s.tried[word]&bit != 0 {
		return false
	}
	s.tried[word] |= bit
	return true
}
