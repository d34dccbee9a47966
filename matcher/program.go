package matcher

import (
	"slices"

	"logtide/api"
)

// operation says what an instruction does.
type operation int

const (
	accept  operation = iota // the match ends here
	consume                  // goes on after a byte of the set
	atBegin                  // goes on at the beginning of the string
	atEnd                    // goes on at the end of the string
	open                     // notes where a capture begins
	shut                     // notes where it ends
	fork                     // goes on in two ways, the first of which is preferred
	loop                     // a fork between one more repetition and what follows a repetition without an upper bound
	again                    // goes back to the loop if the repetition took a byte
)

// instruction is a state of a program.
type instruction struct {
	op      operation
	next    int     // the instruction after this one, in the preferred way
	other   int     // fork, loop: the one in the other way
	set     byteSet // consume
	capture int     // open, shut: the index of the capture
}

// program is a pattern with all repetitions written out.
type program struct {
	code  []instruction
	start int
	names []string // of the captures, in preorder
}

// compile returns the program of the nodes, one after the other.
func compile(nodes ...api.Node) program {
	var p program
	for _, n := range nodes {
		p.names = appendNames(p.names, n)
	}
	p.start = p.sequence(nodes, p.emit(instruction{op: accept}))
	return p
}

// appendNames appends the names of the captures of n in preorder.
func appendNames(names []string, n api.Node) []string {
	if n.Op == api.Capture {
		names = append(names, n.Name)
	}
	for _, kid := range n.Kids {
		names = appendNames(names, kid)
	}
	return names
}

// emit appends an instruction and returns its index.
func (p *program) emit(i instruction) int {
	p.code = append(p.code, i)
	return len(p.code) - 1
}

// node emits a node that is followed by the instruction next, and returns its first instruction. A node needs no instruction of its own to go to the next one, because what follows is emitted first.
func (p *program) node(n api.Node, next int) int {
	switch n.Op {
	case api.Class:
		return p.emit(instruction{op: consume, next: next, set: setOf(n.Ranges)})
	case api.Concat:
		return p.sequence(n.Kids, next)
	case api.Choice:
		return p.choice(n.Kids, next)
	case api.Repeat:
		return p.repeat(n, next)
	case api.Capture:
		return p.capture(n, next)
	case api.Begin:
		return p.emit(instruction{op: atBegin, next: next})
	case api.End:
		return p.emit(instruction{op: atEnd, next: next})
	}
	return next
}

// sequence emits nodes, one after the other.
func (p *program) sequence(nodes []api.Node, next int) int {
	for _, n := range slices.Backward(nodes) {
		next = p.node(n, next)
	}
	return next
}

// choice emits alternatives, the first of which is preferred.
func (p *program) choice(kids []api.Node, next int) int {
	last := len(kids) - 1
	first := p.node(kids[last], next)
	for _, kid := range slices.Backward(kids[:last]) {
		first = p.emit(instruction{op: fork, next: p.node(kid, next), other: first})
	}
	return first
}

// repeat emits a repetition: the kid as often as it must be there, and then as often as it can be.
func (p *program) repeat(n api.Node, next int) int {
	kid := n.Kids[0]
	first := next
	if n.Max == -1 {
		first = p.loop(kid, next)
	}
	for range n.Max - n.Min {
		first = p.emit(instruction{op: fork, next: p.node(kid, first), other: next})
	}
	for range n.Min {
		first = p.node(kid, first)
	}
	return first
}

// loop emits any number of repetitions of the kid.
func (p *program) loop(kid api.Node, next int) int {
	first := p.emit(instruction{op: loop, other: next})
	body := p.node(kid, p.emit(instruction{op: again, next: first}))
	p.code[first].next = body
	return first
}

// capture emits a capture.
func (p *program) capture(n api.Node, next int) int {
	index := slices.Index(p.names, n.Name)
	body := p.node(n.Kids[0], p.emit(instruction{op: shut, next: next, capture: index}))
	return p.emit(instruction{op: open, next: body, capture: index})
}

// byteSet has one bit for each byte.
type byteSet [4]uint64

// setOf returns the set of the bytes of the ranges.
func setOf(ranges []api.Range) byteSet {
	var set byteSet
	for _, r := range ranges {
		for c := int(r.Lo); c <= int(r.Hi); c++ {
			set[c/64] |= 1 << (c % 64)
		}
	}
	return set
}

// has reports whether c is in the set.
func (s *byteSet) has(c byte) bool { return s[c/64]>>(c%64)&1 == 1 }
