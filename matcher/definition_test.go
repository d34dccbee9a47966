package matcher_test

import (
	"errors"
	"fmt"
	"math/rand"
	"slices"
	"sort"
	"strings"
	"testing"

	"logtide/api"
	"logtide/matcher"
	"logtide/pattern"
)

// definition finds the ways of P3.1 by trying all of them, in their order.
type definition struct {
	s     string
	steps int // that are left
}

var errSteps = errors.New("too many steps")

// rest is what is tried after a node has ended at an offset, with what captures took part so far; it reports whether that was a way.
type rest func(at int, groups []api.Group) bool

// ways tries the ways of n from an offset until the rest reports a way.
func (d *definition) ways(n api.Node, at int, groups []api.Group, then rest) bool {
	if d.steps--; d.steps < 0 {
		panic(errSteps)
	}
	switch n.Op {
	case api.Empty:
		return then(at, groups)
	case api.Class:
		return at < len(d.s) && slices.ContainsFunc(n.Ranges, func(r api.Range) bool { return r.Lo <= d.s[at] && d.s[at] <= r.Hi }) && then(at+1, groups)
	case api.Begin:
		return at == 0 && then(at, groups)
	case api.End:
		return at == len(d.s) && then(at, groups)
	case api.Concat:
		return d.sequence(n.Kids, at, groups, then)
	case api.Choice:
		return slices.ContainsFunc(n.Kids, func(kid api.Node) bool { return d.ways(kid, at, groups, then) })
	case api.Capture:
		return d.ways(n.Kids[0], at, groups, func(to int, groups []api.Group) bool {
			others := slices.DeleteFunc(slices.Clone(groups), func(g api.Group) bool { return g.Name == n.Name })
			return then(to, append(others, api.Group{Name: n.Name, Span: api.Span{From: at, To: to}}))
		})
	}
	return d.repetitions(n, 0, at, groups, then)
}

// sequence tries the ways of the first node, each one followed by those of the rest.
func (d *definition) sequence(nodes []api.Node, at int, groups []api.Group, then rest) bool {
	if len(nodes) == 0 {
		return then(at, groups)
	}
	return d.ways(nodes[0], at, groups, func(at int, groups []api.Group) bool {
		return d.sequence(nodes[1:], at, groups, then)
	})
}

// repetitions tries the ways of Repeat after k repetitions.
func (d *definition) repetitions(n api.Node, k, at int, groups []api.Group, then rest) bool {
	if k < n.Max || n.Max == -1 {
		more := d.ways(n.Kids[0], at, groups, func(to int, groups []api.Group) bool {
			counts := n.Max != -1 || k < n.Min || to != at
			return counts && d.repetitions(n, k+1, to, groups, then)
		})
		if more {
			return true
		}
	}
	return k >= n.Min && then(at, groups)
}

// match returns the first way from an offset.
func (d *definition) match(n api.Node, at int) (m api.Match, found bool) {
	found = d.ways(n, at, nil, func(to int, groups []api.Group) bool {
		m = api.Match{Span: api.Span{From: at, To: to}, Groups: slices.Clone(groups)}
		return true
	})
	names := preorder(n)
	sort.Slice(m.Groups, func(i, j int) bool {
		a, b := m.Groups[i], m.Groups[j]
		if a.Span.From != b.Span.From {
			return a.Span.From < b.Span.From
		}
		return slices.Index(names, a.Name) < slices.Index(names, b.Name)
	})
	return m, found
}

// preorder returns the names of the captures.
func preorder(n api.Node) []string {
	var names []string
	if n.Op == api.Capture {
		names = append(names, n.Name)
	}
	for _, kid := range n.Kids {
		names = append(names, preorder(kid)...)
	}
	return names
}

// find returns the match at the least offset.
func (d *definition) find(n api.Node, from int) (api.Match, bool) {
	for at := from; at <= len(d.s); at++ {
		if m, found := d.match(n, at); found {
			return m, true
		}
	}
	return api.Match{}, false
}

// all returns the matches of find.
func (d *definition) all(n api.Node) []api.Match {
	var matches []api.Match
	for from := 0; from <= len(d.s); {
		m, found := d.find(n, from)
		if !found {
			break
		}
		matches = append(matches, m)
		from = max(m.Span.To, m.Span.From+1)
	}
	return matches
}

// compare compares everything that finds n in s with the definition, and reports whether the definition needed few enough steps.
func compare(t *testing.T, n api.Node, s string) (done bool) {
	t.Helper()
	defer func() {
		if e := recover(); e != nil && e != errSteps {
			panic(e)
		}
	}()
	d := &definition{s: s, steps: 100000}
	same := func(what, got, want string) {
		t.Helper()
		if got != want {
			t.Errorf("%s of %v in %q is %s, want %s", what, n, s, got, want)
		}
	}
	for at := 0; at <= len(s); at++ {
		wantMatch, matches := d.match(n, at)
		gotMatch, matched := matcher.Match(n, s, at)
		same(fmt.Sprintf("Match at %d", at), result(t, gotMatch, matched), result(t, wantMatch, matches))
		wantFound, finds := d.find(n, at)
		gotFound, found := matcher.Find(n, s, at)
		same(fmt.Sprintf("Find from %d", at), result(t, gotFound, found), result(t, wantFound, finds))
	}
	wantFull, fills := d.match(concat(n, end), 0)
	gotFull, filled := matcher.Full(n, s)
	same("Full", result(t, gotFull, filled), result(t, wantFull, fills))
	same("All", results(matcher.All(n, s)), results(d.all(n)))
	return true
}

// named returns n with other names for its captures, the first of which is the greatest.
func named(n api.Node, next *byte) api.Node {
	if n.Op == api.Capture {
		n.Name = string([]byte{*next})
		*next--
	}
	n.Kids = slices.Clone(n.Kids)
	for at := range n.Kids {
		n.Kids[at] = named(n.Kids[at], next)
	}
	return n
}

// bounds are bounds of repetitions.
var bounds = [][2]int{{0, -1}, {1, -1}, {2, -1}, {0, 1}, {1, 2}, {0, 0}, {2, 2}, {0, 3}}

// trees returns all patterns with so many nodes, of which few kinds are needed.
func trees(size int) []api.Node {
	if size == 1 {
		return []api.Node{empty, one('a'), class('a', 'b'), begin, end}
	}
	var list []api.Node
	for _, kid := range trees(size - 1) {
		list = append(list, capture("a", kid))
		for _, b := range bounds {
			list = append(list, repeat(kid, b[0], b[1]))
		}
	}
	for first := 1; first < size-1; first++ {
		for _, a := range trees(first) {
			for _, b := range trees(size - 1 - first) {
				list = append(list, concat(a, b), choice(a, b))
			}
		}
	}
	return list
}

// texts returns all strings of at most so many bytes, of few kinds.
func texts(size int) []string {
	list := []string{""}
	for from := 0; len(list[from]) < size; from++ {
		list = append(list, list[from]+"a", list[from]+"b")
	}
	return list
}

// P3.1, P3.3, P3.4

func TestAllSmallPatterns(t *testing.T) {
	undone := 0
	for size := 1; size <= 4; size++ {
		for _, n := range trees(size) {
			next := byte('z')
			n = named(n, &next)
			for _, s := range texts(3) {
				if !compare(t, n, s) {
					undone++
				}
			}
			if t.Failed() {
				return
			}
		}
	}
	if undone > 100 {
		t.Errorf("%d patterns were not compared", undone)
	}
}

// randomNode returns a pattern that is nested at most so deeply.
func randomNode(r *rand.Rand, depth int) api.Node {
	kind := r.Intn(12)
	if depth == 0 {
		kind = r.Intn(4)
	}
	switch kind {
	case 0:
		return empty
	case 1, 2:
		return one("ab"[r.Intn(2)])
	case 3:
		return []api.Node{begin, end, class('a', 'b'), one('a')}[r.Intn(4)]
	case 4, 5, 6:
		return concat(randomNodes(r, depth-1)...)
	case 7, 8:
		return choice(randomNodes(r, depth-1)...)
	case 9:
		return capture("a", randomNode(r, depth-1))
	}
	b := bounds[r.Intn(len(bounds))]
	if r.Intn(2) == 0 {
		b = [2]int{0, -1}
	}
	return repeat(randomNode(r, depth-1), b[0], b[1])
}

// randomNodes returns kids of a Concat or a Choice.
func randomNodes(r *rand.Rand, depth int) []api.Node {
	var kids []api.Node
	for range 2 + r.Intn(2) {
		kids = append(kids, randomNode(r, depth))
	}
	return kids
}

func TestRandomPatterns(t *testing.T) {
	r := rand.New(rand.NewSource(3))
	done := 0
	for range 40000 {
		next := byte('z')
		n := named(randomNode(r, 2+r.Intn(5)), &next)
		if pattern.Check(n) != api.OK || matcher.Cost(n) > api.MaxProgram {
			continue
		}
		s := make([]byte, r.Intn(7))
		for i := range s {
			s[i] = "aaab"[r.Intn(4)]
		}
		if compare(t, n, string(s)) {
			done++
		}
		if t.Failed() {
			return
		}
	}
	if done < 20000 {
		t.Errorf("only %d patterns were compared", done)
	}
}

func TestLoopsInLoops(t *testing.T) {
	for _, source := range []string{
		"((()|a)(()|b))*c", "(x:(()|a)(()|b))*c", "((x:()|a)(y:()|b))*", "((x:()|a)(y:()|b)(z:()|c))*",
		"(x:(y:(z:()|a)*(()|b))*(()|c))*", "((x:a*)*(y:b*)*)*", "((x:a*)+(y:b*)+)+", "((x:a*){2,}(y:b*){1,})*c",
		"(x:(y:a|(z:()|b)*)*c?)*", "((x:a?)(y:b*)|(z:c))*", "(a?(x:b?(y:c?)*)*)*", "((x:(y:a*b*)*)*c*)*",
		"((a|(x:()))*(b|(y:()))*)*", "((()|a)*(()|b)*(()|c)*)*", "(x:(y:()|a){0,2}(z:()|b)*)*c", "((x:(()|a)*){2}b?)*",
		"((x:()|a)(y:()|b)){2,}c", "(x:^|a)*b", "(x:^|a|$)*", "((x:a|ab)(y:c|bcd)(z:d*))*",
		"(((x:()|a)*|b)*|c)*", "(((x:()|a)+|b)+|c)+", "(((x:()|a)*(y:()|b))*(z:()|c))*", "((x:()|a)((y:()|b)(z:()|c)*)*)*",
	} {
		n := parsed(t, source)
		for _, s := range []string{"", "a", "b", "c", "ab", "ba", "abc", "acb", "cba", "aabc", "abab", "abcabc", "aabbcc", "ccbbaa", "abcd", "aabcbb", "d", "abdabc"} {
			if !compare(t, n, s) {
				t.Errorf("%q in %q takes too many steps", source, s)
			}
		}
	}
}

// P3.6

func TestMatchesDoNotOverlap(t *testing.T) {
	for _, source := range []string{"a*", "", "aa|a|()", "(x:a|b)*b", "$|a", "ab?|b"} {
		for _, s := range texts(6) {
			to, empties := 0, -1
			for _, m := range matcher.All(parsed(t, source), s) {
				if m.Span.From < to || m.Span.To < m.Span.From || m.Span.From == empties {
					t.Errorf("All(%q, %q) has %s after a match that ends at %d", source, s, shown(m), to)
				}
				to, empties = m.Span.To, -1
				if m.Span.From == m.Span.To {
					empties = to
				}
			}
		}
	}
}

func TestFullNeedsAWayToTheEnd(t *testing.T) {
	for _, source := range []string{"a|ab", "(a|ab)(a|b)*", "a*", "a?b?a?", "(ab|a|b){2}", "()|a|aba"} {
		n := parsed(t, source)
		for _, s := range texts(5) {
			ends := false
			d := &definition{s: s, steps: 100000}
			d.ways(n, 0, nil, func(to int, _ []api.Group) bool {
				ends = ends || to == len(s)
				return false
			})
			if _, found := matcher.Full(n, s); found != ends {
				t.Errorf("Full(%q, %q) is %v", source, s, found)
			}
		}
	}
}

func TestLiterals(t *testing.T) {
	list := append(texts(3), "a b", "a.b", "\x00\xff", "ä", "a\nb", strings.Repeat("xyz", 40))
	for _, literal := range list {
		n := empty
		switch kids := literalNodes(literal); len(kids) {
		case 0:
		case 1:
			n = kids[0]
		default:
			n = concat(kids...)
		}
		for _, s := range list {
			if _, found := matcher.Full(n, s); found != (s == literal) {
				t.Errorf("the literal %q in %q: %v", literal, s, found)
			}
		}
	}
}

// literalNodes returns a node for each byte.
func literalNodes(literal string) []api.Node {
	var nodes []api.Node
	for i := range len(literal) {
		nodes = append(nodes, one(literal[i]))
	}
	return nodes
}
