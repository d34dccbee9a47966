package matcher_test

import (
	"fmt"
	"slices"
	"strings"
	"testing"

	"logtide/api"
	"logtide/matcher"
	"logtide/pattern"
)

var (
	empty = api.Node{Op: api.Empty}
	begin = api.Node{Op: api.Begin}
	end   = api.Node{Op: api.End}
)

// class returns a Class; each two bytes are the first and the last one of a range.
func class(ends ...byte) api.Node {
	n := api.Node{Op: api.Class}
	for i := 0; i < len(ends); i += 2 {
		n.Ranges = append(n.Ranges, api.Range{Lo: ends[i], Hi: ends[i+1]})
	}
	return n
}

func one(c byte) api.Node { return class(c, c) }

func concat(kids ...api.Node) api.Node { return api.Node{Op: api.Concat, Kids: kids} }

func choice(kids ...api.Node) api.Node { return api.Node{Op: api.Choice, Kids: kids} }

func repeat(kid api.Node, lo, hi int) api.Node {
	return api.Node{Op: api.Repeat, Kids: []api.Node{kid}, Min: lo, Max: hi}
}

func capture(name string, kid api.Node) api.Node {
	return api.Node{Op: api.Capture, Name: name, Kids: []api.Node{kid}}
}

// times returns a list that has n so often.
func times(count int, n api.Node) []api.Node {
	var list []api.Node
	for range count {
		list = append(list, n)
	}
	return list
}

// wrapped returns n inside of count repetitions.
func wrapped(count int, n api.Node) api.Node {
	for range count {
		n = repeat(n, 0, 1)
	}
	return n
}

// around returns a node that contains itself.
func around() api.Node {
	kids := make([]api.Node, 2)
	n := concat(kids...)
	kids[0], kids[1] = n, n
	return n
}

// wrong returns a node for each error of pattern.Check.
func wrong() []api.Node {
	return []api.Node{
		{Op: -1},
		{Op: 8},
		{Op: api.Class},
		class('b', 'a'),
		concat(),
		concat(empty),
		choice(empty),
		{Op: api.Repeat},
		{Op: api.Capture, Name: "a"},
		{Op: api.Empty, Name: "a"},
		{Op: api.Empty, Kids: []api.Node{empty}},
		repeat(empty, 2, 1),
		repeat(empty, -1, 1),
		repeat(empty, 0, -2),
		repeat(empty, 0, 41),
		repeat(class(), 0, 0),
		capture("", empty),
		concat(capture("a", empty), capture("a", empty)),
		concat(times(api.MaxNodes, empty)...),
		wrapped(api.MaxDepth+1, empty),
		around(),
	}
}

// parsed returns the pattern with this source.
func parsed(t testing.TB, source string) api.Node {
	t.Helper()
	n, at, err := pattern.Parse(source)
	if err != api.OK {
		t.Fatalf("Parse(%q): %d at %d", source, err, at)
	}
	return n
}

// shown writes a match like this: 0-4 x:0-1 y:1-4.
func shown(m api.Match) string {
	s := fmt.Sprintf("%d-%d", m.Span.From, m.Span.To)
	for _, g := range m.Groups {
		s += fmt.Sprintf(" %s:%d-%d", g.Name, g.Span.From, g.Span.To)
	}
	return s
}

// result writes a match, or "no" if there is none.
func result(t testing.TB, m api.Match, found bool) string {
	t.Helper()
	if found {
		return shown(m)
	}
	if m.Span != (api.Span{}) || len(m.Groups) > 0 {
		t.Errorf("a match that was not found is %s", shown(m))
	}
	return "no"
}

// results writes matches.
func results(matches []api.Match) string {
	var all []string
	for _, m := range matches {
		all = append(all, shown(m))
	}
	return strings.Join(all, ", ")
}

// wantMatch reports an error if Match of the pattern with this source does not return that.
func wantMatch(t *testing.T, source, s string, at int, want string) {
	t.Helper()
	m, found := matcher.Match(parsed(t, source), s, at)
	if got := result(t, m, found); got != want {
		t.Errorf("Match(%q, %q, %d) = %s, want %s", source, s, at, got, want)
	}
}

// wantNothing reports an error if anything but Value and Cost finds n in s.
func wantNothing(t *testing.T, n api.Node, s string) {
	t.Helper()
	for _, at := range []int{0, len(s)} {
		m, found := matcher.Match(n, s, at)
		if got := result(t, m, found); got != "no" {
			t.Errorf("Match at %d = %s", at, got)
		}
		m, found = matcher.Find(n, s, at)
		if got := result(t, m, found); got != "no" {
			t.Errorf("Find from %d = %s", at, got)
		}
	}
	m, found := matcher.Full(n, s)
	if got := result(t, m, found); got != "no" {
		t.Errorf("Full = %s", got)
	}
	if all := matcher.All(n, s); len(all) > 0 {
		t.Errorf("All = %s", results(all))
	}
}

// equal compares two nodes.
func equal(a, b api.Node) bool {
	return a.Op == b.Op && a.Name == b.Name && a.Min == b.Min && a.Max == b.Max && slices.Equal(a.Ranges, b.Ranges) && slices.EqualFunc(a.Kids, b.Kids, equal)
}
