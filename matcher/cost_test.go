package matcher_test

import (
	"strings"
	"testing"

	"logtide/api"
	"logtide/matcher"
	"logtide/pattern"
)

// P3.2

func TestCost(t *testing.T) {
	for source, want := range map[string]int{
		"": 1, "a": 1, "[^a]": 1, "^": 1, "$": 1,
		"(x:)": 3, "(x:a)": 3, "(x:(y:a))": 5,
		"ab": 4, "abc": 6, "()()": 4, "a(bc)": 7, "(x:a)b": 6,
		"a|b": 4, "a|b|c": 6, "|": 4, "ab|c": 7, "(x:a)|b": 6,
		"a*": 3, "a+": 5, "a{2,}": 7, "a{3,}": 9, "a{40,}": 83,
		"a{0}": 1, "a?": 3, "a{1}": 3, "a{2}": 5, "a{0,2}": 5, "a{1,2}": 5, "a{2,5}": 11, "a{40}": 81, "a{0,40}": 81,
		"(ab)*": 6, "(ab){2}": 11, "(x:a){3,}": 17, "(a*)*": 5, "(a+)+": 13, "(a{2}){3}": 19, "(a|b){2,}": 16,
		"(a{40}){40}": 3281, "(a{40}b){40}": 3401, "(a{40}){0}": 1, "((a{40}){40}){40}": 4001, "((a{40}){40}){0}": 1, "(((a{40}){40}){40}){0}": 1, "((a{40}){40})*": 3283, "((a{40}){40})+": 4001, "((a{40}){40}){40,}": 4001,
	} {
		if got := matcher.Cost(parsed(t, source)); got != want {
			t.Errorf("Cost(%q) = %d, want %d", source, got, want)
		}
	}
}

// costly returns a pattern with this cost, which is at least 3300: up to 1600 bytes 'a', and then bytes 'b'.
func costly(cost int) api.Node {
	kids := []api.Node{repeat(repeat(one('a'), 0, 40), 0, 40)}
	left := cost - 3282
	if left%2 == 1 {
		kids = append(kids, concat(one('b'), one('b')))
		left -= 5
	}
	return concat(append(kids, times(left/2, one('b'))...)...)
}

// costlyText returns the longest string that a pattern of costly matches.
func costlyText(n api.Node) string {
	size := pattern.Size(n)
	for _, kid := range n.Kids {
		if kid.Op == api.Concat {
			size-- // this node takes no byte itself
		}
	}
	return strings.Repeat("a", 1600) + strings.Repeat("b", size-4)
}

func TestCostIsLimited(t *testing.T) {
	for cost := 3989; cost <= api.MaxProgram+1; cost++ {
		n := costly(cost)
		if got := matcher.Cost(n); got != cost {
			t.Errorf("Cost = %d, want %d", got, cost)
		}
		s := costlyText(n)
		if cost > api.MaxProgram {
			wantNothing(t, n, s)
			continue
		}
		want := shown(api.Match{Span: api.Span{To: len(s)}})
		m, found := matcher.Match(n, s, 0)
		if got := result(t, m, found); got != want {
			t.Errorf("Match with the cost %d = %s, want %s", cost, got, want)
		}
		m, found = matcher.Find(n, s, 0)
		if got := result(t, m, found); got != want {
			t.Errorf("Find with the cost %d = %s, want %s", cost, got, want)
		}
		m, found = matcher.Full(n, s)
		if got := result(t, m, found); got != want {
			t.Errorf("Full with the cost %d = %s, want %s", cost, got, want)
		}
		if got := results(matcher.All(n, s)); got != want {
			t.Errorf("All with the cost %d = %s, want %s", cost, got, want)
		}
	}
	for _, n := range []api.Node{costly(api.MaxProgram + 1), costly(api.MaxProgram + 2), repeat(costly(api.MaxProgram), 0, 1), concat(costly(3500), costly(3500)), parsed(t, "(((a{40}){40}){40}){40}")} {
		if got := matcher.Cost(n); got != api.MaxProgram+1 {
			t.Errorf("Cost = %d, want %d", got, api.MaxProgram+1)
		}
		wantNothing(t, n, "")
		wantNothing(t, n, "aab")
	}
	wide := concat(times(api.MaxNodes/4, repeat(repeat(repeat(one('a'), 40, -1), 40, -1), 40, -1))...)
	wide.Kids = wide.Kids[1:]
	if got := matcher.Cost(wide); got != api.MaxProgram+1 {
		t.Errorf("Cost of many repetitions = %d", got)
	}
	deep := one('a')
	for range api.MaxDepth {
		deep = repeat(deep, 40, -1)
	}
	if got := matcher.Cost(deep); got != api.MaxProgram+1 {
		t.Errorf("Cost of deep repetitions = %d", got)
	}
	if got := matcher.Cost(repeat(costly(api.MaxProgram+1), 0, 0)); got != 1 {
		t.Errorf("Cost of no repetition = %d", got)
	}
}

func TestWrongPatterns(t *testing.T) {
	for at, n := range wrong() {
		if pattern.Check(n) == api.OK {
			t.Errorf("the pattern %d is not wrong", at)
		}
		if got := matcher.Cost(n); got != 0 {
			t.Errorf("Cost of the pattern %d = %d, want 0", at, got)
		}
		wantNothing(t, n, "")
		wantNothing(t, n, "a")
	}
}

// Full appends a node to the pattern, which must not make it too great.
func TestTheGreatestPatterns(t *testing.T) {
	for _, c := range []struct {
		n api.Node
		s string
	}{
		{wrapped(api.MaxDepth, one('a')), "a"},
		{wrapped(api.MaxDepth-1, concat(one('a'), one('b'))), "ab"},
		{concat(times(api.MaxNodes-1, one('a'))...), strings.Repeat("a", api.MaxNodes-1)},
		{choice(append(times(api.MaxNodes-2, one('b')), one('a'))...), "a"},
	} {
		want := shown(api.Match{Span: api.Span{To: len(c.s)}})
		m, found := matcher.Full(c.n, c.s)
		if got := result(t, m, found); got != want {
			t.Errorf("Full = %s, want %s", got, want)
		}
		m, found = matcher.Match(c.n, c.s, 0)
		if got := result(t, m, found); got != want {
			t.Errorf("Match = %s, want %s", got, want)
		}
	}
}

func TestLongStrings(t *testing.T) {
	longest := strings.Repeat("a", api.MaxText)
	for _, source := range []string{"", "a*", "a", "$", "^", "(x:a*)b?$"} {
		wantNothing(t, parsed(t, source), longest+"a")
		wantNothing(t, parsed(t, source), longest+longest)
	}
	star := parsed(t, "(x:a)*b?$")
	want := "0-20000 x:19999-20000"
	m, found := matcher.Match(star, longest, 0)
	if got := result(t, m, found); got != want {
		t.Errorf("Match = %s, want %s", got, want)
	}
	m, found = matcher.Find(star, longest, 0)
	if got := result(t, m, found); got != want {
		t.Errorf("Find = %s, want %s", got, want)
	}
	m, found = matcher.Full(star, longest)
	if got := result(t, m, found); got != want {
		t.Errorf("Full = %s, want %s", got, want)
	}
	if got := results(matcher.All(star, longest)); got != want+", 20000-20000" {
		t.Errorf("All = %s, want %s and the end", got, want)
	}
	m, found = matcher.Match(parsed(t, "(x:)$"), longest, api.MaxText)
	if got := result(t, m, found); got != "20000-20000 x:20000-20000" {
		t.Errorf("Match at the end = %s", got)
	}
	if all := matcher.All(parsed(t, "(x:a)"), longest); len(all) != api.MaxText || shown(all[api.MaxText-1]) != "19999-20000 x:19999-20000" {
		t.Errorf("All has %d matches", len(all))
	}
}

// A search that tried its states again and again at the same offset would take longer here than a test can wait.
func TestManyWays(t *testing.T) {
	s := strings.Repeat("a", 3000)
	for _, source := range []string{"(a*)*(a*)*(a|a)*b", "(((((a*)*)*)*)*)*b", "(a|a|aa)*b", "((a{0,40}){0,40})*b", "((()|a){40}(a|()){40})*b", "(x:(y:a?)*(z:a|())*)*b"} {
		n := parsed(t, source)
		wantNothing(t, n, s)
		m, found := matcher.Full(n, s+"b")
		if !found || m.Span != (api.Span{To: len(s) + 1}) {
			t.Errorf("Full(%q) = %s, %v", source, shown(m), found)
		}
	}
	for _, source := range []string{"((a{0,40}){0,40})*b|a", "((a?){40}){20}b|a", "(()|a)*b|a"} {
		all := matcher.All(parsed(t, source), s)
		if len(all) != len(s) || all[0].Span != (api.Span{To: 1}) || all[len(s)-1].Span != (api.Span{From: len(s) - 1, To: len(s)}) {
			t.Errorf("All(%q) has %d matches", source, len(all))
		}
	}
}
