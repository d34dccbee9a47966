package matcher_test

import (
	"math"
	"strings"
	"testing"

	"logtide/api"
	"logtide/matcher"
)

// P3.4

func TestFind(t *testing.T) {
	for _, c := range []struct {
		source, s string
		from      int
		want      string
	}{
		{"(n:\\d+)", "ab12c345", 0, "2-4 n:2-4"},
		{"(n:\\d+)", "ab12c345", 2, "2-4 n:2-4"},
		{"(n:\\d+)", "ab12c345", 3, "3-4 n:3-4"},
		{"(n:\\d+)", "ab12c345", 4, "5-8 n:5-8"},
		{"(n:\\d+)", "ab12c345", 7, "7-8 n:7-8"},
		{"(n:\\d+)", "ab12c345", 8, "no"},
		{"(n:\\d+)", "ab12c345", 9, "no"},
		{"(n:\\d+)", "ab12c345", -1, "no"},
		{"", "ab", 0, "0-0"},
		{"", "ab", 1, "1-1"},
		{"", "ab", 2, "2-2"},
		{"", "ab", 3, "no"},
		{"", "ab", -1, "no"},
		{"", "ab", math.MaxInt, "no"},
		{"", "ab", math.MinInt, "no"},
		{"", "", 0, "0-0"},
		{"", "", 1, "no"},
		{"$", "ab", 0, "2-2"},
		{"$", "ab", 2, "2-2"},
		{"^", "ab", 0, "0-0"},
		{"^", "ab", 1, "no"},
		{"^b", "ab", 0, "no"},
		{"abc|b", "abd", 0, "1-2"},
		{"b|ab", "ab", 0, "0-2"},
		{"b|a", "ab", 0, "0-1"},
		{"a*b|a", "aac", 0, "0-1"},
		{"(x:a)*b", "aacaab", 0, "3-6 x:4-5"},
		{"x", "aaa", 0, "no"},
	} {
		m, found := matcher.Find(parsed(t, c.source), c.s, c.from)
		if got := result(t, m, found); got != c.want {
			t.Errorf("Find(%q, %q, %d) = %s, want %s", c.source, c.s, c.from, got, c.want)
		}
	}
}

func TestAll(t *testing.T) {
	for _, c := range []struct{ source, s, want string }{
		{"\\d+", "ab12c345", "2-4, 5-8"},
		{"(n:\\d)", "12", "0-1 n:0-1, 1-2 n:1-2"},
		{"a*", "baac", "0-0, 1-3, 3-3, 4-4"},
		{"a*", "aa", "0-2, 2-2"},
		{"a*", "", "0-0"},
		{"a", "", ""},
		{"", "ab", "0-0, 1-1, 2-2"},
		{"x", "aaa", ""},
		{"aa", "aaaaa", "0-2, 2-4"},
		{"^a", "aaa", "0-1"},
		{"^", "aaa", "0-0"},
		{"$", "ab", "2-2"},
		{"b$|a", "abab", "0-1, 2-3, 3-4"},
		{"a*b|a", "aaac", "0-1, 1-2, 2-3"},
		{"a*b|a", "aaba", "0-3, 3-4"},
		{"(|a)b|a", "aaab", "0-1, 1-2, 2-4"},
		{"(x:a)b(y:c)|(y2:a)b|(z:a)", "abcaba", "0-3 x:0-1 y:2-3, 3-5 y2:3-4, 5-6 z:5-6"},
		{"ab|()", "aab", "0-0, 1-3, 3-3"},
		// from the end of the first match on, the states at this offset through which the first one went must not be lost
		{"a?b?", "aab", "0-1, 1-3, 3-3"},
		{"(a|b)*", "abab", "0-4, 4-4"},
		{"(a|b)?", "ab", "0-1, 1-2, 2-2"},
		{"a(x:b*)(y:)", "ab", "0-2 x:1-2 y:2-2"},
	} {
		if got := results(matcher.All(parsed(t, c.source), c.s)); got != c.want {
			t.Errorf("All(%q, %q) = %s, want %s", c.source, c.s, got, c.want)
		}
	}
}

func TestFull(t *testing.T) {
	for _, c := range []struct{ source, s, want string }{
		{"", "", "0-0"},
		{"", "a", "no"},
		{"a", "a", "0-1"},
		{"a", "", "no"},
		{"a", "ab", "no"},
		{"a", "ba", "no"},
		{"b|a|ab", "ab", "0-2"},
		{"a*", "ab", "no"},
		{"a*", "aaa", "0-3"},
		{"^a*$", "aa", "0-2"},
		{"(x:a|ab)(y:c|bcd)", "abcd", "0-4 x:0-1 y:1-4"},
		{"(x:a|ab)(y:c|bcd|d*)", "abcd", "0-4 x:0-1 y:1-4"},
		{"(x:a|ab)(y:c|bc)", "abc", "0-3 x:0-1 y:1-3"},
		{"(x:a|ab)(y:c|b)", "abc", "0-3 x:0-2 y:2-3"},
		{"(x:a)|(y:ab)", "ab", "0-2 y:0-2"},
		{"(x:()|a)*", "aa", "0-2 x:1-2"},
		{"(x:()|a)?", "a", "0-1 x:0-1"},
		{"a", "a\n", "no"},
	} {
		m, found := matcher.Full(parsed(t, c.source), c.s)
		if got := result(t, m, found); got != c.want {
			t.Errorf("Full(%q, %q) = %s, want %s", c.source, c.s, got, c.want)
		}
	}
}

// P3.5

func group(name string, from, to int) api.Group {
	return api.Group{Name: name, Span: api.Span{From: from, To: to}}
}

func TestValue(t *testing.T) {
	for _, c := range []struct {
		groups []api.Group
		name   string
		want   string
		found  bool
	}{
		{nil, "n", "", false},
		{[]api.Group{}, "", "", false},
		{[]api.Group{group("n", 2, 4)}, "n", "12", true},
		{[]api.Group{group("n", 2, 4)}, "", "", false},
		{[]api.Group{group("n", 2, 4)}, "N", "", false},
		{[]api.Group{group("n", 2, 4)}, "nn", "", false},
		{[]api.Group{group("nn", 2, 4)}, "n", "", false},
		{[]api.Group{group("", 2, 4)}, "", "12", true},
		{[]api.Group{group("m", 0, 1), group("n", 2, 4)}, "n", "12", true},
		{[]api.Group{group("m", 0, 9), group("n", 2, 4)}, "n", "12", true},
		{[]api.Group{group("n", 0, 1), group("n", 2, 4)}, "n", "a", true},
		{[]api.Group{group("n", 0, 6), group("n", 2, 4)}, "n", "", false},
		{[]api.Group{group("n", 0, 5)}, "n", "ab12c", true},
		{[]api.Group{group("n", 0, 0)}, "n", "", true},
		{[]api.Group{group("n", 5, 5)}, "n", "", true},
		{[]api.Group{group("n", 3, 3)}, "n", "", true},
		{[]api.Group{group("n", 4, 6)}, "n", "", false},
		{[]api.Group{group("n", 5, 6)}, "n", "", false},
		{[]api.Group{group("n", 6, 6)}, "n", "", false},
		{[]api.Group{group("n", 3, 2)}, "n", "", false},
		{[]api.Group{group("n", 6, 2)}, "n", "", false},
		{[]api.Group{group("n", -1, 2)}, "n", "", false},
		{[]api.Group{group("n", -1, -1)}, "n", "", false},
		{[]api.Group{group("n", 0, -1)}, "n", "", false},
		{[]api.Group{group("n", math.MinInt, 2)}, "n", "", false},
		{[]api.Group{group("n", 0, math.MaxInt)}, "n", "", false},
		{[]api.Group{group("n", math.MinInt, math.MaxInt)}, "n", "", false},
		{[]api.Group{group("n", math.MaxInt, math.MinInt)}, "n", "", false},
	} {
		value, found := matcher.Value(api.Match{Groups: c.groups}, "ab12c", c.name)
		if value != c.want || found != c.found {
			t.Errorf("Value(%v, %q) = %q, %v", c.groups, c.name, value, found)
		}
	}
}

func TestValueOfMatches(t *testing.T) {
	s := "user anna took 17ms"
	m, _ := matcher.Find(parsed(t, "user (name:\\w+) took (n:\\d+)ms(rest:)"), s, 0)
	for name, want := range map[string]string{"name": "anna", "n": "17", "rest": ""} {
		if value, found := matcher.Value(m, s, name); value != want || !found {
			t.Errorf("Value of %q = %q, %v", name, value, found)
		}
	}
	long := strings.Repeat("x", api.MaxText) + "yz"
	if value, found := matcher.Value(api.Match{Groups: []api.Group{group("n", api.MaxText, api.MaxText+2)}}, long, "n"); value != "yz" || !found {
		t.Errorf("Value in a long string = %q, %v", value, found)
	}
	if value, found := matcher.Value(api.Match{Span: api.Span{From: 3, To: 2}, Groups: []api.Group{group("n", 0, 1)}}, "a", "n"); value != "a" || !found {
		t.Errorf("Value of a match with a wrong span = %q, %v", value, found)
	}
}
