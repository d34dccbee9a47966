package library_test

import (
	"slices"
	"strings"
	"testing"

	"logtide/api"
)

// P4.3

func TestCheck(t *testing.T) {
	longest := strings.Repeat("n", api.MaxName)
	for _, l := range [][]api.Definition{
		nil,
		{},
		list("A", "a"),
		list("A", ""),
		list("A", " a "),
		list("A", "%"),
		list("A", "%{B}", "B", "%{C:f}%{C}", "C", "c"),
		list("C", "c", "B", "%{C}", "A", "%{B:b}"),
		list("A", "a", "a", "a", "A_", "a", "A1", "a"),
		list(longest, "a"),
		list("A", wide(api.MaxPattern)),
		list("A", length(api.MaxNodes-1)),
		list("A", nested(api.MaxDepth)),
		list("A", captures(api.MaxCaptures)),
		numbered(api.MaxLibrary),
		chain(api.MaxLibrary, "a"),
	} {
		wantCheck(t, l, api.OK)
	}
}

func TestCheckOfNames(t *testing.T) {
	for _, name := range []string{"", "1", "_", "1A", "_A", "A-", "A ", " A", "A\n", "A:f", "%{A}", "\u00e9", "A\xff", strings.Repeat("n", api.MaxName+1), strings.Repeat("n", api.MaxText)} {
		wantCheck(t, list(name, "a"), api.ErrName)
		wantCheck(t, list("A", "a", name, "a", "B", "b"), api.ErrName)
		wantCheck(t, list("A", "(", name, "a"), api.ErrName)
		wantCheck(t, list("A", "a", name, "a", "A", "a"), api.ErrName)
		wantCheck(t, list("B", "a", "B", "a", name, "a"), api.ErrTwice)
		wantCheck(t, list(name, "a", name, "a"), api.ErrName)
		wantCheck(t, append(numbered(api.MaxLibrary), list(name, "a")...), api.ErrName)
		wantCheck(t, append(numbered(api.MaxLibrary), list("A", "a", name, "a")...), api.ErrTooMany)
	}
}

func TestCheckOfNamesThatOccurTwice(t *testing.T) {
	wantCheck(t, list("A", "a", "A", "a"), api.ErrTwice)
	wantCheck(t, list("A", "a", "B", "b", "A", "b"), api.ErrTwice)
	wantCheck(t, list("A", "(", "A", "a"), api.ErrTwice)
	wantCheck(t, list("A", "%{A}", "A", "a"), api.ErrTwice)
	wantCheck(t, append(numbered(api.MaxLibrary), list("N0", "a")...), api.ErrTwice)
	wantCheck(t, append(numbered(api.MaxLibrary), list("N39", "a")...), api.ErrTwice)
	wantCheck(t, append(numbered(api.MaxLibrary), list("A", "a", "A", "a")...), api.ErrTooMany)
}

func TestCheckOfTooManyDefinitions(t *testing.T) {
	wantCheck(t, numbered(api.MaxLibrary+1), api.ErrTooMany)
	wantCheck(t, numbered(10000), api.ErrTooMany)
	wantCheck(t, append(list("A", "("), numbered(api.MaxLibrary)...), api.ErrTooMany)
	wantCheck(t, append(list("A", "("), numbered(api.MaxLibrary-1)...), api.ErrSyntax)
	wantCheck(t, chain(api.MaxLibrary+1, "a"), api.ErrTooMany)
}

func TestCheckOfSources(t *testing.T) {
	for source, want := range wrongSources() {
		wantCheck(t, list("A", source), want)
		wantCheck(t, list("A", "a", "B", source, "C", "c"), want)
		wantCheck(t, slices.Concat(numbered(api.MaxLibrary-1), list("A", source)), want)
	}
	for _, c := range []struct {
		l    []api.Definition
		want api.Errno
	}{
		{list("A", "%{A}"), api.ErrCycle},
		{list("A", "%{B}", "B", "%{C}", "C", "%{B}"), api.ErrCycle},
		{list("A", "a", "B", "%{A}", "C", "%{D}"), api.ErrName},
		{list("A", "%{B}%{B}", "B", "(f:b)"), api.ErrTwice},
		{list("A", "%{B:f}", "B", "(f:b)"), api.ErrTwice},
		{list("A", "%{B}{41}", "B", "b"), api.ErrRange},
		{list("A", "%{B}", "B", wide(api.MaxPattern)), api.ErrTooLong},
		{list("A", "%{B}", "B", wide(api.MaxPattern-2)), api.OK},
		{list("A", "%{B}b", "B", wide(api.MaxPattern-2)), api.ErrTooLong},
		{list("A", length(api.MaxNodes)), api.ErrTooMany},
		// The first definition with an error counts, even if its error is one of a definition after it.
		{list("A", "%{NONE}", "B", "("), api.ErrName},
		{list("A", "(", "B", "%{NONE}"), api.ErrSyntax},
		{list("A", "%{B}%{NONE}", "B", "%{B}"), api.ErrCycle},
		{list("A", "%{NONE}%{B}", "B", "%{B}"), api.ErrName},
		{list("A", "%{C}", "B", "a{41}", "C", "("), api.ErrSyntax},
		{list("A", "a{41}%{C}", "B", "%{NONE}", "C", "c"), api.ErrRange},
		// Each source must be a pattern for itself.
		{list("A", "(", "B", "%{A})"), api.ErrSyntax},
		{list("A", "a)(b"), api.ErrSyntax},
	} {
		wantCheck(t, c.l, c.want)
	}
}
