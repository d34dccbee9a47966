package library_test

import (
	"slices"
	"strconv"
	"strings"
	"testing"

	"logtide/api"
	"logtide/library"
)

// P4.2

func TestParse(t *testing.T) {
	longest := strings.Repeat("n", api.MaxName)
	for _, c := range []struct {
		text string
		want []api.Definition
	}{
		{"", nil},
		{"\n", nil},
		{"\n\n \n\t\n \t \n", nil},
		{"#", nil},
		{"# A a\n#A a\n \t# (\n##\n#\n", nil},
		{"A a", list("A", "a")},
		{"A a\n", list("A", "a")},
		{"\n\nA a\n\n", list("A", "a")},
		{" \tA \t a \t", list("A", "a")},
		{"A\ta", list("A", "a")},
		{"A a\nB b", list("A", "a", "B", "b")},
		{"B b\n# between\nA a\n\nC c\n", list("B", "b", "A", "a", "C", "c")},
		{"A a\na b\nAA c\nA_1 d", list("A", "a", "a", "b", "AA", "c", "A_1", "d")},
		{"A a  b c", list("A", "a  b c")},
		{"A #", list("A", "#")},
		{"A # a", list("A", "# a")},
		{"A A", list("A", "A")},
		{"A a#b", list("A", "a#b")},
		{"A %{B}\nB b", list("A", "%{B}", "B", "b")},
		{"B b\nA %{B:f}x%", list("B", "b", "A", "%{B:f}x%")},
		{"A  %", list("A", "%")},
		{longest + " a", list(longest, "a")},
		{strings.Repeat("#", api.MaxText), nil},
		{strings.Repeat("\n", api.MaxText-3) + "A a", list("A", "a")},
		{"A " + strings.Repeat(" ", api.MaxText-3) + "a", list("A", "a")},
		{library.Format(numbered(api.MaxLibrary)), numbered(api.MaxLibrary)},
		{library.Format(numbered(api.MaxLibrary)) + "\n# A b\n \n", numbered(api.MaxLibrary)},
	} {
		wantParse(t, c.text, c.want)
	}
}

func TestParseOfTooLongTexts(t *testing.T) {
	for _, c := range []string{"#", "\n", " ", "A", "(", "A\n"} {
		wantParseError(t, strings.Repeat(c, api.MaxText+1), 0, api.ErrTooLong)
	}
	wantParseError(t, "A\n"+strings.Repeat("#", api.MaxText-1), 0, api.ErrTooLong)
	wantParseError(t, "A\n"+strings.Repeat("#", api.MaxText-2), 1, api.ErrSyntax)
}

func TestParseOfWrongLines(t *testing.T) {
	tooLong := strings.Repeat("n", api.MaxName+1)
	for _, line := range []string{
		"A", "A ", " A\t", "1 a", "1A a", "_ a", "_A a", "A-B a", "A. a", "A=a", "A:a", "A: a", "%A a", "A# a", "A#", "(", "( a", "\u00e9 a", "A\va", "A\ra", "\r", "A\u00a0a", "\x00 a", "%{A} a",
		tooLong, tooLong + " a",
	} {
		wantParseError(t, line, 1, api.ErrSyntax)
		wantParseError(t, line+"\n", 1, api.ErrSyntax)
		wantParseError(t, "B b\n"+line, 2, api.ErrSyntax)
		wantParseError(t, "\n# first\nB b\n \t\n"+line+"\nC c", 5, api.ErrSyntax)
	}
}

func TestParseOfNamesThatOccurTwice(t *testing.T) {
	wantParseError(t, "A a\nA a", 2, api.ErrTwice)
	wantParseError(t, "A a\nB b\n\n# more\nA b\n", 5, api.ErrTwice)
	wantParseError(t, "A a\nB b\nC c\nB b\nA a", 4, api.ErrTwice)
	wantParse(t, "A a\na a\nB a", list("A", "a", "a", "a", "B", "a"))
}

func TestParseOfTooManyDefinitions(t *testing.T) {
	full := library.Format(numbered(api.MaxLibrary))
	for _, c := range []struct {
		after string
		line  int
		want  api.Errno
	}{
		{"A a", 41, api.ErrTooMany},
		{"A a\nB b", 41, api.ErrTooMany},
		{"\n# more\nA a", 43, api.ErrTooMany},
		{"A (", 41, api.ErrTooMany},
		{"A", 41, api.ErrSyntax},
		{"1 a", 41, api.ErrSyntax},
		{"N0", 41, api.ErrSyntax},
		{"N0 a", 41, api.ErrTwice},
		{"N39 a", 41, api.ErrTwice},
		{"A a\nN0 a", 41, api.ErrTooMany},
		{"A a\nA", 41, api.ErrTooMany},
		{"A\nA a", 41, api.ErrSyntax},
	} {
		wantParseError(t, full+c.after, c.line, c.want)
	}
}

func TestParseReturnsTheErrorOfTheFirstLine(t *testing.T) {
	for _, c := range []struct {
		text string
		line int
		want api.Errno
	}{
		{"A a\nA a\n1", 2, api.ErrTwice},
		{"A a\n1\nA a", 2, api.ErrSyntax},
		{"A a\nA", 2, api.ErrSyntax},
		// The errors of Check are those of no line, and come after those of all lines.
		{"A (\nB", 2, api.ErrSyntax},
		{"A %{NONE}\nA a", 2, api.ErrTwice},
		{"A %{A}\nB %{NONE}", 0, api.ErrCycle},
		{"A %{NONE}\nB %{B}", 0, api.ErrName},
		{"A a\nB %{A}%{B}", 0, api.ErrCycle},
		{"A a\r\nB b", 0, api.ErrSyntax},
		{"A a\tb", 0, api.ErrSyntax},
	} {
		wantParseError(t, c.text, c.line, c.want)
	}
	for source, want := range wrongSources() {
		wantParseError(t, "A a\nB "+source+"\nC c", 0, want)
		wantParseError(t, "A a\nB "+source+"\nC", 3, api.ErrSyntax)
	}
}

func TestFormat(t *testing.T) {
	for _, c := range []struct {
		l    []api.Definition
		want string
	}{
		{nil, ""},
		{[]api.Definition{}, ""},
		{list("A", "a"), "A a\n"},
		{list("B", "%{A:f}", "A", " a  b "), "B %{A:f}\nA  a  b \n"},
		{list("A", "(", "A", "", "1-", "x\ny"), "A (\nA \n1- x\ny\n"},
		{list("", ""), " \n"},
	} {
		if got := library.Format(c.l); got != c.want {
			t.Errorf("Format(%v) = %q, want %q", c.l, got, c.want)
		}
	}
	all := library.Format(numbered(1000))
	if lines := strings.Split(all, "\n"); len(lines) != 1001 || lines[999] != "N999 a" || lines[1000] != "" {
		t.Errorf("Format of 1000 definitions = %.60q", all)
	}
}

// P4.6

func TestParseOfFormat(t *testing.T) {
	for _, l := range [][]api.Definition{
		nil,
		list("A", "a"),
		list("INT", `-?\d+`, "WORD", "[a-z]+", "PAIR", "%{WORD:w}=%{INT}", "HASH", "# %{PAIR}", "LONG", wide(api.MaxPattern)),
		numbered(api.MaxLibrary),
	} {
		wantCheck(t, l, api.OK)
		wantParse(t, library.Format(l), l)
	}
	var longest []api.Definition
	for i := range api.MaxLibrary {
		name := "N" + strconv.Itoa(100+i) + strings.Repeat("n", api.MaxName-4)
		longest = append(longest, api.Definition{Name: name, Source: wide(api.MaxPattern)})
	}
	wantParse(t, library.Format(longest), longest)
}

func TestParseDoesNotKeepItsResult(t *testing.T) {
	text := "A a\nB b\n"
	first, _, _ := library.Parse(text)
	first[0].Name = "Z"
	second, _, _ := library.Parse(text)
	if !slices.Equal(second, list("A", "a", "B", "b")) {
		t.Errorf("Parse again = %v", second)
	}
}
