package library_test

import (
	"slices"
	"strconv"
	"strings"
	"testing"

	"logtide/api"
	"logtide/library"
)

// P4.4

func TestExpand(t *testing.T) {
	l := list("INT", `\d+`, "TWO", "%{INT:a}%{INT:b}", "EMPTY", "", "PAIR", "<%{TWO:t}=%{EMPTY}>", "CHOICE", "a|b", "TAG", "f:x")
	for source, want := range map[string]string{
		"":                   "",
		"a b":                "a b",
		"%{INT}":             `(\d+)`,
		"%{INT:n}":           `(n:\d+)`,
		"%{INT:n}ms":         `(n:\d+)ms`,
		"took %{INT:n}":      `took (n:\d+)`,
		"%{INT}%{INT}":       `(\d+)(\d+)`,
		"%{INT:n}-%{INT:n}":  `(n:\d+)-(n:\d+)`,
		"%{INT}+":            `(\d+)+`,
		"[%{INT}]":           `[(\d+)]`,
		"(%{INT:n}":          `((n:\d+)`,
		"%{EMPTY}":           "()",
		"%{EMPTY:n}":         "(n:)",
		"<%{TWO}>":           `<((a:\d+)(b:\d+))>`,
		"%{PAIR:p}":          `(p:<(t:(a:\d+)(b:\d+))=()>)`,
		"%{TWO}%{INT}%{TWO}": `((a:\d+)(b:\d+))(\d+)((a:\d+)(b:\d+))`,
		"%{CHOICE}c":         "(a|b)c",
		"%{TAG}%{TAG:g}":     "(f:x)(g:f:x)",
		"%%{INT}%":           `%(\d+)%`,
		"\xff%{EMPTY}\n":     "\xff()\n",
	} {
		wantExpand(t, l, source, want)
	}
}

func TestExpandWithoutReferencesIsTheSource(t *testing.T) {
	for _, l := range [][]api.Definition{nil, {}, list("A", "%{A}"), list("1", "%{")} {
		for _, source := range []string{"", "a", "((", "%", "{A}", "\x00\xff", length(api.MaxPattern)} {
			wantExpand(t, l, source, source)
		}
	}
}

func TestExpandOfUnknownNames(t *testing.T) {
	l := list("A", "a", "BAD", "x%{NONE}", "WORSE", "%{A}%{BAD}")
	for _, source := range []string{"%{NONE}", "%{NONE:f}", "%{A}%{NONE}", "%{NONE}%{A}", "%{a}", "%{AA}", "%{BAD}", "%{A}%{WORSE}", "%{NONE:A}"} {
		wantExpandError(t, l, source, api.ErrName)
	}
	wantExpandError(t, nil, "%{A}", api.ErrName)
	wantExpandError(t, list("1", "a", "", "b"), "%{A}", api.ErrName)
}

func TestExpandOfCycles(t *testing.T) {
	l := list("A", "a", "SELF", "x%{SELF}", "ONE", "%{A}%{TWO}", "TWO", "%{THREE:f}", "THREE", "%{A}%{ONE}", "ROOT", "%{A}%{TWO}", "FIELD", "%{FIELD:f}")
	for _, source := range []string{"%{SELF}", "%{SELF:f}", "%{A}%{SELF}", "%{ONE}", "%{TWO}", "%{THREE}", "%{ROOT}", "%{FIELD}", "%{SELF}%{A}"} {
		wantExpandError(t, l, source, api.ErrCycle)
	}
	wantExpandError(t, list("A", "%{A}"), "%{A}", api.ErrCycle)
}

func TestRepeatedReferencesAreNoCycle(t *testing.T) {
	l := list("TOP", "%{LEFT}%{RIGHT}%{A}", "LEFT", "%{A}%{A}", "RIGHT", "%{A}%{LEFT}", "A", "a")
	wantExpand(t, l, "%{TOP}%{LEFT}", "(((a)(a))((a)((a)(a)))(a))((a)(a))")
}

func TestExpandTakesTheFirstDefinition(t *testing.T) {
	wantExpand(t, list("A", "a", "A", "b"), "%{A}", "(a)")
	wantExpand(t, list("B", "b", "A", "%{B}", "B", "%{", "A", "%{A}", "A", "%{NONE}"), "%{A}%{B}", "((b))(b)")
	wantExpandError(t, list("A", "%{NONE}", "A", "a"), "%{A}", api.ErrName)
	wantExpandError(t, list("A", "%{B}", "B", "%{A}", "B", "b"), "%{A}", api.ErrCycle)
}

func TestExpandOfLongSources(t *testing.T) {
	l := list("E", "", "L396", length(396), "L397", length(397), "L398", length(398), "L399", length(399), "L400", length(400), "L401", length(401), "HALF", "%{L198}", "L198", length(198))
	for source, want := range map[string]string{
		length(400):                   length(400),
		"%{L398}":                     "(" + length(398) + ")",
		"%{L396:f}":                   "(f:" + length(396) + ")",
		"%{L396}bb":                   "(" + length(396) + ")bb",
		"bb%{L396}":                   "bb(" + length(396) + ")",
		"%{L396}%{E}":                 "(" + length(396) + ")()",
		"%{HALF}" + length(198):       "((" + length(198) + "))" + length(198),
		strings.Repeat("%{E}", 200):   strings.Repeat("()", 200),
		strings.Repeat("%{E:f}", 100): strings.Repeat("(f:)", 100),
	} {
		wantExpand(t, l, source, want)
	}
	for _, source := range []string{
		length(401), length(100000), "%{L401}", "%{L401:f}", "%{L400}", "%{L399}", "%{L397:f}", "%{L396:ff}", "%{L398}b", "b%{L398}", "%{L398}%{E}", "%{L397}%{E}", "%{E}%{L397}", "%{HALF}" + length(199), "%{HALF}%{HALF}", strings.Repeat("%{E}", 201), strings.Repeat("%{E:f}", 101), strings.Repeat("%{E}", 100000),
	} {
		wantExpandError(t, l, source, api.ErrTooLong)
	}
}

func TestExpandReturnsTheFirstError(t *testing.T) {
	l := list("E", "", "LOOP", "%{LOOP}", "BAD", "%{NONE}%{", "LONG", length(401), "LONGBAD", length(401)+"%{NONE}%{", "L398", length(398),
		"MISSING", length(300)+"%{NONE}", "MIDDLE", length(300), "ROUND", length(401)+"%{ROUND}", "CLOSED", "%{CLOSED}"+length(401))
	for _, c := range []struct {
		source string
		want   api.Errno
	}{
		// The error of Names of a source comes before all other errors of this source.
		{"%{NONE}%{", api.ErrSyntax}, {"%{LOOP}%{1}", api.ErrSyntax}, {length(401) + "%{", api.ErrSyntax}, {"%{BAD}", api.ErrSyntax}, {"%{LONGBAD}", api.ErrSyntax},
		// All else is found from left to right.
		{"%{NONE}%{LOOP}", api.ErrName}, {"%{LOOP}%{NONE}", api.ErrCycle}, {"%{NONE}%{BAD}", api.ErrName}, {"%{BAD}%{NONE}", api.ErrSyntax}, {"%{LONG}%{NONE}", api.ErrTooLong}, {"%{NONE}%{LONG}", api.ErrName},
		{"%{LOOP}%{LONG}", api.ErrCycle}, {"%{LONG}%{LOOP}", api.ErrTooLong}, {"%{NONE}" + length(401), api.ErrName}, {length(401) + "%{NONE}", api.ErrTooLong}, {length(401) + "%{LOOP}", api.ErrTooLong}, {length(401) + "%{BAD}", api.ErrTooLong},
		// A source may have 400 bytes; more are an error at once.
		{"%{L398}%{NONE}", api.ErrName}, {"%{L398}%{LOOP}", api.ErrCycle}, {"%{L398}b%{NONE}", api.ErrTooLong}, {"b%{L398}%{NONE}", api.ErrTooLong}, {"%{L398}%{E}%{NONE}", api.ErrTooLong}, {"%{L398}b%{LOOP}", api.ErrTooLong}, {length(399) + "%{E}%{BAD}", api.ErrTooLong},
		// A reference is replaced as a whole, after its definition was expanded.
		{length(400) + "%{NONE}", api.ErrName}, {length(400) + "%{LOOP}", api.ErrCycle}, {length(400) + "%{BAD}", api.ErrSyntax}, {length(400) + "%{MISSING}", api.ErrName}, {length(400) + "%{E}", api.ErrTooLong},
		// Each source has a length of its own.
		{length(300) + "%{MISSING}", api.ErrName}, {length(300) + "%{MIDDLE}%{NONE}", api.ErrTooLong}, {"%{MIDDLE}%{MISSING}", api.ErrName}, {"%{ROUND}", api.ErrTooLong}, {"%{CLOSED}", api.ErrCycle},
	} {
		wantExpandError(t, l, c.source, c.want)
	}
}

func TestExpandOfManyDefinitions(t *testing.T) {
	for _, count := range []int{1, 2, 39, 40, 41, 42, 79, 80, 81, 82, 121, 199} {
		wantExpand(t, chain(count, "x"), "%{C0}", strings.Repeat("(", count)+"x"+strings.Repeat(")", count))
	}
	wantExpandError(t, chain(200, "x"), "%{C0}", api.ErrTooLong)
	for _, count := range []int{1, 2, 39, 40, 41, 42, 79, 80, 81, 82, 121, 199, 200, 300, 5000} {
		wantExpandError(t, chain(count, "%{NONE}"), "%{C0}", api.ErrName)
		wantExpandError(t, chain(count, "%{"), "%{C0}", api.ErrSyntax)
		for _, back := range []int{0, count / 2, max(0, count-41), max(0, count-40), count - 1} {
			wantExpandError(t, chain(count, "%{C"+strconv.Itoa(back)+"}"), "%{C0}", api.ErrCycle)
		}
	}
}

// TestExpandEndsADefinition refers to definitions again after they were expanded, with different numbers of definitions around them.
func TestExpandEndsADefinition(t *testing.T) {
	for _, count := range []int{1, 37, 38, 39, 40, 41, 78, 79, 80, 81} {
		l := append(chain(count, "%{X}%{X}%{Y}"), list("X", "%{Y}", "Y", "y")...)
		want := strings.Repeat("(", count) + "((y))((y))(y)" + strings.Repeat(")", count)
		wantExpand(t, l, "%{C0}", want)
		wantExpand(t, l, "%{X}%{C0}%{Y}", "((y))"+want+"(y)")
		wantExpand(t, l, "%{C0}%{C0}", want+want)
	}
}

// TestExpandOfDoubling has a source that would be expanded to 2 to the power of 40 references.
func TestExpandOfDoubling(t *testing.T) {
	l := list("D0", "")
	for i := range 40 {
		before := "%{D" + strconv.Itoa(i) + "}"
		l = append(l, api.Definition{Name: "D" + strconv.Itoa(i+1), Source: before + before})
	}
	wantExpandError(t, l, "%{D40}", api.ErrTooLong)
	wantExpand(t, l, "%{D1}", "(()())")
	for i := range l {
		l[i].Source += "%{NONE}"
	}
	wantExpandError(t, l, "%{D40}", api.ErrName)
}

// R2

func TestArgumentsAreNotModified(t *testing.T) {
	l := append(make([]api.Definition, 0, 8), list("A", "%{B}", "B", "b", "A", "a", "C", "%{C}")...)
	spare := append(l, list("D", "d")...)
	before := slices.Clone(spare)
	library.Check(l)
	library.Format(l)
	for _, source := range []string{"%{A}%{B}", "%{C}", "%{NONE}", "("} {
		library.Expand(l, source)
		library.Compile(l, source)
	}
	if !slices.Equal(spare, before) {
		t.Errorf("the definitions are %v now", spare)
	}
}

// P4.5

func TestCompile(t *testing.T) {
	l := list("INT", `\d+`, "PAIR", "%{INT:a}=%{INT:b}", "CHOICE", "a|b", "EMPTY", "")
	for source, want := range map[string]string{
		"":            "",
		"abc":         "abc",
		"%{INT:n}ms":  `(n:\d+)ms`,
		"<%{PAIR:p}>": `<(p:(a:\d+)=(b:\d+))>`,
		"%{CHOICE}c":  "(a|b)c",
		"%{INT}{2}":   `(\d+){2}`,
		"%{EMPTY}?":   "()?",
		"100%":        "100%",
		"%{EMPTY:n}":  "(n:)",
	} {
		wantCompile(t, l, source, want)
	}
	for _, source := range []string{wide(api.MaxPattern), length(api.MaxNodes - 1), nested(api.MaxDepth), captures(api.MaxCaptures)} {
		wantCompile(t, l, source, source)
	}
}

func TestCompileOfWrongSources(t *testing.T) {
	l := list("INT", `\d+`, "PAIR", "%{INT:a}=%{INT:b}", "OPEN", "(")
	for source, want := range wrongSources() {
		wantCompileError(t, l, source, want)
	}
	for source, want := range map[string]api.Errno{
		"%{INT}(":          api.ErrSyntax,
		"%{OPEN}":          api.ErrSyntax,
		`\%{INT}`:          api.ErrSyntax,
		"*%{INT}":          api.ErrSyntax,
		"%{INT:n}%{INT:n}": api.ErrTwice,
		"%{PAIR}%{INT:b}":  api.ErrTwice,
		"%{INT}{41}":       api.ErrRange,
		"%{INT}{3,2}":      api.ErrRange,
		"(%{NONE}":         api.ErrName,
		"(%{INT":           api.ErrSyntax,
	} {
		wantCompileError(t, l, source, want)
	}
}
