package library_test

import (
	"fmt"
	"slices"
	"strconv"
	"strings"
	"testing"

	"logtide/api"
	"logtide/library"
	"logtide/pattern"
)

// list returns definitions; each two strings are a name and a source.
func list(namesAndSources ...string) []api.Definition {
	var l []api.Definition
	for i := 0; i < len(namesAndSources); i += 2 {
		l = append(l, api.Definition{Name: namesAndSources[i], Source: namesAndSources[i+1]})
	}
	return l
}

// numbered returns so many definitions with different names.
func numbered(count int) []api.Definition {
	var l []api.Definition
	for i := range count {
		l = append(l, api.Definition{Name: "N" + strconv.Itoa(i), Source: "a"})
	}
	return l
}

// chain returns so many definitions C0, C1, .. of which each one refers to the next one, and the last one has this source.
func chain(count int, last string) []api.Definition {
	var l []api.Definition
	for i := range count {
		l = append(l, api.Definition{Name: "C" + strconv.Itoa(i), Source: "%{C" + strconv.Itoa(i+1) + "}"})
	}
	l[count-1].Source = last
	return l
}

// length returns a literal of so many bytes.
func length(count int) string { return strings.Repeat("b", count) }

// wide returns the source of a pattern with one node that has so many bytes.
func wide(count int) string { return "[" + length(count-2) + "]" }

// nested returns the source of a pattern of this depth.
func nested(depth int) string {
	return strings.Repeat("(", depth) + "a" + strings.Repeat(")?", depth)
}

// captures returns a source with so many captures.
func captures(count int) string {
	var source strings.Builder
	for i := range count {
		source.WriteString("(f" + strconv.Itoa(i) + ":a)")
	}
	return source.String()
}

// wrongSources returns a source that does not refer to a definition for each error that Compile of it can return.
func wrongSources() map[string]api.Errno {
	return map[string]api.Errno{
		"%{":                          api.ErrSyntax,
		"(":                           api.ErrSyntax,
		"%{NONE}":                     api.ErrName,
		length(api.MaxPattern + 1):    api.ErrTooLong,
		"a{41}":                       api.ErrRange,
		nested(api.MaxDepth + 1):      api.ErrDeep,
		"(f:a)(f:a)":                  api.ErrTwice,
		captures(api.MaxCaptures + 1): api.ErrTooMany,
	}
}

// shown writes the beginning of a list of definitions.
func shown(l []api.Definition) string { return fmt.Sprintf("%.200s", fmt.Sprintf("%q", l)) }

// wantParse reports an error if Parse does not return these definitions.
func wantParse(t *testing.T, text string, want []api.Definition) {
	t.Helper()
	l, line, err := library.Parse(text)
	if !slices.Equal(l, want) || line != 0 || err != api.OK {
		t.Errorf("Parse(%.60q) = %s, %d, %d, want %s", text, shown(l), line, err, shown(want))
	}
}

// wantParseError reports an error if Parse does not return this error and line.
func wantParseError(t *testing.T, text string, wantLine int, want api.Errno) {
	t.Helper()
	l, line, err := library.Parse(text)
	if len(l) > 0 || line != wantLine || err != want {
		t.Errorf("Parse(%.60q) = %s, %d, %d, want nothing, %d, %d", text, shown(l), line, err, wantLine, want)
	}
}

// wantCheck reports an error if Check does not return that.
func wantCheck(t *testing.T, l []api.Definition, want api.Errno) {
	t.Helper()
	if err := library.Check(l); err != want {
		t.Errorf("Check(%s) = %d, want %d", shown(l), err, want)
	}
}

// wantNames reports an error if Names does not return these names, separated by blanks.
func wantNames(t *testing.T, source, want string) {
	t.Helper()
	names, err := library.Names(source)
	if strings.Join(names, " ") != want || err != api.OK {
		t.Errorf("Names(%.60q) = %q, %d, want %q", source, names, err, want)
	}
}

// wantNoNames reports an error if the source is not one with ErrSyntax.
func wantNoNames(t *testing.T, source string) {
	t.Helper()
	if names, err := library.Names(source); len(names) > 0 || err != api.ErrSyntax {
		t.Errorf("Names(%.60q) = %q, %d, want nothing, %d", source, names, err, api.ErrSyntax)
	}
	wantExpandError(t, nil, source, api.ErrSyntax)
}

// wantExpand reports an error if Expand does not return that.
func wantExpand(t *testing.T, l []api.Definition, source, want string) {
	t.Helper()
	if expanded, err := library.Expand(l, source); expanded != want || err != api.OK {
		t.Errorf("Expand(%.60q) = %q, %d, want %q", source, expanded, err, want)
	}
}

// wantExpandError reports an error if Expand, and Compile therefore, does not return that error.
func wantExpandError(t *testing.T, l []api.Definition, source string, want api.Errno) {
	t.Helper()
	if expanded, err := library.Expand(l, source); expanded != "" || err != want {
		t.Errorf("Expand(%.60q) = %q, %d, want nothing, %d", source, expanded, err, want)
	}
	wantCompileError(t, l, source, want)
}

// wantCompileError reports an error if Compile does not return that error.
func wantCompileError(t *testing.T, l []api.Definition, source string, want api.Errno) {
	t.Helper()
	if n, err := library.Compile(l, source); !pattern.Same(n, api.Node{}) || err != want {
		t.Errorf("Compile(%.60q) = %v, %d, want nothing, %d", source, n, err, want)
	}
}

// wantCompile reports an error if Compile does not return the pattern with this source.
func wantCompile(t *testing.T, l []api.Definition, source, want string) {
	t.Helper()
	wantNode, _, err := pattern.Parse(want)
	if err != api.OK {
		t.Fatalf("Parse(%q): %d", want, err)
	}
	if n, err := library.Compile(l, source); !pattern.Same(n, wantNode) || err != api.OK {
		t.Errorf("Compile(%.60q) = %v, %d, want %v", source, n, err, wantNode)
	}
}
