package library_test

import (
	"math/rand/v2"
	"regexp"
	"slices"
	"strings"
	"testing"

	"logtide/api"
	"logtide/library"
	"logtide/pattern"
)

// The functions of this file are the promises word for word. The tests compare the package with them, for random libraries.

const name = `[A-Za-z][A-Za-z0-9_]{0,31}`

var (
	aName      = regexp.MustCompile(`^` + name + `$`)
	aReference = regexp.MustCompile(`%\{(` + name + `)(:` + name + `)?\}`)
	aLine      = regexp.MustCompile(`^[ \t]*(` + name + `)[ \t]+([^ \t](.*[^ \t])?)[ \t]*$`)
	anyLine    = regexp.MustCompile(`^[ \t]*([^ \t#].*)$`)
)

// namesByDefinition is P4.1.
func namesByDefinition(source string) ([]string, api.Errno) {
	references := aReference.FindAllStringSubmatch(source, -1)
	if len(references) < strings.Count(source, "%{") {
		return nil, api.ErrSyntax
	}
	var names []string
	for _, r := range references {
		names = append(names, r[1])
	}
	return names, api.OK
}

// parseByDefinition is P4.2.
func parseByDefinition(text string) ([]api.Definition, int, api.Errno) {
	if len(text) > api.MaxText {
		return nil, 0, api.ErrTooLong
	}
	var l []api.Definition
	for i, line := range strings.Split(text, "\n") {
		if !anyLine.MatchString(line) {
			continue
		}
		parts := aLine.FindStringSubmatch(line)
		switch {
		case parts == nil:
			return nil, i + 1, api.ErrSyntax
		case sourceOf(l, parts[1]) != nil:
			return nil, i + 1, api.ErrTwice
		case len(l) == api.MaxLibrary:
			return nil, i + 1, api.ErrTooMany
		}
		l = append(l, api.Definition{Name: parts[1], Source: parts[2]})
	}
	if err := checkByDefinition(l); err != api.OK {
		return nil, 0, err
	}
	return l, 0, api.OK
}

// sourceOf returns the source of the first definition with this name.
func sourceOf(l []api.Definition, name string) *string {
	for _, d := range l {
		if d.Name == name {
			return &d.Source
		}
	}
	return nil
}

// checkByDefinition is P4.3.
func checkByDefinition(l []api.Definition) api.Errno {
	for i, d := range l {
		switch {
		case !aName.MatchString(d.Name):
			return api.ErrName
		case sourceOf(l[:i], d.Name) != nil:
			return api.ErrTwice
		case i == api.MaxLibrary:
			return api.ErrTooMany
		}
	}
	for _, d := range l {
		if _, err := compileByDefinition(l, d.Source); err != api.OK {
			return err
		}
	}
	return api.OK
}

// expandByDefinition is P4.4, while the definitions with the names of open are being expanded.
func expandByDefinition(l []api.Definition, source string, open ...string) (string, api.Errno) {
	if _, err := namesByDefinition(source); err != api.OK {
		return "", err
	}
	expanded := ""
	for source != "" {
		if !strings.HasPrefix(source, "%{") {
			expanded += source[:1]
			source = source[1:]
		} else {
			r := aReference.FindStringSubmatch(source)
			text, err := replacementByDefinition(l, r[1], r[2], open)
			if err != api.OK {
				return "", err
			}
			expanded += text
			source = source[len(r[0]):]
		}
		if len(expanded) > api.MaxPattern {
			return "", api.ErrTooLong
		}
	}
	return expanded, api.OK
}

// replacementByDefinition is what replaces a reference, the field of which begins with a colon if there is one.
func replacementByDefinition(l []api.Definition, name, field string, open []string) (string, api.Errno) {
	source := sourceOf(l, name)
	if source == nil {
		return "", api.ErrName
	}
	if slices.Contains(open, name) {
		return "", api.ErrCycle
	}
	text, err := expandByDefinition(l, *source, append(slices.Clone(open), name)...)
	if err != api.OK {
		return "", err
	}
	if field != "" {
		text = field[1:] + ":" + text
	}
	return "(" + text + ")", api.OK
}

// compileByDefinition is P4.5.
func compileByDefinition(l []api.Definition, source string) (api.Node, api.Errno) {
	expanded, err := expandByDefinition(l, source)
	if err != api.OK {
		return api.Node{}, err
	}
	n, _, err := pattern.Parse(expanded)
	return n, err
}

// someOf returns up to most random ones of the pieces, one after the other.
func someOf(random *rand.Rand, most int, pieces []string) string {
	var text strings.Builder
	for range random.IntN(most + 1) {
		text.WriteString(pieces[random.IntN(len(pieces))])
	}
	return text.String()
}

// randomLibrary returns up to 6 definitions. Most references are to definitions that come later, because nearly all others are in a cycle.
func randomLibrary(random *rand.Rand) []api.Definition {
	names := []string{"A", "B", "C", "D", "E", "F"}[:random.IntN(7)]
	var l []api.Definition
	for i, name := range names {
		pieces := []string{"a", "b|c", `\d+`, "%", "(n:x)", "%%", " "}
		for _, later := range names[i+1:] {
			pieces = append(pieces, "%{"+later+"}", "%{"+later+":f}", "%{"+later+":g}")
		}
		if random.IntN(12) == 0 {
			pieces = append(pieces, "%{"+names[random.IntN(len(names))]+"}", "%{NONE}", "%{", "(", "b{41}", length(150), length(250), length(398), wide(398), length(401), captures(17))
		}
		l = append(l, api.Definition{Name: name, Source: someOf(random, 4, pieces)})
	}
	if len(l) > 0 && random.IntN(10) == 0 {
		l[random.IntN(len(l))].Name = []string{"1", "", "A", "B", "C"}[random.IntN(5)]
	}
	return l
}

// wanted counts the errors that were wanted, so that a test can tell whether it has had all of them.
type wanted map[api.Errno]int

// require reports an error if one of the errors was rare.
func (w wanted) require(t *testing.T, errs ...api.Errno) {
	t.Helper()
	for _, err := range errs {
		if w[err] < 20 {
			t.Errorf("the error %d was wanted %d times only", err, w[err])
		}
	}
}

func TestExpandCompileAndNamesByDefinition(t *testing.T) {
	random := rand.New(rand.NewPCG(4, 4))
	pieces := []string{"a", "x|y", "%", "%%", "%{A}", "%{B}", "%{C}", "%{A:f}", "%{B:g}", "%{D}", "%{E:h}", "%{A}", "%{NONE}", "%{", "}", "(", length(190), length(398), wide(400)}
	expands, compiles := wanted{}, wanted{}
	for range 30000 {
		l := randomLibrary(random)
		source := someOf(random, 5, pieces)
		wantNames, wantErr := namesByDefinition(source)
		if names, err := library.Names(source); !slices.Equal(names, wantNames) || err != wantErr {
			t.Fatalf("Names(%q) = %q, %d, want %q, %d", source, names, err, wantNames, wantErr)
		}
		want, wantErr := expandByDefinition(l, source)
		if got, err := library.Expand(l, source); got != want || err != wantErr {
			t.Fatalf("Expand(%q, %q) = %q, %d, want %q, %d", l, source, got, err, want, wantErr)
		}
		expands[wantErr]++
		wantNode, wantErr := compileByDefinition(l, source)
		if n, err := library.Compile(l, source); !pattern.Same(n, wantNode) || err != wantErr {
			t.Fatalf("Compile(%q, %q) = %v, %d, want %v, %d", l, source, n, err, wantNode, wantErr)
		}
		compiles[wantErr]++
	}
	expands.require(t, api.OK, api.ErrSyntax, api.ErrName, api.ErrCycle, api.ErrTooLong)
	compiles.require(t, api.OK, api.ErrSyntax, api.ErrName, api.ErrCycle, api.ErrTooLong, api.ErrTwice, api.ErrRange, api.ErrTooMany)
}

func TestCheckByDefinition(t *testing.T) {
	random := rand.New(rand.NewPCG(4, 3))
	checks := wanted{}
	for range 30000 {
		l := randomLibrary(random)
		want := checkByDefinition(l)
		if err := library.Check(l); err != want {
			t.Fatalf("Check(%q) = %d, want %d", l, err, want)
		}
		checks[want]++
		if want != api.OK || slices.ContainsFunc(l, func(d api.Definition) bool { return strings.Trim(d.Source, " ") != d.Source || d.Source == "" }) {
			continue
		}
		// P4.6
		wantParse(t, library.Format(l), l)
	}
	checks.require(t, api.OK, api.ErrSyntax, api.ErrName, api.ErrTwice, api.ErrCycle, api.ErrTooLong, api.ErrRange, api.ErrTooMany)
}

func TestParseByDefinition(t *testing.T) {
	random := rand.New(rand.NewPCG(4, 2))
	pieces := []string{" ", " ", "\t", "\n", "\n", "\n", "#", "A", "B1", "c_", "1", "A a\n", "B %{A}\n", "C (\n", "D %{E}\n", "%{D}\n", "E %{E}\n", "-", "a{41}\n"}
	parses := wanted{}
	for range 100000 {
		text := someOf(random, 8, pieces)
		want, wantLine, wantErr := parseByDefinition(text)
		if l, line, err := library.Parse(text); !slices.Equal(l, want) || line != wantLine || err != wantErr {
			t.Fatalf("Parse(%q) = %q, %d, %d, want %q, %d, %d", text, l, line, err, want, wantLine, wantErr)
		}
		parses[wantErr]++
	}
	parses.require(t, api.OK, api.ErrSyntax, api.ErrName, api.ErrTwice, api.ErrCycle, api.ErrRange)
}
