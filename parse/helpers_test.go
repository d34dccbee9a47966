package parse_test

import (
	"iter"
	"math/rand/v2"
	"slices"
	"strconv"
	"strings"
	"testing"

	"logtide/api"
	"logtide/parse"
	"logtide/pattern"
)

// fields returns fields; each two strings are a name and a value.
func fields(namesAndValues ...string) []api.Field {
	var l []api.Field
	for i := 0; i < len(namesAndValues); i += 2 {
		l = append(l, api.Field{Name: namesAndValues[i], Value: namesAndValues[i+1]})
	}
	return l
}

// named returns fields with these names, and their numbers from 0 on as values.
func named(names ...string) []api.Field {
	var l []api.Field
	for i, name := range names {
		l = append(l, api.Field{Name: name, Value: strconv.Itoa(i)})
	}
	return l
}

// numbered returns so many different names in ascending order.
func numbered(count int) []string {
	var names []string
	for i := range count {
		names = append(names, "n"+strconv.Itoa(1000+i))
	}
	return names
}

// node returns the pattern with this source.
func node(t *testing.T, source string) api.Node {
	t.Helper()
	n, _, err := pattern.Parse(source)
	if err != api.OK {
		t.Fatalf("Parse(%q) = %d", source, err)
	}
	return n
}

// texts yields all sequences of at most so many of the parts.
func texts(most int, parts ...string) iter.Seq[string] {
	return func(yield func(string) bool) { extensions("", most, parts, yield) }
}

// extensions yields text and what begins with it.
func extensions(text string, more int, parts []string, yield func(string) bool) bool {
	if !yield(text) {
		return false
	}
	if more == 0 {
		return true
	}
	for _, part := range parts {
		if !extensions(text+part, more-1, parts, yield) {
			return false
		}
	}
	return true
}

// changes yields all strings that differ from s by a byte that is removed, added or another one.
func changes(s string) iter.Seq[string] {
	return func(yield func(string) bool) {
		for at := 0; at <= len(s); at++ {
			if at < len(s) && !yield(s[:at]+s[at+1:]) {
				return
			}
			for c := range 256 {
				b := string([]byte{byte(c)})
				if !yield(s[:at]+b+s[at:]) || at < len(s) && !yield(s[:at]+b+s[at+1:]) {
					return
				}
			}
		}
	}
}

// roomy returns a copy of l with spare capacity, which is filled with x.
func roomy[T any](l []T, x T) []T {
	return append(append(make([]T, 0, len(l)+3), l...), x, x, x)[:len(l)]
}

// whole returns a copy of l with what is in its spare capacity.
func whole[T any](l []T) []T { return slices.Clone(l[:cap(l)]) }

// pick returns one of the values.
func pick[T any](random *rand.Rand, values ...T) T { return values[random.IntN(len(values))] }

// wantResult checks the result of a function that parses s into fields.
func wantResult(t *testing.T, function, s string, l []api.Field, err api.Errno, want []api.Field, wantErr api.Errno) {
	t.Helper()
	if !slices.Equal(l, want) || err != wantErr {
		t.Errorf("%s(%.80q) = %.200q, %d, want %.200q, %d", function, s, l, err, want, wantErr)
	}
}

func wantKeyValue(t *testing.T, s string, want []api.Field) {
	t.Helper()
	l, err := parse.KeyValue(s)
	wantResult(t, "KeyValue", s, l, err, want, api.OK)
}

func wantKeyValueError(t *testing.T, s string, want api.Errno) {
	t.Helper()
	l, err := parse.KeyValue(s)
	wantResult(t, "KeyValue", s, l, err, nil, want)
}

func wantJSON(t *testing.T, s string, want []api.Field) {
	t.Helper()
	l, err := parse.JSON(s)
	wantResult(t, "JSON", s, l, err, want, api.OK)
}

func wantJSONError(t *testing.T, s string, want api.Errno) {
	t.Helper()
	l, err := parse.JSON(s)
	wantResult(t, "JSON", s, l, err, nil, want)
}

func wantParse(t *testing.T, format int, source api.Node, s string, want []api.Field) {
	t.Helper()
	l, err := parse.Parse(format, source, s)
	wantResult(t, "Parse with the format "+strconv.Itoa(format), s, l, err, want, api.OK)
}

func wantParseError(t *testing.T, format int, source api.Node, s string, want api.Errno) {
	t.Helper()
	l, err := parse.Parse(format, source, s)
	wantResult(t, "Parse with the format "+strconv.Itoa(format), s, l, err, nil, want)
}

func wantDelimited(t *testing.T, s string, sep byte, want ...string) {
	t.Helper()
	if l, err := parse.Delimited(s, sep); !slices.Equal(l, want) || err != api.OK {
		t.Errorf("Delimited(%.80q, %q) = %.200q, %d, want %.200q", s, sep, l, err, want)
	}
}

func wantDelimitedError(t *testing.T, s string, sep byte, want api.Errno) {
	t.Helper()
	if l, err := parse.Delimited(s, sep); len(l) > 0 || err != want {
		t.Errorf("Delimited(%.80q, %q) = %.200q, %d, want nothing, %d", s, sep, l, err, want)
	}
}

// repeated returns the part so many times, with sep between.
func repeated(count int, part, sep string) string {
	return strings.Join(slices.Repeat([]string{part}, count), sep)
}
