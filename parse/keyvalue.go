package parse

import (
	"strings"

	"logtide/api"
	"logtide/ascii"
)

// KeyValue parses pairs.
func KeyValue(s string) ([]api.Field, api.Errno) {
	var l []api.Field
	for {
		s = strings.TrimLeft(s, " ")
		if s == "" {
			return Sort(l)
		}
		f, rest, ok := pair(s)
		if !ok {
			return nil, api.ErrSyntax
		}
		if len(l) < most {
			l = append(l, f)
		}
		s = rest
	}
}

// pair reads a pair at the beginning of s, and returns what follows it: nothing, or a blank first.
func pair(s string) (f api.Field, rest string, ok bool) {
	name, rest, found := ascii.Cut(s, '=')
	if !found || strings.Contains(name, " ") {
		return api.Field{}, "", false
	}
	read := plainValue
	if strings.HasPrefix(rest, `"`) {
		read = quotedValue
	}
	value, rest, ok := read(rest)
	return api.Field{Name: name, Value: value}, rest, ok
}

// plainValue reads a value that is not in '"'.
func plainValue(s string) (value, rest string, ok bool) {
	value, _, _ = ascii.Cut(s, ' ')
	return value, s[len(value):], !strings.Contains(value, `"`)
}

// quotedValue reads a value in '"'.
func quotedValue(s string) (value, rest string, ok bool) {
	value, rest, ok = quoted(s, 0, func(c byte) (byte, bool) {
		return c, c == '"' || c == '\\'
	})
	return value, rest, ok && (rest == "" || rest[0] == ' ')
}
