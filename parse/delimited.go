package parse

import (
	"strings"

	"logtide/api"
	"logtide/ascii"
)

// Delimited parses delimited fields.
func Delimited(s string, sep byte) ([]string, api.Errno) {
	if sep == '"' || sep == '\n' || sep == '\r' {
		return nil, api.ErrRange
	}
	var l []string
	for {
		value, rest, ok := delimitedValue(s, sep)
		if !ok {
			return nil, api.ErrSyntax
		}
		if len(l) < most {
			l = append(l, value)
		}
		if rest == "" {
			break
		}
		s = rest[1:]
	}
	if len(l) > api.MaxFields {
		return nil, api.ErrTooMany
	}
	return l, api.OK
}

// delimitedValue reads a field at the beginning of s, and returns what follows it: nothing, or sep first.
func delimitedValue(s string, sep byte) (value, rest string, ok bool) {
	if strings.HasPrefix(s, `"`) {
		value, rest, ok = doubleQuoted(s)
		return value, rest, ok && (rest == "" || rest[0] == sep)
	}
	value, _, _ = ascii.Cut(s, sep)
	return value, s[len(value):], true
}

// doubleQuoted reads a string in '"', with which s begins, and returns what follows it. In the string '""' stands for '"'.
func doubleQuoted(s string) (text, rest string, ok bool) {
	var b strings.Builder
	for doubled := true; doubled; {
		part, after, found := ascii.Cut(s[1:], '"')
		if !found {
			return "", "", false
		}
		b.WriteString(part)
		s = after
		if doubled = strings.HasPrefix(s, `"`); doubled {
			b.WriteByte('"')
		}
	}
	return b.String(), s, true
}
