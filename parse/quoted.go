package parse

import "strings"

// quoted reads a string in '"', with which s begins, and returns what follows it. No byte of it may be less than least. A backslash and the byte after it stand for the byte that unescape returns, with false for a wrong escape.
func quoted(s string, least byte, unescape func(byte) (byte, bool)) (text, rest string, ok bool) {
	var b strings.Builder
	for at := 1; at < len(s); at++ {
		c := s[at]
		switch {
		case c == '"':
			return b.String(), s[at+1:], true
		case c < least:
			return "", "", false
		case c == '\\':
			at++
			if at == len(s) {
				return "", "", false
			}
			if c, ok = unescape(s[at]); !ok {
				return "", "", false
			}
		}
		b.WriteByte(c)
	}
	return "", "", false
}
