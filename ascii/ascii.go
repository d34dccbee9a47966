// Package ascii classifies bytes, repairs damaged strings, and splits and reads strings. See shared/doc/01-ascii.md.
package ascii

import (
	"iter"
	"slices"
	"strconv"
	"strings"
	"unicode/utf8"

	"logtide/api"
)

// class is a set of classes of a byte, one bit for each.
type class uint8

const (
	digit class = 1 << iota
	letter
	underscore
	space

	word = digit | letter | underscore
)

// classTable is indexed by the byte.
type classTable [256]class

// classes fills the table of the classes. A caller that looks at many bytes keeps the table, because filling it costs more than a look.
func classes() classTable {
	var table classTable
	for c := '0'; c <= '9'; c++ {
		table[c] = digit
	}
	for c := 'a'; c <= 'z'; c++ {
		table[c] = letter
	}
	for c := 'A'; c <= 'Z'; c++ {
		table[c] = letter
	}
	table['_'] = underscore
	table[' '] = space
	table['\t'] = space
	return table
}

// Digit reports whether c is a digit.
func Digit(c byte) bool { return classes()[c]&digit != 0 }

// Letter reports whether c is a letter.
func Letter(c byte) bool { return classes()[c]&letter != 0 }

// Word reports whether c is a digit, a letter or '_'.
func Word(c byte) bool { return classes()[c]&word != 0 }

// Space reports whether c is a blank or a tab.
func Space(c byte) bool { return classes()[c]&space != 0 }

// Repair returns b with '?' for each byte that does not belong to a valid UTF-8 sequence, and the number of these bytes.
func Repair(b []byte) (string, int) {
	var repaired strings.Builder
	repaired.Grow(len(b))
	damaged := 0
	for sequence, valid := range sequences(b) {
		if valid {
			repaired.Write(sequence)
		} else {
			repaired.WriteByte('?')
			damaged++
		}
	}
	return repaired.String(), damaged
}

// sequences yields the UTF-8 sequences of b with true, and each byte that belongs to none with false.
func sequences(b []byte) iter.Seq2[[]byte, bool] {
	return func(yield func([]byte, bool) bool) {
		for at := 0; at < len(b); {
			r, size := utf8.DecodeRune(b[at:])
			// The encoding of RuneError itself is valid, and longer than one byte.
			valid := r != utf8.RuneError || size > 1
			if !yield(b[at:at+size], valid) {
				return
			}
			at += size
		}
	}
}

// Fields returns the maximal sequences of bytes that are not spaces.
func Fields(s string) []string { return slices.Collect(fields(s)) }

// fields yields the maximal sequences of bytes of s that are not spaces.
func fields(s string) iter.Seq[string] {
	return func(yield func(string) bool) {
		table := classes()
		from := 0
		for at := range len(s) {
			if table[s[at]]&space == 0 {
				continue
			}
			if from < at && !yield(s[from:at]) {
				return
			}
			from = at + 1
		}
		if from < len(s) {
			yield(s[from:])
		}
	}
}

// Trim removes the spaces at both ends.
func Trim(s string) string {
	table := classes()
	from, to := 0, len(s)
	for from < to && table[s[from]]&space != 0 {
		from++
	}
	for from < to && table[s[to-1]]&space != 0 {
		to--
	}
	return s[from:to]
}

// Number reads a decimal integer: an optional '-' and from 1 to api.MaxDigits digits, so that every such number is an int.
func Number(s string) (int, bool) {
	digits, negative := strings.CutPrefix(s, "-")
	if len(digits) < 1 || len(digits) > api.MaxDigits {
		return 0, false
	}
	table := classes()
	n := 0
	for at := range len(digits) {
		if table[digits[at]]&digit == 0 {
			return 0, false
		}
		n = 10*n + int(digits[at]-'0')
	}
	if negative {
		n = -n
	}
	return n, true
}

// Decimal returns the shortest decimal representation of n.
func Decimal(n int) string { return strconv.Itoa(n) }

// Cut returns the parts of s before and after the first sep; s and an empty string if there is none.
func Cut(s string, sep byte) (before, after string, found bool) {
	at := strings.IndexByte(s, sep)
	if at < 0 {
		return s, "", false
	}
	return s[:at], s[at+1:], true
}

// Lower replaces 'A' to 'Z' by 'a' to 'z'.
func Lower(s string) string {
	lowered := []byte(s)
	for at, c := range lowered {
		if 'A' <= c && c <= 'Z' {
			lowered[at] = c - 'A' + 'a'
		}
	}
	return string(lowered)
}
