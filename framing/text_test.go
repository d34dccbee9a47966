package framing_test

import (
	"bytes"
	"strings"
	"testing"

	"logtide/framing"
)

// P9.1

func TestText(t *testing.T) {
	for _, c := range []struct {
		line, want string
		damaged    int
	}{
		{"", "", 0},
		{"\n", "", 0},
		{"\r\n", "", 0},
		{"a", "a", 0},
		{"a\n", "a", 0},
		{"a\r\n", "a", 0},
		{"a line of words\n", "a line of words", 0},
		{" blanks \t\n", " blanks \t", 0},
		{"\x00\v\f\n", "\x00\v\f", 0},
		// A '\r' elsewhere stays.
		{"\r", "\r", 0},
		{"a\r", "a\r", 0},
		{"a\r\r", "a\r\r", 0},
		{"\r\r\n", "\r", 0},
		{"a\r\r\n", "a\r", 0},
		{"a\rb\n", "a\rb", 0},
		{"\ra\r\n", "\ra", 0},
		{"a\r \n", "a\r ", 0},
		{"\n\r", "\n\r", 0},
		// Only the last '\n' is the end.
		{"\n\n", "\n", 0},
		{"a\n\n", "a\n", 0},
		{"a\r\n\n", "a\r\n", 0},
		{"a\nb", "a\nb", 0},
		{"a\r\nb", "a\r\nb", 0},
		{"a\nb\r\n", "a\nb", 0},
		{"\r\n\r\n", "\r\n", 0},
		{"\n\r\n", "\n", 0},
		// Letters that look like an end.
		{`a\r\n`, `a\r\n`, 0},
		{"an", "an", 0},
		{"nr\n", "nr", 0},
	} {
		if text, damaged := framing.Text([]byte(c.line)); text != c.want || damaged != c.damaged {
			t.Errorf("Text(%q) = %q, %d, want %q, %d", c.line, text, damaged, c.want, c.damaged)
		}
	}
}

func TestTextIsRepaired(t *testing.T) {
	for _, c := range []struct {
		line, want string
		damaged    int
	}{
		{"é€\U0001F600\n", "é€\U0001F600", 0},
		{"\uFFFD\r\n", "\uFFFD", 0},
		{"\xff", "?", 1},
		{"\xff\n", "?", 1},
		{"\xff\r\n", "?", 1},
		{"\xff\r\r\n", "?\r", 1},
		{"a\xc8b\n", "a?b", 1},
		{"\xff\xc3\xa9\xc3\n", "?é?", 2},
		{"\xc3\r\n", "?", 1},
		{"\xc3\n\xa9\n", "?\n?", 2},
		{"\xe2\x82\n", "??", 2},
		{"\xe2\x82\r\xac\n", "??\r?", 3},
		{"\xed\xa0\x80\n", "???", 3},
		{"\xf4\x90\x80\x80\n", "????", 4},
		{"\xc0\x8a\n", "??", 2}, // '\n' in two bytes is no end of a line, and not valid
		{"?\n", "?", 0},
		{strings.Repeat("\x80", 3000) + "\n", strings.Repeat("?", 3000), 3000},
	} {
		if text, damaged := framing.Text([]byte(c.line)); text != c.want || damaged != c.damaged {
			t.Errorf("Text(%q) = %q, %d, want %q, %d", c.line, text, damaged, c.want, c.damaged)
		}
	}
}

func TestTextOfNoBytes(t *testing.T) {
	for _, b := range [][]byte{nil, {}, make([]byte, 0, 3)} {
		if text, damaged := framing.Text(b); text != "" || damaged != 0 {
			t.Errorf("Text = %q, %d", text, damaged)
		}
	}
}

// All lines of up to six of these bytes.
func TestTextOfShortLines(t *testing.T) {
	lines := [][]byte{{}}
	for range 6 {
		longer := [][]byte{{}}
		for _, b := range lines {
			for _, c := range []byte("a\r\n\xc3\xa9") {
				longer = append(longer, append(bytes.Clone(b), c))
			}
		}
		lines = longer
	}
	if len(lines) != (5*5*5*5*5*5*5-1)/4 {
		t.Fatalf("%d lines", len(lines))
	}
	for _, b := range lines {
		text, damaged := framing.Text(b)
		if want, wantDamaged := textByDefinition(b); text != want || damaged != wantDamaged {
			t.Errorf("Text(%q) = %q, %d, want %q, %d", b, text, damaged, want, wantDamaged)
		}
	}
}
