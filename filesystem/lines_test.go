package filesystem_test

import (
	"bytes"
	"slices"
	"strings"
	"testing"

	"logtide/api"
	"logtide/filesystem"
)

// P7.6

func TestLines(t *testing.T) {
	for data, want := range map[string][]api.Span{
		"":                 nil,
		"a":                nil,
		"abc\r":            nil,
		"\n":               {{From: 0, To: 1}},
		"a\n":              {{From: 0, To: 2}},
		"a\nb":             {{From: 0, To: 2}},
		"\na":              {{From: 0, To: 1}},
		"a\nbc\n":          {{From: 0, To: 2}, {From: 2, To: 5}},
		"\n\n\n":           {{From: 0, To: 1}, {From: 1, To: 2}, {From: 2, To: 3}},
		"a\r\nb\rc\n\xff ": {{From: 0, To: 3}, {From: 3, To: 7}},
		"\x00\n\xff\xfe\n": {{From: 0, To: 2}, {From: 2, To: 5}},
		"\u010a\u2028\n":   {{From: 0, To: 6}},
	} {
		if got := filesystem.Lines([]byte(data)); !slices.Equal(got, want) {
			t.Errorf("Lines(%q) = %v, want %v", data, got, want)
		}
	}
	if got := filesystem.Lines(nil); len(got) != 0 {
		t.Errorf("Lines(nil) = %v", got)
	}
}

// All strings of up to 10 bytes, of a letter and of ends of lines. P7.7: lines cover the data up to the last end, without gaps.
func TestLinesOfAllShortData(t *testing.T) {
	for length := range 11 {
		for bits := range 1 << length {
			data := make([]byte, length)
			for i := range data {
				data[i] = "a\n"[bits>>i&1]
			}
			wantLines(t, data)
		}
	}
}

func wantLines(t *testing.T, data []byte) {
	t.Helper()
	got := filesystem.Lines(data)
	if !slices.Equal(got, linesByDefinition(data)) {
		t.Fatalf("Lines(%q) = %v, want %v", data, got, linesByDefinition(data))
	}
	at := 0
	for _, line := range got {
		if line.From != at || bytes.IndexByte(data[line.From:line.To], '\n') != line.To-line.From-1 {
			t.Fatalf("Lines(%q) = %v", data, got)
		}
		at = line.To
	}
	if at != bytes.LastIndexByte(data, '\n')+1 {
		t.Fatalf("Lines(%q) = %v", data, got)
	}
}

func TestLinesOfLongData(t *testing.T) {
	wantLines(t, []byte(strings.Repeat("\n", 10*api.MaxFile)))
	wantLines(t, []byte(size(10*api.MaxFile)+"\n"+size(api.MaxFile)))
	wantLines(t, []byte(strings.Repeat(size(99)+"\n", api.MaxFile/100)))
}
