package framing_test

import (
	"math"
	"slices"
	"strings"
	"testing"

	"logtide/api"
	"logtide/framing"
)

// P9.2

func TestFrame(t *testing.T) {
	wantFrame(t, "a\r\nb", 0, plenty, 3, api.Framed{Length: 3, Text: "a"})
	wantFrame(t, "one\n", 0, plenty, 4, api.Framed{Length: 4, Text: "one"})
	wantFrame(t, "one\ntwo\r\n\n\r\nfour and five\nsix", 0, plenty, 26,
		api.Framed{Length: 4, Text: "one"},
		api.Framed{Offset: 4, Length: 5, Text: "two"},
		api.Framed{Offset: 9, Length: 1},
		api.Framed{Offset: 10, Length: 2},
		api.Framed{Offset: 12, Length: 14, Text: "four and five"})
	wantFrame(t, "\xff\n\xe2\x82\xac\r\n\xe2\x82\r\n", 0, plenty, 11,
		api.Framed{Length: 2, Text: "?", Damaged: 1},
		api.Framed{Offset: 2, Length: 5, Text: "€"},
		api.Framed{Offset: 7, Length: 4, Text: "??", Damaged: 2})
}

func TestBytesWithoutAnEndAreNoLine(t *testing.T) {
	wantFrame(t, "", 0, plenty, 0)
	wantFrame(t, "a", 0, plenty, 0)
	wantFrame(t, "\r", 0, plenty, 0)
	wantFrame(t, "a\r", 0, plenty, 0)
	wantFrame(t, "a\rb\rc\r", 0, plenty, 0)
	wantFrame(t, "long enough to be too long", 0, 3, 0)
	wantFrame(t, "\n\r", 0, plenty, 1, api.Framed{Length: 1})
	wantFrame(t, "\n\n\n", 0, plenty, 3, api.Framed{Length: 1}, api.Framed{Offset: 1, Length: 1}, api.Framed{Offset: 2, Length: 1})
	// Other bytes at which texts are sometimes cut.
	wantFrame(t, "a\vb\fc\x00d\u0085e\u2028f", 0, plenty, 0)
}

func TestFrameFromAnOffset(t *testing.T) {
	const data = "one\r\n\ntwo\nrest"
	one := api.Framed{Length: 5, Text: "one"}
	empty := api.Framed{Offset: 5, Length: 1}
	two := api.Framed{Offset: 6, Length: 4, Text: "two"}
	wantFrame(t, data, 0, plenty, 10, one, empty, two)
	// An offset within a line: the line begins there.
	wantFrame(t, data, 1, plenty, 10, api.Framed{Offset: 1, Length: 4, Text: "ne"}, empty, two)
	wantFrame(t, data, 2, plenty, 10, api.Framed{Offset: 2, Length: 3, Text: "e"}, empty, two)
	wantFrame(t, data, 3, plenty, 10, api.Framed{Offset: 3, Length: 2}, empty, two)
	wantFrame(t, data, 4, plenty, 10, api.Framed{Offset: 4, Length: 1}, empty, two)
	wantFrame(t, data, 5, plenty, 10, empty, two)
	wantFrame(t, data, 6, plenty, 10, two)
	wantFrame(t, data, 9, plenty, 10, api.Framed{Offset: 9, Length: 1})
	// No complete line begins there: the offset itself.
	for offset := 10; offset <= len(data); offset++ {
		wantFrame(t, data, offset, plenty, offset)
	}
	// The rest of a sequence of several bytes is damaged.
	wantFrame(t, "€\n", 1, plenty, 4, api.Framed{Offset: 1, Length: 3, Text: "??", Damaged: 2})
	wantFrame(t, "a\n€\n", 4, plenty, 6, api.Framed{Offset: 4, Length: 2, Text: "?", Damaged: 1})
}

func TestOffsetsOutsideOfTheData(t *testing.T) {
	for _, data := range []string{"", "\n", "one\ntwo\n", "one\ntwo\nrest"} {
		wantFrame(t, data, len(data), plenty, len(data))
		for _, offset := range []int{-1, -2, len(data) + 1, len(data) + 2, 1 << 32, -1 << 32, 1<<32 + 1, 1 << 62, math.MinInt, math.MinInt + 1, math.MaxInt} {
			for _, limit := range []int{0, 3, plenty, math.MinInt, math.MaxInt} {
				wantFrame(t, data, offset, limit, offset)
			}
		}
	}
	for _, data := range [][]byte{nil, {}, []byte("a\n\n\n")[:0], []byte("a\n\n\n")[:1]} {
		for offset := -1; offset <= 4; offset++ {
			if l, end := framing.Frame(data, offset, plenty); len(l) != 0 || end != offset {
				t.Errorf("Frame(%q, %d) = %v, %d", data, offset, l, end)
			}
		}
	}
}

func TestLimits(t *testing.T) {
	short := api.Framed{Length: 3, Text: "ab"}
	long := api.Framed{Offset: 3, Length: 6, Text: "abé?", Damaged: 1}
	end := api.Framed{Offset: 9, Length: 1}
	const data = "ab\nab\xc3\xa9\xff\n\nabcdefgh"
	tooLong := func(x api.Framed) api.Framed {
		return api.Framed{Offset: x.Offset, Length: x.Length, TooLong: true}
	}
	for _, limit := range []int{6, 7, 8, 9, plenty, math.MaxInt} {
		wantFrame(t, data, 0, limit, 10, short, long, end)
	}
	for _, limit := range []int{3, 4, 5} {
		wantFrame(t, data, 0, limit, 10, short, tooLong(long), end)
	}
	for _, limit := range []int{1, 2} {
		wantFrame(t, data, 0, limit, 10, tooLong(short), tooLong(long), end)
	}
	for _, limit := range []int{0, -1, -6, math.MinInt, math.MinInt + 1} {
		wantFrame(t, data, 0, limit, 10, tooLong(short), tooLong(long), tooLong(end))
	}
	// The limit is for the length of what is left of a line, not for its end in the file.
	wantFrame(t, data, 4, 5, 10, api.Framed{Offset: 4, Length: 5, Text: "bé?", Damaged: 1}, end)
}

func TestTheEndCountsAsLength(t *testing.T) {
	for n := range 20 {
		for _, end := range []string{"\n", "\r\n"} {
			text := strings.Repeat("x", n)
			length := n + len(end)
			for limit := range 25 {
				want := api.Framed{Length: length, TooLong: true}
				if length <= limit {
					want = api.Framed{Length: length, Text: text}
				}
				wantFrame(t, text+end, 0, limit, length, want)
			}
		}
	}
}

func TestLongestLines(t *testing.T) {
	text := strings.Repeat("x", api.MaxFile-1)
	wantFrame(t, text+"\n", 0, api.MaxFile, api.MaxFile, api.Framed{Length: api.MaxFile, Text: text})
	wantFrame(t, text+"\n", 0, api.MaxFile-1, api.MaxFile, api.Framed{Length: api.MaxFile, TooLong: true})
	text += strings.Repeat("\xff", 5*api.MaxFile)
	repaired := strings.ReplaceAll(text, "\xff", "?")
	wantFrame(t, text+"\r\n", 0, plenty, len(text)+2, api.Framed{Length: len(text) + 2, Text: repaired, Damaged: 5 * api.MaxFile})
	l, end := framing.Frame([]byte(strings.Repeat("\n", api.MaxFile)), 1, 1)
	if len(l) != api.MaxFile-1 || end != api.MaxFile || l[0] != (api.Framed{Offset: 1, Length: 1}) || l[len(l)-1] != (api.Framed{Offset: end - 1, Length: 1}) {
		t.Errorf("%d lines, %d", len(l), end)
	}
}

func TestTextsAreMemoryOfTheirOwn(t *testing.T) {
	data := []byte("one\ntwo\n")
	l, _ := framing.Frame(data, 0, plenty)
	text, _ := framing.Text(data)
	copy(data, "\n\n\n\n\n\n\n\n")
	if !slices.Equal(l, []api.Framed{{Length: 4, Text: "one"}, {Offset: 4, Length: 4, Text: "two"}}) || text != "one\ntwo" {
		t.Errorf("Frame = %v, Text = %q", l, text)
	}
}
