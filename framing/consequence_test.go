package framing_test

import (
	"math/rand/v2"
	"slices"
	"testing"

	"logtide/api"
	"logtide/filesystem"
	"logtide/framing"
)

// P9.3

// inParts frames data up to each one of the ends, always from the offset on that the part before returned.
func inParts(data []byte, limit int, ends []int) ([]api.Framed, int) {
	var l []api.Framed
	offset := 0
	for _, end := range ends {
		var part []api.Framed
		part, offset = framing.Frame(data[:end], offset, limit)
		l = append(l, part...)
	}
	return l, offset
}

func TestLinesThatAreReadInTwoParts(t *testing.T) {
	data := []byte("one\r\n\n\r\n\xffé€\r\r\nlong line\nrest")
	for _, limit := range []int{0, 1, 2, 5, 9, 10, plenty} {
		want, wantEnd := framing.Frame(data, 0, limit)
		if len(want) != 5 || wantEnd != 27 {
			t.Fatalf("%d lines, %d", len(want), wantEnd)
		}
		for at := range len(data) + 1 {
			if l, end := inParts(data, limit, []int{at, len(data)}); !slices.Equal(l, want) || end != wantEnd {
				t.Errorf("read up to %d first, with the limit %d: %+v, %d, want %+v, %d", at, limit, l, end, want, wantEnd)
			}
		}
	}
}

func TestLinesThatAreReadInManyParts(t *testing.T) {
	random := rand.New(rand.NewPCG(9, 3))
	for range 20000 {
		data := randomData(random, 30)
		limit := pick(random, plenty, random.IntN(8))
		want, wantEnd := framing.Frame(data, 0, limit)
		ends := []int{len(data)}
		for range random.IntN(10) {
			ends = append(ends, random.IntN(len(data)+1))
		}
		slices.Sort(ends)
		if l, end := inParts(data, limit, ends); !slices.Equal(l, want) || end != wantEnd {
			t.Fatalf("%q with the limit %d in parts up to %v: %+v, %d, want %+v, %d", data, limit, ends, l, end, want, wantEnd)
		}
	}
}

// The lines cover the data from the offset to the end that is returned, without gaps.
func TestLinesCoverTheData(t *testing.T) {
	random := rand.New(rand.NewPCG(9, 4))
	for range 20000 {
		data := randomData(random, 30)
		offset := random.IntN(len(data) + 1)
		l, end := framing.Frame(data, offset, pick(random, plenty, random.IntN(8)))
		at := offset
		for _, x := range l {
			if x.Offset != at || x.Length < 1 || data[at+x.Length-1] != '\n' || slices.Contains(data[at:at+x.Length-1], '\n') {
				t.Fatalf("a line of %q from %d on: %+v", data, offset, x)
			}
			at += x.Length
		}
		if at != end || slices.Contains(data[end:], '\n') {
			t.Fatalf("lines of %q from %d on end at %d, and Frame returns %d", data, offset, at, end)
		}
	}
}

func TestLinesOfAFileThatGrows(t *testing.T) {
	f := filesystem.New()
	var l []api.Framed
	offset := 0
	for _, c := range []api.Change{
		{Kind: api.Create, Name: "log", Data: []byte("first\nsec")},
		{Kind: api.Append, Name: "log", Data: []byte("ond\r")},
		{Kind: api.Rename, Name: "log", To: "log.1"},
		{Kind: api.Append, Name: "log.1", Data: []byte("\nthird\nrest")},
	} {
		f, _ = filesystem.Do(f, c)
		file, _ := filesystem.Read(f, 1)
		var part []api.Framed
		part, offset = framing.Frame(file.Data, offset, plenty)
		l = append(l, part...)
	}
	want := []api.Framed{{Length: 6, Text: "first"}, {Offset: 6, Length: 8, Text: "second"}, {Offset: 14, Length: 6, Text: "third"}}
	if !slices.Equal(l, want) || offset != 20 {
		t.Errorf("lines %+v, %d, want %+v", l, offset, want)
	}
}
