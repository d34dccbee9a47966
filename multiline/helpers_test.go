package multiline_test

import (
	"math/rand/v2"
	"reflect"
	"slices"
	"strings"
	"testing"

	"logtide/api"
	"logtide/pattern"
)

// far is the greatest offset and the greatest length that are expected.
const far = 1 << 40

func parse(t *testing.T, source string) api.Node {
	t.Helper()
	n, _, err := pattern.Parse(source)
	if err != api.OK {
		t.Fatalf("Parse(%q) = %d", source, err)
	}
	return n
}

// framed returns a line that ends with one byte.
func framed(offset int, text string) api.Framed {
	return api.Framed{Offset: offset, Length: len(text) + 1, Text: text}
}

// lines returns consecutive lines from an offset on.
func lines(offset int, texts ...string) []api.Line {
	var l []api.Line
	for _, text := range texts {
		l = append(l, api.Line{Offset: offset, Length: len(text) + 1, Text: text})
		offset += len(text) + 1
	}
	return l
}

// consecutive returns the lines of a file.
func consecutive(texts ...string) []api.Framed {
	var l []api.Framed
	for _, x := range lines(0, texts...) {
		l = append(l, framed(x.Offset, x.Text))
	}
	return l
}

// repeated returns n times the text.
func repeated(n int, text string) []string { return slices.Repeat([]string{text}, n) }

func sameAssembly(a, b api.Assembly) bool { return slices.Equal(a.Open, b.Open) && a.Since == b.Since }

func sameBlocks(a, b []api.Block) bool { return slices.EqualFunc(a, b, sameBlock) }

func sameBlock(a, b api.Block) bool {
	return a.From == b.From && a.To == b.To && slices.Equal(a.Lines, b.Lines) && a.Rule == b.Rule
}

// show returns the texts of blocks, as a short name of the blocks of consecutive lines.
func show(blocks []api.Block) string {
	var parts []string
	for _, b := range blocks {
		var texts []string
		for _, l := range b.Lines {
			texts = append(texts, l.Text)
		}
		parts = append(parts, b.Rule+strings.Join(texts, ","))
	}
	return strings.Join(parts, "|")
}

// roomy returns a copy of l with spare capacity, which is filled with x.
func roomy[T any](l []T, x T) []T {
	return append(append(make([]T, 0, len(l)+3), l...), x, x, x)[:len(l)]
}

// whole returns a copy of l with what is in its spare capacity.
func whole[T any](l []T) []T { return slices.Clone(l[:cap(l)]) }

// wantUnmodified checks that f leaves the open lines, the node and the spare capacities as they are.
func wantUnmodified(t *testing.T, g api.Assembly, start api.Node, f func()) {
	t.Helper()
	open, kids, ranges := whole(g.Open), whole(start.Kids), whole(start.Ranges)
	f()
	if !slices.Equal(whole(g.Open), open) || !reflect.DeepEqual(whole(start.Kids), kids) || !slices.Equal(whole(start.Ranges), ranges) {
		t.Fatalf("arguments %v, %v were modified", g, start)
	}
}

// pick returns one of the values.
func pick[T any](random *rand.Rand, values ...T) T { return values[random.IntN(len(values))] }
