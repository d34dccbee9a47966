package multiline_test

import (
	"math/rand/v2"
	"slices"
	"testing"

	"logtide/api"
	"logtide/multiline"
)

// P10.4

// oneByOne adds lines one by one at random times, with ticks in between if a wait is given, and flushes at the end.
func oneByOne(random *rand.Rand, start api.Node, l []api.Framed, waits []int) []api.Block {
	var g api.Assembly
	var all []api.Block
	for _, x := range l {
		var blocks []api.Block
		g, blocks = multiline.Add(g, start, x, randomTime(random))
		all = append(all, blocks...)
		if len(waits) > 0 {
			g, blocks = multiline.Tick(g, pick(random, waits...), randomTime(random))
			all = append(all, blocks...)
		}
	}
	_, blocks := multiline.Flush(g)
	return append(all, blocks...)
}

// covered returns the lines of blocks, and checks that they are consecutive in each block.
func covered(t *testing.T, blocks []api.Block) []api.Line {
	t.Helper()
	var all []api.Line
	for _, b := range blocks {
		if len(b.Lines) < 1 || len(b.Lines) > api.MaxLines {
			t.Fatalf("a block of %d lines", len(b.Lines))
		}
		at := b.From
		for _, l := range b.Lines {
			if l.Offset != at {
				t.Fatalf("a line at %d instead of %d: %v", l.Offset, at, b)
			}
			at += l.Length
		}
		if at != b.To {
			t.Fatalf("a block that ends at %d instead of %d: %v", b.To, at, b)
		}
		all = append(all, b.Lines...)
	}
	return all
}

func linesOf(l []api.Framed) []api.Line {
	var all []api.Line
	for _, x := range l {
		line := api.Line{Offset: x.Offset, Length: x.Length, Text: x.Text}
		if x.TooLong {
			line.Text = ""
		}
		all = append(all, line)
	}
	return all
}

func TestBlocksCoverTheLines(t *testing.T) {
	random := rand.New(rand.NewPCG(10, 4))
	for range 3000 {
		start := randomStart(t, random)
		l := randomLines(random)
		for _, waits := range [][]int{nil, {1}, {5}, {0, 1, 5, 100}} {
			blocks := oneByOne(random, start, l, waits)
			if got := covered(t, blocks); !slices.Equal(got, linesOf(l)) {
				t.Fatalf("blocks %v of the lines %+v", blocks, l)
			}
		}
	}
}

func TestBlocksOfLinesThatAreAddedOneByOne(t *testing.T) {
	random := rand.New(rand.NewPCG(10, 5))
	for range 3000 {
		start := randomStart(t, random)
		l := randomLines(random)
		if got, want := oneByOne(random, start, l, nil), multiline.Assemble(start, l); !sameBlocks(got, want) {
			t.Fatalf("%+v: one by one %v, Assemble %v", l, got, want)
		}
	}
}

func TestTicksCutBlocksIntoSmallerOnes(t *testing.T) {
	random := rand.New(rand.NewPCG(10, 6))
	tried, cuts := 0, 0
	for range 3000 {
		start := randomStart(t, random)
		l := randomLines(random)
		want := multiline.Assemble(start, l)
		if slices.ContainsFunc(want, func(b api.Block) bool { return len(b.Lines) == api.MaxLines }) {
			continue
		}
		tried++
		blocks := oneByOne(random, start, l, []int{1, 5, 100})
		cuts += len(blocks) - len(want)
		for _, b := range want {
			var parts []api.Line
			for len(parts) < len(b.Lines) && len(blocks) > 0 && blocks[0].Rule == b.Rule {
				parts = append(parts, blocks[0].Lines...)
				blocks = blocks[1:]
			}
			if !slices.Equal(parts, b.Lines) {
				t.Fatalf("%+v: the block %v became %v", l, b, parts)
			}
		}
		if len(blocks) > 0 {
			t.Fatalf("%+v: more blocks %v", l, blocks)
		}
	}
	if tried < 2000 || cuts < 5000 {
		t.Errorf("only %d lists of lines, with %d cuts", tried, cuts)
	}
}

// Whoever holds a state can go on from it twice.
func TestStatesStay(t *testing.T) {
	start := parse(t, `\d`)
	var g api.Assembly
	for i := range api.MaxLines - 1 {
		g, _ = multiline.Add(g, start, framed(2*i, "a"), i)
		at := 2*i + 2
		first, _ := multiline.Add(g, start, framed(at, "b"), 3)
		_, flushed := multiline.Flush(g)
		_, ticked := multiline.Tick(g, 0, 0)
		second, _ := multiline.Add(g, start, framed(at, "c"), 4)
		_, ended := multiline.Add(g, start, framed(at, "1"), 4)
		open := lines(0, repeated(i+1, "a")...)
		want := []api.Block{{To: at, Lines: open}}
		if !sameBlocks(flushed, want) || !sameBlocks(ticked, want) || !sameBlocks(ended, want) || !sameAssembly(g, api.Assembly{Open: open, Since: i}) {
			t.Fatalf("%d: %v, %v, %v, %v", i, flushed, ticked, ended, g)
		}
		if !sameAssembly(first, api.Assembly{Open: append(slices.Clone(open), lines(at, "b")...), Since: 3}) {
			t.Fatalf("%d: the first line became %v", i, first)
		}
		if !sameAssembly(second, api.Assembly{Open: append(slices.Clone(open), lines(at, "c")...), Since: 4}) {
			t.Fatalf("%d: the second line became %v", i, second)
		}
	}
}
