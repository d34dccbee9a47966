package multiline_test

import (
	"math"
	"math/rand/v2"
	"slices"
	"testing"

	"logtide/api"
	"logtide/multiline"
)

// The tests of this file compare the functions with the promises for many arguments, and check that they modify none.

// randomStart returns a pattern; its lists have spare capacity.
func randomStart(t *testing.T, random *rand.Rand) api.Node {
	t.Helper()
	n := parse(t, pick(random, ``, `\d`, `\d`, `1`, `a|1`, `(n:1|2)b`, `$`, `[^ ]`, `x*`))
	if random.IntN(10) == 0 {
		n.Op = pick(random, 8, -1, math.MaxInt)
	}
	n.Kids = roomy(n.Kids, api.Node{Op: api.Begin})
	n.Ranges = roomy(n.Ranges, api.Range{Lo: '#', Hi: '#'})
	return n
}

func randomText(random *rand.Rand) string {
	return pick(random, "", "1", "1b", "2", "a", "ab", " a", " 1", "b", "x", "é", "?")
}

// randomOpen returns consecutive lines, with spare capacity.
func randomOpen(random *rand.Rand) []api.Line {
	n := pick(random, 0, 1, 2, random.IntN(5), random.IntN(api.MaxLines+1), api.MaxLines-1, api.MaxLines)
	at := random.IntN(10)
	var l []api.Line
	for range n {
		text := randomText(random)
		x := api.Line{Offset: at, Length: len(text) + pick(random, 1, 2), Text: text}
		l = append(l, x)
		at += x.Length
	}
	return roomy(l, api.Line{Offset: at, Length: 3, Text: "#"})
}

func randomTime(random *rand.Rand) int {
	if random.IntN(4) == 0 {
		return pick(random, math.MinInt, math.MinInt+1, -2, -1, 0, 1, math.MaxInt-1, math.MaxInt)
	}
	return random.IntN(10)
}

// randomNext returns a line that follows the open lines, in most cases.
func randomNext(random *rand.Rand, open []api.Line) api.Framed {
	text := randomText(random)
	l := api.Framed{Length: len(text) + pick(random, 1, 2), Text: text, Damaged: pick(random, 0, 0, 1)}
	if len(open) > 0 {
		last := open[len(open)-1]
		l.Offset = last.Offset + last.Length
	}
	switch random.IntN(12) {
	case 0:
		l.Offset += pick(random, 1, 1, 100)
	case 1:
		l.Offset = max(0, l.Offset-1)
	case 2, 3:
		l.TooLong = true
	case 4:
		l.TooLong, l.Text, l.Damaged = true, "", 0
	}
	return l
}

func TestRandomAdds(t *testing.T) {
	random := rand.New(rand.NewPCG(10, 1))
	counts := map[[2]int]int{}
	for range 40000 {
		start := randomStart(t, random)
		g := api.Assembly{Open: randomOpen(random), Since: randomTime(random)}
		l, now := randomNext(random, g.Open), randomTime(random)
		want, wantBlocks := addByDefinition(g, start, l, now)
		var got api.Assembly
		var blocks []api.Block
		wantUnmodified(t, g, start, func() { got, blocks = multiline.Add(g, start, l, now) })
		if !sameAssembly(got, want) || !sameBlocks(blocks, wantBlocks) {
			t.Fatalf("Add(%v, %v, %+v, %d) = %v, %v, want %v, %v", g, start, l, now, got, blocks, want, wantBlocks)
		}
		counts[[2]int{len(blocks), min(len(got.Open), 2)}]++
	}
	for _, c := range [][2]int{{0, 1}, {0, 2}, {1, 0}, {1, 1}, {1, 2}, {2, 0}} {
		if counts[c] < 1000 {
			t.Errorf("only %d results with %d blocks and %d or more open lines", counts[c], c[0], c[1])
		}
	}
}

func TestRandomTicks(t *testing.T) {
	random := rand.New(rand.NewPCG(10, 2))
	ended := 0
	for range 40000 {
		g := api.Assembly{Open: randomOpen(random), Since: randomTime(random)}
		wait, now := randomTime(random), randomTime(random)
		want, wantBlocks := tickByDefinition(g, wait, now)
		var got api.Assembly
		var blocks []api.Block
		wantUnmodified(t, g, api.Node{}, func() { got, blocks = multiline.Tick(g, wait, now) })
		if !sameAssembly(got, want) || !sameBlocks(blocks, wantBlocks) {
			t.Fatalf("Tick(%v, %d, %d) = %v, %v, want %v, %v", g, wait, now, got, blocks, want, wantBlocks)
		}
		ended += len(blocks)
		want, wantBlocks = flushByDefinition(g)
		wantUnmodified(t, g, api.Node{}, func() { got, blocks = multiline.Flush(g) })
		if !sameAssembly(got, want) || !sameBlocks(blocks, wantBlocks) {
			t.Fatalf("Flush(%v) = %v, %v, want %v, %v", g, got, blocks, want, wantBlocks)
		}
	}
	if ended < 10000 || ended > 30000 {
		t.Errorf("%d of 40000 ticks made a block", ended)
	}
}

// randomLines returns lines of a file, most of which are consecutive, with spare capacity. Some have long runs of lines that do not begin with a digit.
func randomLines(random *rand.Rand) []api.Framed {
	var l []api.Framed
	at := random.IntN(5)
	quiet := random.IntN(2) == 0
	for range pick(random, 0, 1, random.IntN(10), random.IntN(30), 60+random.IntN(100)) {
		x := randomNext(random, nil)
		x.Offset += at
		if quiet {
			x.TooLong = false
			x.Offset = at
			x.Text = pick(random, "", "b", "é")
		}
		l = append(l, x)
		at = x.Offset + x.Length
	}
	return roomy(l, api.Framed{Offset: at, Length: 3, Text: "1#"})
}

func TestRandomAssemble(t *testing.T) {
	random := rand.New(rand.NewPCG(10, 3))
	blocks, long, full := 0, 0, 0
	for range 5000 {
		start := randomStart(t, random)
		l := randomLines(random)
		before := whole(l)
		want := assembleByDefinition(start, l)
		var got []api.Block
		wantUnmodified(t, api.Assembly{}, start, func() { got = multiline.Assemble(start, l) })
		if !sameBlocks(got, want) {
			t.Fatalf("Assemble(%v, %+v) = %v, want %v", start, l, got, want)
		}
		if !slices.Equal(whole(l), before) {
			t.Fatalf("Assemble(%v, %+v) modified its arguments", start, before)
		}
		for _, b := range got {
			blocks++
			if b.Rule != "" {
				long++
			}
			if len(b.Lines) == api.MaxLines {
				full++
			}
		}
	}
	if blocks < 40000 || long < 5000 || full < 500 {
		t.Errorf("only %d blocks, %d of lines that are too long, %d of as many lines as a block can have", blocks, long, full)
	}
}
