package multiline_test

import (
	"math"
	"testing"

	"logtide/api"
	"logtide/multiline"
)

// P10.2

func TestTick(t *testing.T) {
	for _, c := range []struct {
		since, wait, now int
		old              bool
	}{
		{10, 5, 10, false},
		{10, 5, 11, false},
		{10, 5, 14, false},
		{10, 5, 15, true},
		{10, 5, 16, true},
		{10, 5, 100, true},
		{10, 1, 10, false},
		{10, 1, 11, true},
		{0, 3, 2, false},
		{0, 3, 3, true},
		{-3, 3, -1, false},
		{-3, 3, 0, true},
		{-1, 3, 1, false},
		// The time went back.
		{10, 5, 9, true},
		{10, 5, 0, true},
		{10, 5, -100, true},
		{10, math.MaxInt, 9, true},
		{0, 5, -1, true},
		{-5, 5, -6, true},
		{math.MaxInt, 1, math.MaxInt - 1, true},
		{math.MaxInt, 1, math.MinInt, true},
		{math.MaxInt, math.MaxInt, math.MinInt, true},
		{0, math.MaxInt, math.MinInt, true},
		// Without a wait.
		{10, 0, 10, true},
		{10, 0, 9, true},
		{10, 0, 11, true},
		{10, -1, 10, true},
		{10, -5, 9, true},
		{10, math.MinInt, 10, true},
		{math.MinInt, math.MinInt, math.MinInt, true},
		{math.MaxInt, math.MinInt, math.MaxInt, true},
		{math.MinInt, 0, math.MinInt, true},
		// Differences at the ends of the numbers.
		{math.MinInt, 1, math.MinInt, false},
		{math.MaxInt, 1, math.MaxInt, false},
		{math.MaxInt - 1, 1, math.MaxInt, true},
		{math.MaxInt - 1, 2, math.MaxInt, false},
		{0, math.MaxInt, math.MaxInt - 1, false},
		{0, math.MaxInt, math.MaxInt, true},
		{1, math.MaxInt, math.MaxInt, false},
		{-1, math.MaxInt, math.MaxInt - 2, false},
		{-1, math.MaxInt, math.MaxInt - 1, true},
		// Differences that overflow.
		{-1, math.MaxInt, math.MaxInt, true},
		{-1, 1, math.MaxInt, true},
		{-2, math.MaxInt, math.MaxInt, true},
		{math.MinInt, math.MaxInt, -2, false},
		{math.MinInt, math.MaxInt, -1, true},
		{math.MinInt, math.MaxInt, 0, true},
		{math.MinInt, 1, 0, true},
		{math.MinInt, math.MaxInt, math.MaxInt, true},
		{math.MinInt, 1, math.MaxInt, true},
		{math.MinInt, 5, math.MinInt + 4, false},
		{math.MinInt, 5, math.MinInt + 5, true},
	} {
		open := lines(3, "x", "", "yz")
		g, blocks := multiline.Tick(api.Assembly{Open: open, Since: c.since}, c.wait, c.now)
		want, wantBlocks := api.Assembly{Open: open, Since: c.since}, []api.Block{}
		if c.old {
			want, wantBlocks = api.Assembly{Since: c.since}, []api.Block{{From: 3, To: 9, Lines: open}}
		}
		if !sameAssembly(g, want) || !sameBlocks(blocks, wantBlocks) {
			t.Errorf("Tick at %d with the wait %d since %d = %v, %v", c.now, c.wait, c.since, g, blocks)
		}
		none := api.Assembly{Since: c.since}
		if g, blocks := multiline.Tick(none, c.wait, c.now); !sameAssembly(g, none) || len(blocks) != 0 {
			t.Errorf("Tick without lines at %d with the wait %d since %d = %v, %v", c.now, c.wait, c.since, g, blocks)
		}
	}
}

func TestFlush(t *testing.T) {
	for _, since := range []int{0, 7, -7, math.MaxInt, math.MinInt} {
		for _, c := range []struct {
			from, to int
			open     []api.Line
		}{
			{0, 1, lines(0, "")},
			{3, 5, lines(3, "x")},
			{3, 9, lines(3, "x", "", "yz")},
			{far, far + 2, lines(far, "x")},
			{1, 1 + 2*api.MaxLines, lines(1, repeated(api.MaxLines, "x")...)},
			{far, 2 * far, []api.Line{{Offset: far, Length: far}}},
		} {
			g, blocks := multiline.Flush(api.Assembly{Open: c.open, Since: since})
			want := []api.Block{{From: c.from, To: c.to, Lines: c.open}}
			if !sameAssembly(g, api.Assembly{Since: since}) || !sameBlocks(blocks, want) {
				t.Errorf("Flush = %v, %v, want %v", g, blocks, want)
			}
		}
		for _, open := range [][]api.Line{nil, {}, lines(0, "a", "b")[:0]} {
			if g, blocks := multiline.Flush(api.Assembly{Open: open, Since: since}); !sameAssembly(g, api.Assembly{Since: since}) || len(blocks) != 0 {
				t.Errorf("Flush without lines = %v, %v", g, blocks)
			}
		}
	}
}

// After the lines were flushed, the next one is the first one again.
func TestLinesAfterATick(t *testing.T) {
	start := parse(t, `\d`)
	g, _ := multiline.Add(api.Assembly{}, start, framed(0, "1"), 4)
	g, blocks := multiline.Tick(g, 3, 6)
	if len(blocks) != 0 {
		t.Errorf("too early: %v", blocks)
	}
	g, _ = multiline.Add(g, start, framed(2, "a"), 6)
	g, blocks = multiline.Tick(g, 3, 8)
	if len(blocks) != 0 {
		t.Errorf("too early after the second line: %v", blocks)
	}
	g, blocks = multiline.Tick(g, 3, 9)
	if show(blocks) != "1,a" {
		t.Errorf("at the end of the wait: %v", blocks)
	}
	g, blocks = multiline.Add(g, start, framed(4, "b"), 9)
	if !sameAssembly(g, api.Assembly{Open: lines(4, "b"), Since: 9}) || len(blocks) != 0 {
		t.Errorf("after the tick: %v, %v", g, blocks)
	}
}
