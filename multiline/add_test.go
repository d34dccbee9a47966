package multiline_test

import (
	"math"
	"strings"
	"testing"

	"logtide/api"
	"logtide/multiline"
)

// P10.1

func wantAdd(t *testing.T, g api.Assembly, start api.Node, l api.Framed, now int, want api.Assembly, blocks ...api.Block) {
	t.Helper()
	got, gotBlocks := multiline.Add(g, start, l, now)
	if !sameAssembly(got, want) || !sameBlocks(gotBlocks, blocks) {
		t.Errorf("Add(%v, %+v, %d) = %v, %v, want %v, %v", g, l, now, got, gotBlocks, want, blocks)
	}
}

// starts returns patterns that are not Empty, and match different texts.
func starts(t *testing.T) []api.Node {
	t.Helper()
	var l []api.Node
	for _, source := range []string{`\d`, `[^\d]`, `^`, `$`, `x*`} {
		l = append(l, parse(t, source))
	}
	return l
}

func TestLineThatIsTooLong(t *testing.T) {
	open := lines(3, "1", "a")
	for _, start := range append(starts(t), api.Node{}, api.Node{Op: 99}) {
		for _, l := range []api.Framed{
			{Offset: 7, Length: 5000, TooLong: true},
			{Offset: 7, Length: 5000, TooLong: true, Text: "1", Damaged: 2},
		} {
			own := api.Block{From: 7, To: 5007, Lines: []api.Line{{Offset: 7, Length: 5000}}, Rule: "too-long"}
			wantAdd(t, api.Assembly{Open: open, Since: 4}, start, l, 9, api.Assembly{Since: 4}, api.Block{From: 3, To: 7, Lines: open}, own)
			wantAdd(t, api.Assembly{Since: 4}, start, l, 9, api.Assembly{Since: 4}, own)
			wantAdd(t, api.Assembly{Since: 4, Open: []api.Line{}}, start, l, 9, api.Assembly{Since: 4}, own)
		}
	}
	// The blocks are in the order in which the lines came, and not in that of the offsets.
	wantAdd(t, api.Assembly{Open: open}, starts(t)[0], api.Framed{Offset: 1, Length: 2, TooLong: true}, 0, api.Assembly{},
		api.Block{From: 3, To: 7, Lines: open}, api.Block{From: 1, To: 3, Lines: []api.Line{{Offset: 1, Length: 2}}, Rule: "too-long"})
}

func TestManyLinesAndOneThatIsTooLong(t *testing.T) {
	open := lines(0, repeated(api.MaxLines, "a")...)
	end := 2 * api.MaxLines
	wantAdd(t, api.Assembly{Open: open}, parse(t, `\d`), api.Framed{Offset: end, Length: 1, TooLong: true}, 1, api.Assembly{},
		api.Block{To: end, Lines: open}, api.Block{From: end, To: end + 1, Lines: []api.Line{{Offset: end, Length: 1}}, Rule: "too-long"})
}

func TestEveryLineIsABlockWithoutAStart(t *testing.T) {
	for _, since := range []int{0, 5, -5} {
		for _, text := range []string{"", "a", "1", " a"} {
			l := framed(7, text)
			own := api.Block{From: 7, To: 8 + len(text), Lines: lines(7, text)}
			wantAdd(t, api.Assembly{Since: since}, api.Node{}, l, 3, api.Assembly{Since: since}, own)
			l.Damaged = 1
			wantAdd(t, api.Assembly{Since: since}, api.Node{Op: api.Empty}, l, 3, api.Assembly{Since: since}, own)
		}
	}
}

// The chapter says nothing about open lines here: they stay.
func TestOpenLinesWithoutAStart(t *testing.T) {
	for _, n := range []int{1, 2, api.MaxLines} {
		g := api.Assembly{Open: lines(0, repeated(n, "a")...), Since: 4}
		for _, offset := range []int{0, 2 * n, 2*n + 1} {
			wantAdd(t, g, api.Node{}, framed(offset, "b"), 9, g, api.Block{From: offset, To: offset + 2, Lines: lines(offset, "b")})
		}
	}
}

func TestFirstLine(t *testing.T) {
	for _, start := range append(starts(t), api.Node{Op: 99}) {
		for _, text := range []string{"", "a", "1", "x"} {
			for _, offset := range []int{0, 1, 7, far} {
				for _, now := range []int{0, 3, 10, -10, math.MinInt, math.MaxInt} {
					wantAdd(t, api.Assembly{Since: 5}, start, framed(offset, text), now, api.Assembly{Open: lines(offset, text), Since: now})
				}
			}
		}
	}
}

func TestStart(t *testing.T) {
	for _, c := range []struct {
		start, text string
		begins      bool
	}{
		{`\d`, "1", true},
		{`\d`, "1 a", true},
		{`\d`, "a", false},
		{`\d`, "a1", false}, // it matches at 0, not later
		{`\d`, " 1", false},
		{`\d`, "", false},
		{`\d\d`, "1", false},
		{`\d\d`, "12", true},
		{`[^ \t]`, "at", true},
		{`[^ \t]`, "\tat", false},
		{`[^ \t]`, "", false},
		{`ERROR|WARN`, "WARNING", true},
		{`ERROR|WARN`, "warning", false},
		{`(level:ERROR|WARN) `, "WARN x", true},
		{`(level:ERROR|WARN) `, "WARN", false},
		{`.*!$`, "a!b!", true},
		{`.*!$`, "a!b", false},
		{`^`, "", true},
		{`^`, "a", true},
		{`^a`, "ab", true},
		{`^a`, "ba", false},
		{`$`, "", true},
		{`$`, "a", false},
		// A pattern that matches the empty string is not the node Empty.
		{`x*`, "a", true},
		{`x*`, "", true},
		{`(n:)`, "a", true},
		{`|a`, "b", true},
		{`(){0}`, "b", true},
		{`\n`, "n", false},
	} {
		start := parse(t, c.start)
		for _, since := range []int{5, 9, 12} {
			open := lines(3, "1", "é")
			g := api.Assembly{Open: open, Since: since}
			l := api.Framed{Offset: 8, Length: len(c.text) + 2, Text: c.text, Damaged: 3}
			line := api.Line{Offset: 8, Length: len(c.text) + 2, Text: c.text}
			if c.begins {
				wantAdd(t, g, start, l, 9, api.Assembly{Open: []api.Line{line}, Since: 9}, api.Block{From: 3, To: 8, Lines: open})
			} else {
				wantAdd(t, g, start, l, 9, api.Assembly{Open: append(lines(3, "1", "é"), line), Since: 9})
			}
		}
	}
}

func TestStartThatIsNoPattern(t *testing.T) {
	costly := api.Node{Op: api.Repeat, Min: 40, Max: 40, Kids: []api.Node{{Op: api.Repeat, Min: 40, Max: 40, Kids: []api.Node{parse(t, "a*")}}}}
	for _, start := range []api.Node{{Op: 8}, {Op: -1}, {Op: math.MaxInt}, {Op: api.Class}, {Op: api.Begin, Name: "x"}, {Op: api.Concat}, {Op: api.Capture, Name: "1", Kids: []api.Node{{}}}, costly} {
		wantAdd(t, api.Assembly{Open: lines(0, "a"), Since: 4}, start, framed(2, "aaa"), 9, api.Assembly{Open: lines(0, "a", "aaa"), Since: 9})
		// Other reasons for a block hold all the same.
		wantAdd(t, api.Assembly{Open: lines(0, "a"), Since: 4}, start, framed(3, "aaa"), 9, api.Assembly{Open: lines(3, "aaa"), Since: 9}, api.Block{To: 2, Lines: lines(0, "a")})
	}
}

func TestTextThatIsTooLongToMatch(t *testing.T) {
	start := parse(t, "a")
	most := strings.Repeat("a", api.MaxText)
	wantAdd(t, api.Assembly{Open: lines(0, "b")}, start, framed(2, most), 9, api.Assembly{Open: lines(2, most), Since: 9}, api.Block{To: 2, Lines: lines(0, "b")})
	wantAdd(t, api.Assembly{Open: lines(0, "b")}, start, framed(2, most+"a"), 9, api.Assembly{Open: lines(0, "b", most+"a"), Since: 9})
}

func TestMostLines(t *testing.T) {
	start := parse(t, `\d`)
	for _, text := range []string{"a", "1"} {
		for _, n := range []int{1, 2, api.MaxLines - 2, api.MaxLines - 1, api.MaxLines} {
			open := lines(10, repeated(n, "b")...)
			end := 10 + 2*n
			g := api.Assembly{Open: open, Since: 4}
			if text == "a" && n < api.MaxLines {
				wantAdd(t, g, start, framed(end, text), 9, api.Assembly{Open: append(lines(10, repeated(n, "b")...), lines(end, text)...), Since: 9})
			} else {
				wantAdd(t, g, start, framed(end, text), 9, api.Assembly{Open: lines(end, text), Since: 9}, api.Block{From: 10, To: end, Lines: open})
			}
			// A gap is no second reason for a block.
			wantAdd(t, g, start, framed(end+1, text), 9, api.Assembly{Open: lines(end+1, text), Since: 9}, api.Block{From: 10, To: end, Lines: open})
		}
	}
}

func TestMostLinesOneByOne(t *testing.T) {
	start := parse(t, `\d`)
	var g api.Assembly
	for i := range 3 * api.MaxLines {
		var blocks []api.Block
		g, blocks = multiline.Add(g, start, framed(2*i, "a"), i)
		if len(g.Open) != i%api.MaxLines+1 || g.Open[0].Offset != i/api.MaxLines*api.MaxLines*2 || g.Since != i {
			t.Fatalf("%d: %v", i, g)
		}
		if i == 0 || i%api.MaxLines != 0 {
			if len(blocks) != 0 {
				t.Errorf("%d: blocks %v", i, blocks)
			}
			continue
		}
		from := 2 * (i - api.MaxLines)
		if want := (api.Block{From: from, To: 2 * i, Lines: lines(from, repeated(api.MaxLines, "a")...)}); !sameBlocks(blocks, []api.Block{want}) {
			t.Errorf("%d: blocks %v", i, blocks)
		}
	}
}

func TestGaps(t *testing.T) {
	start := parse(t, `\d`)
	open := []api.Line{{Offset: 5, Length: 3, Text: "a"}, {Offset: 8, Length: 10, Text: "b"}}
	for _, offset := range []int{0, 5, 8, 10, 16, 17, 18, 19, 28, far} {
		g := api.Assembly{Open: open, Since: 4}
		l := framed(offset, "c")
		if offset == 18 {
			wantAdd(t, g, start, l, 9, api.Assembly{Open: append(open[:2:2], lines(18, "c")...), Since: 9})
		} else {
			wantAdd(t, g, start, l, 9, api.Assembly{Open: lines(offset, "c"), Since: 9}, api.Block{From: 5, To: 18, Lines: open})
		}
	}
}

func TestFarLines(t *testing.T) {
	start := parse(t, `\d`)
	first := api.Line{Offset: far, Length: far, Text: "a"}
	second := api.Framed{Offset: 2 * far, Length: 1, Text: "b"}
	wantAdd(t, api.Assembly{Open: []api.Line{first}}, start, second, 9, api.Assembly{Open: []api.Line{first, {Offset: 2 * far, Length: 1, Text: "b"}}, Since: 9})
	second.TooLong = true
	wantAdd(t, api.Assembly{Open: []api.Line{first}}, start, second, 9, api.Assembly{},
		api.Block{From: far, To: 2 * far, Lines: []api.Line{first}}, api.Block{From: 2 * far, To: 2*far + 1, Lines: []api.Line{{Offset: 2 * far, Length: 1}}, Rule: "too-long"})
}

// A line of no bytes ends where it begins.
func TestLinesOfNoBytes(t *testing.T) {
	start := parse(t, `\d`)
	g := api.Assembly{Open: []api.Line{{Offset: 3}}}
	wantAdd(t, g, start, api.Framed{Offset: 3}, 9, api.Assembly{Open: []api.Line{{Offset: 3}, {Offset: 3}}, Since: 9})
	wantAdd(t, g, start, api.Framed{Offset: 4}, 9, api.Assembly{Open: []api.Line{{Offset: 4}}, Since: 9}, api.Block{From: 3, To: 3, Lines: g.Open})
}

func TestSinceIsTheTimeOfTheLastLine(t *testing.T) {
	start := parse(t, `\d`)
	var g api.Assembly
	for i, now := range []int{5, 3, 3, math.MaxInt, math.MinInt, 0, -1} {
		g, _ = multiline.Add(g, start, framed(2*i, "a"), now)
		if g.Since != now || len(g.Open) != i+1 {
			t.Errorf("at %d: %v", now, g)
		}
	}
}
