package multiline_test

import (
	"testing"

	"logtide/api"
	"logtide/multiline"
)

// P10.3

func TestAssemble(t *testing.T) {
	for _, c := range []struct {
		start string
		texts []string
		want  string
	}{
		{`\d`, []string{"1", "a", "2"}, "1,a|2"},
		{`\d`, []string{"1"}, "1"},
		{`\d`, []string{"a"}, "a"},
		{`\d`, []string{"a", "b", "1", "c"}, "a,b|1,c"},
		{`\d`, []string{"1", "2", "3"}, "1|2|3"},
		{`\d`, []string{"a", "b", "c"}, "a,b,c"},
		{`\d`, []string{"", "", "1", ""}, ",|1,"},
		{`[^ ]`, []string{"java", " at a", " at b", "java", " at c"}, "java, at a, at b|java, at c"},
		{`$`, []string{"a", "", "b", "", "c"}, "a|,b|,c"},
		{`x*`, []string{"a", "x", ""}, "a|x|"},
		{``, []string{"1", "a", "2", ""}, "1|a|2|"},
		{`()`, []string{"1", "a"}, "1|a"},
	} {
		start := parse(t, c.start)
		blocks := multiline.Assemble(start, consecutive(c.texts...))
		if got := show(blocks); got != c.want {
			t.Errorf("%q: the blocks of %q are %q, want %q", c.start, c.texts, got, c.want)
		}
		if want := assembleByDefinition(start, consecutive(c.texts...)); !sameBlocks(blocks, want) {
			t.Errorf("%q: the blocks of %q are %v, want %v", c.start, c.texts, blocks, want)
		}
	}
}

func TestAssembleNoLines(t *testing.T) {
	for _, source := range []string{``, `\d`, `x*`} {
		for _, l := range [][]api.Framed{nil, {}, consecutive("1")[:0]} {
			if blocks := multiline.Assemble(parse(t, source), l); len(blocks) != 0 {
				t.Errorf("%q: the blocks of no lines are %v", source, blocks)
			}
		}
	}
}

func TestAssembleAllKindsOfBlocks(t *testing.T) {
	l := []api.Framed{
		{Offset: 10, Length: 900, TooLong: true, Text: "1", Damaged: 1},
		{Offset: 910, Length: 2, Text: "a", Damaged: 1},
		{Offset: 912, Length: 3, Text: "b"},
		{Offset: 915, Length: 2, Text: "1"},
		{Offset: 917, Length: 2, Text: "c"},
		{Offset: 919, Length: 800, TooLong: true},
		{Offset: 1719, Length: 700, TooLong: true},
		{Offset: 2419, Length: 2, Text: "d"},
		{Offset: 2422, Length: 2, Text: "e"},
		{Offset: 2424, Length: 2, Text: "f"},
		{Offset: 0, Length: 2, Text: "g"},
		{Offset: 2, Length: 600, TooLong: true},
	}
	want := []api.Block{
		{From: 10, To: 910, Lines: []api.Line{{Offset: 10, Length: 900}}, Rule: "too-long"},
		{From: 910, To: 915, Lines: []api.Line{{Offset: 910, Length: 2, Text: "a"}, {Offset: 912, Length: 3, Text: "b"}}},
		{From: 915, To: 919, Lines: []api.Line{{Offset: 915, Length: 2, Text: "1"}, {Offset: 917, Length: 2, Text: "c"}}},
		{From: 919, To: 1719, Lines: []api.Line{{Offset: 919, Length: 800}}, Rule: "too-long"},
		{From: 1719, To: 2419, Lines: []api.Line{{Offset: 1719, Length: 700}}, Rule: "too-long"},
		{From: 2419, To: 2421, Lines: []api.Line{{Offset: 2419, Length: 2, Text: "d"}}},
		{From: 2422, To: 2426, Lines: []api.Line{{Offset: 2422, Length: 2, Text: "e"}, {Offset: 2424, Length: 2, Text: "f"}}},
		{From: 0, To: 2, Lines: []api.Line{{Offset: 0, Length: 2, Text: "g"}}},
		{From: 2, To: 602, Lines: []api.Line{{Offset: 2, Length: 600}}, Rule: "too-long"},
	}
	if got := multiline.Assemble(parse(t, `\d`), l); !sameBlocks(got, want) {
		t.Errorf("Assemble = %v, want %v", got, want)
	}
	// Without a start each line is a block, with the same rules.
	got := multiline.Assemble(api.Node{}, l)
	if len(got) != len(l) {
		t.Fatalf("Assemble without a start = %v", got)
	}
	for i, b := range got {
		if b.From != l[i].Offset || b.To != l[i].Offset+l[i].Length || len(b.Lines) != 1 || (b.Rule == "too-long") != l[i].TooLong {
			t.Errorf("Assemble without a start: %v", b)
		}
	}
}

func TestAssembleManyLines(t *testing.T) {
	start := parse(t, `\d`)
	for _, n := range []int{1, api.MaxLines - 1, api.MaxLines, api.MaxLines + 1, 2 * api.MaxLines, 2*api.MaxLines + 1, 1000} {
		blocks := multiline.Assemble(start, consecutive(repeated(n, "a")...))
		if len(blocks) != (n+api.MaxLines-1)/api.MaxLines {
			t.Errorf("%d lines: %d blocks", n, len(blocks))
		}
		for i, b := range blocks {
			count := min(api.MaxLines, n-i*api.MaxLines)
			if len(b.Lines) != count || b.From != 2*i*api.MaxLines || b.To != b.From+2*count || b.Rule != "" {
				t.Errorf("%d lines: the block %d is from %d to %d and has %d lines", n, i, b.From, b.To, len(b.Lines))
			}
		}
	}
}
