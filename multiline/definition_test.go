package multiline_test

import (
	"math/big"

	"logtide/api"
	"logtide/matcher"
)

// The functions of this file are the promises word for word. The tests compare the package with them.

// blockOf is a block as the beginning of the chapter describes it.
func blockOf(rule string, l []api.Line) api.Block {
	b := api.Block{Rule: rule}
	for i, x := range l {
		if i == 0 {
			b.From = x.Offset
		}
		b.To = x.Offset + x.Length
		b.Lines = append(b.Lines, x)
	}
	return b
}

// openBlock returns the block of the open lines, if there are any.
func openBlock(g api.Assembly) []api.Block {
	if len(g.Open) == 0 {
		return nil
	}
	return []api.Block{blockOf("", g.Open)}
}

// addByDefinition is P10.1.
func addByDefinition(g api.Assembly, start api.Node, l api.Framed, now int) (api.Assembly, []api.Block) {
	if l.TooLong {
		own := blockOf("too-long", []api.Line{{Offset: l.Offset, Length: l.Length}})
		return api.Assembly{Since: g.Since}, append(openBlock(g), own)
	}
	line := api.Line{Offset: l.Offset, Length: l.Length, Text: l.Text}
	if start.Op == api.Empty {
		return g, []api.Block{blockOf("", []api.Line{line})}
	}
	if len(g.Open) == 0 {
		return api.Assembly{Open: []api.Line{line}, Since: now}, nil
	}
	last := g.Open[len(g.Open)-1]
	_, matches := matcher.Match(start, l.Text, 0)
	if matches || len(g.Open) == api.MaxLines || l.Offset != last.Offset+last.Length {
		return api.Assembly{Open: []api.Line{line}, Since: now}, openBlock(g)
	}
	var open []api.Line
	for _, x := range g.Open {
		open = append(open, x)
	}
	return api.Assembly{Open: append(open, line), Since: now}, nil
}

// tickByDefinition is P10.2.
func tickByDefinition(g api.Assembly, wait, now int) (api.Assembly, []api.Block) {
	difference := new(big.Int).Sub(big.NewInt(int64(now)), big.NewInt(int64(g.Since)))
	if wait <= 0 || difference.Sign() < 0 || difference.Cmp(big.NewInt(int64(wait))) >= 0 {
		return flushByDefinition(g)
	}
	return g, nil
}

// flushByDefinition is P10.2.
func flushByDefinition(g api.Assembly) (api.Assembly, []api.Block) {
	return api.Assembly{Since: g.Since}, openBlock(g)
}

// assembleByDefinition is P10.3, said in another way: a line goes to the block before it unless something cuts between them.
func assembleByDefinition(start api.Node, l []api.Framed) []api.Block {
	var blocks []api.Block
	var open []api.Line
	for i, x := range l {
		if i > 0 && (len(open) == api.MaxLines || isCut(start, l[i-1], x)) {
			blocks = append(blocks, blockOf(rule(l[i-1]), open))
			open = nil
		}
		line := api.Line{Offset: x.Offset, Length: x.Length}
		if !x.TooLong {
			line.Text = x.Text
		}
		open = append(open, line)
	}
	if len(l) > 0 {
		blocks = append(blocks, blockOf(rule(l[len(l)-1]), open))
	}
	return blocks
}

func isCut(start api.Node, before, l api.Framed) bool {
	if start.Op == api.Empty || before.TooLong || l.TooLong || l.Offset != before.Offset+before.Length {
		return true
	}
	_, matches := matcher.Match(start, l.Text, 0)
	return matches
}

func rule(l api.Framed) string {
	if l.TooLong {
		return "too-long"
	}
	return ""
}
