package pattern

import (
	"strings"

	"logtide/api"
	"logtide/ascii"
)

// Parse parses the source of a pattern.
func Parse(source string) (api.Node, int, api.Errno) {
	if len(source) > api.MaxPattern {
		return api.Node{}, 0, api.ErrTooLong
	}
	p := parser{source: source}
	n := p.choice()
	if p.at < len(source) {
		p.fail(p.at, api.ErrSyntax)
	}
	if p.err == api.OK {
		p.err = Check(n)
	}
	if p.err != api.OK {
		return api.Node{}, p.at, p.err
	}
	return n, p.at, api.OK
}

// parser reads a source. After its first error it stays where it is and sees the end of the source there, so that its methods need not look at err.
type parser struct {
	source string
	at     int
	err    api.Errno
}

// end is what peek returns at the end. No source contains this byte, so that nothing needs to tell it from the end.
const end = 0

// peek returns the next byte.
func (p *parser) peek() byte {
	if p.err != api.OK || p.at == len(p.source) {
		return end
	}
	return p.source[p.at]
}

// take skips the next byte if it is c.
func (p *parser) take(c byte) bool {
	if p.peek() != c {
		return false
	}
	p.at++
	return true
}

// expect skips the next byte, which must be c.
func (p *parser) expect(c byte) {
	if !p.take(c) {
		p.fail(p.at, api.ErrSyntax)
	}
}

// fail keeps an error and its offset, if it is the first error.
func (p *parser) fail(at int, err api.Errno) {
	if p.err == api.OK {
		p.at, p.err = at, err
	}
}

// choice reads alternatives.
func (p *parser) choice() api.Node {
	kids := []api.Node{p.concat()}
	for p.take('|') {
		kids = append(kids, p.concat())
	}
	if len(kids) == 1 {
		return kids[0]
	}
	return api.Node{Op: api.Choice, Kids: kids}
}

// concat reads a sequence.
func (p *parser) concat() api.Node {
	var kids []api.Node
	for c := p.peek(); c != end && c != '|' && c != ')'; c = p.peek() {
		kids = append(kids, p.repeat())
	}
	switch len(kids) {
	case 0:
		return api.Node{Op: api.Empty}
	case 1:
		return kids[0]
	}
	return api.Node{Op: api.Concat, Kids: kids}
}

// repeat reads an atom and the bounds of its repetition, if it has any.
func (p *parser) repeat() api.Node {
	n := api.Node{Op: api.Repeat, Kids: []api.Node{p.atom()}}
	switch {
	case p.take('*'):
		n.Min, n.Max = 0, -1
	case p.take('+'):
		n.Min, n.Max = 1, -1
	case p.take('?'):
		n.Min, n.Max = 0, 1
	case p.take('{'):
		n.Min, n.Max = p.bounds()
	default:
		return n.Kids[0]
	}
	return n
}

// bounds reads the bounds in braces after the opening one, and the closing one.
func (p *parser) bounds() (low, high int) {
	low = p.bound()
	high = low
	if p.take(',') {
		high = -1
		if ascii.Digit(p.peek()) {
			high = p.bound()
			if high < low {
				p.fail(p.at, api.ErrRange)
			}
		}
	}
	p.expect('}')
	return low, high
}

// bound reads a bound of one or two digits.
func (p *parser) bound() int {
	from := p.at
	for p.at < from+2 && ascii.Digit(p.peek()) {
		p.at++
	}
	bound, found := ascii.Number(p.source[from:p.at])
	if !found {
		p.fail(p.at, api.ErrSyntax)
	}
	if bound > api.MaxRepeat {
		p.fail(p.at, api.ErrRange)
	}
	return bound
}

// atom reads what can be repeated.
func (p *parser) atom() api.Node {
	switch c := p.peek(); {
	case c == '\\':
		return api.Node{Op: api.Class, Ranges: p.escape()}
	case p.take('('):
		return p.parenthesis()
	case p.take('['):
		return p.brackets()
	case p.take('.'):
		return api.Node{Op: api.Class, Ranges: []api.Range{byteRange(0, '\n'-1), byteRange('\n'+1, 255)}}
	case p.take('^'):
		return api.Node{Op: api.Begin}
	case p.take('$'):
		return api.Node{Op: api.End}
	default:
		return api.Node{Op: api.Class, Ranges: p.literal("()[]{}*+?|.^$")}
	}
}

// literal reads a byte that stands for itself, which the special ones do not.
func (p *parser) literal(special string) []api.Range {
	c := p.peek()
	if !isPrintable(c) || c == '\\' || strings.IndexByte(special, c) >= 0 {
		p.fail(p.at, api.ErrSyntax)
		return nil
	}
	p.at++
	return []api.Range{byteRange(c, c)}
}

// escape reads a backslash and the byte after it, and returns the bytes that they stand for.
func (p *parser) escape() []api.Range {
	p.expect('\\')
	c := p.peek()
	ranges := escaped(c)
	if len(ranges) == 0 {
		p.fail(p.at, api.ErrSyntax)
		return nil
	}
	p.at++
	return ranges
}

// escaped returns the bytes for which c stands after a backslash; none if it is a wrong escape.
func escaped(c byte) []api.Range {
	switch {
	case c == 'd':
		return []api.Range{byteRange('0', '9')}
	case c == 'w':
		return []api.Range{byteRange('0', '9'), byteRange('A', 'Z'), byteRange('_', '_'), byteRange('a', 'z')}
	case c == 's':
		return []api.Range{byteRange('\t', '\t'), byteRange(' ', ' ')}
	case c == 'n':
		return []api.Range{byteRange('\n', '\n')}
	case c == 't':
		return []api.Range{byteRange('\t', '\t')}
	case isPrintable(c) && !ascii.Letter(c) && !ascii.Digit(c):
		return []api.Range{byteRange(c, c)}
	}
	return nil
}

// parenthesis reads the content of a parenthesis, and its end.
func (p *parser) parenthesis() api.Node {
	name, named := p.captureName()
	kid := p.choice()
	p.expect(')')
	if !named {
		return kid
	}
	return api.Node{Op: api.Capture, Name: name, Kids: []api.Node{kid}}
}

// captureName reads a name and the colon after it, if that is what comes next.
func (p *parser) captureName() (string, bool) {
	name, _, found := ascii.Cut(p.source[p.at:], ':')
	if !found || !isName(name) {
		return "", false
	}
	p.at += len(name) + 1
	return name, true
}

// brackets reads the content of brackets, and their end.
func (p *parser) brackets() api.Node {
	negated := p.take('^')
	var set byteSet
	set.add(p.span())
	for p.err == api.OK && !p.take(']') {
		set.add(p.span())
	}
	if negated {
		set = set.others()
	}
	return api.Node{Op: api.Class, Ranges: set.ranges()}
}

// span reads one item, or two with '-' between them, and returns their bytes.
func (p *parser) span() []api.Range {
	first := p.item()
	if !isSingle(first) || !p.take('-') {
		return first
	}
	from := p.at
	last := p.item()
	if !isSingle(last) {
		p.fail(from, api.ErrSyntax)
		return nil
	}
	if last[0].Lo < first[0].Lo {
		p.fail(p.at, api.ErrRange)
		return nil
	}
	return []api.Range{byteRange(first[0].Lo, last[0].Lo)}
}

// item reads a byte or an escape in brackets, and returns the bytes that it stands for.
func (p *parser) item() []api.Range {
	if p.peek() == '\\' {
		return p.escape()
	}
	return p.literal("]-^")
}

// isSingle reports whether the ranges are one byte, as the ends of a span must be.
func isSingle(ranges []api.Range) bool {
	return len(ranges) == 1 && ranges[0].Lo == ranges[0].Hi
}
