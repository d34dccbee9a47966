package pattern

import (
	"slices"
	"strings"

	"logtide/api"
	"logtide/ascii"
)

// Format returns the source of a pattern.
func Format(n api.Node) (string, api.Errno) {
	if err := Check(n); err != api.OK {
		return "", err
	}
	var f formatter
	f.node(n)
	if f.err == api.OK && f.source.Len() > api.MaxPattern {
		f.err = api.ErrTooLong
	}
	if f.err != api.OK {
		return "", f.err
	}
	return f.source.String(), api.OK
}

// formatter writes a source. With an error the source is of no use, but it is written to its end.
type formatter struct {
	source strings.Builder
	err    api.Errno
}

// node writes a node.
func (f *formatter) node(n api.Node) {
	switch n.Op {
	case api.Empty:
		f.source.WriteString("()")
	case api.Class:
		f.class(n.Ranges)
	case api.Concat:
		for _, kid := range n.Kids {
			f.kid(kid, api.Concat, api.Choice)
		}
	case api.Choice:
		for at, kid := range n.Kids {
			if at > 0 {
				f.source.WriteByte('|')
			}
			f.kid(kid, api.Choice)
		}
	case api.Repeat:
		f.kid(n.Kids[0], api.Concat, api.Choice, api.Repeat)
		f.bounds(n.Min, n.Max)
	case api.Capture:
		f.source.WriteString("(" + n.Name + ":")
		f.node(n.Kids[0])
		f.source.WriteByte(')')
	case api.Begin:
		f.source.WriteByte('^')
	case api.End:
		f.source.WriteByte('$')
	}
}

// kid writes a node, in parentheses if its operation is one of looser.
func (f *formatter) kid(n api.Node, looser ...int) {
	if !slices.Contains(looser, n.Op) {
		f.node(n)
		return
	}
	f.source.WriteByte('(')
	f.node(n)
	f.source.WriteByte(')')
}

// bounds writes the bounds of a repetition.
func (f *formatter) bounds(low, high int) {
	f.source.WriteString("{" + ascii.Decimal(low))
	if high != low {
		f.source.WriteByte(',')
	}
	if high != low && high != -1 {
		f.source.WriteString(ascii.Decimal(high))
	}
	f.source.WriteByte('}')
}

// class writes the ranges of a class, or else those of all other bytes.
func (f *formatter) class(ranges []api.Range) {
	if areWritable(ranges) {
		f.brackets("[", ranges)
		return
	}
	others := setOf(ranges).others().ranges()
	if len(others) == 0 || !areWritable(others) {
		f.err = api.ErrSyntax
		return
	}
	f.brackets("[^", others)
}

// areWritable reports whether a source can contain the ends of all ranges.
func areWritable(ranges []api.Range) bool {
	for _, r := range ranges {
		if !isWritable(r.Lo) || !isWritable(r.Hi) {
			return false
		}
	}
	return true
}

// isWritable reports whether a source can contain c, or an escape of it.
func isWritable(c byte) bool { return isPrintable(c) || c == '\n' || c == '\t' }

// brackets writes ranges after the opening of brackets, and the closing one.
func (f *formatter) brackets(opening string, ranges []api.Range) {
	f.source.WriteString(opening)
	for _, r := range ranges {
		f.item(r.Lo)
		if r.Hi != r.Lo {
			f.source.WriteByte('-')
			f.item(r.Hi)
		}
	}
	f.source.WriteByte(']')
}

// item writes a byte in brackets.
func (f *formatter) item(c byte) {
	switch c {
	case '\n':
		f.source.WriteString(`\n`)
	case '\t':
		f.source.WriteString(`\t`)
	case ']', '-', '^', '\\':
		f.source.WriteByte('\\')
		f.source.WriteByte(c)
	default:
		f.source.WriteByte(c)
	}
}
