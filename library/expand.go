package library

import (
	"strings"

	"logtide/api"
	"logtide/ascii"
)

// piece is a part of a source: a reference if it has a name, and otherwise a literal.
type piece struct {
	literal string
	name    string
	field   string // of a reference that is a capture
}

// split returns the pieces of a source.
func split(source string) ([]piece, api.Errno) {
	var pieces []piece
	for {
		literal, after, found := strings.Cut(source, "%{")
		pieces = append(pieces, piece{literal: literal})
		if !found {
			return pieces, api.OK
		}
		content, rest, closed := ascii.Cut(after, '}')
		name, field, captured := ascii.Cut(content, ':')
		if !closed || !isName(name) || captured && !isName(field) {
			return nil, api.ErrSyntax
		}
		pieces = append(pieces, piece{name: name, field: field})
		source = rest
	}
}

// Names returns the names that a source refers to.
func Names(source string) ([]string, api.Errno) {
	pieces, err := split(source)
	if err != api.OK {
		return nil, err
	}
	var names []string
	for _, p := range pieces {
		if p.name != "" {
			names = append(names, p.name)
		}
	}
	return names, api.OK
}

// Expand replaces references.
func Expand(l []api.Definition, source string) (string, api.Errno) {
	first := map[string]int{}
	for at, d := range l {
		if _, found := first[d.Name]; !found {
			first[d.Name] = at
		}
	}
	return expander{l, first}.expand(source, openSet{})
}

// expander expands sources.
type expander struct {
	definitions []api.Definition
	first       map[string]int // the index of the first definition with a name
}

// expand expands a source while the definitions of open are being expanded.
func (e expander) expand(source string, open openSet) (string, api.Errno) {
	pieces, err := split(source)
	if err != api.OK {
		return "", err
	}
	var written strings.Builder
	for _, p := range pieces {
		text, err := e.text(p, open)
		if err != api.OK {
			return "", err
		}
		if written.Len()+len(text) > api.MaxPattern {
			return "", api.ErrTooLong
		}
		written.WriteString(text)
	}
	return written.String(), api.OK
}

// text returns what is written for a piece.
func (e expander) text(p piece, open openSet) (string, api.Errno) {
	if p.name == "" {
		return p.literal, api.OK
	}
	at, found := e.first[p.name]
	if !found {
		return "", api.ErrName
	}
	if open.has(at) {
		return "", api.ErrCycle
	}
	source, err := e.expand(e.definitions[at].Source, open.with(at))
	if err != api.OK {
		return "", err
	}
	if p.field != "" {
		return "(" + p.field + ":" + source + ")", api.OK
	}
	return "(" + source + ")", api.OK
}
