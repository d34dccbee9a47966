package pattern_test

import (
	"testing"

	"logtide/api"
	"logtide/pattern"
)

// class returns a Class; each two bytes are the first and the last one of a range.
func class(ends ...byte) api.Node {
	n := api.Node{Op: api.Class}
	for i := 0; i < len(ends); i += 2 {
		n.Ranges = append(n.Ranges, api.Range{Lo: ends[i], Hi: ends[i+1]})
	}
	return n
}

// classOf returns the Class of the bytes for which in is true.
func classOf(in func(c byte) bool) api.Node {
	n := api.Node{Op: api.Class}
	for i := 0; i < 256; i++ {
		if !in(byte(i)) {
			continue
		}
		lo := i
		for i < 255 && in(byte(i+1)) {
			i++
		}
		n.Ranges = append(n.Ranges, api.Range{Lo: byte(lo), Hi: byte(i)})
	}
	return n
}

func one(c byte) api.Node { return class(c, c) }

func concat(kids ...api.Node) api.Node { return api.Node{Op: api.Concat, Kids: kids} }

func choice(kids ...api.Node) api.Node { return api.Node{Op: api.Choice, Kids: kids} }

func repeat(kid api.Node, lo, hi int) api.Node {
	return api.Node{Op: api.Repeat, Kids: []api.Node{kid}, Min: lo, Max: hi}
}

func capture(name string, kid api.Node) api.Node {
	return api.Node{Op: api.Capture, Name: name, Kids: []api.Node{kid}}
}

var (
	empty = api.Node{Op: api.Empty}
	begin = api.Node{Op: api.Begin}
	end   = api.Node{Op: api.End}
	dot   = class(0, 9, 11, 255)
)

// times returns a list that has n so often.
func times(count int, n api.Node) []api.Node {
	var list []api.Node
	for range count {
		list = append(list, n)
	}
	return list
}

// wrapped returns n inside of count repetitions.
func wrapped(count int, n api.Node) api.Node {
	for range count {
		n = repeat(n, 0, 1)
	}
	return n
}

// around returns a node that contains itself.
func around() api.Node {
	kids := make([]api.Node, 2)
	n := concat(kids...)
	kids[0], kids[1] = n, n
	return n
}

// equal compares two nodes by definition, so that these tests do not depend on Same.
func equal(a, b api.Node) bool {
	if a.Op != b.Op || a.Name != b.Name || a.Min != b.Min || a.Max != b.Max {
		return false
	}
	if len(a.Ranges) != len(b.Ranges) || len(a.Kids) != len(b.Kids) {
		return false
	}
	for i := range a.Ranges {
		if a.Ranges[i] != b.Ranges[i] {
			return false
		}
	}
	for i := range a.Kids {
		if !equal(a.Kids[i], b.Kids[i]) {
			return false
		}
	}
	return true
}

// wantNode reports an error if the source is not parsed as this node.
func wantNode(t *testing.T, source string, want api.Node) {
	t.Helper()
	n, at, err := pattern.Parse(source)
	if err != api.OK || at != len(source) || !equal(n, want) {
		t.Errorf("Parse(%q) = %v, %d, %d, want %v", source, n, at, err, want)
	}
}

// wantError reports an error if Parse of the source does not stop there with that.
func wantError(t *testing.T, source string, wantAt int, want api.Errno) {
	t.Helper()
	n, at, err := pattern.Parse(source)
	if err != want || at != wantAt || !equal(n, api.Node{}) {
		t.Errorf("Parse(%q) = %v, %d, %d, want nothing, %d, %d", source, n, at, err, wantAt, want)
	}
}

// wantSource reports an error if the node is not formatted as this source.
func wantSource(t *testing.T, n api.Node, want string) {
	t.Helper()
	if source, err := pattern.Format(n); source != want || err != api.OK {
		t.Errorf("Format(%v) = %q, %d, want %q", n, source, err, want)
	}
}

// wantNoSource reports an error if Format of the node does not return that error.
func wantNoSource(t *testing.T, n api.Node, want api.Errno) {
	t.Helper()
	if source, err := pattern.Format(n); source != "" || err != want {
		t.Errorf("Format(%v) = %q, %d, want nothing, %d", n, source, err, want)
	}
}

// wantCheck reports an error if Check of the node does not return that.
func wantCheck(t *testing.T, n api.Node, want api.Errno) {
	t.Helper()
	if err := pattern.Check(n); err != want {
		t.Errorf("Check(%v) = %d, want %d", n, err, want)
	}
}
