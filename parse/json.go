package parse

import (
	"strings"

	"logtide/api"
)

// deepest is the greatest depth of an object.
const deepest = 8

// JSON parses an object.
func JSON(s string) ([]api.Field, api.Errno) {
	d := document{rest: s}
	if err := d.whole(); err != api.OK {
		return nil, err
	}
	return Sort(d.fields)
}

// A document is read from left to right. Its methods return the first error, after which nothing more may be read.
type document struct {
	rest   string
	path   []string // the names of the members that are being read, from the outermost one on
	fields []api.Field
}

// whole reads the document.
func (d *document) whole() api.Errno {
	if !d.take("{") {
		return api.ErrSyntax
	}
	if err := d.object(); err != api.OK {
		return err
	}
	d.skipSpace()
	if d.rest != "" {
		return api.ErrSyntax
	}
	return api.OK
}

// object reads an object after its '{'.
func (d *document) object() api.Errno {
	if len(d.path) > deepest {
		return api.ErrDeep
	}
	if d.take("}") {
		return api.OK
	}
	for {
		if err := d.member(); err != api.OK {
			return err
		}
		if d.take("}") {
			return api.OK
		}
		if !d.take(",") {
			return api.ErrSyntax
		}
	}
}

// member reads a name and its value.
func (d *document) member() api.Errno {
	name, ok := d.text()
	if !ok || !d.take(":") {
		return api.ErrSyntax
	}
	d.path = append(d.path, name)
	err := d.value()
	d.path = d.path[:len(d.path)-1]
	return err
}

// value reads the value of the last name of the path.
func (d *document) value() api.Errno {
	if d.take("{") {
		return d.object()
	}
	value, ok := d.scalar()
	if !ok {
		return api.ErrSyntax
	}
	// A name is joined only for a field that is kept: a long one that many objects share would take too much time.
	if len(d.fields) < most {
		d.fields = append(d.fields, api.Field{Name: strings.Join(d.path, "."), Value: value})
	}
	return api.OK
}

// scalar reads a value that is no object.
func (d *document) scalar() (string, bool) {
	switch {
	case d.take("true"):
		return "true", true
	case d.take("false"):
		return "false", true
	case d.take("null"):
		return "", true
	case strings.HasPrefix(d.rest, `"`):
		return d.text()
	}
	return d.integer()
}

// text reads a string.
func (d *document) text() (string, bool) {
	d.skipSpace()
	if !strings.HasPrefix(d.rest, `"`) {
		return "", false
	}
	text, rest, ok := quoted(d.rest, ' ', unescape)
	d.rest = rest
	return text, ok
}

// unescape returns what a backslash and c stand for.
func unescape(c byte) (byte, bool) {
	switch c {
	case '"', '\\', '/':
		return c, true
	case 'n':
		return '\n', true
	case 't':
		return '\t', true
	case 'r':
		return '\r', true
	}
	return 0, false
}

// integer reads an integer as it is written.
func (d *document) integer() (string, bool) {
	digits := strings.TrimPrefix(d.rest, "-")
	after := strings.TrimLeft(digits, "0123456789")
	if strings.HasPrefix(digits, "0") {
		after = digits[1:]
	}
	written := strings.TrimSuffix(d.rest, after)
	d.rest = after
	return written, len(after) < len(digits)
}

// take skips blanks and tabs, and then the token if it comes next.
func (d *document) take(token string) bool {
	d.skipSpace()
	rest, found := strings.CutPrefix(d.rest, token)
	d.rest = rest
	return found
}

// skipSpace skips blanks and tabs.
func (d *document) skipSpace() { d.rest = strings.TrimLeft(d.rest, " \t") }
