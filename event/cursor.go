package event

// A writer is a visitor that encodes.
type writer struct{ b []byte }

func (w *writer) number(n *int) { w.b = appendNumber(w.b, *n, integerBytes) }

func (w *writer) text(s *string) {
	w.count(len(*s))
	w.b = append(w.b, *s...)
}

func (w *writer) count(elements int) int {
	w.b = appendNumber(w.b, elements, lengthBytes)
	return elements
}

func (w *writer) broken() bool { return false }

// A reader is a visitor that decodes: a cursor that stops for good where bytes are missing.
type reader struct {
	rest   []byte
	failed bool
}

// take returns the next bytes, or none if there are fewer.
func (r *reader) take(count int) []byte {
	if r.failed || count > len(r.rest) {
		r.failed = true
		return nil
	}
	taken := r.rest[:count]
	r.rest = r.rest[count:]
	return taken
}

// length reads the length of what follows.
func (r *reader) length() int { return readNumber(r.take(lengthBytes)) }

func (r *reader) number(n *int) { *n = readNumber(r.take(integerBytes)) }

func (r *reader) text(s *string) { *s = string(r.take(r.length())) }

func (r *reader) count(int) int { return r.length() }

func (r *reader) broken() bool { return r.failed }

// appendNumber appends the lowest bytes of n, the highest of them first.
func appendNumber(b []byte, n, width int) []byte {
	for place := width - 1; place >= 0; place-- {
		b = append(b, byte(n>>(8*place)))
	}
	return b
}

// readNumber returns the number with these bytes, the highest first. It is 0 without bytes, and negative if 8 bytes say so.
func readNumber(b []byte) int {
	n := 0
	for _, c := range b {
		n = n<<8 | int(c)
	}
	return n
}
