package framing_test

import (
	"strings"

	"logtide/api"
	"logtide/ascii"
)

// The functions of this file are the promises word for word. The tests compare the package with them.

// textByDefinition is P9.1.
func textByDefinition(b []byte) (string, int) {
	for _, end := range []string{"\r\n", "\n"} {
		if text, ended := strings.CutSuffix(string(b), end); ended {
			return ascii.Repair([]byte(text))
		}
	}
	return ascii.Repair(b)
}

// frameByDefinition is P9.2.
func frameByDefinition(data []byte, offset, limit int) ([]api.Framed, int) {
	if offset < 0 || offset > len(data) {
		return nil, offset
	}
	var l []api.Framed
	pieces := strings.SplitAfter(string(data[offset:]), "\n")
	// The last piece has no end, and may be empty.
	for _, line := range pieces[:len(pieces)-1] {
		x := api.Framed{Offset: offset, Length: len(line)}
		if x.Length > limit {
			x.TooLong = true
		} else {
			x.Text, x.Damaged = textByDefinition([]byte(line))
		}
		l = append(l, x)
		offset += len(line)
	}
	return l, offset
}
