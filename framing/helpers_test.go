package framing_test

import (
	"math/rand/v2"
	"slices"
	"testing"

	"logtide/api"
	"logtide/framing"
)

// plenty is a limit that no line of the tests exceeds.
const plenty = 1 << 30

func wantFrame(t *testing.T, data string, offset, limit, end int, want ...api.Framed) {
	t.Helper()
	l, got := framing.Frame([]byte(data), offset, limit)
	if !slices.Equal(l, want) || got != end {
		t.Errorf("Frame(%q, %d, %d) = %+v, %d, want %+v, %d", data, offset, limit, l, got, want, end)
	}
}

// roomy returns a copy of data with spare capacity, in which there are ends of lines.
func roomy(data []byte) []byte {
	return append(append(make([]byte, 0, len(data)+4), data...), '\n', '\r', '\n', 'x')[:len(data)]
}

// whole returns a copy of data with what is in its spare capacity.
func whole(data []byte) []byte { return slices.Clone(data[:cap(data)]) }

// pick returns one of the values.
func pick[T any](random *rand.Rand, values ...T) T { return values[random.IntN(len(values))] }

// randomData returns bytes of up to n pieces, many of which are ends of lines, or damaged.
func randomData(random *rand.Rand, n int) []byte {
	var data []byte
	for range random.IntN(n + 1) {
		data = append(data, pick(random, "\n", "\n", "\r\n", "\r", "a", "bc", "é", "\xff", "\xe2\x82", "\xac", "\x00", "€")...)
	}
	return data
}
