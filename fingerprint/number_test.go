package fingerprint_test

import (
	"bytes"
	"math"
	"strings"
	"testing"

	"logtide/fingerprint"
)

// P8.1

func TestNumber(t *testing.T) {
	for _, c := range []struct {
		data string
		size int
		want int
	}{
		{"\x00", 1, 1},
		{"a", 1, 98},
		{"\xff", 1, 256},
		{"\x00\x00", 1, 1},
		{"\x00\x00", 2, 258},
		{"\x00\x01", 2, 259},
		{"\x01\x00", 2, 515},
		{"\xff\xff", 2, 66048},
		{"abc", 3, 6498345},
		{"\xff\xff\xff", 3, 16974592},
		// From four bytes on, the remainder counts.
		{zeros, 4, 17040900},
		{likeZero, 4, 17040900},
		{none, 4, 0},
		{"\x7d\x82\x7d\x7e", 4, 2147483646},
		{"\x7d\x82\x7d\x80", 4, 1},
		{none + "\x00", 5, 1},
		{"\x7d\x82\x7d\x7e\x00", 5, 2147483647 - 256},
		{"\xff\xff\xff\xff", 4, 67503106},
		{"first line\n", 11, 1840574991},
		{strings.Repeat("\x00", 64), 64, 1225453753},
		{strings.Repeat("\xff", 64), 64, 183548306},
		{strings.Repeat("ab", 32), 63, 461644323},
		{strings.Repeat("ab", 32), 64, 530990525},
	} {
		for _, rest := range []string{"", "\x00", "x", strings.Repeat("more", 100)} {
			if got, ok := fingerprint.Number([]byte(c.data+rest), c.size); got != c.want || !ok {
				t.Errorf("Number(%q, %d) = %d, %v, want %d", c.data+rest, c.size, got, ok, c.want)
			}
		}
		if got, ok := numberByDefinition([]byte(c.data), c.size); got != c.want || !ok {
			t.Errorf("the definition has %d, %v for Number(%q, %d), not %d", got, ok, c.data, c.size, c.want)
		}
	}
}

func TestDataThatIsTooShort(t *testing.T) {
	for size := 1; size <= 64; size++ {
		for length := range 130 {
			if _, ok := fingerprint.Number(make([]byte, length), size); ok != (length >= size) {
				t.Errorf("Number of %d bytes with the size %d: %v", length, size, ok)
			}
		}
	}
	// Bytes in the spare capacity are not bytes of the data.
	if n, ok := fingerprint.Number(make([]byte, 3, 64), 4); n != 0 || ok {
		t.Errorf("Number = %d, %v", n, ok)
	}
	if n, ok := fingerprint.Number(nil, 1); n != 0 || ok {
		t.Errorf("Number = %d, %v", n, ok)
	}
}

func TestSizes(t *testing.T) {
	for _, size := range []int{0, -1, -64, 65, 66, 100, 256 + 1, 1<<32 + 1, -1<<32 + 1, math.MinInt, math.MinInt + 1, math.MaxInt} {
		for _, data := range [][]byte{nil, {}, {0}, make([]byte, 64), make([]byte, 65), bytes.Repeat([]byte("x"), 1000)} {
			if n, ok := fingerprint.Number(data, size); n != 0 || ok {
				t.Errorf("Number of %d bytes with the size %d = %d, %v", len(data), size, n, ok)
			}
		}
	}
}

func TestEachByteOfTheFirstOnesCounts(t *testing.T) {
	for size := 1; size <= 64; size++ {
		data := bytes.Repeat([]byte("x"), 70)
		n, _ := fingerprint.Number(data, size)
		for at := range data {
			data[at] = 'y'
			got, ok := fingerprint.Number(data, size)
			if !ok || (got == n) != (at >= size) {
				t.Errorf("the byte %d with the size %d: %d, %v, before: %d", at, size, got, ok, n)
			}
			data[at] = 'x'
		}
	}
}
