package fingerprint_test

import (
	"bytes"
	"math"
	"slices"
	"strings"
	"testing"

	"logtide/fingerprint"
)

// P8.4

func TestConsistent(t *testing.T) {
	for _, c := range []struct {
		files []string
		size  int
		want  bool
	}{
		{nil, 1, true},
		{[]string{""}, 1, true},
		{[]string{"abc"}, 2, true},
		{[]string{"abc", "abc"}, 2, true},
		{[]string{"abc", "abcd"}, 2, true},
		{[]string{"abcd", "abc"}, 2, true},
		{[]string{"ab", "abcdef", "abc"}, 2, true},
		{[]string{"abc", "abd"}, 2, false},
		{[]string{"abc", "abd"}, 3, true},
		{[]string{"abc", "abdef"}, 2, false},
		{[]string{"abcdef", "abd"}, 2, false},
		// The last bytes count too, and all of them.
		{[]string{strings.Repeat("a", 60000) + "x", strings.Repeat("a", 60000) + "y"}, 64, false},
		{[]string{strings.Repeat("a", 60000), strings.Repeat("a", 60000) + "y"}, 64, true},
		{[]string{strings.Repeat("a", 64) + "x", strings.Repeat("a", 64) + "y"}, 64, false},
		// Two that are prefixes of no other one, among contents that are.
		{[]string{"ab", "abc", "abd"}, 2, false},
		{[]string{"abc", "ab", "abd"}, 2, false},
		{[]string{"abc", "abd", "ab"}, 2, false},
		{[]string{"ab", "abcde", "abc", "abcd", "abcx"}, 2, false},
		{[]string{"ab", "abcde", "abc", "abcd", "ab"}, 2, true},
		{[]string{"xy", "abc", "xz", "abd"}, 2, false},
		{[]string{"xy1", "abc", "xz", "xy2"}, 2, false},
		// One that another one contains, but does not begin with.
		{[]string{"ab", "aab"}, 1, false},
		{[]string{zeros, likeZero + zeros}, 4, false},
		// Contents without a number do not count.
		{[]string{"a", "b", "", "c"}, 2, true},
		{[]string{"ab", "ac", "abc"}, 3, true},
		{[]string{"ab", "ac", "abc", "abd"}, 3, true},
		{[]string{"ab", "ax", "abcd", "abce"}, 3, false},
		{[]string{"abc", "acc", "xyz"}, 2, true},
		// Contents with one number whose first bytes differ.
		{[]string{zeros, likeZero}, 4, false},
		{[]string{likeZero + "1", zeros}, 4, false},
		{[]string{zeros, "abcd", likeZero + "1"}, 4, false},
		{[]string{zeros, likeZero}, 3, true},
		{[]string{zeros, likeZero}, 5, true},
		{[]string{none, "\x7d\x82\x7d\x7e"}, 4, true},
		{[]string{none, none + "1", none}, 4, true},
		{[]string{none + "1", none + "2"}, 4, false},
	} {
		if got := fingerprint.Consistent(contents(c.files...), c.size); got != c.want {
			t.Errorf("Consistent(%.80q, %d) = %v", c.files, c.size, got)
		}
		backwards := contents(c.files...)
		slices.Reverse(backwards)
		if got := fingerprint.Consistent(backwards, c.size); got != c.want {
			t.Errorf("Consistent(%.80q backwards, %d) = %v", c.files, c.size, got)
		}
	}
}

func TestConsistentWithoutNumbers(t *testing.T) {
	files := contents("abc", "abd", strings.Repeat("a", 64)+"x", strings.Repeat("a", 64)+"y", "")
	for _, size := range []int{0, -1, -64, 65, 66, math.MinInt, math.MaxInt} {
		if !fingerprint.Consistent(append(files, nil), size) {
			t.Errorf("with the size %d, contents have numbers", size)
		}
	}
}

// Each one of many contents that agree, but for one byte.
func TestOneByteOfMany(t *testing.T) {
	text := []byte("the first line\nthe second line\nthe third one\n")
	var files [][]byte
	for n := 4; n <= len(text); n++ {
		files = append(files, slices.Clone(text[:n]))
	}
	if !fingerprint.Consistent(files, 4) {
		t.Error("prefixes of one text are not consistent")
	}
	for i, data := range files[:len(files)-1] {
		for at := 4; at < len(data); at++ {
			data[at] ^= 1
			if fingerprint.Consistent(files, 4) {
				t.Errorf("the byte %d of %d differs", at, i)
			}
			data[at] ^= 1
		}
	}
}

func TestManyContents(t *testing.T) {
	var files [][]byte
	for i := range 50000 {
		files = append(files, bytes.Repeat([]byte("x"), 1+i%300))
	}
	if !fingerprint.Consistent(files, 1) {
		t.Error("contents of one byte are not consistent")
	}
	if files = append(files, []byte("xy")); fingerprint.Consistent(files, 1) {
		t.Error("another byte is consistent")
	}
	if !fingerprint.Consistent(files, 2) {
		t.Error("contents with other numbers are not consistent")
	}
}
