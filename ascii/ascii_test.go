package ascii_test

import (
	"bytes"
	"math"
	"slices"
	"strconv"
	"strings"
	"testing"

	"logtide/ascii"
)

// P1.1

const (
	digits  = "0123456789"
	letters = "abcdefghijklmnopqrstuvwxyzABCDEFGHIJKLMNOPQRSTUVWXYZ"
)

func TestClassesOfAllBytes(t *testing.T) {
	for _, class := range []struct {
		name    string
		has     func(byte) bool
		members string
	}{
		{"Digit", ascii.Digit, digits},
		{"Letter", ascii.Letter, letters},
		{"Word", ascii.Word, digits + letters + "_"},
		{"Space", ascii.Space, " \t"},
	} {
		for i := range 256 {
			c := byte(i)
			if got, want := class.has(c), strings.IndexByte(class.members, c) >= 0; got != want {
				t.Errorf("%s(%d) = %v, want %v", class.name, c, got, want)
			}
		}
	}
}

// P1.2

// between reports whether b has a byte at i that is from lo to hi.
func between(b []byte, i int, lo, hi byte) bool {
	return i < len(b) && lo <= b[i] && b[i] <= hi
}

// validLength is P1.2 word for word: the length of the valid sequence at the beginning of b, or 0.
func validLength(b []byte) int {
	lo, hi := byte(128), byte(191)
	n := 0
	switch first := b[0]; {
	case first < 128:
		n = 1
	case 194 <= first && first <= 223:
		n = 2
	case 224 <= first && first <= 239:
		n = 3
	case 240 <= first && first <= 244:
		n = 4
	}
	switch b[0] {
	case 224:
		lo = 160
	case 237:
		hi = 159
	case 240:
		lo = 144
	case 244:
		hi = 143
	}
	for i := 1; i < n; i++ {
		if !between(b, i, lo, hi) {
			return 0
		}
		lo, hi = 128, 191
	}
	return n
}

func repairByDefinition(b []byte) (string, int) {
	var out []byte
	damaged := 0
	for len(b) > 0 {
		n := validLength(b)
		if n == 0 {
			out = append(out, '?')
			damaged++
			n = 1
		} else {
			out = append(out, b[:n]...)
		}
		b = b[n:]
	}
	return string(out), damaged
}

func checkRepair(t *testing.T, b []byte) {
	t.Helper()
	want, wantDamaged := repairByDefinition(b)
	if got, damaged := ascii.Repair(b); got != want || damaged != wantDamaged {
		t.Fatalf("Repair(%v) = %q, %d, want %q, %d", b, got, damaged, want, wantDamaged)
	}
}

func TestRepairExamples(t *testing.T) {
	for _, c := range []struct {
		in, want string
		damaged  int
	}{
		{"", "", 0},
		{"a\xc8b", "a?b", 1},
		{"\x00\x7f", "\x00\x7f", 0},
		{"?\x80?", "???", 1},
		{"\xbf", "?", 1},
		{"\xc1\xbf", "??", 2},
		{"\xc2\x80\xdf\xbf", "\xc2\x80\xdf\xbf", 0},
		{"\xc2a", "?a", 1},
		{"\xe0\x9f\xbf", "???", 3},
		{"\xe0\xa0\x80", "\xe0\xa0\x80", 0},
		{"\xed\x9f\xbf", "\xed\x9f\xbf", 0},
		{"\xed\xa0\x80", "???", 3},
		{"\xef\xbf\xbd", "\xef\xbf\xbd", 0},
		{"\xef\xbf", "??", 2},
		{"\xf0\x8f\xbf\xbf", "????", 4},
		{"\xf0\x90\x80\x80", "\xf0\x90\x80\x80", 0},
		{"\xf4\x8f\xbf\xbf", "\xf4\x8f\xbf\xbf", 0},
		{"\xf4\x90\x80\x80", "????", 4},
		{"\xf5\x80\x80\x80", "????", 4},
		{"\xf0\x90\x80", "???", 3},
		{"\xf0\x90\x80z", "???z", 3},
		{"\xf0\xe2\x82\xac", "?\xe2\x82\xac", 1},
		{"\xe2\x82\xc3\xa4", "??\xc3\xa4", 2},
		{"\xc3\xa4\xa4\xff", "\xc3\xa4??", 2},
	} {
		if got, damaged := ascii.Repair([]byte(c.in)); got != c.want || damaged != c.damaged {
			t.Errorf("Repair(%q) = %q, %d, want %q, %d", c.in, got, damaged, c.want, c.damaged)
		}
	}
	if got, damaged := ascii.Repair(nil); got != "" || damaged != 0 {
		t.Errorf("Repair(nil) = %q, %d", got, damaged)
	}
}

func TestRepairOfAllShortStrings(t *testing.T) {
	for i := range 256 {
		checkRepair(t, []byte{byte(i)})
		for j := range 256 {
			checkRepair(t, []byte{byte(i), byte(j)})
			for _, k := range []byte{'a', 127, 128, 191, 192, 226} {
				checkRepair(t, []byte{byte(i), byte(j), k})
			}
		}
	}
}

func TestRepairOfStringsOfLimitBytes(t *testing.T) {
	limits := []byte{0, 'a', 127, 128, 143, 144, 159, 160, 191, 192, 193, 194, 223, 224, 225, 236, 237, 238, 239, 240, 241, 243, 244, 245, 255}
	for _, a := range limits {
		for _, b := range limits {
			for _, c := range limits {
				for _, d := range limits {
					checkRepair(t, []byte{a, b, c, d})
				}
			}
		}
	}
}

func TestRepairLeavesItsArgument(t *testing.T) {
	whole := []byte("a\xffb\xc3\xa4 spare \xff")
	before := bytes.Clone(whole)
	got, _ := ascii.Repair(whole[:3])
	if !bytes.Equal(whole, before) {
		t.Errorf("Repair changed its argument: %q", whole)
	}
	whole[0] = 'z'
	if got != "a?b" {
		t.Errorf("the result of Repair changed with its argument: %q", got)
	}
}

// P1.3

func TestFields(t *testing.T) {
	for _, c := range []struct {
		in   string
		want []string
	}{
		{"", nil},
		{" ", nil},
		{" \t\t ", nil},
		{"a", []string{"a"}},
		{"ab cd", []string{"ab", "cd"}},
		{"\t a\t \tbc  d ", []string{"a", "bc", "d"}},
		{"a\nb\rc\vd\fe\x00f", []string{"a\nb\rc\vd\fe\x00f"}},
		{"\xff \xc2\xa0\t\xe2\x80\x83", []string{"\xff", "\xc2\xa0", "\xe2\x80\x83"}},
		{"b a b", []string{"b", "a", "b"}},
	} {
		if got := ascii.Fields(c.in); !slices.Equal(got, c.want) {
			t.Errorf("Fields(%q) = %q, want %q", c.in, got, c.want)
		}
	}
}

func TestTrim(t *testing.T) {
	for _, c := range []struct{ in, want string }{
		{"", ""},
		{"\t \t", ""},
		{"a", "a"},
		{" a", "a"},
		{"a\t", "a"},
		{"\t a \t b \t", "a \t b"},
		{"\n a \r", "\n a \r"},
		{" \xff\xc2\xa0 ", "\xff\xc2\xa0"},
	} {
		if got := ascii.Trim(c.in); got != c.want {
			t.Errorf("Trim(%q) = %q, want %q", c.in, got, c.want)
		}
	}
}

// P1.4

func TestNumber(t *testing.T) {
	for _, c := range []struct {
		in   string
		want int
	}{
		{"0", 0},
		{"-0", 0},
		{"7", 7},
		{"-007", -7},
		{"1234567890", 1234567890},
		{"000000000000000000", 0},
		{"000000000000000012", 12},
		{"999999999999999999", 999999999999999999},
		{"-999999999999999999", -999999999999999999},
	} {
		if got, ok := ascii.Number(c.in); got != c.want || !ok {
			t.Errorf("Number(%q) = %d, %v, want %d", c.in, got, ok, c.want)
		}
	}
}

func TestNumberOfOtherStrings(t *testing.T) {
	for _, s := range []string{
		"", "-", "--1", "+1", "1-", " 1", "1 ", "- 1", "1.0", "1e3", "0x1", "1_0", "12a", "a12", "/", ":", "1\x00", "\xd9\xa3",
		"0000000000000000000", "-0000000000000000001", "1000000000000000000", "9223372036854775807", "99999999999999999999999",
	} {
		if n, ok := ascii.Number(s); n != 0 || ok {
			t.Errorf("Number(%q) = %d, %v, want 0, false", s, n, ok)
		}
	}
}

func TestDecimal(t *testing.T) {
	for _, c := range []struct {
		n    int
		want string
	}{
		{0, "0"},
		{9, "9"},
		{10, "10"},
		{-1, "-1"},
		{-120, "-120"},
		{1000000007, "1000000007"},
		{math.MaxInt64, "9223372036854775807"},
		{math.MinInt64, "-9223372036854775808"},
	} {
		if got := ascii.Decimal(c.n); got != c.want {
			t.Errorf("Decimal(%d) = %q, want %q", c.n, got, c.want)
		}
	}
}

// P1.5

func TestCut(t *testing.T) {
	for _, c := range []struct {
		in            string
		sep           byte
		before, after string
		found         bool
	}{
		{"", '=', "", "", false},
		{"abc", '=', "abc", "", false},
		{"a=b", '=', "a", "b", true},
		{"a=b=c", '=', "a", "b=c", true},
		{"=a", '=', "", "a", true},
		{"a=", '=', "a", "", true},
		{"==", '=', "", "=", true},
		{"a\x00b", 0, "a", "b", true},
		{"\xc3\xa4", 0xa4, "\xc3", "", true},
		{"\xff\xc3", 0xc3, "\xff", "", true},
	} {
		before, after, found := ascii.Cut(c.in, c.sep)
		if before != c.before || after != c.after || found != c.found {
			t.Errorf("Cut(%q, %q) = %q, %q, %v, want %q, %q, %v", c.in, c.sep, before, after, found, c.before, c.after, c.found)
		}
	}
}

func TestLowerOfAllBytes(t *testing.T) {
	for i := range 256 {
		want := byte(i)
		if at := strings.IndexByte("ABCDEFGHIJKLMNOPQRSTUVWXYZ", want); at >= 0 {
			want = "abcdefghijklmnopqrstuvwxyz"[at]
		}
		if got := ascii.Lower(string([]byte{byte(i)})); got != string([]byte{want}) {
			t.Errorf("Lower of the byte %d = %q, want %q", i, got, []byte{want})
		}
	}
}

func TestLower(t *testing.T) {
	for _, c := range []struct{ in, want string }{
		{"", ""},
		{"already lower 1_", "already lower 1_"},
		{"ERROR in A.Go", "error in a.go"},
		{"\xc3\x84\xffZ", "\xc3\x84\xffz"},
		{"\xe2\x84\xaa", "\xe2\x84\xaa"},
	} {
		if got := ascii.Lower(c.in); got != c.want {
			t.Errorf("Lower(%q) = %q, want %q", c.in, got, c.want)
		}
	}
}

// P1.6

func TestRepairedStringsStay(t *testing.T) {
	for _, in := range []string{"", "a?b", "a\xc8b", "\xf0\x90\x80\xed\xa0\x80\xe2\x82\xac", "\xff\xfe\xc3\xa4\xe2\x82"} {
		once, _ := ascii.Repair([]byte(in))
		if twice, damaged := ascii.Repair([]byte(once)); twice != once || damaged != 0 {
			t.Errorf("Repair(%q) = %q, %d", once, twice, damaged)
		}
	}
}

func TestNumberOfDecimal(t *testing.T) {
	for power := 1; power <= 100000000000000000; power *= 10 {
		for _, n := range []int{power - 1, power, 7 * power, -power, 1 - 10*power, 10*power - 1} {
			if got, ok := ascii.Number(ascii.Decimal(n)); got != n || !ok {
				t.Errorf("Number(Decimal(%d)) = %d, %v", n, got, ok)
			}
		}
	}
	for _, n := range []int{1000000000000000000, -1000000000000000000, math.MaxInt64, math.MinInt64} {
		if got, ok := ascii.Number(ascii.Decimal(n)); got != 0 || ok {
			t.Errorf("Number(%q) = %d, %v, want 0, false", strconv.Itoa(n), got, ok)
		}
	}
}

func TestFieldsOfJoinedFields(t *testing.T) {
	for _, in := range []string{"", " \t", "a", "  a\t\tb c\n ", "\xff \xc3\xa4\t_"} {
		fields := ascii.Fields(in)
		if again := ascii.Fields(strings.Join(fields, " ")); !slices.Equal(again, fields) {
			t.Errorf("Fields of the joined Fields of %q = %q, want %q", in, again, fields)
		}
	}
}
