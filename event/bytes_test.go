package event_test

import (
	"bytes"
	"encoding/binary"
	"math"
	"slices"
	"strings"
	"testing"

	"logtide/api"
	"logtide/event"
)

// P12.4

func zeros(count int) string { return strings.Repeat("\x00", count) }

func number(last string) string { return zeros(8-len(last)) + last }

func text(s string) string { return string(appendText(nil, s)) }

func TestBytesOfAnEvent(t *testing.T) {
	want := zeros(4) + // Rule
		number("\x03") + number("\x07") + number("\x0a") + number("\x14") +
		zeros(3) + "\x02" +
		number("\x0a") + number("\x04") + zeros(3) + "\x03abc" +
		number("\x0e") + number("\x06") + zeros(3) + "\x03x\ty" +
		number("\x03\xe8") + number("\x02") + zeros(3) + "\x01t" + zeros(3) + "\x04main" +
		zeros(3) + "\x02" +
		zeros(3) + "\x01a" + zeros(3) + "\x011" +
		zeros(3) + "\x01b" + zeros(4)
	i := api.Item{Event: example()}
	b, err := event.Encode(i)
	if err != api.OK || !bytes.Equal(b, sealed(want)) {
		t.Errorf("Encode = %q, %d, want %q", b, err, sealed(want))
	}
	wantDecode(t, "the example", sealed(want), i, len(want)+8)
}

func TestBytesOfASkip(t *testing.T) {
	want := zeros(3) + "\x05noise" +
		number("\x03") + number("\x07") + number("\x0a") + number("\x14") +
		zeros(3) + "\x02" +
		number("\x0a") + number("\x04") + zeros(4) +
		number("\x0e") + number("\x06") + zeros(4) +
		number("") + number("") + zeros(4) + zeros(4) + zeros(4)
	b, err := event.Encode(skipped())
	if err != api.OK || !bytes.Equal(b, sealed(want)) {
		t.Errorf("Encode = %q, %d, want %q", b, err, sealed(want))
	}
	wantDecode(t, "a skip", sealed(want), skipped(), len(want)+8)
}

func TestBytesOfGreatNumbersAndLengths(t *testing.T) {
	e := api.Event{Host: 999, File: 2147483646, From: 258, To: 60000, Lines: lines(258, 59742), Time: api.MaxTime, Weight: 5040}
	e.Lines[0].Text = x(api.MaxLine)
	b, err := event.Encode(api.Item{Event: e})
	want := zeros(4) + number("\x03\xe7") + number("\x7f\xff\xff\xfe") + number("\x01\x02") + number("\xea\x60") + "\x00\x00\x00\x01" + number("\x01\x02") + number("\xe9\x5e") + "\x00\x00\x07\xd0" + x(2000) + number("\xe6\x77\xd2\x1f\xdb\xff") + number("\x13\xb0") + zeros(12)
	if err != api.OK || !bytes.Equal(b, sealed(want)) {
		t.Errorf("Encode = %q, %d, want %q", b, err, sealed(want))
	}
	if number := binary.BigEndian.Uint32(b); int(number) != len(b)-4 || len(b) < 2000 {
		t.Errorf("the number of bytes is %d of %d", number, len(b))
	}
	e.To, e.Lines, e.Fields = 258+api.MaxLines, lines(258, slices.Repeat([]int{1}, api.MaxLines)...), numbered(api.MaxFields)
	for k := range e.Lines {
		e.Lines[k].Text = x(api.MaxLine)
	}
	for k := range e.Fields {
		e.Fields[k].Value = x(api.MaxLine)
	}
	most := api.Item{Event: e}
	b, err = event.Encode(most)
	if err != api.OK || !bytes.Equal(b, sealed(bodyByDefinition(most))) || len(b) < 144000 {
		t.Errorf("Encode of most bytes = %d bytes, %d", len(b), err)
	}
	wantDecode(t, "most bytes", b, most, len(b))
}

func TestEncodeOfWrongItems(t *testing.T) {
	for _, c := range []struct {
		make func(i *api.Item)
		err  api.Errno
	}{
		{func(i *api.Item) { i.Event.Host = -1 }, api.ErrRange}, {func(i *api.Item) { i.Event.Weight = 0 }, api.ErrWeight}, {func(i *api.Item) { i.Event.Lines = nil }, api.ErrMissing},
		{func(i *api.Item) { i.Event.Lines = make([]api.Line, 41) }, api.ErrTooMany}, {func(i *api.Item) { i.Event.Lines[1].Length++ }, api.ErrOrder}, {func(i *api.Item) { i.Event.Trace = x(33) }, api.ErrTooLong},
		{func(i *api.Item) { i.Event.Fields = numbered(33) }, api.ErrTooMany}, {func(i *api.Item) { i.Event.Fields[0].Name = "" }, api.ErrName}, {func(i *api.Item) { i.Event.Fields[0].Name = "b" }, api.ErrTwice},
		{func(i *api.Item) { i.Rule = "r" }, api.ErrOrder}, {func(i *api.Item) { i.Rule = x(33) }, api.ErrTooLong}, {func(i *api.Item) { *i = api.Item{} }, api.ErrRange}, {func(i *api.Item) { *i = api.Item{Rule: "r"} }, api.ErrRange},
	} {
		i := api.Item{Event: example()}
		c.make(&i)
		if b, err := event.Encode(i); len(b) > 0 || err != c.err {
			t.Errorf("Encode(%s) = %q, %d, want nothing, %d", show(i), b, err, c.err)
		}
		wantDecodeError(t, "a wrong item", sealed(bodyByDefinition(i)), api.ErrSyntax)
	}
}

func TestChecksum(t *testing.T) {
	for _, c := range []struct {
		bytes string
		want  int
	}{
		{"", 1}, {"\x00", 31}, {"\x01", 32}, {"a", 128}, {"\xff", 286}, {"ab", 128*31 + 98}, {"ba", 129*31 + 97}, {zeros(6), 31 * 31 * 31 * 31 * 31 * 31},
		{zeros(7), 27512614111 % 4294967291}, {"\xff\xff\xff\xff\xff\xff\xff", (27512614111 + 255*(1+31+961+29791+923521+28629151+887503681)) % 4294967291},
	} {
		if got := event.Checksum([]byte(c.bytes)); got != c.want || checksumByDefinition([]byte(c.bytes)) != int64(c.want) {
			t.Errorf("Checksum(%q) = %d, want %d", c.bytes, got, c.want)
		}
	}
	for size := range 300 {
		b := make([]byte, size)
		for k := range b {
			b[k] = byte(k*k + size)
		}
		if got, want := event.Checksum(b), checksumByDefinition(b); int64(got) != want || got < 0 || got >= 4294967291 {
			t.Errorf("Checksum(%q) = %d, want %d", b, got, want)
		}
	}
}

func TestDecodeOfShortBytes(t *testing.T) {
	for _, b := range []string{"", "\x00", "\x00\x00\x00", "\x00\x00\x00\x00", "\x00\x00\x00\x03", "\x00\x00\x00\x03\x00\x00\x00\x00", "\x00\x00\x00\x01" + zeros(100), "\x00\x00\x00\x00" + zeros(100), "\x00\x00\x00\x04", "\x00\x00\x00\x04\x00\x00\x00", "\x00\x00\x00\x05\x00\x00\x00\x00", "\x00\x00\x01\x00" + zeros(255), "\x80\x00\x00\x00" + zeros(100), "\xff\xff\xff\xff" + zeros(100), "\xff\xff\xff\xfc" + zeros(100), "\x00\x01\x00\x00" + zeros(65535)} {
		wantDecodeError(t, "short bytes", []byte(b), api.ErrShort)
	}
	for _, i := range []api.Item{{Event: example()}, skipped()} {
		b, _ := event.Encode(i)
		for size := range b {
			wantDecodeError(t, "the beginning", b[:size], api.ErrShort)
			// What is in the spare capacity does not count.
			wantDecodeError(t, "the beginning", b[:size:size], api.ErrShort)
		}
		// A number that is less than that of the bytes takes other bytes for the checksum.
		for size := range len(b) - 4 {
			c := slices.Concat(binary.BigEndian.AppendUint32(nil, uint32(size)), b[4:])
			if size < 4 {
				wantDecodeError(t, "a smaller number", c, api.ErrShort)
			} else {
				wantDecodeError(t, "a smaller number", c, api.ErrChecksum)
			}
		}
	}
}

func TestDecodeOfDamagedBytes(t *testing.T) {
	for _, i := range []api.Item{{Event: example()}, skipped()} {
		b, _ := event.Encode(i)
		for at := range b {
			for bit := range 8 {
				c := slices.Clone(b)
				c[at] ^= 1 << bit
				got, n, err := event.Decode(c)
				if !isZero(got) || n != 0 || at >= 4 && err != api.ErrChecksum || at < 4 && err != api.ErrShort && err != api.ErrChecksum {
					t.Errorf("Decode with the byte %d changed = %s, %d, %d", at, show(got), n, err)
				}
			}
		}
		wantDecode(t, "the bytes as they are", b, i, len(b))
		// The damage may be longer than the item.
		wantDecode(t, "other bytes after it", append(slices.Clone(b), "\xff\x00x"...), i, len(b))
		wantDecode(t, "another item after it", append(slices.Clone(b), b...), i, len(b))
	}
	for _, c := range []string{"\x00\x00\x00\x04\x00\x00\x00\x00", "\x00\x00\x00\x04\x00\x00\x00\x01", "\x00\x00\x00\x08" + zeros(8)} {
		wantDecodeError(t, "a wrong checksum", []byte(c), api.ErrChecksum)
	}
}

// A checksum that is the modulus more than the right one is wrong.
func TestDecodeOfAGreaterChecksum(t *testing.T) {
	for _, b := range [][]byte{sealed(""), sealed("a"), sealed(bodyByDefinition(skipped()))} {
		end := len(b) - 4
		for add := range uint32(20) {
			c := binary.BigEndian.AppendUint32(slices.Clone(b[:end]), binary.BigEndian.Uint32(b[end:])+add)
			if add > 0 {
				wantDecodeError(t, "a greater checksum", c, api.ErrChecksum)
			}
		}
	}
	for sum := range 5 {
		b := withChecksum([]byte{0, 0, 0, 11}, sum)
		wantDecodeError(t, "a small checksum", appendLength(slices.Clone(b), sum), api.ErrSyntax)
		wantDecodeError(t, "a checksum that comes around", appendLength(slices.Clone(b), sum+4294967291), api.ErrChecksum)
	}
}

// withChecksum appends 7 bytes to b, so that its checksum is sum: the digits to the base 31 of what is missing.
func withChecksum(b []byte, sum int) []byte {
	left := (sum - int(checksumByDefinition(append(slices.Clone(b), make([]byte, 7)...))) + 4294967291) % 4294967291
	for power := 887503681; power > 0; power /= 31 {
		b = append(b, byte(left/power))
		left %= power
	}
	return b
}

func TestDecodeOfBytesThatAreNoItem(t *testing.T) {
	right := body(t, api.Item{Event: example()})
	wantDecode(t, "a right body", sealed(right), api.Item{Event: example()}, len(right)+8)
	for size := range right {
		wantDecodeError(t, "the beginning of a body", sealed(right[:size]), api.ErrSyntax)
	}
	for _, more := range []string{"\x00", "x", zeros(4), zeros(100), right} {
		wantDecodeError(t, "more than a body", sealed(right+more), api.ErrSyntax)
		wantDecodeError(t, "more before a body", sealed(more+right), api.ErrSyntax)
	}
	for _, c := range []string{"", "\x00", zeros(4), "\x00\x00\x00\x05a", zeros(60), zeros(64), zeros(68), zeros(72), zeros(76), "\xff\xff\xff\xff", "\x7f\xff\xff\xff" + zeros(100), "\x80\x00\x00\x00" + zeros(100), string(bytes.Repeat([]byte{255}, 100))} {
		wantDecodeError(t, "no body", sealed(c), api.ErrSyntax)
	}
}

// partsOf returns the parts of a body: those of the example, with others in their places.
func partsOf(lineCount, fieldCount string) string {
	e := example()
	b := string(appendInts(nil, e.Host, e.File, e.From, e.To))
	s := text("") + b + lineCount
	for _, l := range e.Lines {
		s += string(appendInts(nil, l.Offset, l.Length)) + text(l.Text)
	}
	s += string(appendInts(nil, e.Time, e.Weight)) + text(e.Trace) + text(e.Stream) + fieldCount
	for _, f := range e.Fields {
		s += text(f.Name) + text(f.Value)
	}
	return s
}

func TestDecodeOfWrongLengths(t *testing.T) {
	two := "\x00\x00\x00\x02"
	wantDecode(t, "right lengths", sealed(partsOf(two, two)), api.Item{Event: example()}, len(partsOf(two, two))+8)
	for _, wrong := range []string{zeros(4), "\x00\x00\x00\x01", "\x00\x00\x00\x03", "\x00\x00\x01\x02", "\x00\x01\x00\x02", "\x01\x00\x00\x02", "\x7f\xff\xff\xff", "\x80\x00\x00\x02", "\xff\xff\xff\xff", "\xff\xff\xff\xfe"} {
		wantDecodeError(t, "another number of lines", sealed(partsOf(wrong, two)), api.ErrSyntax)
		wantDecodeError(t, "another number of fields", sealed(partsOf(two, wrong)), api.ErrSyntax)
	}
	// A great number of lines that are there.
	many := text("") + string(appendInts(nil, 3, 7, 10, 20)) + "\x00\x01\x00\x00" + zeros(65536*20) + zeros(28)
	wantDecodeError(t, "65536 lines", sealed(many), api.ErrSyntax)
}

func TestDecodeOfNegativeNumbers(t *testing.T) {
	for _, n := range []int{-1, math.MinInt, math.MaxInt, -5040, 1 << 32, 1<<32 + 3} {
		for _, part := range []func(e *api.Event) *int{func(e *api.Event) *int { return &e.Host }, func(e *api.Event) *int { return &e.File }, func(e *api.Event) *int { return &e.From }, func(e *api.Event) *int { return &e.To }, func(e *api.Event) *int { return &e.Time }, func(e *api.Event) *int { return &e.Weight }, func(e *api.Event) *int { return &e.Lines[0].Offset }, func(e *api.Event) *int { return &e.Lines[1].Length }} {
			i := api.Item{Event: example()}
			*part(&i.Event) = n
			if event.CheckItem(i) != api.OK {
				wantDecodeError(t, "a number", sealed(bodyByDefinition(i)), api.ErrSyntax)
			} else {
				wantDecode(t, "a number", sealed(bodyByDefinition(i)), i, len(bodyByDefinition(i))+8)
			}
		}
	}
}
