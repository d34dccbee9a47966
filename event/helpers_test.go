package event_test

import (
	"encoding/binary"
	"fmt"
	"math/rand/v2"
	"slices"
	"strconv"
	"strings"
	"testing"

	"logtide/api"
	"logtide/event"
)

// example returns an event with two lines and two fields.
func example() api.Event {
	return api.Event{
		Host: 3, File: 7, From: 10, To: 20,
		Lines: []api.Line{{Offset: 10, Length: 4, Text: "abc"}, {Offset: 14, Length: 6, Text: "x\ty"}},
		Time:  1000, Weight: 2, Trace: "t", Stream: "main",
		Fields: []api.Field{{Name: "a", Value: "1"}, {Name: "b"}},
	}
}

// skipped returns an item with two lines that a rule dropped.
func skipped() api.Item {
	return api.Item{Rule: "noise", Event: api.Event{Host: 3, File: 7, From: 10, To: 20, Lines: []api.Line{{Offset: 10, Length: 4}, {Offset: 14, Length: 6}}}}
}

// lines returns lines of these lengths, one after the other, without texts.
func lines(from int, lengths ...int) []api.Line {
	var l []api.Line
	for _, length := range lengths {
		l = append(l, api.Line{Offset: from, Length: length})
		from += length
	}
	return l
}

// numbered returns so many fields in ascending order.
func numbered(count int) []api.Field {
	var l []api.Field
	for k := range count {
		l = append(l, api.Field{Name: "n" + strconv.Itoa(1000+k), Value: strconv.Itoa(k)})
	}
	return l
}

// x returns so many bytes.
func x(count int) string { return strings.Repeat("x", count) }

// roomy returns a copy of l with spare capacity, which is filled with x.
func roomy[T any](l []T, x T) []T {
	return append(append(make([]T, 0, len(l)+3), l...), x, x, x)[:len(l)]
}

// whole returns a copy of l with what is in its spare capacity.
func whole[T any](l []T) []T { return slices.Clone(l[:cap(l)]) }

// pick returns one of the values.
func pick[T any](random *rand.Rand, values ...T) T { return values[random.IntN(len(values))] }

// sealed returns the bytes of an item with this body: with their number and a right checksum.
func sealed(body string) []byte {
	b := binary.BigEndian.AppendUint32(nil, uint32(len(body)+4))
	b = append(b, body...)
	return binary.BigEndian.AppendUint32(b, uint32(checksumByDefinition(b)))
}

// body returns the bytes of an item without their number and their checksum.
func body(t *testing.T, i api.Item) string {
	t.Helper()
	b, err := event.Encode(i)
	if err != api.OK || len(b) < 8 {
		t.Fatalf("Encode(%s) = %s, %d", show(i), show(b), err)
	}
	return string(b[4 : len(b)-4])
}

// show returns a value for messages, or the beginning of it.
func show(v any) string {
	s := fmt.Sprintf("%+v", v)
	return s[:min(len(s), 300)]
}

// isZero reports whether there is nothing in an item.
func isZero(i api.Item) bool { return sameByDefinition(i, api.Item{}) }

func wantCheck(t *testing.T, what string, e api.Event, want api.Errno) {
	t.Helper()
	if err := event.Check(e); err != want {
		t.Errorf("%s: Check(%s) = %d, want %d", what, show(e), err, want)
	}
	wantCheckItem(t, what, api.Item{Event: e}, want)
}

func wantCheckItem(t *testing.T, what string, i api.Item, want api.Errno) {
	t.Helper()
	if err := event.CheckItem(i); err != want {
		t.Errorf("%s: CheckItem(%s) = %d, want %d", what, show(i), err, want)
	}
}

func wantDecode(t *testing.T, what string, b []byte, want api.Item, size int) {
	t.Helper()
	if i, n, err := event.Decode(b); !event.Same(i, want) || n != size || err != api.OK {
		t.Errorf("%s: Decode(%s) = %s, %d, %d, want %s, %d", what, show(b), show(i), n, err, show(want), size)
	}
}

func wantDecodeError(t *testing.T, what string, b []byte, want api.Errno) {
	t.Helper()
	if i, n, err := event.Decode(b); !isZero(i) || n != 0 || err != want {
		t.Errorf("%s: Decode(%s) = %s, %d, %d, want nothing, %d", what, show(b), show(i), n, err, want)
	}
}
