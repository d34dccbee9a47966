package event_test

import (
	"math/rand/v2"
	"slices"
	"testing"

	"logtide/api"
	"logtide/event"
)

// P12.6

func TestDecodeOfEncode(t *testing.T) {
	random := rand.New(rand.NewPCG(12, 20))
	for range 3000 {
		i := randomItem(random)
		b, err := event.Encode(i)
		if err != api.OK {
			t.Fatalf("Encode(%s) = %d", show(i), err)
		}
		wantDecode(t, "the bytes", b, i, len(b))
		wantDecode(t, "more bytes", append(slices.Clone(b), randomText(random, 100)...), i, len(b))
	}
}

// Items that follow each other are decoded one by one.
func TestDecodeOfSeveralItems(t *testing.T) {
	random := rand.New(rand.NewPCG(12, 21))
	var items []api.Item
	var b []byte
	for range 100 {
		i := randomItem(random)
		encoded, _ := event.Encode(i)
		items, b = append(items, i), append(b, encoded...)
	}
	for k, want := range items {
		i, size, err := event.Decode(b)
		if !event.Same(i, want) || err != api.OK {
			t.Fatalf("the item %d is %s, %d, want %s", k, show(i), err, show(want))
		}
		b = b[size:]
	}
	wantDecodeError(t, "the end", b, api.ErrShort)
}

func TestLessIsAStrictTotalOrder(t *testing.T) {
	random := rand.New(rand.NewPCG(12, 22))
	for range 200 {
		events := randomPlaces(random, 12)
		for _, a := range events {
			for _, b := range events {
				if same := a.From == b.From; event.Less(a, b) && event.Less(b, a) || same && event.Less(a, b) || !same && !event.Less(a, b) && !event.Less(b, a) {
					t.Fatalf("Less of %s and %s is %v and %v", show(a), show(b), event.Less(a, b), event.Less(b, a))
				}
				for _, c := range events {
					if event.Less(a, b) && event.Less(b, c) && !event.Less(a, c) {
						t.Fatalf("%s, %s and %s are not in order", show(a), show(b), show(c))
					}
				}
			}
		}
	}
}

func TestAfterWithAscendingMarks(t *testing.T) {
	random := rand.New(rand.NewPCG(12, 23))
	for range 2000 {
		i := randomItem(random)
		left, ok := i, true
		for mark := i.Event.From - 1; ok; mark += 1 + random.IntN(9) {
			if mark > i.Event.To+9 {
				t.Fatalf("something is left of %s", show(i))
			}
			before := left
			left, ok = event.After(before, mark)
			if direct, found := event.After(i, mark); !event.Same(direct, left) || found != ok {
				t.Fatalf("After(%s, %d) is %s at once, and %s after other marks", show(i), mark, show(direct), show(left))
			}
			if !ok {
				break
			}
			lines := before.Event.Lines
			if err := event.CheckItem(left); err != api.OK || len(left.Event.Lines) > len(lines) || !slices.Equal(left.Event.Lines, lines[len(lines)-len(left.Event.Lines):]) || left.Event.From < before.Event.From || left.Event.To != i.Event.To {
				t.Fatalf("After(%s, %d) = %s", show(before), mark, show(left))
			}
		}
	}
}
