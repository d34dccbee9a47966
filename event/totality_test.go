package event_test

import (
	"math"
	"math/rand/v2"
	"slices"
	"testing"

	"logtide/api"
	"logtide/event"
)

// R1: the functions return for all arguments, and R4: with an error nothing else.

func TestFunctionsReturnForAllArguments(t *testing.T) {
	random := rand.New(rand.NewPCG(12, 30))
	number := func() int {
		return pick(random, 0, 1, -1, math.MinInt, math.MaxInt, random.IntN(100), random.Int())
	}
	for range 20000 {
		i := api.Item{Rule: randomText(random, 3), Event: api.Event{Host: number(), File: number(), From: number(), To: number(), Time: number(), Weight: number(), Trace: randomText(random, 3), Stream: randomText(random, 40)}}
		for range random.IntN(4) {
			i.Event.Lines = append(i.Event.Lines, api.Line{Offset: number(), Length: number(), Text: randomText(random, 3)})
			i.Event.Fields = append(i.Event.Fields, api.Field{Name: randomText(random, 3), Value: randomText(random, 3)})
		}
		if b, err := event.Encode(i); err != event.CheckItem(i) || err != api.OK && len(b) > 0 || err == api.OK && len(b) < 100 {
			t.Fatalf("Encode(%s) = %q, %d", show(i), b, err)
		}
		if part, ok := event.After(i, number()); !ok && !isZero(part) {
			t.Fatalf("After(%s) = %s, %v", show(i), show(part), ok)
		}
		if !event.Same(i, i) || event.Less(i.Event, i.Event) {
			t.Fatalf("%s is not itself", show(i))
		}
		event.Check(i.Event)
		event.Text(i.Event)
		event.Get(i.Event, i.Rule)
	}
}

func TestDecodeReturnsForAllBytes(t *testing.T) {
	random := rand.New(rand.NewPCG(12, 31))
	for range 50000 {
		body := []byte(randomText(random, 60))
		for k := range body {
			body[k] = pick(random, 0, 0, 0, 1, body[k])
		}
		b := pick(random, body, sealed(string(body)), slices.Concat(lengthOf(body), body))
		if i, size, err := event.Decode(b); !isZero(i) || size != 0 || err == api.OK {
			t.Fatalf("Decode(%q) = %s, %d, %d", b, show(i), size, err)
		}
	}
}

// lengthOf returns the number of the bytes.
func lengthOf(b []byte) []byte { return appendLength(nil, len(b)) }

// The results of calls do not depend on earlier ones, nor on what was done with their results.
func TestCallsAreIndependent(t *testing.T) {
	want := api.Item{Event: example()}
	b, _ := event.Encode(want)
	first := slices.Clone(b)
	for range 3 {
		i, size, err := event.Decode(first)
		if !event.Same(i, want) || size != len(first) || err != api.OK {
			t.Fatalf("Decode = %s, %d, %d", show(i), size, err)
		}
		overwrite(i)
		again, _ := event.Encode(want)
		if !slices.Equal(again, first) {
			t.Fatalf("Encode = %q, want %q", again, first)
		}
		for k := range again[:cap(again)] {
			again[:cap(again)][k] = 1
		}
		event.Decode([]byte("\x00\x00\x00\x01"))
	}
}
