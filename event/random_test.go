package event_test

import (
	"bytes"
	"math"
	"math/rand/v2"
	"slices"
	"strconv"
	"testing"

	"logtide/api"
	"logtide/event"
)

// Seeded random arguments, compared with the definition.

func randomText(random *rand.Rand, most int) string {
	b := make([]byte, random.IntN(most+1))
	for k := range b {
		b[k] = pick(random, 'a', '\n', 0, 255, byte(random.IntN(256)))
	}
	return string(b)
}

// randomItem returns an item that is right.
func randomItem(random *rand.Rand) api.Item {
	from := random.IntN(api.MaxFile - 3000)
	e := api.Event{Host: pick(random, 0, 999, random.IntN(1000)), File: pick(random, 0, 2147483646, random.IntN(2147483647)), From: from}
	for range 1 + random.IntN(pick(random, 1, 4, api.MaxLines)) {
		length := 1 + random.IntN(50)
		e.Lines = append(e.Lines, api.Line{Offset: from, Length: length})
		from += length
	}
	e.To = from
	if random.IntN(3) == 0 {
		return api.Item{Rule: "r" + randomText(random, api.MaxName-1), Event: e}
	}
	for k := range e.Lines {
		e.Lines[k].Text = randomText(random, pick(random, 5, 50))
	}
	e.Time, e.Weight = random.IntN(api.MaxTime+1), pick(random, allWeights...)
	e.Trace, e.Stream = randomText(random, api.MaxName), randomText(random, api.MaxName)
	e.Fields = numbered(random.IntN(pick(random, 1, 4, api.MaxFields+1)))
	for k := range e.Fields {
		e.Fields[k].Value = randomText(random, 20)
	}
	return api.Item{Event: e}
}

// randomNumber returns a number that is likely to matter.
func randomNumber(random *rand.Rand, n int) int {
	return pick(random, 0, -1, 1, n-1, n+1, -n, math.MinInt, math.MaxInt, 999, 1000, api.MaxFile, api.MaxFile+1, api.MaxTime, api.MaxTime+1, 1<<31-2, 1<<31-1, 5040, random.IntN(5100))
}

// spoiled returns an item that differs from i in a part.
func spoiled(random *rand.Rand, i api.Item) api.Item {
	e := &i.Event
	e.Lines, e.Fields = slices.Clone(e.Lines), slices.Clone(e.Fields)
	switch random.IntN(14) {
	case 0:
		i.Rule = pick(random, "", "r", x(32), x(33))
	case 1, 2, 3:
		part := pick(random, &e.Host, &e.File, &e.From, &e.To, &e.Time, &e.Weight)
		*part = randomNumber(random, *part)
	case 4:
		e.Trace = pick(random, "", "t", x(32), x(33))
	case 5:
		e.Stream = pick(random, "", "t", x(32), x(33))
	case 6, 7, 8:
		if len(e.Lines) > 0 {
			l := &e.Lines[random.IntN(len(e.Lines))]
			part := pick(random, &l.Offset, &l.Length)
			*part = randomNumber(random, *part)
		}
	case 9:
		if len(e.Lines) > 0 {
			e.Lines[random.IntN(len(e.Lines))].Text = x(pick(random, 0, 1, 1999, 2000, 2001))
		}
	case 10:
		e.Lines = pick(random, nil, e.Lines[:len(e.Lines)/2], append(e.Lines, api.Line{Offset: e.To, Length: 1}), slices.Repeat(e.Lines, 2))
	case 11:
		e.Fields = pick(random, nil, numbered(random.IntN(35)), append(e.Fields, api.Field{Name: "a"}), append(e.Fields, api.Field{Name: "z"}))
	case 12, 13:
		if len(e.Fields) > 0 {
			f := &e.Fields[random.IntN(len(e.Fields))]
			f.Name, f.Value = pick(random, f.Name, "", "n1000", "n1001", "z", "b "), pick(random, f.Value, x(2000), x(2001))
		}
	}
	return i
}

func TestCheckAgainstTheDefinition(t *testing.T) {
	random := rand.New(rand.NewPCG(12, 1))
	counts := map[api.Errno]int{}
	for range 30000 {
		i := randomItem(random)
		for range random.IntN(4) {
			i = spoiled(random, i)
		}
		want := checkItemByDefinition(i)
		counts[want]++
		if got := event.CheckItem(i); got != want {
			t.Fatalf("CheckItem(%s) = %d, want %d", show(i), got, want)
		}
		if got, want := event.Check(i.Event), checkByDefinition(i.Event); got != want {
			t.Fatalf("Check(%s) = %d, want %d", show(i.Event), got, want)
		}
	}
	for _, err := range []api.Errno{api.OK, api.ErrRange, api.ErrWeight, api.ErrMissing, api.ErrTooMany, api.ErrOrder, api.ErrTooLong, api.ErrName, api.ErrTwice} {
		if counts[err] < 100 {
			t.Errorf("the error %d occurs %d times", err, counts[err])
		}
	}
}

func TestLessAgainstTheDefinition(t *testing.T) {
	random := rand.New(rand.NewPCG(12, 2))
	for range 30000 {
		var events [2]api.Event
		for k := range events {
			number := func() int { return pick(random, 0, 1, -1, math.MinInt, math.MaxInt) }
			events[k] = api.Event{Time: pick(random, 0, number()), Host: pick(random, 0, number()), File: pick(random, 0, number()), From: number(), To: number(), Weight: number()}
		}
		if got, want := event.Less(events[0], events[1]), lessByDefinition(events[0], events[1]); got != want {
			t.Fatalf("Less(%s, %s) = %v", show(events[0]), show(events[1]), got)
		}
	}
}

func TestAfterAgainstTheDefinition(t *testing.T) {
	random := rand.New(rand.NewPCG(12, 3))
	counts := map[bool]int{}
	for range 30000 {
		i := randomItem(random)
		for range pick(random, 0, 0, 1, 3) {
			i = spoiled(random, i)
		}
		mark := i.Event.From
		if len(i.Event.Lines) > 0 {
			mark = pick(random, i.Event.From, i.Event.To, i.Event.Lines[random.IntN(len(i.Event.Lines))].Offset)
		}
		mark += random.IntN(5) - 2
		got, ok := event.After(i, mark)
		want, wantOK := afterByDefinition(i, mark)
		if !sameByDefinition(got, want) || ok != wantOK {
			t.Fatalf("After(%s, %d) = %s, %v, want %s, %v", show(i), mark, show(got), ok, show(want), wantOK)
		}
		counts[ok]++
	}
	if counts[true] < 5000 || counts[false] < 5000 {
		t.Errorf("counts %v", counts)
	}
}

func TestEncodeAgainstTheDefinition(t *testing.T) {
	random := rand.New(rand.NewPCG(12, 4))
	for range 3000 {
		i := randomItem(random)
		if random.IntN(3) == 0 {
			i = spoiled(random, i)
		}
		var want []byte
		wantErr := checkItemByDefinition(i)
		if wantErr == api.OK {
			want = sealed(bodyByDefinition(i))
		}
		if b, err := event.Encode(i); !bytes.Equal(b, want) || err != wantErr {
			t.Fatalf("Encode(%s) = %s, %d, want %s, %d", show(i), show(b), err, show(want), wantErr)
		}
	}
}

// damaged returns bytes that differ from b in a byte, that are missing, or that are added.
func damaged(random *rand.Rand, b []byte) []byte {
	c := slices.Clone(b)
	for range pick(random, 0, 1, 1, 2) {
		at := random.IntN(len(c) + 1)
		switch random.IntN(4) {
		case 0:
			c = slices.Insert(c, at, pick(random, 0, 1, 255, byte(random.IntN(256))))
		case 1:
			c = slices.Delete(c, at, min(at+pick(random, 1, 4, 8), len(c)))
		case 2, 3:
			if at < len(c) {
				c[at] = pick(random, 0, c[at]+1, c[at]-1, byte(random.IntN(256)))
			}
		}
	}
	return c
}

func TestDecodeAgainstTheDefinition(t *testing.T) {
	random := rand.New(rand.NewPCG(12, 5))
	counts := map[api.Errno]int{}
	for range 12000 {
		i := randomItem(random)
		if random.IntN(4) == 0 {
			i = spoiled(random, i)
		}
		b := sealed(bodyByDefinition(i))
		if random.IntN(2) == 0 {
			b = sealed(string(damaged(random, []byte(bodyByDefinition(i)))))
		}
		if random.IntN(3) == 0 {
			b = damaged(random, b)
		}
		want, wantSize, wantErr := decodeByDefinition(b)
		got, size, err := event.Decode(b)
		if !sameByDefinition(got, want) || size != wantSize || err != wantErr {
			t.Fatalf("Decode(%q) = %s, %d, %d, want %s, %d, %d", b, show(got), size, err, show(want), wantSize, wantErr)
		}
		counts[err]++
	}
	for _, err := range []api.Errno{api.OK, api.ErrShort, api.ErrChecksum, api.ErrSyntax} {
		if counts[err] < 500 {
			t.Errorf("the error %d occurs %d times", err, counts[err])
		}
	}
}

// All bodies with small numbers and strings of up to one byte, of which most are wrong.
func TestDecodeOfSmallBodies(t *testing.T) {
	right := 0
	for n := range 1 << 14 {
		bit := func(k int) int { return n >> k & 1 }
		i := api.Item{Rule: x(bit(0)), Event: api.Event{Host: bit(1) * 999, File: -bit(2), From: bit(3), To: 1 + bit(4), Time: bit(5) * 5, Weight: bit(6), Trace: x(bit(7)), Stream: x(bit(8)), Fields: numbered(bit(9))}}
		if bit(10) == 1 {
			i.Event.Lines = append(i.Event.Lines, api.Line{Offset: bit(3), Length: 1 + bit(4) - bit(3), Text: x(bit(11))})
		}
		if bit(12) == 1 {
			i.Event.Lines = append(i.Event.Lines, api.Line{Offset: 1, Length: 1 + bit(13)})
		}
		want := api.ErrSyntax
		if checkItemByDefinition(i) == api.OK {
			want = api.OK
			right++
		}
		b := sealed(bodyByDefinition(i))
		if got, size, err := event.Decode(b); err != want || want == api.OK && (!sameByDefinition(got, i) || size != len(b)) || want != api.OK && (!isZero(got) || size != 0) {
			t.Fatalf("Decode of %s = %s, %d, %d", show(i), show(got), size, err)
		}
	}
	if right < 100 {
		t.Errorf("%d bodies are right", right)
	}
}

func TestSameAgainstTheDefinition(t *testing.T) {
	random := rand.New(rand.NewPCG(12, 6))
	counts := map[bool]int{}
	for range 10000 {
		a := randomItem(random)
		b := spoiled(random, a)
		want := sameByDefinition(a, b)
		if event.Same(a, b) != want || event.Same(b, a) != want {
			t.Fatalf("Same(%s, %s) is not %v", show(a), show(b), want)
		}
		counts[want]++
	}
	if counts[true] < 500 || counts[false] < 5000 {
		t.Errorf("counts %v", counts)
	}
}

// Arguments with their spare capacity are not modified, and results are new memory.
func TestArgumentsAreNotModified(t *testing.T) {
	random := rand.New(rand.NewPCG(12, 7))
	for n := range 3000 {
		i := randomItem(random)
		if n%3 == 0 {
			i = spoiled(random, i)
		}
		i.Event.Lines = roomy(i.Event.Lines, api.Line{Offset: -7, Text: "spare"})
		i.Event.Fields = roomy(i.Event.Fields, api.Field{Name: "spare"})
		lines, fields := whole(i.Event.Lines), whole(i.Event.Fields)
		b, _ := event.Encode(i)
		b = roomy(b, 77)
		before := whole(b)
		decoded, _, _ := event.Decode(b)
		part, _ := event.After(i, i.Event.From+random.IntN(50)-10)
		event.Check(i.Event)
		event.CheckItem(i)
		event.Less(i.Event, part.Event)
		event.Same(i, part)
		event.Text(i.Event)
		event.Get(i.Event, "n1000")
		for _, result := range []api.Item{decoded, part} {
			overwrite(result)
		}
		if !slices.Equal(whole(i.Event.Lines), lines) || !slices.Equal(whole(i.Event.Fields), fields) || !bytes.Equal(whole(b), before) {
			t.Fatalf("%s was modified", show(i))
		}
	}
}

// overwrite writes into all memory of an item.
func overwrite(i api.Item) {
	for k := range whole(i.Event.Lines) {
		i.Event.Lines[:cap(i.Event.Lines)][k] = api.Line{Offset: -1}
	}
	for k := range whole(i.Event.Fields) {
		i.Event.Fields[:cap(i.Event.Fields)][k] = api.Field{Name: "-"}
	}
}

// randomPlaces returns events with different places.
func randomPlaces(random *rand.Rand, count int) []api.Event {
	var events []api.Event
	for n := range count {
		events = append(events, api.Event{Time: random.IntN(3), Host: random.IntN(2), File: random.IntN(2), From: n, Trace: strconv.Itoa(n)})
	}
	random.Shuffle(len(events), func(a, b int) { events[a].From, events[b].From = events[b].From, events[a].From })
	return events
}
