package event_test

import (
	"math"
	"slices"
	"testing"

	"logtide/api"
	"logtide/event"
)

// P12.2

func place(time, host, file, from int) api.Event {
	return api.Event{Time: time, Host: host, File: file, From: from}
}

func TestLess(t *testing.T) {
	ascending := []api.Event{
		place(math.MinInt, math.MaxInt, math.MaxInt, math.MaxInt),
		place(-1, 5, 5, 5), place(0, -1, 5, 5), place(0, 0, -1, 5), place(0, 0, 0, -1), place(0, 0, 0, 0), place(0, 0, 0, 1), place(0, 0, 0, 10), place(0, 0, 1, 0), place(0, 0, 10, 0),
		place(0, 1, 0, 0), place(0, 2, 0, 0), place(0, 10, 0, 0), place(1, 0, 0, 0), place(9, 9, 9, 9), place(10, 0, 0, 0),
		place(math.MaxInt, math.MinInt, math.MinInt, math.MinInt), place(math.MaxInt, math.MaxInt, math.MaxInt, math.MinInt), place(math.MaxInt, math.MaxInt, math.MaxInt, math.MaxInt),
	}
	for k, a := range ascending {
		for n, b := range ascending {
			if got := event.Less(a, b); got != (k < n) {
				t.Errorf("Less(%v, %v) = %v", a, b, got)
			}
		}
	}
}

// What is not Time, Host, File or From does not matter.
func TestLessOfEqualPlaces(t *testing.T) {
	for _, c := range []func(e *api.Event){
		func(e *api.Event) { e.To++ }, func(e *api.Event) { e.Lines = nil }, func(e *api.Event) { e.Lines[0].Text = "" }, func(e *api.Event) { e.Weight++ },
		func(e *api.Event) { e.Trace = "" }, func(e *api.Event) { e.Stream = "z" }, func(e *api.Event) { e.Fields = nil },
	} {
		a, b := example(), example()
		c(&b)
		if event.Less(a, b) || event.Less(b, a) {
			t.Errorf("%s and %s are not equal in order", show(a), show(b))
		}
	}
}

// P12.3

func wantAfter(t *testing.T, i api.Item, mark int, want api.Item) {
	t.Helper()
	if part, ok := event.After(i, mark); !event.Same(part, want) || !ok {
		t.Errorf("After(%s, %d) = %s, %v, want %s", show(i), mark, show(part), ok, show(want))
	}
}

func wantNothingAfter(t *testing.T, i api.Item, mark int) {
	t.Helper()
	if part, ok := event.After(i, mark); !isZero(part) || ok {
		t.Errorf("After(%s, %d) = %s, %v, want nothing", show(i), mark, show(part), ok)
	}
}

func TestAfter(t *testing.T) {
	e := example()
	e.Lines = []api.Line{{Offset: 10, Length: 4, Text: "a"}, {Offset: 14, Length: 1, Text: "b"}, {Offset: 15, Length: 5, Text: "c"}}
	skip := api.Item{Rule: "r", Event: api.Event{Host: 3, File: 7, From: 10, To: 20, Lines: lines(10, 4, 1, 5)}}
	for _, i := range []api.Item{{Event: e}, skip} {
		for mark, left := range map[int]int{math.MinInt: 0, -1: 0, 0: 0, 9: 0, 10: 0, 11: 1, 13: 1, 14: 1, 15: 2} {
			want := i
			want.Event.Lines = i.Event.Lines[left:]
			want.Event.From = want.Event.Lines[0].Offset
			wantAfter(t, i, mark, want)
		}
		for _, mark := range []int{16, 17, 19, 20, 21, 1 << 40, math.MaxInt} {
			wantNothingAfter(t, i, mark)
		}
	}
}

func TestAfterOfTheExample(t *testing.T) {
	i := api.Item{Event: api.Event{To: 9, Lines: []api.Line{{Length: 5, Text: "a"}, {Offset: 5, Length: 4, Text: "b"}}}}
	wantAfter(t, i, 3, api.Item{Event: api.Event{From: 5, To: 9, Lines: []api.Line{{Offset: 5, Length: 4, Text: "b"}}}})
}

// After does not check the item.
func TestAfterOfWrongItems(t *testing.T) {
	wantAfter(t, api.Item{}, 0, api.Item{})
	wantAfter(t, api.Item{}, math.MinInt, api.Item{})
	wantNothingAfter(t, api.Item{}, 1)
	none := api.Item{Rule: "r", Event: api.Event{From: 5, To: 10, Time: 7}}
	wantAfter(t, none, 5, none)
	wantNothingAfter(t, none, 6)
	backward := api.Item{Event: api.Event{From: 9, To: 3, Lines: lines(9, 1)}}
	wantAfter(t, backward, 5, backward)
	wantAfter(t, backward, 9, backward)
	wantNothingAfter(t, backward, 10)
	mixed := api.Item{Event: api.Event{From: 1, To: 30, Lines: []api.Line{{Offset: 20}, {Offset: 3}, {Offset: 5, Text: "x"}, {Offset: 4}, {Offset: 40}}}}
	wantAfter(t, mixed, 5, api.Item{Event: api.Event{From: 20, To: 30, Lines: []api.Line{{Offset: 20}, {Offset: 5, Text: "x"}, {Offset: 40}}}})
	wantAfter(t, mixed, 29, api.Item{Event: api.Event{From: 40, To: 30, Lines: []api.Line{{Offset: 40}}}})
	wantNothingAfter(t, mixed, 30)
	early := api.Item{Event: api.Event{From: 10, To: 30, Lines: lines(0, 5, 5)}}
	wantAfter(t, early, 10, early)
	wantNothingAfter(t, early, 11)
}

func TestAfterKeepsTheRest(t *testing.T) {
	i := api.Item{Event: example()}
	for _, mark := range []int{10, 12} {
		part, ok := event.After(i, mark)
		e := part.Event
		if !ok || e.Host != 3 || e.File != 7 || e.To != 20 || e.Time != 1000 || e.Weight != 2 || e.Trace != "t" || e.Stream != "main" || !slices.Equal(e.Fields, i.Event.Fields) || part.Rule != "" {
			t.Errorf("After(%d) = %s, %v", mark, show(part), ok)
		}
	}
	if part, ok := event.After(skipped(), 12); !ok || part.Rule != "noise" {
		t.Errorf("After of a skip = %s, %v", show(part), ok)
	}
}
