package event_test

import (
	"slices"
	"testing"

	"logtide/api"
	"logtide/event"
)

// P12.5

func wantSame(t *testing.T, a, b api.Item, want bool) {
	t.Helper()
	if event.Same(a, b) != want || event.Same(b, a) != want {
		t.Errorf("Same(%s, %s) is not %v", show(a), show(b), want)
	}
}

func TestSame(t *testing.T) {
	wantSame(t, api.Item{}, api.Item{}, true)
	wantSame(t, api.Item{Event: example()}, api.Item{Event: example()}, true)
	wantSame(t, skipped(), skipped(), true)
	wantSame(t, skipped(), api.Item{}, false)
	wantSame(t, api.Item{Event: example()}, skipped(), false)
	none := api.Item{Event: api.Event{Lines: []api.Line{}, Fields: []api.Field{}}}
	wantSame(t, none, api.Item{}, true)
	wantSame(t, api.Item{Event: api.Event{Lines: make([]api.Line, 1)}}, api.Item{}, false)
	wantSame(t, api.Item{Event: api.Event{Fields: make([]api.Field, 1)}}, api.Item{}, false)
}

func TestSameOfItemsThatDifferInAPart(t *testing.T) {
	for k, c := range []func(i *api.Item){
		func(i *api.Item) { i.Rule = "x" }, func(i *api.Item) { i.Event.Host++ }, func(i *api.Item) { i.Event.File-- }, func(i *api.Item) { i.Event.From++ }, func(i *api.Item) { i.Event.To = -i.Event.To }, func(i *api.Item) { i.Event.Time += 1 << 32 }, func(i *api.Item) { i.Event.Weight = 1 }, func(i *api.Item) { i.Event.Trace += "t" }, func(i *api.Item) { i.Event.Stream = "" },
		func(i *api.Item) { i.Event.Trace, i.Event.Stream = i.Event.Stream, i.Event.Trace },
		func(i *api.Item) { i.Event.Lines = nil }, func(i *api.Item) { i.Event.Lines = i.Event.Lines[:1] }, func(i *api.Item) { i.Event.Lines = append(i.Event.Lines, api.Line{}) }, func(i *api.Item) { slices.Reverse(i.Event.Lines) },
		func(i *api.Item) { i.Event.Lines[0].Offset++ }, func(i *api.Item) { i.Event.Lines[1].Offset++ }, func(i *api.Item) { i.Event.Lines[0].Length++ }, func(i *api.Item) { i.Event.Lines[1].Length++ }, func(i *api.Item) { i.Event.Lines[0].Text = "abd" }, func(i *api.Item) { i.Event.Lines[1].Text = "" },
		func(i *api.Item) { i.Event.Fields = nil }, func(i *api.Item) { i.Event.Fields = i.Event.Fields[1:] }, func(i *api.Item) { i.Event.Fields = append(i.Event.Fields, api.Field{}) }, func(i *api.Item) { slices.Reverse(i.Event.Fields) },
		func(i *api.Item) { i.Event.Fields[0].Name = "A" }, func(i *api.Item) { i.Event.Fields[0].Value = "" }, func(i *api.Item) { i.Event.Fields[1].Value = "b" },
	} {
		changed := api.Item{Event: example()}
		c(&changed)
		t.Logf("change %d", k)
		wantSame(t, api.Item{Event: example()}, changed, false)
	}
}

func TestText(t *testing.T) {
	for _, c := range []struct {
		texts []string
		want  string
	}{
		{nil, ""}, {[]string{""}, ""}, {[]string{"a"}, "a"}, {[]string{"a", "b"}, "a\nb"}, {[]string{"", ""}, "\n"}, {[]string{"a", "", "b c"}, "a\n\nb c"}, {[]string{"a\n", "\n"}, "a\n\n\n"}, {[]string{"", "a", ""}, "\na\n"}, {[]string{"\xff\x00", "é"}, "\xff\x00\né"},
	} {
		var e api.Event
		for k, s := range c.texts {
			e.Lines = append(e.Lines, api.Line{Offset: 100 - k, Length: -k, Text: s})
		}
		if got := event.Text(e); got != c.want {
			t.Errorf("Text of %q = %q, want %q", c.texts, got, c.want)
		}
	}
	if got := event.Text(example()); got != "abc\nx\ty" {
		t.Errorf("Text of the example = %q", got)
	}
	if got := event.Text(api.Event{Trace: "t", Lines: []api.Line{}}); got != "" {
		t.Errorf("Text of no lines = %q", got)
	}
}

func TestGet(t *testing.T) {
	e := api.Event{Trace: "t", Fields: []api.Field{{Name: "b", Value: "1"}, {Name: "a", Value: "2"}, {Name: "b", Value: "3"}, {Name: "", Value: "4"}, {Name: "empty"}}}
	for name, want := range map[string]string{"b": "1", "a": "2", "": "4", "empty": ""} {
		if value, ok := event.Get(e, name); value != want || !ok {
			t.Errorf("Get(%q) = %q, %v, want %q", name, value, ok, want)
		}
	}
	for _, name := range []string{"c", "A", "a ", "Trace", "bb"} {
		if value, ok := event.Get(e, name); value != "" || ok {
			t.Errorf("Get(%q) = %q, %v, want nothing", name, value, ok)
		}
	}
	if value, ok := event.Get(api.Event{}, ""); value != "" || ok {
		t.Errorf("Get of no fields = %q, %v", value, ok)
	}
}
