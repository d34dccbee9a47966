package event_test

import (
	"math"
	"slices"
	"testing"

	"logtide/api"
)

// P12.1

// A change makes an event wrong, or leaves it right.
type change struct {
	what string
	make func(e *api.Event)
	err  api.Errno
}

func TestEventsThatAreRight(t *testing.T) {
	for _, c := range []change{
		{"as it is", func(e *api.Event) {}, api.OK},
		{"least numbers", func(e *api.Event) {
			*e = api.Event{To: 1, Weight: 1, Lines: lines(0, 1)}
		}, api.OK},
		{"greatest numbers", func(e *api.Event) {
			*e = api.Event{Host: 999, File: 2147483646, From: 59999, To: 60000, Time: 253402300799999, Weight: 5040, Lines: lines(59999, 1)}
		}, api.OK},
		{"a line that is a file", func(e *api.Event) { e.From, e.To, e.Lines = 0, api.MaxFile, lines(0, api.MaxFile) }, api.OK},
		{"no length of a line but the whole", func(e *api.Event) { e.To, e.Lines = 10+api.MaxLine+5, lines(10, api.MaxLine+5) }, api.OK},
		{"the most lines", func(e *api.Event) {
			e.To, e.Lines = 10+api.MaxLines, lines(10, slices.Repeat([]int{1}, api.MaxLines)...)
		}, api.OK},
		{"a text that is longer than its line", func(e *api.Event) { e.Lines[0].Text = x(api.MaxLine) }, api.OK},
		{"longest texts", func(e *api.Event) { e.Lines[0].Text, e.Lines[1].Text = x(api.MaxLine), x(api.MaxLine) }, api.OK},
		{"bytes of a text", func(e *api.Event) { e.Lines[0].Text = "\x00\n\r\xff" }, api.OK},
		{"longest trace and stream", func(e *api.Event) { e.Trace, e.Stream = x(api.MaxName), x(api.MaxName) }, api.OK},
		{"bytes of trace and stream", func(e *api.Event) { e.Trace, e.Stream = "\x00\n", " \xff" }, api.OK},
		{"no texts", func(e *api.Event) { e.Lines[0].Text, e.Lines[1].Text, e.Trace, e.Stream = "", "", "", "" }, api.OK},
		{"no fields", func(e *api.Event) { e.Fields = nil }, api.OK},
		{"an empty list of fields", func(e *api.Event) { e.Fields = []api.Field{} }, api.OK},
		{"the most fields", func(e *api.Event) { e.Fields = numbered(api.MaxFields) }, api.OK},
		{"longest values", func(e *api.Event) {
			e.Fields = []api.Field{{Name: x(api.MaxName), Value: x(api.MaxLine)}, {Name: "y", Value: x(api.MaxLine)}}
		}, api.OK},
	} {
		e := example()
		c.make(&e)
		wantCheck(t, c.what, e, c.err)
	}
}

func TestNumbersOutOfRange(t *testing.T) {
	for _, c := range []struct {
		what        string
		part        func(e *api.Event) *int
		least, most int
	}{
		{"Host", func(e *api.Event) *int { return &e.Host }, 0, 999},
		{"File", func(e *api.Event) *int { return &e.File }, 0, 2147483646},
		{"Time", func(e *api.Event) *int { return &e.Time }, 0, api.MaxTime},
	} {
		for _, n := range []int{c.least, c.least + 1, c.most / 2, c.most - 1, c.most} {
			e := example()
			*c.part(&e) = n
			wantCheck(t, c.what, e, api.OK)
		}
		for _, n := range []int{math.MinInt, -c.most, c.least - 2, c.least - 1, c.most + 1, c.most + 2, math.MaxInt} {
			e := example()
			*c.part(&e) = n
			wantCheck(t, c.what, e, api.ErrRange)
		}
	}
	for _, span := range [][2]int{{-1, 20}, {math.MinInt, 20}, {math.MinInt, math.MaxInt}, {-1, -1}, {10, 10}, {10, 9}, {10, 0}, {0, 0}, {10, -1}, {10, math.MinInt}, {10, api.MaxFile + 1}, {10, math.MaxInt}, {api.MaxFile, api.MaxFile}, {api.MaxFile, api.MaxFile + 1}, {math.MaxInt, math.MaxInt}, {math.MaxInt, math.MinInt}} {
		e := example()
		e.From, e.To = span[0], span[1]
		wantCheck(t, "the range", e, api.ErrRange)
		e.Lines = []api.Line{{Offset: span[0], Length: span[1] - span[0]}}
		wantCheck(t, "the range of a line", e, api.ErrRange)
		skip := skipped()
		skip.Event.From, skip.Event.To = span[0], span[1]
		wantCheckItem(t, "the range", skip, api.ErrRange)
		skip.Event.Lines = []api.Line{{Offset: span[0], Length: span[1] - span[0]}}
		wantCheckItem(t, "the range of a line", skip, api.ErrRange)
	}
}

func TestWeights(t *testing.T) {
	count := 0
	for n := -5100; n <= 10100; n++ {
		e := example()
		e.Weight = n
		if n > 0 && slices.Contains(allWeights, n) {
			wantCheck(t, "a divisor", e, api.OK)
			count++
		} else {
			wantCheck(t, "no divisor", e, api.ErrWeight)
		}
	}
	if count != 60 {
		t.Errorf("there are %d weights, want 60", count)
	}
	for _, n := range []int{math.MinInt, math.MaxInt, 1 << 32, -5040} {
		e := example()
		e.Weight = n
		wantCheck(t, "no divisor", e, api.ErrWeight)
	}
}

func TestLinesOutOfOrder(t *testing.T) {
	for _, c := range []change{
		{"no lines", func(e *api.Event) { e.Lines = nil }, api.ErrMissing},
		{"an empty list of lines", func(e *api.Event) { e.Lines = []api.Line{} }, api.ErrMissing},
		{"one line too many", func(e *api.Event) {
			e.To, e.Lines = 11+api.MaxLines, lines(10, slices.Repeat([]int{1}, api.MaxLines+1)...)
		}, api.ErrTooMany},
		{"many wrong lines", func(e *api.Event) { e.Lines = make([]api.Line, 1000) }, api.ErrTooMany},
		{"the most wrong lines", func(e *api.Event) { e.Lines = make([]api.Line, api.MaxLines) }, api.ErrOrder},
		{"the first line begins before From", func(e *api.Event) { e.Lines[0].Offset, e.Lines[0].Length = 9, 5 }, api.ErrOrder},
		{"the first line begins after From", func(e *api.Event) { e.Lines[0].Offset, e.Lines[0].Length = 11, 3 }, api.ErrOrder},
		{"a gap", func(e *api.Event) { e.Lines[1].Offset, e.Lines[1].Length = 15, 5 }, api.ErrOrder},
		{"an overlap", func(e *api.Event) { e.Lines[1].Offset, e.Lines[1].Length = 13, 7 }, api.ErrOrder},
		{"lines that are exchanged", func(e *api.Event) { slices.Reverse(e.Lines) }, api.ErrOrder},
		{"an empty line at the beginning", func(e *api.Event) { e.Lines = lines(10, 0, 10) }, api.ErrOrder},
		{"an empty line in between", func(e *api.Event) { e.Lines = lines(10, 4, 0, 6) }, api.ErrOrder},
		{"an empty line at the end", func(e *api.Event) { e.Lines = lines(10, 4, 6, 0) }, api.ErrOrder},
		{"a negative length", func(e *api.Event) { e.Lines = lines(10, 5, -1, 6) }, api.ErrOrder},
		{"a negative length at the beginning", func(e *api.Event) { e.Lines = lines(10, -1, 11) }, api.ErrOrder},
		{"a length that is very negative", func(e *api.Event) { e.Lines = []api.Line{{Offset: 10, Length: math.MinInt}} }, api.ErrOrder},
		{"the first line ends after To", func(e *api.Event) { e.Lines = lines(10, 11, 1) }, api.ErrOrder},
		{"the last line ends after To", func(e *api.Event) { e.Lines[1].Length = 7 }, api.ErrOrder},
		{"the last line ends before To", func(e *api.Event) { e.Lines[1].Length = 5 }, api.ErrOrder},
		{"the only line ends before To", func(e *api.Event) { e.Lines = lines(10, 9) }, api.ErrOrder},
		{"the only line ends after To", func(e *api.Event) { e.Lines = lines(10, 11) }, api.ErrOrder},
		{"a line after To", func(e *api.Event) { e.Lines = lines(10, 10, 1) }, api.ErrOrder},
		{"a length that is too great for a sum", func(e *api.Event) { e.Lines[0].Length = math.MaxInt }, api.ErrOrder},
		{"a length that comes around", func(e *api.Event) {
			e.Lines = []api.Line{{Offset: 10, Length: math.MaxInt}, {Offset: math.MinInt + 9, Length: math.MaxInt}, {Offset: 8, Length: 12}}
		}, api.ErrOrder},
		{"an offset that is too great for a sum", func(e *api.Event) { e.Lines[1].Offset = math.MaxInt }, api.ErrOrder},
		{"a negative offset", func(e *api.Event) { e.Lines[0].Offset = math.MinInt }, api.ErrOrder},
		{"the first offset is 0", func(e *api.Event) { e.Lines = []api.Line{{Offset: 0, Length: 20}} }, api.ErrOrder},
	} {
		e := example()
		c.make(&e)
		wantCheck(t, c.what, e, c.err)
		skip := api.Item{Rule: "r", Event: api.Event{Host: e.Host, File: e.File, From: e.From, To: e.To, Lines: slices.Clone(e.Lines)}}
		for k := range skip.Event.Lines {
			skip.Event.Lines[k].Text = ""
		}
		wantCheckItem(t, c.what, skip, c.err)
	}
}

func TestStringsThatAreTooLong(t *testing.T) {
	for _, c := range []change{
		{"the first text", func(e *api.Event) { e.Lines[0].Text = x(api.MaxLine + 1) }, api.ErrTooLong},
		{"the last text", func(e *api.Event) { e.Lines[1].Text = x(api.MaxLine + 1) }, api.ErrTooLong},
		{"a text that is as long as its line", func(e *api.Event) {
			e.To, e.Lines = 10+api.MaxLine+1, []api.Line{{Offset: 10, Length: api.MaxLine + 1, Text: x(api.MaxLine + 1)}}
		}, api.ErrTooLong},
		{"the trace", func(e *api.Event) { e.Trace = x(api.MaxName + 1) }, api.ErrTooLong},
		{"the stream", func(e *api.Event) { e.Stream = x(api.MaxName + 1) }, api.ErrTooLong},
		{"the first value", func(e *api.Event) { e.Fields[0].Value = x(api.MaxLine + 1) }, api.ErrTooLong},
		{"the last value", func(e *api.Event) { e.Fields[1].Value = x(api.MaxLine + 1) }, api.ErrTooLong},
		{"a long name", func(e *api.Event) { e.Fields[0].Name = x(api.MaxName + 1) }, api.ErrName},
	} {
		e := example()
		c.make(&e)
		wantCheck(t, c.what, e, c.err)
	}
}

func TestFieldsThatAreWrong(t *testing.T) {
	for _, c := range []struct {
		names []string
		err   api.Errno
	}{
		{[]string{"a", "b", "c"}, api.OK}, {[]string{"Z", "_", "a", "a.", "a.b", "aa"}, api.OK},
		{[]string{"b", "a"}, api.ErrOrder}, {[]string{"a", "c", "b"}, api.ErrOrder}, {[]string{"b", "a", "c"}, api.ErrOrder}, {[]string{"a", "_"}, api.ErrOrder}, {[]string{"aa", "a.b"}, api.ErrOrder},
		{[]string{"a", "a"}, api.ErrTwice}, {[]string{"b", "a", "b"}, api.ErrTwice}, {[]string{"a", "b", "b"}, api.ErrTwice},
		{[]string{""}, api.ErrName}, {[]string{"1"}, api.ErrName}, {[]string{"a", "b-"}, api.ErrName}, {[]string{"b", "a", "é"}, api.ErrName}, {[]string{"a", "a", "."}, api.ErrName},
	} {
		e := example()
		e.Fields = nil
		for _, name := range c.names {
			e.Fields = append(e.Fields, api.Field{Name: name})
		}
		wantCheck(t, "fields", e, c.err)
		if c.err != api.OK {
			e.Fields[0].Value = x(api.MaxLine + 1)
			wantCheck(t, "fields with a long value", e, c.err)
		}
	}
	e := example()
	e.Fields = numbered(api.MaxFields + 1)
	wantCheck(t, "too many fields", e, api.ErrTooMany)
	e.Fields[5].Name = ""
	wantCheck(t, "too many fields, and a wrong name", e, api.ErrTooMany)
}

// Of two errors the first one in the order of P12.1 is returned.
func TestFirstErrorOfAnEvent(t *testing.T) {
	long := x(api.MaxLine + 1)
	changes := []change{
		{"Host", func(e *api.Event) { e.Host = 1000 }, api.ErrRange},
		{"Time", func(e *api.Event) { e.Time = -1 }, api.ErrRange},
		{"Weight", func(e *api.Event) { e.Weight = 11 }, api.ErrWeight},
		{"the offset of the first line", func(e *api.Event) { e.Lines[0].Offset++ }, api.ErrOrder},
		{"the text of the first line", func(e *api.Event) { e.Lines[0].Text = long }, api.ErrTooLong},
		{"the end of the last line", func(e *api.Event) { e.Lines[1].Length-- }, api.ErrOrder},
		{"the text of the last line", func(e *api.Event) { e.Lines[1].Text = long }, api.ErrTooLong},
		{"the trace", func(e *api.Event) { e.Trace = long }, api.ErrTooLong},
		{"the name of a field", func(e *api.Event) { e.Fields[1].Name = "b " }, api.ErrName},
		{"the order of the fields", func(e *api.Event) { slices.Reverse(e.Fields) }, api.ErrOrder},
		{"a value", func(e *api.Event) { e.Fields[0].Value = long }, api.ErrTooLong},
	}
	for k, c := range changes {
		alone := example()
		c.make(&alone)
		wantCheck(t, c.what, alone, c.err)
		for _, later := range changes[k+1:] {
			e := example()
			later.make(&e)
			c.make(&e)
			wantCheck(t, c.what+", and "+later.what, e, c.err)
		}
	}
	for _, c := range changes[:3] {
		for _, missing := range []change{
			{"no lines", func(e *api.Event) { e.Lines = nil }, api.ErrMissing},
			{"too many lines", func(e *api.Event) { e.Lines = slices.Repeat(e.Lines, 21) }, api.ErrTooMany},
		} {
			e := example()
			missing.make(&e)
			e.Trace = long
			wantCheck(t, missing.what, e, missing.err)
			c.make(&e)
			wantCheck(t, c.what+", and "+missing.what, e, c.err)
		}
	}
}

func TestSkips(t *testing.T) {
	for _, c := range []struct {
		what string
		make func(i *api.Item)
		err  api.Errno
	}{
		{"as it is", func(i *api.Item) {}, api.OK},
		{"the longest rule", func(i *api.Item) { i.Rule = x(api.MaxName) }, api.OK},
		{"bytes of a rule", func(i *api.Item) { i.Rule = "\x00\n \xff*" }, api.OK},
		{"least numbers", func(i *api.Item) { i.Event = api.Event{To: 1, Lines: lines(0, 1)} }, api.OK},
		{"greatest numbers", func(i *api.Item) {
			i.Event = api.Event{Host: 999, File: 2147483646, To: 60000, Lines: lines(0, 60000)}
		}, api.OK},
		{"an empty list of fields", func(i *api.Item) { i.Event.Fields = []api.Field{} }, api.OK},
		{"a long rule", func(i *api.Item) { i.Rule = x(api.MaxName + 1) }, api.ErrTooLong},
		{"Host is negative", func(i *api.Item) { i.Event.Host = -1 }, api.ErrRange},
		{"Host is too great", func(i *api.Item) { i.Event.Host = 1000 }, api.ErrRange},
		{"File is negative", func(i *api.Item) { i.Event.File = -1 }, api.ErrRange},
		{"File is too great", func(i *api.Item) { i.Event.File = 2147483647 }, api.ErrRange},
		{"Time", func(i *api.Item) { i.Event.Time = 1 }, api.ErrOrder},
		{"Time out of range", func(i *api.Item) { i.Event.Time = -1 }, api.ErrOrder},
		{"Weight", func(i *api.Item) { i.Event.Weight = 1 }, api.ErrOrder},
		{"a wrong Weight", func(i *api.Item) { i.Event.Weight = -11 }, api.ErrOrder},
		{"Trace", func(i *api.Item) { i.Event.Trace = "t" }, api.ErrOrder},
		{"a long Trace", func(i *api.Item) { i.Event.Trace = x(api.MaxName + 1) }, api.ErrOrder},
		{"Stream", func(i *api.Item) { i.Event.Stream = "s" }, api.ErrOrder},
		{"a long Stream", func(i *api.Item) { i.Event.Stream = x(api.MaxName + 1) }, api.ErrOrder},
		{"Fields", func(i *api.Item) { i.Event.Fields = numbered(1) }, api.ErrOrder},
		{"wrong Fields", func(i *api.Item) { i.Event.Fields = make([]api.Field, api.MaxFields+1) }, api.ErrOrder},
		{"the first text", func(i *api.Item) { i.Event.Lines[0].Text = "x" }, api.ErrOrder},
		{"the last text", func(i *api.Item) { i.Event.Lines[1].Text = "\x00" }, api.ErrOrder},
		{"a long text", func(i *api.Item) { i.Event.Lines[0].Text = x(api.MaxLine + 1) }, api.ErrOrder},
	} {
		i := skipped()
		c.make(&i)
		wantCheckItem(t, c.what, i, c.err)
	}
}

func TestFirstErrorOfASkip(t *testing.T) {
	type wrong struct {
		what string
		make func(i *api.Item)
		err  api.Errno
	}
	changes := []wrong{
		{"the rule", func(i *api.Item) { i.Rule = x(api.MaxName + 1) }, api.ErrTooLong},
		{"Host", func(i *api.Item) { i.Event.Host = 1000 }, api.ErrRange},
		{"To", func(i *api.Item) { i.Event.To = api.MaxFile + 1 }, api.ErrRange},
		{"no lines", func(i *api.Item) { i.Event.Lines = nil }, api.ErrMissing},
		{"Time", func(i *api.Item) { i.Event.Time = -1 }, api.ErrOrder},
		{"Weight", func(i *api.Item) { i.Event.Weight = 11 }, api.ErrOrder},
		{"Fields", func(i *api.Item) { i.Event.Fields = make([]api.Field, 1) }, api.ErrOrder},
	}
	for k, c := range changes {
		for _, later := range changes[k:] {
			i := skipped()
			later.make(&i)
			c.make(&i)
			wantCheckItem(t, c.what+", and "+later.what, i, c.err)
		}
	}
	i := skipped()
	i.Event.Lines = slices.Repeat([]api.Line{{Offset: 10, Text: "x"}}, api.MaxLines+1)
	i.Event.Time = 1
	wantCheckItem(t, "too many lines with texts", i, api.ErrTooMany)
}
