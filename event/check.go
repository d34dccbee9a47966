package event

import (
	"slices"

	"logtide/api"
	"logtide/parse"
)

const (
	maxHost = 999        // the greatest number of a host
	maxFile = 2147483646 // the greatest number of a file
)

// Check returns the first error of an event.
func Check(e api.Event) api.Errno {
	if !inRange(e) || e.Time < 0 || e.Time > api.MaxTime {
		return api.ErrRange
	}
	if e.Weight < 1 || api.Modulus%e.Weight != 0 {
		return api.ErrWeight
	}
	if err := checkLines(e); err != api.OK {
		return err
	}
	if len(e.Trace) > api.MaxName || len(e.Stream) > api.MaxName {
		return api.ErrTooLong
	}
	return checkFields(e.Fields)
}

// CheckItem returns the first error of an item.
func CheckItem(i api.Item) api.Errno {
	switch {
	case i.Rule == "":
		return Check(i.Event)
	case len(i.Rule) > api.MaxName:
		return api.ErrTooLong
	default:
		return checkSkip(i.Event)
	}
}

// checkSkip returns the first error of what a rule dropped.
func checkSkip(e api.Event) api.Errno {
	if !inRange(e) {
		return api.ErrRange
	}
	if err := checkCount(e); err != api.OK {
		return err
	}
	for k := range e.Lines {
		if !inOrder(e, k) || e.Lines[k].Text != "" {
			return api.ErrOrder
		}
	}
	if e.Time != 0 || e.Weight != 0 || e.Trace != "" || e.Stream != "" || len(e.Fields) > 0 {
		return api.ErrOrder
	}
	return api.OK
}

// inRange reports whether an event may have its host, its file and its bytes of the file.
func inRange(e api.Event) bool {
	return e.Host >= 0 && e.Host <= maxHost && e.File >= 0 && e.File <= maxFile &&
		e.From >= 0 && e.From < e.To && e.To <= api.MaxFile
}

// checkCount returns the error of the number of lines.
func checkCount(e api.Event) api.Errno {
	switch {
	case len(e.Lines) == 0:
		return api.ErrMissing
	case len(e.Lines) > api.MaxLines:
		return api.ErrTooMany
	}
	return api.OK
}

// checkLines returns the first error of the lines of an event.
func checkLines(e api.Event) api.Errno {
	if err := checkCount(e); err != api.OK {
		return err
	}
	for k, l := range e.Lines {
		if !inOrder(e, k) {
			return api.ErrOrder
		}
		if len(l.Text) > api.MaxLine {
			return api.ErrTooLong
		}
	}
	return api.OK
}

// inOrder reports whether the line k begins and ends where it must. The lines before it must be in order, so that none of the sums and differences is too great for an int.
func inOrder(e api.Event, k int) bool {
	begin := e.From
	if k > 0 {
		before := e.Lines[k-1]
		begin = before.Offset + before.Length
	}
	l, left := e.Lines[k], e.To-begin
	if l.Offset != begin || l.Length < 1 || l.Length > left {
		return false
	}
	last := k == len(e.Lines)-1
	return !last || l.Length == left
}

// checkFields returns the first error of the fields of an event.
func checkFields(l []api.Field) api.Errno {
	sorted, err := parse.Sort(l)
	if err != api.OK {
		return err
	}
	if !slices.Equal(sorted, l) {
		return api.ErrOrder
	}
	for _, f := range l {
		if len(f.Value) > api.MaxLine {
			return api.ErrTooLong
		}
	}
	return api.OK
}
