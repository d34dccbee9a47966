package filesystem_test

import (
	"bytes"
	"math"
	"testing"

	"logtide/api"
	"logtide/filesystem"
)

// P7.3 and P7.4: copies.

func TestStartCopy(t *testing.T) {
	f := after(t, create("b", "12"), create("c", ""))
	wantChange(t, f, startCopy("b", "a"), "a:3 b:1 c:2 | 1=12 2= 3?.12 |")
	wantChange(t, f, startCopy("c", "d"), "b:1 c:2 d:3 | 1=12 2= 3?. |")
	f = changed(t, f, startCopy("b", "part"), startCopy("b", "whole"), copyMore("whole", 2))
	wantChange(t, f, startCopy("whole", "x"), "b:1 c:2 part:3 whole:4 x:5 | 1=12 2= 3?.12 4+12 5?.12 |")
	for _, to := range []string{"b", "c", "part", "whole"} {
		wantError(t, f, startCopy("b", to), api.ErrExists)
		wantError(t, f, startCopy("c", to), api.ErrExists)
		wantError(t, f, startCopy("whole", to), api.ErrExists)
	}
	for _, to := range []string{"b", "part", "x"} {
		wantError(t, f, startCopy("part", to), api.ErrCopying)
		wantError(t, f, startCopy("none", to), api.ErrNoFile)
	}
	wantError(t, f, startCopy("none", "none"), api.ErrNoFile)
	f = changed(t, f, copyMore("part", 1))
	wantError(t, f, startCopy("part", "x"), api.ErrCopying)
}

func TestStartCopyInAFullDirectory(t *testing.T) {
	f := full(t, startCopy("b", "part"))
	wantError(t, f, startCopy("b", "a"), api.ErrTooMany)
	wantError(t, f, startCopy("n0", "a"), api.ErrTooMany)
	wantError(t, f, startCopy("b", "b"), api.ErrExists)
	wantError(t, f, startCopy("b", "n0"), api.ErrExists)
	wantError(t, f, startCopy("part", "a"), api.ErrCopying)
	wantError(t, f, startCopy("a", "c"), api.ErrNoFile)
	f = changed(t, f, remove("n0"), startCopy("b", "a"))
	wantError(t, f, startCopy("b", "n0"), api.ErrTooMany)
}

func TestCopyMore(t *testing.T) {
	f := after(t, create("a", "12345"), startCopy("a", "b"))
	wantChange(t, f, copyMore("b", 1), "a:1 b:2 | 1=12345 2?1.2345 |")
	wantChange(t, f, copyMore("b", 4), "a:1 b:2 | 1=12345 2?1234.5 |")
	for _, n := range []int{5, 6, 60000, 1 << 32, math.MaxInt} {
		wantChange(t, f, copyMore("b", n), "a:1 b:2 | 1=12345 2+12345 |")
	}
	g := wantChange(t, f, copyMore("b", 2), "a:1 b:2 | 1=12345 2?12.345 |")
	g = wantChange(t, g, copyMore("b", 2), "a:1 b:2 | 1=12345 2?1234.5 |")
	wantChange(t, g, copyMore("b", math.MaxInt), "a:1 b:2 | 1=12345 2+12345 |")
	g = wantChange(t, g, copyMore("b", 1), "a:1 b:2 | 1=12345 2+12345 |")
	for _, n := range []int{math.MinInt, -5, -1, 0, 1, math.MaxInt} {
		wantError(t, f, copyMore("none", n), api.ErrNoFile)
		wantError(t, f, copyMore("a", n), api.ErrState)
		wantError(t, g, copyMore("b", n), api.ErrState)
		if n < 1 {
			wantError(t, f, copyMore("b", n), api.ErrRange)
		}
	}
}

// A copy of no bytes is not Whole before something was copied.
func TestCopyOfNothing(t *testing.T) {
	f := after(t, create("a", ""), startCopy("a", "b"))
	wantError(t, f, startCopy("b", "c"), api.ErrCopying)
	wantError(t, f, copyMore("b", 0), api.ErrRange)
	f = wantChange(t, f, copyMore("b", 1), "a:1 b:2 | 1= 2+ |")
	wantError(t, f, copyMore("b", 1), api.ErrState)
	wantChange(t, f, startCopy("b", "c"), "a:1 b:2 c:3 | 1= 2+ 3?. |")
	f = api.FileSystem{Names: names(api.Name{Name: "a", Inode: 1}), Files: []api.File{{Inode: 1, Data: []byte("12"), Copy: true}}}
	wantChange(t, f, copyMore("a", 1), "a:1 | 1+12 |")
}

func TestACopyContainsWhatItsOriginalHadWhenItWasStarted(t *testing.T) {
	f := after(t, create("a", "12345"), startCopy("a", "b"), copyMore("b", 2))
	for _, l := range [][]api.Change{
		{truncate("a")},
		{truncate("a"), appendTo("a", "67")},
		{appendTo("a", "67")},
		{remove("a")},
		{replace("a", "67")},
		{rename("a", "c")},
		{remove("a"), create("a", "67")},
		{rename("a", "c"), create("a", "67")},
		{create("c", "67"), rename("c", "a")},
	} {
		g := changed(t, f, l...)
		wantRead(t, g, "b", "12")
		wantRead(t, changed(t, g, copyMore("b", 2)), "b", "1234")
		wantRead(t, changed(t, g, copyMore("b", 4)), "b", "12345")
		// Before anything is copied, too.
		g = changed(t, after(t, create("a", "12345"), startCopy("a", "b")), l...)
		wantRead(t, g, "b", "")
		wantRead(t, changed(t, g, copyMore("b", 1)), "b", "1")
		wantRead(t, changed(t, g, copyMore("b", 5)), "b", "12345")
	}
}

func TestCopyOfTheLongestFile(t *testing.T) {
	f := after(t, create("a", size(api.MaxFile)), startCopy("a", "b"))
	wantRead(t, f, "b", "")
	f = changed(t, f, copyMore("b", api.MaxFile-1))
	wantRead(t, f, "b", size(api.MaxFile-1))
	f = changed(t, f, copyMore("b", 1))
	wantRead(t, f, "b", size(api.MaxFile))
	wantValid(t, f)
}

func TestCopiesThatAreHeld(t *testing.T) {
	f := filesystem.Hold(after(t, create("a", "12"), startCopy("a", "b"), copyMore("b", 1)), []int{2})
	f = wantChange(t, f, remove("b"), "a:1 | 1=12 2?1.2 | 2")
	f = wantChange(t, f, startCopy("a", "b"), "a:1 b:3 | 1=12 2?1.2 3?.12 | 2")
	wantChange(t, f, copyMore("b", 2), "a:1 b:3 | 1=12 2?1.2 3+12 | 2")
}

// P7.4

func TestRead(t *testing.T) {
	f := after(t, create("a", "12"), startCopy("a", "b"), copyMore("b", 1), startCopy("a", "c"), copyMore("c", 2), startCopy("a", "d"), create("e", ""))
	f = filesystem.Hold(f, []int{1})
	f = changed(t, f, remove("a"))
	for _, want := range []api.File{
		{Inode: 1, Data: []byte("12"), Whole: true}, // held open, without a name
		{Inode: 2, Data: []byte("1"), Copy: true},
		{Inode: 3, Data: []byte("12"), Copy: true, Whole: true},
		{Inode: 4, Copy: true},
		{Inode: 5, Whole: true},
	} {
		if x, ok := filesystem.Read(f, want.Inode); !sameFile(x, want) || !ok {
			t.Errorf("Read(%s, %d) = %+v, %v, want %+v", show(f), want.Inode, x, ok, want)
		}
	}
	if show(f) != "b:2 c:3 d:4 e:5 | 1=12 2?1.2 3+12 4?.12 5= | 1" {
		t.Errorf("after Read: %s", show(f))
	}
	for _, inode := range []int{0, -1, 6, math.MinInt, math.MaxInt} {
		for _, f := range []api.FileSystem{f, filesystem.New()} {
			if x, ok := filesystem.Read(f, inode); !sameFile(x, api.File{}) || ok {
				t.Errorf("Read(%s, %d) = %+v, %v", show(f), inode, x, ok)
			}
		}
	}
}

// R1: a directory has no such copies, but Read returns for them. All other files are returned as they are.
func TestReadOfFilesThatNoDirectoryHas(t *testing.T) {
	data := []byte("123")
	for _, left := range []int{math.MinInt, -4, -1, 4, math.MaxInt} {
		f := api.FileSystem{Files: []api.File{{Inode: 1, Data: data[:3:3], Copy: true, Left: left}, {Inode: 2, Copy: true, Left: left}}}
		for inode := 1; inode <= 2; inode++ {
			if x, ok := filesystem.Read(f, inode); x.Inode != inode || x.Left != 0 || !bytes.HasPrefix(data, x.Data) || !ok {
				t.Errorf("Read of a copy with Left %d = %+v, %v", left, x, ok)
			}
		}
	}
	for _, left := range []int{math.MinInt, -1, 1, 3, math.MaxInt} {
		for _, want := range []api.File{
			{Inode: 1, Data: data, Left: left},
			{Inode: 1, Data: data, Whole: true, Left: left},
			{Inode: 1, Data: data, Copy: true, Whole: true, Left: left},
		} {
			if x, ok := filesystem.Read(api.FileSystem{Files: []api.File{want}}, 1); !sameFile(x, want) || !ok {
				t.Errorf("Read = %+v, %v, want %+v", x, ok, want)
			}
		}
	}
}

// Who appends to what was read does not overwrite what is not copied yet.
func TestReadHasNoSpareCapacity(t *testing.T) {
	f := after(t, create("a", "123"), startCopy("a", "b"), copyMore("b", 1))
	x, _ := filesystem.Read(f, 2)
	_ = append(x.Data, "xy"...)
	wantRead(t, changed(t, f, copyMore("b", 2)), "b", "123")
}
