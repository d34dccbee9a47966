package filesystem_test

import (
	"math"
	"slices"
	"testing"

	"logtide/api"
	"logtide/filesystem"
)

// P7.3: the tests of this file try each kind of change: what it does, and its errors in their order. P7.2: the inodes of new files.

const long = api.MaxFile + 1

// full returns a directory with as many names as there may be, and the file b.
func full(t *testing.T, b ...api.Change) api.FileSystem {
	t.Helper()
	f := after(t, append([]api.Change{create("b", "12")}, b...)...)
	return changed(t, f, numbered(api.MaxFiles-len(f.Names))...)
}

func TestKinds(t *testing.T) {
	f := after(t, create("a", "1"))
	for _, kind := range []int{0, -1, 9, 10, 256, 257, math.MinInt, math.MaxInt} {
		wantError(t, f, api.Change{Kind: kind, Name: "a", To: "b", N: 1}, api.ErrRange)
		wantError(t, f, api.Change{Kind: kind}, api.ErrRange)
		wantError(t, filesystem.New(), api.Change{Kind: kind, Name: " ", To: " "}, api.ErrRange)
	}
}

func TestNamesComeBeforeOtherErrors(t *testing.T) {
	for _, f := range []api.FileSystem{filesystem.New(), full(t), after(t, create("a", ""), startCopy("a", "b"))} {
		for kind := api.Create; kind <= api.Replace; kind++ {
			for _, name := range []string{"", "a b", size(33), "\xff"} {
				wantError(t, f, api.Change{Kind: kind, Name: name, To: "c", Data: make([]byte, long)}, api.ErrName)
			}
		}
		for _, kind := range []int{api.Rename, api.StartCopy} {
			for _, name := range []string{"a", "b", "none", ""} {
				wantError(t, f, api.Change{Kind: kind, Name: name, To: ""}, api.ErrName)
				wantError(t, f, api.Change{Kind: kind, Name: name, To: " "}, api.ErrName)
			}
		}
	}
}

func TestFieldsThatAChangeDoesNotNeed(t *testing.T) {
	f := after(t, create("a", "12"), create("b", "34"), startCopy("b", "c"))
	for _, c := range []struct {
		c    api.Change
		want string
	}{
		{create("d", "5"), "a:1 b:2 c:3 d:4 | 1=12 2=34 3?.34 4=5 |"},
		{appendTo("a", "5"), "a:1 b:2 c:3 | 1=125 2=34 3?.34 |"},
		{truncate("a"), "a:1 b:2 c:3 | 1= 2=34 3?.34 |"},
		{copyMore("c", 1), "a:1 b:2 c:3 | 1=12 2=34 3?3.4 |"},
		{remove("a"), "b:2 c:3 | 2=34 3?.34 |"},
		{replace("a", "5"), "a:4 b:2 c:3 | 2=34 3?.34 4=5 |"},
	} {
		for _, to := range []string{"", " ", "b", size(33)} {
			c.c.To = to
			wantChange(t, f, c.c, c.want)
		}
	}
	for _, c := range []struct {
		c    api.Change
		want string
	}{
		{truncate("a"), "a:1 b:2 c:3 | 1= 2=34 3?.34 |"},
		{rename("a", "d"), "b:2 c:3 d:1 | 1=12 2=34 3?.34 |"},
		{startCopy("a", "d"), "a:1 b:2 c:3 d:4 | 1=12 2=34 3?.34 4?.12 |"},
		{remove("a"), "b:2 c:3 | 2=34 3?.34 |"},
	} {
		for _, n := range []int{math.MinInt, -1, 1, math.MaxInt} {
			c.c.N = n
			c.c.Data = make([]byte, long)
			wantChange(t, f, c.c, c.want)
		}
	}
}

func TestCreate(t *testing.T) {
	f := wantChange(t, filesystem.New(), create("m", "1\n2"), "m:1 | 1=1\n2 |")
	f = wantChange(t, f, create("c", ""), "c:2 m:1 | 1=1\n2 2= |")
	f = wantChange(t, f, create("x", "3"), "c:2 m:1 x:3 | 1=1\n2 2= 3=3 |")
	f = wantChange(t, f, create("C", "4"), "C:4 c:2 m:1 x:3 | 1=1\n2 2= 3=3 4=4 |")
	for _, data := range []string{"", "new", size(long)} {
		wantError(t, f, create("c", data), api.ErrExists)
	}
	wantRead(t, after(t, create("a", size(api.MaxFile))), "a", size(api.MaxFile))
	wantError(t, f, create("d", size(long)), api.ErrTooLong)
	wantError(t, f, create("d", size(2*api.MaxFile)), api.ErrTooLong)

	f = full(t)
	if len(f.Names) != api.MaxFiles || len(f.Files) != api.MaxFiles {
		t.Errorf("%d names, %d files", len(f.Names), len(f.Files))
	}
	wantError(t, f, create("d", ""), api.ErrTooMany)
	wantError(t, f, create("d", size(long)), api.ErrTooMany)
	wantError(t, f, create("b", size(long)), api.ErrExists)
	f = changed(t, f, remove("n7"), create("d", "5"))
	wantError(t, f, create("n7", ""), api.ErrTooMany)
}

func TestAppend(t *testing.T) {
	f := after(t, create("a", "12"), create("b", ""), startCopy("a", "part"), startCopy("a", "whole"), copyMore("whole", 2))
	wantChange(t, f, appendTo("a", "3"), "a:1 b:2 part:3 whole:4 | 1=123 2= 3?.12 4+12 |")
	wantChange(t, f, appendTo("b", "3\n4"), "a:1 b:2 part:3 whole:4 | 1=12 2=3\n4 3?.12 4+12 |")
	wantChange(t, f, appendTo("a", ""), "a:1 b:2 part:3 whole:4 | 1=12 2= 3?.12 4+12 |")
	for _, data := range []string{"", "3", size(long)} {
		wantError(t, f, appendTo("c", data), api.ErrNoFile)
		wantError(t, f, appendTo("part", data), api.ErrCopying)
		wantError(t, f, appendTo("whole", data), api.ErrCopying)
	}
	wantError(t, f, appendTo("a", size(long)), api.ErrTooLong)
	wantError(t, f, appendTo("b", size(long)), api.ErrTooLong)
	wantError(t, f, appendTo("a", size(long-2)), api.ErrTooLong)
	wantRead(t, changed(t, f, appendTo("a", size(long-3))), "a", "12"+size(long-3))

	f = changed(t, f, appendTo("b", size(api.MaxFile)))
	wantRead(t, f, "b", size(api.MaxFile))
	wantError(t, f, appendTo("b", "1"), api.ErrTooLong)
	wantRead(t, changed(t, f, appendTo("b", "")), "b", size(api.MaxFile))
	wantRead(t, changed(t, f, truncate("b"), appendTo("b", "1")), "b", "1")
}

func TestTruncate(t *testing.T) {
	f := after(t, create("a", "12"), create("b", ""), startCopy("a", "part"), startCopy("a", "whole"), copyMore("whole", 2))
	f = wantChange(t, f, truncate("a"), "a:1 b:2 part:3 whole:4 | 1= 2= 3?.12 4+12 |")
	wantChange(t, f, truncate("a"), "a:1 b:2 part:3 whole:4 | 1= 2= 3?.12 4+12 |")
	wantChange(t, f, truncate("b"), "a:1 b:2 part:3 whole:4 | 1= 2= 3?.12 4+12 |")
	wantChange(t, f, appendTo("a", "3"), "a:1 b:2 part:3 whole:4 | 1=3 2= 3?.12 4+12 |")
	wantError(t, f, truncate("c"), api.ErrNoFile)
	wantError(t, f, truncate("part"), api.ErrCopying)
	wantError(t, f, truncate("whole"), api.ErrCopying)
}

func TestRename(t *testing.T) {
	f := after(t, create("b", "2"), create("d", "4"), create("c", "3"))
	wantChange(t, f, rename("c", "a"), "a:3 b:1 d:2 | 1=2 2=4 3=3 |")
	wantChange(t, f, rename("c", "bb"), "b:1 bb:3 d:2 | 1=2 2=4 3=3 |")
	wantChange(t, f, rename("c", "e"), "b:1 d:2 e:3 | 1=2 2=4 3=3 |")
	// A file that had the name loses it, and is removed.
	wantChange(t, f, rename("c", "b"), "b:3 d:2 | 2=4 3=3 |")
	wantChange(t, f, rename("c", "d"), "b:1 d:3 | 1=2 3=3 |")
	wantChange(t, f, rename("b", "d"), "c:3 d:1 | 1=2 3=3 |")
	wantError(t, f, rename("a", "b"), api.ErrNoFile)
	wantError(t, f, rename("a", "e"), api.ErrNoFile)
	wantError(t, f, rename("a", "a"), api.ErrNoFile)
	wantError(t, f, rename("b", "b"), api.ErrState)

	// Copies of both kinds keep what they are, under a new name.
	f = after(t, create("b", "12"), startCopy("b", "c"), copyMore("c", 1), startCopy("b", "d"), copyMore("d", 2))
	wantChange(t, f, rename("c", "a"), "a:2 b:1 d:3 | 1=12 2?1.2 3+12 |")
	wantChange(t, f, rename("d", "a"), "a:3 b:1 c:2 | 1=12 2?1.2 3+12 |")
	wantChange(t, f, rename("b", "a"), "a:1 c:2 d:3 | 1=12 2?1.2 3+12 |")
	wantChange(t, f, rename("b", "c"), "c:1 d:3 | 1=12 3+12 |")
	wantChange(t, f, rename("c", "b"), "b:2 d:3 | 2?1.2 3+12 |")

	// The number of names does not grow.
	f = full(t)
	if g := changed(t, f, rename("b", "a"), rename("n7", "n8")); len(g.Names) != api.MaxFiles-1 || len(g.Files) != api.MaxFiles-1 {
		t.Errorf("%d names, %d files", len(g.Names), len(g.Files))
	}
}

func TestRotation(t *testing.T) {
	f := after(t, create("log", "1"))
	f = wantChange(t, f, rename("log", "log.1"), "log.1:1 | 1=1 |")
	f = wantChange(t, f, create("log", "2"), "log:2 log.1:1 | 1=1 2=2 |")
	f = wantChange(t, f, rename("log.1", "log.2"), "log:2 log.2:1 | 1=1 2=2 |")
	f = wantChange(t, f, rename("log", "log.1"), "log.1:2 log.2:1 | 1=1 2=2 |")
	f = wantChange(t, f, create("log", "3"), "log:3 log.1:2 log.2:1 | 1=1 2=2 3=3 |")
	f = wantChange(t, f, rename("log.1", "log.2"), "log:3 log.2:2 | 2=2 3=3 |")
	f = wantChange(t, f, rename("log", "log.1"), "log.1:3 log.2:2 | 2=2 3=3 |")
	wantChange(t, f, create("log", "4"), "log:1 log.1:3 log.2:2 | 1=4 2=2 3=3 |")
}

func TestRemove(t *testing.T) {
	f := after(t, create("a", "1"), create("b", "2"), create("c", "3"), startCopy("a", "d"))
	wantChange(t, f, remove("a"), "b:2 c:3 d:4 | 2=2 3=3 4?.1 |")
	wantChange(t, f, remove("b"), "a:1 c:3 d:4 | 1=1 3=3 4?.1 |")
	wantChange(t, f, remove("d"), "a:1 b:2 c:3 | 1=1 2=2 3=3 |")
	wantError(t, f, remove("e"), api.ErrNoFile)
	wantError(t, f, remove("A"), api.ErrNoFile)
	wantError(t, filesystem.New(), remove("a"), api.ErrNoFile)
	f = changed(t, f, remove("a"), remove("b"), remove("d"))
	f = wantChange(t, f, remove("c"), "|  |")
	wantError(t, f, remove("c"), api.ErrNoFile)
}

func TestReplace(t *testing.T) {
	f := after(t, create("a", "1"), create("b", "2"), create("c", "3"))
	// The inode of the old file is not free yet.
	wantChange(t, f, replace("b", "new"), "a:1 b:4 c:3 | 1=1 3=3 4=new |")
	wantChange(t, f, replace("b", ""), "a:1 b:4 c:3 | 1=1 3=3 4= |")
	f = wantChange(t, f, replace("a", "4"), "a:4 b:2 c:3 | 2=2 3=3 4=4 |")
	f = wantChange(t, f, replace("a", "5"), "a:1 b:2 c:3 | 1=5 2=2 3=3 |")
	wantRead(t, changed(t, f, replace("b", size(api.MaxFile))), "b", size(api.MaxFile))
	wantError(t, f, replace("b", size(long)), api.ErrTooLong)
	wantError(t, f, replace("d", ""), api.ErrNoFile)
	wantError(t, f, replace("d", size(long)), api.ErrNoFile)
	f = full(t)
	f = changed(t, f, replace("b", "3"))
	if inode, _ := filesystem.Lookup(f, "b"); inode != api.MaxFiles+1 {
		t.Errorf("the inode is %d", inode)
	}
	// A copy is replaced by a file that is none.
	f = after(t, create("a", "12"), startCopy("a", "b"), copyMore("b", 1), startCopy("a", "c"), copyMore("c", 2))
	f = wantChange(t, f, replace("b", "3"), "a:1 b:4 c:3 | 1=12 3+12 4=3 |")
	f = wantChange(t, f, replace("c", "4"), "a:1 b:4 c:2 | 1=12 2=4 4=3 |")
	wantChange(t, f, appendTo("c", "5"), "a:1 b:4 c:2 | 1=12 2=45 4=3 |")
}

// Neither the slices of changes nor other files have a part in the bytes of a file.
func TestFilesHaveBytesOfTheirOwn(t *testing.T) {
	data := []byte("12")
	f := after(t, api.Change{Kind: api.Create, Name: "a", Data: data}, create("b", ""), api.Change{Kind: api.Append, Name: "b", Data: data}, create("c", ""), api.Change{Kind: api.Replace, Name: "c", Data: data}, startCopy("a", "d"))
	data[0] = 'x'
	const want = "a:1 b:2 c:4 d:3 | 1=12 2=12 3?.12 4=12 |"
	if show(f) != want {
		t.Errorf("%s, want %s", show(f), want)
	}
	f.Files[0].Data[0] = 'y'
	wantRead(t, changed(t, f, copyMore("d", 2)), "d", "12")
}

// P7.2

func TestInodes(t *testing.T) {
	f := after(t, create("a", ""), create("b", ""), create("c", ""), create("d", ""), remove("b"), remove("a"))
	f = wantChange(t, f, create("x", ""), "c:3 d:4 x:1 | 1= 3= 4= |")
	f = wantChange(t, f, startCopy("x", "y"), "c:3 d:4 x:1 y:2 | 1= 2?. 3= 4= |")
	f = wantChange(t, f, create("z", ""), "c:3 d:4 x:1 y:2 z:5 | 1= 2?. 3= 4= 5= |")
	f = wantChange(t, f, rename("z", "d"), "c:3 d:5 x:1 y:2 | 1= 2?. 3= 5= |")
	f = wantChange(t, f, replace("c", ""), "c:4 d:5 x:1 y:2 | 1= 2?. 4= 5= |")
	wantChange(t, f, replace("c", ""), "c:3 d:5 x:1 y:2 | 1= 2?. 3= 5= |")
	gap := api.FileSystem{Names: names(api.Name{Name: "a", Inode: 2}, api.Name{Name: "b", Inode: math.MaxInt}), Files: plain(2, math.MaxInt)}
	gap = wantChange(t, gap, create("c", ""), "a:2 b:9223372036854775807 c:1 | 1= 2= 9223372036854775807= |")
	wantChange(t, gap, create("d", ""), "a:2 b:9223372036854775807 c:1 d:3 | 1= 2= 3= 9223372036854775807= |")
}

func TestFilesThatAreHeldKeepTheirInodes(t *testing.T) {
	f := filesystem.Hold(after(t, create("a", "1"), create("b", "2"), create("c", "3")), []int{1, 2})
	f = wantChange(t, f, remove("a"), "b:2 c:3 | 1=1 2=2 3=3 | 1 2")
	f = wantChange(t, f, replace("b", "4"), "b:4 c:3 | 1=1 2=2 3=3 4=4 | 1 2")
	f = wantChange(t, f, rename("c", "b"), "b:3 | 1=1 2=2 3=3 | 1 2")
	f = wantChange(t, f, create("a", "5"), "a:4 b:3 | 1=1 2=2 3=3 4=5 | 1 2")
	f = wantChange(t, f, remove("b"), "a:4 | 1=1 2=2 4=5 | 1 2")
	wantChange(t, f, startCopy("a", "b"), "a:4 b:3 | 1=1 2=2 3?.5 4=5 | 1 2")
}

// An inode may be in Open although no file has it.
func TestInodesOfOpenThatNoFileHas(t *testing.T) {
	f := api.FileSystem{Open: []int{-1, 2, 7}}
	f = wantChange(t, f, create("a", ""), "a:1 | 1= | -1 2 7")
	f = wantChange(t, f, create("b", ""), "a:1 b:2 | 1= 2= | -1 2 7")
	f = wantChange(t, f, remove("b"), "a:1 | 1= 2= | -1 2 7")
	wantChange(t, f, remove("a"), "| 2= | -1 2 7")
}

func TestFilesWithTwoNames(t *testing.T) {
	f := api.FileSystem{
		Names: names(api.Name{Name: "a", Inode: 1}, api.Name{Name: "b", Inode: 1}, api.Name{Name: "c", Inode: 2}),
		Files: []api.File{{Inode: 1, Data: []byte("1"), Whole: true}, {Inode: 2, Data: []byte("2"), Whole: true}},
	}
	wantChange(t, f, appendTo("b", "3"), "a:1 b:1 c:2 | 1=13 2=2 |")
	wantChange(t, f, truncate("a"), "a:1 b:1 c:2 | 1= 2=2 |")
	wantChange(t, f, remove("a"), "b:1 c:2 | 1=1 2=2 |")
	wantChange(t, f, rename("a", "b"), "b:1 c:2 | 1=1 2=2 |")
	wantChange(t, f, rename("b", "a"), "a:1 c:2 | 1=1 2=2 |")
	wantChange(t, f, rename("c", "a"), "a:2 b:1 | 1=1 2=2 |")
	wantChange(t, f, replace("a", "3"), "a:3 b:1 c:2 | 1=1 2=2 3=3 |")
	wantChange(t, f, rename("a", "c"), "b:1 c:1 | 1=1 |")
	if inode, ok := filesystem.Lookup(f, "b"); inode != 1 || !ok {
		t.Errorf("Lookup = %d, %v", inode, ok)
	}
}

// P7.5

func TestRun(t *testing.T) {
	l := []api.Change{create("a", "1"), create("a", "2"), appendTo("b", "3"), appendTo("a", "4"), {}, rename("a", "b"), truncate("a"), startCopy("b", "a"), copyMore("a", 0), copyMore("a", 1), remove(" "), create("c", size(long))}
	want := []api.Errno{api.OK, api.ErrExists, api.ErrNoFile, api.OK, api.ErrRange, api.OK, api.ErrNoFile, api.OK, api.ErrRange, api.OK, api.ErrName, api.ErrTooLong}
	f, errors := filesystem.Run(filesystem.New(), l)
	if show(f) != "a:2 b:1 | 1=14 2?1.4 |" || !slices.Equal(errors, want) {
		t.Errorf("Run = %s, %v, want %v", show(f), errors, want)
	}
	g, errors := filesystem.Run(f, []api.Change{copyMore("a", 1)})
	if show(g) != "a:2 b:1 | 1=14 2+14 |" || !slices.Equal(errors, []api.Errno{api.OK}) {
		t.Errorf("Run = %s, %v", show(g), errors)
	}
	for _, l := range [][]api.Change{nil, {}} {
		if g, errors := filesystem.Run(f, l); !same(f, g) || len(errors) != 0 {
			t.Errorf("Run of no changes = %s, %v", show(g), errors)
		}
	}
}

func TestLookup(t *testing.T) {
	f := after(t, numbered(api.MaxFiles)...)
	for i, c := range numbered(api.MaxFiles) {
		if inode, ok := filesystem.Lookup(f, c.Name); inode != i+1 || !ok {
			t.Errorf("Lookup(%q) = %d, %v", c.Name, inode, ok)
		}
	}
	for _, name := range []string{"", "n", "m", "o", "N0", "n00", "n0 ", "n40", "n9x", "\xff", size(1000)} {
		for _, f := range []api.FileSystem{f, filesystem.New()} {
			if inode, ok := filesystem.Lookup(f, name); inode != 0 || ok {
				t.Errorf("Lookup(%q) = %d, %v", name, inode, ok)
			}
		}
	}
}
