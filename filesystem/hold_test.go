package filesystem_test

import (
	"math"
	"testing"

	"logtide/api"
	"logtide/filesystem"
)

// P7.5, and P7.2: files that are held open.

// wantHold reports an error if Hold does not return what show returns as want. It returns that directory.
func wantHold(t *testing.T, f api.FileSystem, inodes []int, want string) api.FileSystem {
	t.Helper()
	before := show(f)
	g := filesystem.Hold(f, inodes)
	if show(g) != want || show(f) != before {
		t.Errorf("Hold(%s, %v) = %s, want %s", before, inodes, show(g), want)
	}
	wantValid(t, g)
	return g
}

func TestHold(t *testing.T) {
	f := after(t, create("c", "1"), create("b", "2"), create("a", "3"))
	const files = "a:3 b:2 c:1 | 1=1 2=2 3=3 |"
	for _, c := range []struct {
		inodes []int
		open   string
	}{
		{nil, ""}, {[]int{}, ""}, {[]int{1}, " 1"}, {[]int{3}, " 3"}, {[]int{1, 2, 3}, " 1 2 3"}, {[]int{3, 2, 1}, " 1 2 3"}, {[]int{3, 1}, " 1 3"},
		{[]int{2, 2}, " 2"}, {[]int{2, 1, 2, 1, 1}, " 1 2"}, {[]int{1, 1, 2, 2, 3, 3}, " 1 2 3"},
		{[]int{0}, ""}, {[]int{-1}, ""}, {[]int{4}, ""}, {[]int{math.MinInt, math.MaxInt}, ""}, {[]int{4, 0, 3, 9, -3, 1, 4, math.MaxInt, math.MinInt}, " 1 3"},
	} {
		g := wantHold(t, f, c.inodes, files+c.open)
		// What was held before does not matter for files with names.
		wantHold(t, g, []int{2, 3}, files+" 2 3")
		wantHold(t, g, nil, files)
	}
	wantHold(t, filesystem.New(), nil, "|  |")
	wantHold(t, filesystem.New(), []int{1, 2}, "|  |")
}

func TestHoldRemovesFilesWithoutNames(t *testing.T) {
	f := filesystem.Hold(after(t, create("a", "1"), create("b", "2"), create("c", "3"), startCopy("a", "d")), []int{1, 2, 3, 4})
	f = changed(t, f, remove("a"), remove("b"), remove("d"))
	if show(f) != "c:3 | 1=1 2=2 3=3 4?.1 | 1 2 3 4" {
		t.Fatalf("files that are held: %s", show(f))
	}
	wantHold(t, f, []int{4, 3, 2, 1}, "c:3 | 1=1 2=2 3=3 4?.1 | 1 2 3 4")
	wantHold(t, f, []int{1, 4}, "c:3 | 1=1 3=3 4?.1 | 1 4")
	wantHold(t, f, []int{5, 0}, "c:3 | 3=3 |")
	wantHold(t, f, nil, "c:3 | 3=3 |")
	g := wantHold(t, f, []int{2, 3}, "c:3 | 2=2 3=3 | 2 3")
	// A file that was removed does not come back, and its inode is free.
	g = wantHold(t, g, []int{1, 2, 3}, "c:3 | 2=2 3=3 | 2 3")
	g = wantChange(t, g, create("e", "5"), "c:3 e:1 | 1=5 2=2 3=3 | 2 3")
	wantHold(t, g, []int{1, 2}, "c:3 e:1 | 1=5 2=2 3=3 | 1 2")
}

func TestHoldOfInodesThatNoFileHas(t *testing.T) {
	f := api.FileSystem{Names: names(api.Name{Name: "a", Inode: 3}), Files: plain(3), Open: []int{-2, 1, 9}}
	wantHold(t, f, []int{9, 3, 1}, "a:3 | 3= | 3")
	wantHold(t, f, []int{-2}, "a:3 | 3= |")
}

func TestHoldOfManyInodes(t *testing.T) {
	const count = 100000
	var f api.FileSystem
	var inodes []int
	for inode := 1; inode <= count; inode++ {
		f.Files = append(f.Files, plain(inode)...)
		f.Open = append(f.Open, inode)
		inodes = append(inodes, count+1-inode, -inode)
	}
	if g := filesystem.Hold(f, inodes); !same(f, g) {
		t.Errorf("Hold returns %d files, %d are open", len(g.Files), len(g.Open))
	}
	if g := filesystem.Hold(f, inodes[:count]); len(g.Files) != count/2 || len(g.Open) != count/2 || g.Open[0] != count/2+1 {
		t.Errorf("Hold returns %d files, %d are open", len(g.Files), len(g.Open))
	}
	if g, err := filesystem.Do(f, create("a", "")); err != api.OK || len(g.Files) != count+1 {
		t.Errorf("Do returns %d files, %d", len(g.Files), err)
	}
}
