package filesystem_test

import (
	"fmt"
	"math"
	"slices"
	"strings"
	"testing"

	"logtide/api"
	"logtide/filesystem"
)

// P7.1

func names(l ...api.Name) []api.Name { return l }

// plain returns files without bytes that are no copies.
func plain(inodes ...int) []api.File {
	var l []api.File
	for _, inode := range inodes {
		l = append(l, api.File{Inode: inode, Whole: true})
	}
	return l
}

func wantCheck(t *testing.T, f api.FileSystem, want bool) {
	t.Helper()
	if got := filesystem.Check(f); got != want {
		t.Errorf("Check(%s) = %v, want %v", show(f), got, want)
	}
}

// wantCheckOfFile checks a directory in which this file is held open, for itself and between others.
func wantCheckOfFile(t *testing.T, x api.File, want bool) {
	t.Helper()
	wantCheck(t, api.FileSystem{Files: []api.File{x}, Open: []int{x.Inode}}, want)
	wantCheck(t, api.FileSystem{Names: names(api.Name{Name: "a", Inode: x.Inode}), Files: []api.File{x}}, want)
	if x.Inode == 5 {
		between := slices.Concat(plain(4), []api.File{x}, plain(6))
		wantCheck(t, api.FileSystem{Files: between, Open: []int{4, 5, 6}}, want)
	}
}

func TestNew(t *testing.T) {
	f := filesystem.New()
	if len(f.Names) != 0 || len(f.Files) != 0 || len(f.Open) != 0 {
		t.Errorf("New() = %s", show(f))
	}
	wantValid(t, f)
	wantCheck(t, api.FileSystem{Names: []api.Name{}, Files: []api.File{}, Open: []int{}}, true)
}

// Each name is tried in Check, as the Name of all changes, and as the To of those that need it.
func TestFileNames(t *testing.T) {
	for b := range 256 {
		valid := 33 <= b && b <= 126
		wantFileName(t, string([]byte{byte(b)}), valid)
		wantFileName(t, string([]byte{'n', byte(b)}), valid)
		wantFileName(t, string([]byte{byte(b), 'n'}), valid)
		wantFileName(t, size(15)+string([]byte{byte(b)})+size(16), valid)
	}
	wantFileName(t, "", false)
	wantFileName(t, size(api.MaxName), true)
	wantFileName(t, size(api.MaxName+1), false)
	wantFileName(t, size(api.MaxText), false)
	for _, name := range []string{"app.log", "app.log.1", "/", "..", "#", "~", "!", `"`, "\\"} {
		wantFileName(t, name, true)
	}
	for _, name := range []string{"a b", " a", "a ", "a\n", "\u00e9", "caf\u00e9", "\u00a0", "\u2028", "\uff01", "a\x00"} {
		wantFileName(t, name, false)
	}
}

func wantFileName(t *testing.T, name string, want bool) {
	t.Helper()
	f := api.FileSystem{Names: names(api.Name{Name: name, Inode: 1}), Files: plain(1)}
	wantCheck(t, f, want)
	f.Names = append(f.Names, api.Name{Name: name + "\x7f", Inode: 1})
	wantCheck(t, f, false)

	g := after(t, create("zz", ""))
	named := []api.Errno{api.OK, api.ErrNoFile, api.ErrNoFile, api.ErrNoFile, api.ErrNoFile, api.ErrNoFile, api.ErrNoFile, api.ErrNoFile}
	for before, err := range named {
		if !want {
			err = api.ErrName
		}
		if _, got := filesystem.Do(g, api.Change{Kind: before + 1, Name: name, To: "to"}); got != err {
			t.Errorf("Do of the kind %d of %q returns %d, want %d", before+1, name, got, err)
		}
	}
	for _, kind := range []int{api.Rename, api.StartCopy} {
		err := api.OK
		if !want {
			err = api.ErrName
		}
		if _, got := filesystem.Do(g, api.Change{Kind: kind, Name: "zz", To: name}); got != err {
			t.Errorf("Do of the kind %d to %q returns %d, want %d", kind, name, got, err)
		}
	}
}

func TestCheckOfNames(t *testing.T) {
	a, b, c := api.Name{Name: "a", Inode: 1}, api.Name{Name: "b", Inode: 2}, api.Name{Name: "c", Inode: 1}
	wrong := api.Name{Name: "b", Inode: 3}
	for _, x := range []struct {
		names []api.Name
		want  bool
	}{
		{nil, false}, // no name of the files
		{names(a), false},
		{names(b), false},
		{names(a, b), true},
		{names(a, b, c), true},
		{names(b, a), false},
		{names(a, c, b), false},
		{names(b, a, c), false},
		{names(a, a, b), false},
		{names(a, b, b), false},
		{names(a, b, api.Name{Name: "b", Inode: 1}), false},
		{names(a, wrong), false},
		{names(a, b, api.Name{Name: "c", Inode: 3}), false},
		{names(a, b, api.Name{Name: "c", Inode: 0}), false},
		{names(a, b, api.Name{Name: "c", Inode: -1}), false},
		{names(a, b, api.Name{Name: " ", Inode: 1}), false},
		{names(api.Name{Name: "", Inode: 1}, a, b), false},
		{names(api.Name{Name: "B", Inode: 2}, a), true}, // the order is that of the bytes
		{names(a, api.Name{Name: "B", Inode: 2}), false},
		{names(a, api.Name{Name: "aa", Inode: 1}, b), true},
		{names(api.Name{Name: "aa", Inode: 1}, a, b), false},
		{names(api.Name{Name: "log.10", Inode: 1}, api.Name{Name: "log.9", Inode: 2}), true},
	} {
		wantCheck(t, api.FileSystem{Names: x.names, Files: plain(1, 2)}, x.want)
	}
	wantCheck(t, api.FileSystem{Names: names(a), Open: []int{1}}, false)
}

func TestCheckOfTheNumberOfNames(t *testing.T) {
	var f, links api.FileSystem
	links.Files = plain(1)
	for i := range api.MaxFiles + 1 {
		name := fmt.Sprintf("n%02d", i)
		f.Names = append(f.Names, api.Name{Name: name, Inode: i + 1})
		f.Files = append(f.Files, plain(i+1)...)
		links.Names = append(links.Names, api.Name{Name: name, Inode: 1})
		wantCheck(t, f, i < api.MaxFiles)
		wantCheck(t, links, i < api.MaxFiles)
	}
	// The number of files is not limited.
	var held api.FileSystem
	for inode := 1; inode <= 1000; inode++ {
		held.Files = append(held.Files, plain(inode)...)
		held.Open = append(held.Open, inode)
	}
	wantCheck(t, held, true)
}

func TestCheckOfFiles(t *testing.T) {
	for _, x := range []struct {
		inodes []int
		want   bool
	}{
		{[]int{1}, true}, {[]int{7}, true}, {[]int{math.MaxInt}, true}, {[]int{1, 2, 3}, true}, {[]int{1, 5, math.MaxInt}, true},
		{[]int{0}, false}, {[]int{-1}, false}, {[]int{math.MinInt}, false}, {[]int{0, 1}, false}, {[]int{math.MinInt, math.MaxInt}, false},
	} {
		wantCheck(t, api.FileSystem{Files: plain(x.inodes...), Open: x.inodes}, x.want)
	}
	for _, inodes := range [][]int{{2, 1}, {1, 1}, {1, 2, 2}, {1, 3, 2}, {2, 2, 3}, {3, 1, 2}} {
		wantCheck(t, api.FileSystem{Files: plain(inodes...), Open: []int{1, 2, 3}}, false)
	}
	for _, x := range []struct {
		open []int
		want bool
	}{
		{[]int{2, 3}, true}, {[]int{1, 2, 3}, true}, {[]int{2, 3, 4}, true}, {[]int{math.MinInt, 0, 2, 3, 9, math.MaxInt}, true},
		{[]int{2}, false}, {[]int{3}, false}, {[]int{1}, false}, {nil, false}, {[]int{1, 3}, false}, {[]int{1, 2, 4}, false}, {[]int{3, 2}, false}, {[]int{2, 3, 3}, false}, {[]int{2, 2, 3}, false}, {[]int{2, 3, 1}, false}, {[]int{4, 2, 3}, false}, {[]int{2, 3, math.MinInt}, false},
	} {
		wantCheck(t, api.FileSystem{Names: names(api.Name{Name: "a", Inode: 1}), Files: plain(1, 2, 3), Open: x.open}, x.want)
	}
	wantCheck(t, api.FileSystem{Open: []int{-3, 0, 4}}, true)
	wantCheck(t, api.FileSystem{Open: []int{4, 4}}, false)
	wantCheck(t, api.FileSystem{Open: []int{4, 0}}, false)
}

func TestCheckOfSizes(t *testing.T) {
	longest, tooLong := make([]byte, api.MaxFile), make([]byte, api.MaxFile+1)
	wantCheckOfFile(t, api.File{Inode: 5, Data: longest, Whole: true}, true)
	wantCheckOfFile(t, api.File{Inode: 5, Data: tooLong, Whole: true}, false)
	wantCheckOfFile(t, api.File{Inode: 5, Data: longest, Copy: true, Whole: true}, true)
	wantCheckOfFile(t, api.File{Inode: 5, Data: tooLong, Copy: true, Whole: true}, false)
	wantCheckOfFile(t, api.File{Inode: 5, Data: longest, Copy: true, Left: api.MaxFile}, true)
	// What is not copied yet counts.
	wantCheckOfFile(t, api.File{Inode: 5, Data: tooLong, Copy: true, Left: api.MaxFile + 1}, false)
	wantCheckOfFile(t, api.File{Inode: 5, Data: tooLong, Copy: true, Left: 1}, false)
}

func TestCheckOfCopies(t *testing.T) {
	abc := []byte("abc")
	for _, copied := range []bool{false, true} {
		for _, whole := range []bool{false, true} {
			for _, left := range []int{math.MinInt, -4, -1, 0, 1, 2, 3, 4, math.MaxInt} {
				want := whole && left == 0 || copied && !whole && 0 <= left && left <= 3
				wantCheckOfFile(t, api.File{Inode: 5, Data: abc, Copy: copied, Whole: whole, Left: left}, want)
				want = want && left == 0
				wantCheckOfFile(t, api.File{Inode: 5, Copy: copied, Whole: whole, Left: left}, want)
			}
		}
	}
}

// Check is total: sizes that no directory has are no reason to wait.
func TestCheckOfLargeValues(t *testing.T) {
	const count = 200000
	var f api.FileSystem
	for inode := 1; inode <= count; inode++ {
		f.Files = append(f.Files, plain(inode)...)
		f.Open = append(f.Open, inode)
	}
	wantCheck(t, f, true)
	for i := range count {
		f.Names = append(f.Names, api.Name{Name: strings.Repeat("n", 1+i%32), Inode: 1 + i})
	}
	if filesystem.Check(f) {
		t.Errorf("Check of %d names = true", count)
	}
}
