package fingerprint_test

import (
	"math"
	"slices"
	"strings"
	"testing"

	"logtide/api"
	"logtide/filesystem"
	"logtide/fingerprint"
)

// P8.2

func TestScanByNames(t *testing.T) {
	f := after(t, create("app", "1"), create("app.1", "2"), create("apple", "3"), create("ap", "4"), create("App", "5"), create("my-app", "6"), create("zapp", "7"))
	wantInodes(t, f, "app", 1, 2, 3)
	wantInodes(t, f, "app.", 2)
	wantInodes(t, f, "app.1", 2)
	wantInodes(t, f, "app.11")
	wantInodes(t, f, "ap", 1, 2, 3, 4)
	wantInodes(t, f, "a", 1, 2, 3, 4)
	wantInodes(t, f, "A", 5)
	wantInodes(t, f, "pp")
	wantInodes(t, f, "", 1, 2, 3, 4, 5, 6, 7)
	for _, prefix := range []string{"b", " ", "*", "\xff", "app\x00", strings.Repeat("a", 1000)} {
		wantInodes(t, f, prefix)
		wantInodes(t, filesystem.New(), prefix)
	}
	wantInodes(t, filesystem.New(), "")
}

func TestScanOfHeldFiles(t *testing.T) {
	f := after(t, create("a", "1"), create("b", "2"), create("c", "3"), create("d", "4"))
	f = filesystem.Hold(f, []int{1, 3})
	wantInodes(t, f, "d", 1, 3, 4)
	wantInodes(t, f, "x", 1, 3)
	wantInodes(t, f, "a", 1, 3)
	wantInodes(t, f, "", 1, 2, 3, 4)
	f = changed(t, f, remove("a"), remove("b"))
	wantInodes(t, f, "a", 1, 3)
	wantInodes(t, f, "b", 1, 3)
	wantInodes(t, f, "d", 1, 3, 4)
	wantInodes(t, f, "", 1, 3, 4)
	wantInodes(t, filesystem.Hold(f, nil), "a")
	wantInodes(t, filesystem.Hold(f, nil), "", 3, 4)
	wantScan(t, f, "d", 1, api.Seen{File: 50, Inode: 1, Size: 1}, api.Seen{File: 52, Inode: 3, Size: 1}, api.Seen{File: 53, Inode: 4, Size: 1})
}

func TestScanOfFilesWithSeveralNames(t *testing.T) {
	f := api.FileSystem{
		Names: []api.Name{{Name: "a", Inode: 2}, {Name: "b", Inode: 1}, {Name: "bb", Inode: 2}, {Name: "c", Inode: 2}},
		Files: plain(1, 2),
	}
	wantInodes(t, f, "a", 2)
	wantInodes(t, f, "b", 1, 2)
	wantInodes(t, f, "bb", 2)
	wantInodes(t, f, "", 1, 2)
	f.Open = []int{2}
	wantInodes(t, f, "", 1, 2)
	wantInodes(t, f, "x", 2)
}

func TestScanOfShortFiles(t *testing.T) {
	f := after(t, create("a", ""), create("b", "1"), create("c", "12"), create("d", "123"))
	wantScan(t, f, "", 2, api.Seen{File: number(t, "12", 2), Inode: 4, Size: 3}, api.Seen{File: number(t, "12", 2), Inode: 3, Size: 2})
}

func TestScanWithSizes(t *testing.T) {
	f := after(t, create("a", strings.Repeat("x", 64)), create("b", strings.Repeat("x", 63)), create("c", ""))
	f = filesystem.Hold(f, []int{1, 2, 3})
	wantScan(t, f, "", 64, api.Seen{File: number(t, strings.Repeat("x", 64), 64), Inode: 1, Size: 64})
	for _, size := range []int{0, -1, 65, 66, math.MinInt, math.MaxInt} {
		wantScan(t, f, "", size)
		wantScan(t, f, "a", size)
		wantScan(t, filesystem.New(), "", size)
	}
	f = after(t, create("a", strings.Repeat("x", api.MaxFile)))
	wantScan(t, f, "", 1, api.Seen{File: number(t, "x", 1), Inode: 1, Size: api.MaxFile})
}

func TestScanOfCopies(t *testing.T) {
	f := after(t, create("a", "1234"), startCopy("a", "b"))
	file := number(t, "12", 2)
	original := api.Seen{File: file, Inode: 1, Size: 4}
	wantScan(t, f, "", 2, original)
	f = changed(t, f, copyMore("b", 1))
	wantScan(t, f, "", 2, original)
	f = changed(t, f, copyMore("b", 1))
	wantScan(t, f, "", 2, original, api.Seen{File: file, Inode: 2, Size: 2})
	f = changed(t, f, copyMore("b", 1))
	wantScan(t, f, "b", 2, api.Seen{File: file, Inode: 2, Size: 3})
	f = changed(t, f, copyMore("b", 1), appendTo("a", "5"), startCopy("b", "c"))
	wantScan(t, f, "", 2, api.Seen{File: file, Inode: 1, Size: 5}, api.Seen{File: file, Inode: 2, Size: 4})
}

func TestOrderOfScans(t *testing.T) {
	// With the size 4, the contents that begin with zeros and likeZero have one number, that of none is less, and that of "abcd" is greater.
	f := after(t, create("a", "abcd"), create("b", zeros), create("c", likeZero+"1"), create("d", zeros+"1"), create("e", "abcde"), create("f", none), create("g", zeros), create("h", likeZero+"123456789"), create("i", none+"1"))
	low, high := number(t, zeros, 4), number(t, "abcd", 4)
	want := []api.Seen{
		{File: 0, Inode: 9, Size: 5},
		{File: 0, Inode: 6, Size: 4},
		{File: low, Inode: 8, Size: 13},
		{File: low, Inode: 3, Size: 5},
		{File: low, Inode: 4, Size: 5},
		{File: low, Inode: 2, Size: 4},
		{File: low, Inode: 7, Size: 4},
		{File: high, Inode: 5, Size: 5},
		{File: high, Inode: 1, Size: 4},
	}
	// A map has another order each time.
	for range 100 {
		wantScan(t, f, "", 4, want...)
	}
}

func TestOrderOfManyFiles(t *testing.T) {
	var l []api.Change
	var want []api.Seen
	for i := range api.MaxFiles {
		l = append(l, create("n"+string([]byte{byte(33 + i)}), "same"))
		want = append(want, api.Seen{File: number(t, "same", 4), Inode: i + 1, Size: 4})
	}
	f := after(t, l...)
	for range 20 {
		wantScan(t, f, "n", 4, want...)
	}
}

// Inodes of names and of Open need not be those of files, nor in any order, and inodes may be any numbers.
func TestScanOfBrokenValues(t *testing.T) {
	f := api.FileSystem{
		Names: []api.Name{{Name: "b", Inode: 7}, {Name: "a", Inode: -3}, {Name: "a", Inode: 9}, {Name: "", Inode: 8}, {Name: "b", Inode: 7}, {Name: "c\n", Inode: 0}},
		Files: plain(math.MaxInt, 8, -3, 7, 0, math.MinInt, 5),
		Open:  []int{math.MaxInt, 6, math.MinInt, 6, math.MaxInt},
	}
	wantInodes(t, f, "a", math.MinInt, -3, math.MaxInt)
	wantInodes(t, f, "b", math.MinInt, 7, math.MaxInt)
	wantInodes(t, f, "c\n", math.MinInt, 0, math.MaxInt)
	wantInodes(t, f, "", math.MinInt, -3, 0, 7, 8, math.MaxInt)
	f.Files = nil
	wantInodes(t, f, "")

	f = api.FileSystem{Names: []api.Name{{Name: "a", Inode: 1}, {Name: "b", Inode: 2}}, Files: []api.File{
		{Inode: 1, Data: []byte("123"), Copy: true, Left: -1},
		{Inode: 2, Data: []byte("123"), Copy: true, Left: math.MaxInt},
	}}
	wantScan(t, f, "", 1, api.Seen{File: number(t, "1", 1), Inode: 1, Size: 3})
}

func TestScanOfFilesWithOneInode(t *testing.T) {
	f := api.FileSystem{Names: []api.Name{{Name: "a", Inode: 1}}, Files: []api.File{{Inode: 1, Data: []byte("12"), Whole: true}, {Inode: 1, Data: []byte("345"), Whole: true}}}
	wantScan(t, f, "", 1, api.Seen{File: number(t, "1", 1), Inode: 1, Size: 2})
}

// P8.3

func TestLongest(t *testing.T) {
	f := after(t, create("a", "12"), create("b", "1234"), create("c", "123"), create("d", "x"), create("e", "1234"))
	l := fingerprint.Scan(f, "", 1)
	for _, c := range []struct {
		data string
		want api.Seen
	}{{"1", api.Seen{File: 50, Inode: 2, Size: 4}}, {"x", api.Seen{File: 121, Inode: 4, Size: 1}}} {
		if got, ok := fingerprint.Longest(l, number(t, c.data, 1)); got != c.want || !ok {
			t.Errorf("Longest(%v, %q) = %v, %v, want %v", l, c.data, got, ok, c.want)
		}
	}
	for _, file := range []int{0, -1, 1, 49, 51, 120, 122, math.MinInt, math.MaxInt} {
		if got, ok := fingerprint.Longest(l, file); got != (api.Seen{}) || ok {
			t.Errorf("Longest(%v, %d) = %v, %v", l, file, got, ok)
		}
	}
}

// The list need not be a scan: the first element counts, in whatever order it is.
func TestLongestOfAnyList(t *testing.T) {
	l := []api.Seen{{File: 5, Inode: 9, Size: 1}, {File: 3, Inode: 8, Size: -7}, {File: 5, Inode: 1, Size: 20}, {}, {File: math.MaxInt, Inode: 2, Size: 3}, {Inode: 4}, {File: 3, Inode: 1, Size: 2}, {File: math.MinInt, Inode: math.MinInt, Size: math.MaxInt}}
	for i, s := range l {
		want := l[slices.IndexFunc(l[:i+1], func(x api.Seen) bool { return x.File == s.File })]
		if got, ok := fingerprint.Longest(l, s.File); got != want || !ok {
			t.Errorf("Longest of %d = %v, %v, want %v", s.File, got, ok, want)
		}
	}
	for _, file := range []int{-1, 1, 2, 4, 6, 8, 9, 20, math.MaxInt - 1, math.MinInt + 1} {
		for _, l := range [][]api.Seen{l, {}, nil} {
			if got, ok := fingerprint.Longest(l, file); got != (api.Seen{}) || ok {
				t.Errorf("Longest of %d = %v, %v", file, got, ok)
			}
		}
	}
	if _, ok := fingerprint.Longest(nil, 0); ok {
		t.Error("an empty list has an element")
	}
	if _, ok := fingerprint.Longest(roomy([]api.Seen{{File: 1}}, api.Seen{File: 2}), 2); ok {
		t.Error("an element of the spare capacity was found")
	}
}
