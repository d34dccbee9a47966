package fingerprint_test

import (
	"math/rand/v2"
	"testing"

	"logtide/api"
	"logtide/filesystem"
	"logtide/fingerprint"
)

// P8.5

func TestNumbersStayWhenBytesAreAppended(t *testing.T) {
	random := rand.New(rand.NewPCG(8, 1))
	for range 2000 {
		data := randomData(random, random.IntN(80))
		size := 1 + random.IntN(64)
		n, ok := fingerprint.Number(data, size)
		longer := append(data, randomData(random, random.IntN(80))...)
		got, gotOK := fingerprint.Number(longer, size)
		if ok && (got != n || !gotOK) {
			t.Fatalf("Number(%q, %d) = %d, %v, that of %q is %d", longer, size, got, gotOK, data, n)
		}
		if !fingerprint.Consistent([][]byte{data, longer}, size) {
			t.Fatalf("%q and %q are not consistent", data, longer)
		}
	}
}

func TestCopiesHaveTheNumbersOfTheirOriginals(t *testing.T) {
	for size := 1; size <= 64; size += 7 {
		text := string(randomData(rand.New(rand.NewPCG(8, 2)), 70))
		f := after(t, create("log", text), startCopy("log", "copy"))
		file := number(t, text, size)
		for there := range len(text) + 1 {
			got, ok := fingerprint.Longest(fingerprint.Scan(f, "copy", size), file)
			if want := (api.Seen{File: file, Inode: 2, Size: there}); ok != (there >= size) || ok && got != want {
				t.Errorf("%d bytes of a copy with the size %d: %v, %v", there, size, got, ok)
			}
			if there < len(text) {
				f = changed(t, f, copyMore("copy", 1), appendTo("log", "more"))
			}
		}
		if l := fingerprint.Scan(f, "", size); len(l) != 2 || l[0] != (api.Seen{File: file, Inode: 1, Size: 350}) || l[1] != (api.Seen{File: file, Inode: 2, Size: 70}) {
			t.Errorf("Scan = %v", l)
		}
	}
}

func TestRotatedFilesKeepTheirNumbers(t *testing.T) {
	f := filesystem.Hold(after(t, create("log", "first\n")), []int{1})
	want := api.Seen{File: number(t, "first", 5), Inode: 1, Size: 6}
	wantScan(t, f, "log", 5, want)
	f = changed(t, f, rename("log", "log.1"), create("log", "next\nlines\n"))
	next := api.Seen{File: number(t, "next\n", 5), Inode: 2, Size: 11}
	wantScan(t, f, "log.1", 5, want)
	wantScan(t, f, "log", 5, want, next)
	f = changed(t, f, appendTo("log.1", "end\n"), rename("log", "log.1"))
	want.Size = 10
	wantScan(t, f, "log", 5, want, next)
	wantScan(t, f, "none", 5, want)
}
