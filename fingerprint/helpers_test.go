package fingerprint_test

import (
	"slices"
	"testing"

	"logtide/api"
	"logtide/filesystem"
	"logtide/fingerprint"
)

// Contents of four bytes whose numbers with the size 4 are multiples of the modulus apart, and one whose number is 0. The digits of the modulus to the base 257 are 126, 131, 126, 128.
const (
	zeros    = "\x00\x00\x00\x00"
	likeZero = "\x7e\x83\x7e\x80"
	none     = "\x7d\x82\x7d\x7f"
)

func create(name, data string) api.Change {
	return api.Change{Kind: api.Create, Name: name, Data: []byte(data)}
}

func appendTo(name, data string) api.Change {
	return api.Change{Kind: api.Append, Name: name, Data: []byte(data)}
}

func rename(name, to string) api.Change {
	return api.Change{Kind: api.Rename, Name: name, To: to}
}

func startCopy(name, to string) api.Change {
	return api.Change{Kind: api.StartCopy, Name: name, To: to}
}

func copyMore(name string, n int) api.Change {
	return api.Change{Kind: api.CopyMore, Name: name, N: n}
}

func remove(name string) api.Change { return api.Change{Kind: api.Remove, Name: name} }

// changed returns the directory to which changes of f lead that have no error.
func changed(t *testing.T, f api.FileSystem, l ...api.Change) api.FileSystem {
	t.Helper()
	f, errors := filesystem.Run(f, l)
	for i, err := range errors {
		if err != api.OK {
			t.Fatalf("the change %d has the error %d", i, err)
		}
	}
	return f
}

func after(t *testing.T, l ...api.Change) api.FileSystem {
	t.Helper()
	return changed(t, filesystem.New(), l...)
}

// number returns the number of a content that has one.
func number(t *testing.T, data string, size int) int {
	t.Helper()
	n, ok := fingerprint.Number([]byte(data), size)
	if !ok {
		t.Fatalf("%q has no number with the size %d", data, size)
	}
	return n
}

func wantScan(t *testing.T, f api.FileSystem, prefix string, size int, want ...api.Seen) {
	t.Helper()
	if got := fingerprint.Scan(f, prefix, size); !slices.Equal(got, want) {
		t.Errorf("Scan(%v, %q, %d) = %v, want %v", f, prefix, size, got, want)
	}
}

// wantInodes reports an error if a scan with the size 1 does not find exactly these inodes.
func wantInodes(t *testing.T, f api.FileSystem, prefix string, want ...int) {
	t.Helper()
	var got []int
	for _, s := range fingerprint.Scan(f, prefix, 1) {
		got = append(got, s.Inode)
	}
	slices.Sort(got)
	if !slices.Equal(got, want) {
		t.Errorf("Scan(%v, %q, 1) finds the inodes %v, want %v", f, prefix, got, want)
	}
}

// contents returns strings as bytes.
func contents(l ...string) [][]byte {
	var files [][]byte
	for _, s := range l {
		files = append(files, []byte(s))
	}
	return files
}

// plain returns files of one byte with these inodes.
func plain(inodes ...int) []api.File {
	var l []api.File
	for _, inode := range inodes {
		l = append(l, api.File{Inode: inode, Data: []byte("1"), Whole: true})
	}
	return l
}

// roomy returns a copy of l with spare capacity that contains filler.
func roomy[E any](l []E, filler E) []E {
	return append(append(make([]E, 0, len(l)+2), l...), filler, filler)[:len(l)]
}

// whole returns a copy of l with what is in its spare capacity.
func whole[E any](l []E) []E { return slices.Clone(l[:cap(l)]) }
