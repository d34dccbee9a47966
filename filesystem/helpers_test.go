package filesystem_test

import (
	"bytes"
	"fmt"
	"reflect"
	"slices"
	"strings"
	"testing"

	"logtide/api"
	"logtide/filesystem"
)

func create(name, data string) api.Change {
	return api.Change{Kind: api.Create, Name: name, Data: []byte(data)}
}

func appendTo(name, data string) api.Change {
	return api.Change{Kind: api.Append, Name: name, Data: []byte(data)}
}

func truncate(name string) api.Change { return api.Change{Kind: api.Truncate, Name: name} }

func rename(name, to string) api.Change {
	return api.Change{Kind: api.Rename, Name: name, To: to}
}

func startCopy(name, to string) api.Change {
	return api.Change{Kind: api.StartCopy, Name: name, To: to}
}

func copyMore(name string, n int) api.Change {
	return api.Change{Kind: api.CopyMore, Name: name, N: n}
}

func remove(name string) api.Change { return api.Change{Kind: api.Remove, Name: name} }

func replace(name, data string) api.Change {
	return api.Change{Kind: api.Replace, Name: name, Data: []byte(data)}
}

// size returns a string of n bytes.
func size(n int) string { return strings.Repeat("x", n) }

// numbered returns changes that create n files, of which n0 is the first one.
func numbered(n int) []api.Change {
	var l []api.Change
	for i := range n {
		l = append(l, create(fmt.Sprint("n", i), ""))
	}
	return l
}

// after returns the directory to which changes lead that have no error.
func after(t *testing.T, l ...api.Change) api.FileSystem {
	t.Helper()
	return changed(t, filesystem.New(), l...)
}

// changed returns the directory to which changes of f lead that have no error.
func changed(t *testing.T, f api.FileSystem, l ...api.Change) api.FileSystem {
	t.Helper()
	for _, c := range l {
		next, err := filesystem.Do(f, c)
		if err != api.OK {
			t.Fatalf("Do(%s, %s) = %d", show(f), showChange(c), err)
		}
		f = next
	}
	return f
}

// wantChange reports an error if a change does not lead from f to the directory that show returns as want. It returns this directory.
func wantChange(t *testing.T, f api.FileSystem, c api.Change, want string) api.FileSystem {
	t.Helper()
	before := show(f)
	next, err := filesystem.Do(f, c)
	if got := show(next); got != want || err != api.OK {
		t.Errorf("Do(%s, %s) = %s, %d, want %s, 0", before, showChange(c), got, err, want)
	}
	wantValid(t, next)
	if show(f) != before {
		t.Errorf("%s is %s after %s", before, show(f), showChange(c))
	}
	return next
}

// wantError reports an error if a change of f does not return this error, and f as it was.
func wantError(t *testing.T, f api.FileSystem, c api.Change, want api.Errno) {
	t.Helper()
	before := show(f)
	next, err := filesystem.Do(f, c)
	if err != want || !reflect.DeepEqual(next, f) || show(f) != before {
		t.Errorf("Do(%s, %s) = %s, %d, want %d", before, showChange(c), show(next), err, want)
	}
}

func wantValid(t *testing.T, f api.FileSystem) {
	t.Helper()
	if !filesystem.Check(f) {
		t.Errorf("Check(%s) = false", show(f))
	}
}

// wantRead reports an error if the file of a name does not have these bytes.
func wantRead(t *testing.T, f api.FileSystem, name, want string) {
	t.Helper()
	inode, ok := filesystem.Lookup(f, name)
	x, found := filesystem.Read(f, inode)
	if !ok || !found || x.Inode != inode || string(x.Data) != want || x.Left != 0 {
		t.Errorf("%s of %s is %.40q (%v, %v), Left %d, want %.40q", name, show(f), x.Data, ok, found, x.Left, want)
	}
}

// show returns a directory as text: the names with their inodes, the files, and the inodes of Open. A file that is no copy has a '=' between inode and bytes, a whole copy '+', and another copy '?' and a '.' after the bytes that are there.
func show(f api.FileSystem) string {
	var names, files, open []string
	for _, n := range f.Names {
		names = append(names, fmt.Sprintf("%s:%d", n.Name, n.Inode))
	}
	for _, x := range f.Files {
		files = append(files, showFile(x))
	}
	for _, inode := range f.Open {
		open = append(open, fmt.Sprint(inode))
	}
	return strings.TrimSpace(strings.Join([]string{strings.Join(names, " "), strings.Join(files, " "), strings.Join(open, " ")}, " | "))
}

func showFile(x api.File) string {
	there := max(len(x.Data)-x.Left, 0)
	switch {
	case x.Whole && !x.Copy && x.Left == 0:
		return fmt.Sprintf("%d=%s", x.Inode, brief(x.Data))
	case x.Whole && x.Copy && x.Left == 0:
		return fmt.Sprintf("%d+%s", x.Inode, brief(x.Data))
	case !x.Whole && x.Copy && 0 <= x.Left && x.Left <= len(x.Data):
		return fmt.Sprintf("%d?%s.%s", x.Inode, brief(x.Data[:there]), brief(x.Data[there:]))
	}
	return fmt.Sprintf("%d: copy %v, whole %v, left %d, %q", x.Inode, x.Copy, x.Whole, x.Left, brief(x.Data))
}

func brief(data []byte) string {
	if len(data) > 40 {
		return fmt.Sprintf("<%d bytes>", len(data))
	}
	return string(data)
}

func showChange(c api.Change) string {
	return fmt.Sprintf("{%d %q %q %q %d}", c.Kind, c.Name, c.To, brief(c.Data), c.N)
}

// same reports whether two directories are the same.
func same(f, g api.FileSystem) bool {
	return slices.Equal(f.Names, g.Names) && slices.Equal(f.Open, g.Open) && slices.EqualFunc(f.Files, g.Files, sameFile)
}

func sameFile(x, y api.File) bool {
	return x.Inode == y.Inode && x.Copy == y.Copy && x.Whole == y.Whole && x.Left == y.Left && bytes.Equal(x.Data, y.Data)
}

// roomy returns a copy of l with spare capacity that contains filler.
func roomy[E any](l []E, filler E) []E {
	return append(append(make([]E, 0, len(l)+2), l...), filler, filler)[:len(l)]
}

// roomyDirectory returns a copy of f all of whose slices have spare capacity.
func roomyDirectory(f api.FileSystem) api.FileSystem {
	files := roomy(f.Files, api.File{Inode: -1})
	for i := range files {
		files[i].Data = roomy(files[i].Data, '#')
	}
	return api.FileSystem{Names: roomy(f.Names, api.Name{Name: "#", Inode: -1}), Files: files, Open: roomy(f.Open, -1)}
}

// memory is a copy of all that a directory and a change can reach.
type memory struct {
	names []api.Name
	files []api.File
	data  [][]byte
	open  []int
}

func memoryOf(f api.FileSystem, c api.Change) memory {
	m := memory{names: whole(f.Names), files: whole(f.Files), open: whole(f.Open), data: [][]byte{whole(c.Data)}}
	for i, x := range m.files {
		m.data = append(m.data, whole(x.Data))
		m.files[i].Data = nil
	}
	return m
}

// whole returns a copy of l with what is in its spare capacity.
func whole[E any](l []E) []E { return slices.Clone(l[:cap(l)]) }
