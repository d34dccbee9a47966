package filesystem_test

import (
	"bytes"
	"maps"
	"regexp"
	"slices"

	"logtide/api"
)

// The functions of this file are the promises word for word, on maps. The tests compare the package with them, for random directories.

var aFileName = regexp.MustCompile(`^[\x21-\x7e]{1,32}$`)

// disk is a directory. Its files contain the bytes that are there; rest has those that are not copied yet.
type disk struct {
	names map[string]int
	files map[int]api.File
	rest  map[int][]byte
	open  map[int]bool
}

func diskOf(f api.FileSystem) disk {
	d := disk{names: map[string]int{}, files: map[int]api.File{}, rest: map[int][]byte{}, open: map[int]bool{}}
	for _, n := range f.Names {
		d.names[n.Name] = n.Inode
	}
	for _, x := range f.Files {
		there := len(x.Data) - x.Left
		d.rest[x.Inode] = x.Data[there:]
		x.Data, x.Left = x.Data[:there], 0
		d.files[x.Inode] = x
	}
	for _, inode := range f.Open {
		d.open[inode] = true
	}
	return d
}

func (d disk) value() api.FileSystem {
	f := api.FileSystem{Open: slices.Sorted(maps.Keys(d.open))}
	for _, name := range slices.Sorted(maps.Keys(d.names)) {
		f.Names = append(f.Names, api.Name{Name: name, Inode: d.names[name]})
	}
	for _, inode := range slices.Sorted(maps.Keys(d.files)) {
		x := d.files[inode]
		x.Data, x.Left = slices.Concat(x.Data, d.rest[inode]), len(d.rest[inode])
		f.Files = append(f.Files, x)
	}
	return f
}

// newInode is the first sentence of P7.2.
func (d disk) newInode() int {
	inode := 1
	for hasKey(d.files, inode) {
		inode++
	}
	return inode
}

// removeUnused is the second sentence of P7.2.
func (d disk) removeUnused() {
	for inode := range d.files {
		if !d.open[inode] && !slices.Contains(slices.Collect(maps.Values(d.names)), inode) {
			delete(d.files, inode)
		}
	}
}

func hasKey[K comparable, V any](m map[K]V, key K) bool {
	_, ok := m[key]
	return ok
}

// rule is an error, and whether it applies.
type rule struct {
	applies bool
	err     api.Errno
}

// errorByDefinition returns the error of P7.3.
func errorByDefinition(d disk, c api.Change) api.Errno {
	needsTo := c.Kind == api.Rename || c.Kind == api.StartCopy
	rules := []rule{
		{c.Kind < 1 || c.Kind > 8, api.ErrRange},
		{!aFileName.MatchString(c.Name) || needsTo && !aFileName.MatchString(c.To), api.ErrName},
	}
	x := d.files[d.names[c.Name]]
	noFile := rule{!hasKey(d.names, c.Name), api.ErrNoFile}
	tooMany := rule{len(d.names) >= 40, api.ErrTooMany}
	switch c.Kind {
	case api.Create:
		rules = append(rules, rule{hasKey(d.names, c.Name), api.ErrExists}, tooMany, rule{len(c.Data) > 60000, api.ErrTooLong})
	case api.Append:
		rules = append(rules, noFile, rule{x.Copy, api.ErrCopying}, rule{len(x.Data)+len(c.Data) > 60000, api.ErrTooLong})
	case api.Truncate:
		rules = append(rules, noFile, rule{x.Copy, api.ErrCopying})
	case api.Rename:
		rules = append(rules, noFile, rule{c.To == c.Name, api.ErrState})
	case api.StartCopy:
		rules = append(rules, noFile, rule{x.Copy && !x.Whole, api.ErrCopying}, rule{hasKey(d.names, c.To), api.ErrExists}, tooMany)
	case api.CopyMore:
		rules = append(rules, noFile, rule{!x.Copy || x.Whole, api.ErrState}, rule{c.N < 1, api.ErrRange})
	case api.Remove:
		rules = append(rules, noFile)
	case api.Replace:
		rules = append(rules, noFile, rule{len(c.Data) > 60000, api.ErrTooLong})
	}
	for _, r := range rules {
		if r.applies {
			return r.err
		}
	}
	return api.OK
}

// doByDefinition is P7.3.
func doByDefinition(f api.FileSystem, c api.Change) (api.FileSystem, api.Errno) {
	d := diskOf(f)
	if err := errorByDefinition(d, c); err != api.OK {
		return f, err
	}
	inode, free := d.names[c.Name], d.newInode()
	x := d.files[inode]
	switch c.Kind {
	case api.Create, api.Replace:
		d.files[free] = api.File{Inode: free, Data: c.Data, Whole: true}
		d.names[c.Name] = free
	case api.Append:
		x.Data = slices.Concat(x.Data, c.Data)
		d.files[inode] = x
	case api.Truncate:
		x.Data = nil
		d.files[inode] = x
	case api.Rename:
		delete(d.names, c.Name)
		d.names[c.To] = inode
	case api.StartCopy:
		d.files[free] = api.File{Inode: free, Copy: true}
		d.rest[free] = x.Data
		d.names[c.To] = free
	case api.CopyMore:
		rest := d.rest[inode]
		n := min(c.N, len(rest))
		x.Data = slices.Concat(x.Data, rest[:n])
		d.rest[inode] = rest[n:]
		x.Whole = n == len(rest)
		d.files[inode] = x
	case api.Remove:
		delete(d.names, c.Name)
	}
	d.removeUnused()
	return d.value(), api.OK
}

// holdByDefinition is P7.5.
func holdByDefinition(f api.FileSystem, inodes []int) api.FileSystem {
	d := diskOf(f)
	clear(d.open)
	for _, inode := range inodes {
		if hasKey(d.files, inode) {
			d.open[inode] = true
		}
	}
	d.removeUnused()
	return d.value()
}

// checkByDefinition is P7.1.
func checkByDefinition(f api.FileSystem) bool {
	var names []string
	var inodes, named []int
	for _, x := range f.Files {
		inodes = append(inodes, x.Inode)
	}
	for _, n := range f.Names {
		names = append(names, n.Name)
		named = append(named, n.Inode)
		if !aFileName.MatchString(n.Name) || !slices.Contains(inodes, n.Inode) {
			return false
		}
	}
	for _, x := range f.Files {
		switch {
		case x.Inode <= 0, len(x.Data) > 60000,
			!slices.Contains(named, x.Inode) && !slices.Contains(f.Open, x.Inode),
			!x.Copy && !x.Whole,
			x.Left < 0, x.Left > len(x.Data), x.Whole && x.Left != 0:
			return false
		}
	}
	return len(f.Names) <= 40 && isSet(names) && isSet(inodes) && isSet(f.Open)
}

// isSet reports whether a list is in strictly ascending order.
func isSet[E int | string](l []E) bool {
	sorted := slices.Compact(slices.Sorted(slices.Values(l)))
	return slices.Equal(sorted, l)
}

// readByDefinition is P7.4.
func readByDefinition(f api.FileSystem, inode int) (api.File, bool) {
	x, ok := diskOf(f).files[inode]
	return x, ok
}

// linesByDefinition is P7.6.
func linesByDefinition(data []byte) []api.Span {
	var l []api.Span
	at := 0
	for _, line := range bytes.SplitAfter(data, []byte("\n")) {
		if bytes.HasSuffix(line, []byte("\n")) {
			l = append(l, api.Span{From: at, To: at + len(line)})
		}
		at += len(line)
	}
	return l
}
