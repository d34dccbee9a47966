package filesystem

import (
	"bytes"
	"slices"

	"logtide/api"
)

// directory is a file system that is being changed. It has Names and Files of its own; Open and the bytes of the files are shared with the value that it was made from, and are replaced, not modified.
type directory api.FileSystem

func edit(f api.FileSystem) *directory {
	return &directory{Names: slices.Clone(f.Names), Files: slices.Clone(f.Files), Open: f.Open}
}

// changes returns the changes, indexed by their kinds. Each of them finds all of its errors before it modifies the directory, and leaves files that lose their last name to sweep.
func changes() [api.Replace + 1]func(*directory, api.Change) api.Errno {
	return [...]func(*directory, api.Change) api.Errno{
		api.Create:    (*directory).create,
		api.Append:    (*directory).append,
		api.Truncate:  (*directory).truncate,
		api.Rename:    (*directory).rename,
		api.StartCopy: (*directory).startCopy,
		api.CopyMore:  (*directory).copyMore,
		api.Remove:    (*directory).remove,
		api.Replace:   (*directory).replace,
	}
}

func (d *directory) create(c api.Change) api.Errno {
	if err := d.checkNew(c.Name); err != api.OK {
		return err
	}
	if len(c.Data) > api.MaxFile {
		return api.ErrTooLong
	}
	d.point(c.Name, d.add(api.File{Data: c.Data, Whole: true}))
	return api.OK
}

func (d *directory) append(c api.Change) api.Errno {
	x := d.named(c.Name)
	switch {
	case x == nil:
		return api.ErrNoFile
	case x.Copy:
		return api.ErrCopying
	case len(c.Data) > api.MaxFile-len(x.Data):
		return api.ErrTooLong
	}
	x.Data = slices.Concat(x.Data, c.Data)
	return api.OK
}

func (d *directory) truncate(c api.Change) api.Errno {
	x := d.named(c.Name)
	switch {
	case x == nil:
		return api.ErrNoFile
	case x.Copy:
		return api.ErrCopying
	}
	x.Data = nil
	return api.OK
}

func (d *directory) rename(c api.Change) api.Errno {
	x := d.named(c.Name)
	switch {
	case x == nil:
		return api.ErrNoFile
	case c.To == c.Name:
		return api.ErrState
	}
	d.forget(c.Name)
	d.point(c.To, x.Inode)
	return api.OK
}

func (d *directory) startCopy(c api.Change) api.Errno {
	x := d.named(c.Name)
	switch {
	case x == nil:
		return api.ErrNoFile
	case x.Copy && !x.Whole:
		return api.ErrCopying
	}
	if err := d.checkNew(c.To); err != api.OK {
		return err
	}
	d.point(c.To, d.add(api.File{Data: x.Data, Copy: true, Left: len(x.Data)}))
	return api.OK
}

func (d *directory) copyMore(c api.Change) api.Errno {
	x := d.named(c.Name)
	switch {
	case x == nil:
		return api.ErrNoFile
	case !x.Copy || x.Whole:
		return api.ErrState
	case c.N < 1:
		return api.ErrRange
	}
	x.Left = max(x.Left-c.N, 0)
	x.Whole = x.Left == 0
	return api.OK
}

func (d *directory) remove(c api.Change) api.Errno {
	if d.named(c.Name) == nil {
		return api.ErrNoFile
	}
	d.forget(c.Name)
	return api.OK
}

func (d *directory) replace(c api.Change) api.Errno {
	if d.named(c.Name) == nil {
		return api.ErrNoFile
	}
	if len(c.Data) > api.MaxFile {
		return api.ErrTooLong
	}
	d.point(c.Name, d.add(api.File{Data: c.Data, Whole: true}))
	return api.OK
}

// checkNew returns the error of one more name.
func (d *directory) checkNew(name string) api.Errno {
	if _, exists := findName(d.Names, name); exists {
		return api.ErrExists
	}
	if len(d.Names) >= api.MaxFiles {
		return api.ErrTooMany
	}
	return api.OK
}

// named returns the file with this name, and nil if there is none. It is valid until files are added.
func (d *directory) named(name string) *api.File {
	at, exists := findName(d.Names, name)
	if !exists {
		return nil
	}
	if at = findFile(d.Files, d.Names[at].Inode); at < 0 {
		return nil
	}
	return &d.Files[at]
}

// add adds a file with the least inode that no file has, and returns this inode. The bytes are copied, so that the caller's slice is not kept, and no two files share memory.
func (d *directory) add(x api.File) int {
	at := 0
	for at < len(d.Files) && d.Files[at].Inode == at+1 {
		at++
	}
	x.Inode = at + 1
	x.Data = bytes.Clone(x.Data)
	d.Files = slices.Insert(d.Files, at, x)
	return x.Inode
}

// point makes a name, which need not exist, that of a file.
func (d *directory) point(name string, inode int) {
	at, exists := findName(d.Names, name)
	if !exists {
		d.Names = slices.Insert(d.Names, at, api.Name{Name: name})
	}
	d.Names[at].Inode = inode
}

// forget removes a name.
func (d *directory) forget(name string) {
	d.Names = slices.DeleteFunc(d.Names, func(n api.Name) bool { return n.Name == name })
}

// sweep removes the files that have no name and are not held open.
func (d *directory) sweep() {
	d.Files = slices.DeleteFunc(d.Files, func(x api.File) bool { return !inUse(api.FileSystem(*d), x.Inode) })
}
