package filesystem

import (
	"cmp"
	"slices"

	"logtide/api"
)

// Check reports whether a value is a directory.
func Check(f api.FileSystem) bool {
	// The files come last: inUse needs the order of Open.
	return ascending(f.Open, func(inode int) int { return inode }) && checkNames(f) && checkFiles(f)
}

func checkNames(f api.FileSystem) bool {
	if len(f.Names) > api.MaxFiles || !ascending(f.Names, func(n api.Name) string { return n.Name }) {
		return false
	}
	for _, n := range f.Names {
		if !isName(n.Name) || findFile(f.Files, n.Inode) < 0 {
			return false
		}
	}
	return true
}

func checkFiles(f api.FileSystem) bool {
	for _, x := range f.Files {
		if !checkFile(x) || !inUse(f, x.Inode) {
			return false
		}
	}
	return ascending(f.Files, func(x api.File) int { return x.Inode })
}

// checkFile reports whether a file is right by itself.
func checkFile(x api.File) bool {
	if x.Inode < 1 || len(x.Data) > api.MaxFile {
		return false
	}
	if x.Whole {
		return x.Left == 0
	}
	return x.Copy && 0 <= x.Left && x.Left <= len(x.Data)
}

// ascending reports whether the key of each element is less than that of the next one.
func ascending[E any, K cmp.Ordered](l []E, key func(E) K) bool {
	for i := 1; i < len(l); i++ {
		if key(l[i-1]) >= key(l[i]) {
			return false
		}
	}
	return true
}

// inUse reports whether a file has a name or is held open.
func inUse(f api.FileSystem, inode int) bool {
	_, open := slices.BinarySearch(f.Open, inode)
	return open || slices.ContainsFunc(f.Names, func(n api.Name) bool { return n.Inode == inode })
}

// hasNames reports whether the names that a change needs are file names.
func hasNames(c api.Change) bool {
	two := c.Kind == api.Rename || c.Kind == api.StartCopy
	return isName(c.Name) && (!two || isName(c.To))
}

// isName reports whether s is a file name.
func isName(s string) bool {
	if s == "" || len(s) > api.MaxName {
		return false
	}
	for _, b := range []byte(s) {
		if b < 33 || b > 126 {
			return false
		}
	}
	return true
}
