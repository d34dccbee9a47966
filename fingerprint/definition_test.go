package fingerprint_test

import (
	"bytes"
	"math/big"
	"slices"
	"strings"

	"logtide/api"
	"logtide/filesystem"
)

// The functions of this file are the promises word for word. The tests compare the package with them.

// numberByDefinition is P8.1. It takes the remainder once, at the end, of a number of any length.
func numberByDefinition(data []byte, size int) (int, bool) {
	if size < 1 || size > 64 || len(data) < size {
		return 0, false
	}
	h := new(big.Int)
	for _, b := range data[:size] {
		h.Mul(h, big.NewInt(257))
		h.Add(h, big.NewInt(int64(b)))
		h.Add(h, big.NewInt(1))
	}
	return int(h.Mod(h, big.NewInt(1<<31-1)).Int64()), true
}

// scanByDefinition is P8.2, for values in which no two files have the same inode.
func scanByDefinition(f api.FileSystem, prefix string, size int) []api.Seen {
	var l []api.Seen
	for _, x := range f.Files {
		named := slices.ContainsFunc(f.Names, func(n api.Name) bool {
			return n.Inode == x.Inode && strings.HasPrefix(n.Name, prefix)
		})
		read, _ := filesystem.Read(f, x.Inode)
		number, ok := numberByDefinition(read.Data, size)
		if ok && (named || slices.Contains(f.Open, x.Inode)) {
			l = append(l, api.Seen{File: number, Inode: x.Inode, Size: len(read.Data)})
		}
	}
	slices.SortFunc(l, func(a, b api.Seen) int {
		if comesBefore(a, b) {
			return -1
		}
		return 1
	})
	return l
}

func comesBefore(a, b api.Seen) bool {
	if a.File != b.File {
		return a.File < b.File
	}
	if a.Size != b.Size {
		return a.Size > b.Size
	}
	return a.Inode < b.Inode
}

// longestByDefinition is P8.3.
func longestByDefinition(l []api.Seen, file int) (api.Seen, bool) {
	at := slices.IndexFunc(l, func(s api.Seen) bool { return s.File == file })
	if at < 0 {
		return api.Seen{}, false
	}
	return l[at], true
}

// consistentByDefinition is P8.4.
func consistentByDefinition(files [][]byte, size int) bool {
	for _, x := range files {
		for _, y := range files {
			m, mOK := numberByDefinition(x, size)
			n, nOK := numberByDefinition(y, size)
			if mOK && nOK && m == n && !bytes.HasPrefix(x, y) && !bytes.HasPrefix(y, x) {
				return false
			}
		}
	}
	return true
}
