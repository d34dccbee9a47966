package library

import (
	"slices"

	"logtide/api"
)

// openSet is the set of the definitions that are being expanded. It is passed by value, so that nothing needs to be removed when one of them is finished.
type openSet struct {
	indices [api.MaxLibrary]int
	count   int      // of indices
	full    *openSet // the members before these, because Expand takes more than api.MaxLibrary definitions
}

// has reports whether the definition with this index is in the set.
func (s openSet) has(index int) bool {
	for !slices.Contains(s.indices[:s.count], index) {
		if s.full == nil {
			return false
		}
		s = *s.full
	}
	return true
}

// with returns the set with one more definition.
func (s openSet) with(index int) openSet {
	next := s
	if s.count == len(s.indices) {
		next = openSet{full: &s}
	}
	next.indices[next.count] = index
	next.count++
	return next
}
