package pattern

import "logtide/api"

// byteSet tells for each byte whether it is in the set.
type byteSet [256]bool

// setOf returns the set of the bytes of the ranges.
func setOf(ranges []api.Range) byteSet {
	var set byteSet
	set.add(ranges)
	return set
}

// add adds the bytes of the ranges.
func (s *byteSet) add(ranges []api.Range) {
	for _, r := range ranges {
		for c := int(r.Lo); c <= int(r.Hi); c++ {
			s[c] = true
		}
	}
}

// others returns the set of the bytes that are not in s.
func (s byteSet) others() byteSet {
	var others byteSet
	for c, in := range s {
		others[c] = !in
	}
	return others
}

// ranges returns the ranges of s as a Class has them.
func (s byteSet) ranges() []api.Range {
	var ranges []api.Range
	for c, in := range s {
		switch {
		case !in:
		case c > 0 && s[c-1]:
			ranges[len(ranges)-1].Hi = byte(c)
		default:
			ranges = append(ranges, byteRange(byte(c), byte(c)))
		}
	}
	return ranges
}

// byteRange returns the range of the bytes from lo to hi.
func byteRange(lo, hi byte) api.Range { return api.Range{Lo: lo, Hi: hi} }

// isPrintable reports whether c is a byte that can occur in a source.
func isPrintable(c byte) bool { return 32 <= c && c <= 126 }
