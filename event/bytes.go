package event

import "logtide/api"

const (
	prime        = 4294967291 // the modulus of checksums
	lengthBytes  = 4          // of a length and of a checksum
	integerBytes = 8
)

// Encode encodes an item.
func Encode(i api.Item) ([]byte, api.Errno) {
	if err := CheckItem(i); err != api.OK {
		return nil, err
	}
	var body writer
	visitItem(&body, &i)
	b := appendNumber(nil, len(body.b)+lengthBytes, lengthBytes)
	b = append(b, body.b...)
	return appendNumber(b, Checksum(b), lengthBytes), api.OK
}

// Decode decodes an item at the beginning of b, and returns how many bytes it has.
func Decode(b []byte) (api.Item, int, api.Errno) {
	whole := reader{rest: b}
	following := whole.take(whole.length()) // none if there are fewer, which is too short, too
	if len(following) < lengthBytes {
		return api.Item{}, 0, api.ErrShort
	}
	size := lengthBytes + len(following)
	end := size - lengthBytes
	if Checksum(b[:end]) != readNumber(b[end:size]) {
		return api.Item{}, 0, api.ErrChecksum
	}
	i, ok := decodeBody(b[lengthBytes:end])
	if !ok || CheckItem(i) != api.OK {
		return api.Item{}, 0, api.ErrSyntax
	}
	return i, size, api.OK
}

// decodeBody returns the item whose parts are these bytes, and false if they are not of this form.
func decodeBody(b []byte) (api.Item, bool) {
	var i api.Item
	r := reader{rest: b}
	visitItem(&r, &i)
	return i, !r.failed && len(r.rest) == 0
}

// Checksum returns the checksum of bytes.
func Checksum(b []byte) int {
	h := 1
	for _, c := range b {
		h = (h*31 + int(c)) % prime
	}
	return h
}
