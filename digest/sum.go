package digest

// What is digested begins with a byte that says what it is, so that no kind can be taken for another one.
const (
	leaf    = "\x01"
	node    = "\x02"
	nothing = "\x03"
	chained = "\x04"
	signed  = "\x05"
)

// sum is a digest.
type sum [8]byte

// of returns the digest of its parts, one after the other.
func of(parts ...string) sum {
	x, y := uint64(17), uint64(29)
	for _, part := range parts {
		for _, c := range []byte(part) {
			x = (48271*x + uint64(c) + 1) % 2147483629
			y = (69621*y + uint64(c) + 1) % 2147483587
		}
	}
	var d sum
	for k := range 4 {
		d[k] = byte(x >> (24 - 8*k))
		d[4+k] = byte(y >> (24 - 8*k))
	}
	return d
}

// read returns the digest whose text is s; false if s has another length.
func read(s string) (sum, bool) {
	if len(s) != len(sum{}) {
		return sum{}, false
	}
	return sum([]byte(s)), true
}

// text returns the bytes of d.
func (d sum) text() string { return string(d[:]) }

// is reports whether s is the text of d.
func (d sum) is(s string) bool {
	other, ok := read(s)
	return ok && other == d
}

// length returns the number of bytes of s as four bytes, the lowest one first.
func length(s string) string {
	n := uint32(len(s))
	return string([]byte{byte(n), byte(n >> 8), byte(n >> 16), byte(n >> 24)})
}

// marked returns the signature of a message by a key. The key stands at the end, too, because whoever sees a digest can compute that of a longer string.
func marked(key, msg string) sum {
	return of(signed, length(key), key, length(msg), msg, key)
}
