package wire

const (
	group    = 7          // the binary digits of a code that one byte holds
	more     = 1 << group // what is added to each byte but the last one
	maxBytes = 10         // the bytes of the greatest code
)

// code returns 2 n if n is at least 0, and -2 n - 1 otherwise: the sign is the lowest binary digit, so that small numbers of both signs have short codes.
func code(n int) uint64 {
	if n < 0 {
		return ^(uint64(n) << 1)
	}
	return uint64(n) << 1
}

// decoded returns the int that has this code.
func decoded(c uint64) int {
	if c&1 == 1 {
		return int(^(c >> 1))
	}
	return int(c >> 1)
}

// firstCode returns the code whose bytes s begins with, and how many they are; 0 and 0 if there is none.
func firstCode(s string) (uint64, int) {
	c := uint64(0)
	for k := range min(len(s), maxBytes) {
		b := uint64(s[k])
		c |= b % more << (group * k)
		if b < more {
			if !isLast(b, k) {
				return 0, 0
			}
			return c, k + 1
		}
	}
	return 0, 0
}

// isLast reports whether a code may end with the byte b at index k: it has no more bytes than it needs, and is less than 2^64.
func isLast(b uint64, k int) bool {
	return (b > 0 || k == 0) && (b < 2 || k < maxBytes-1)
}
