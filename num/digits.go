package num

import (
	"cmp"
	"math/bits"
	"slices"
)

// The functions of this file and of divide.go and common.go calculate with digits to the base 2^32, the lowest one first. They need no zeros at the end, and leave none; they change no argument and return new memory, unless they say otherwise.

// trim returns d itself without the zeros at its end.
func trim(d []uint32) []uint32 {
	n := len(d)
	for n > 0 && d[n-1] == 0 {
		n--
	}
	return d[:n]
}

// digitsOf returns the digits of a word.
func digitsOf(w uint64) []uint32 {
	return trim([]uint32{uint32(w), uint32(w >> 32)})
}

// word returns the word of at most two digits.
func word(d []uint32) uint64 {
	return uint64(digit(d, 1))<<32 | uint64(digit(d, 0))
}

// digit returns d[k], and 0 where d has no digit.
func digit(d []uint32, k int) uint32 {
	if k < 0 || k >= len(d) {
		return 0
	}
	return d[k]
}

// compare returns -1, 0 or 1 if a is less than, equal to, or greater than b.
func compare(a, b []uint32) int {
	if len(a) != len(b) {
		return cmp.Compare(len(a), len(b))
	}
	for k, x := range slices.Backward(a) {
		if x != b[k] {
			return cmp.Compare(x, b[k])
		}
	}
	return 0
}

// plus returns the sum.
func plus(a, b []uint32) []uint32 {
	n := max(len(a), len(b))
	sum := make([]uint32, n+1)
	carry := uint64(0)
	for k := range sum {
		carry += uint64(digit(a, k)) + uint64(digit(b, k))
		sum[k] = uint32(carry)
		carry >>= 32
	}
	return trim(sum)
}

// minus returns a less b, which is at most a.
func minus(a, b []uint32) []uint32 {
	rest := make([]uint32, len(a))
	borrow := uint32(0)
	for k, x := range a {
		rest[k], borrow = bits.Sub32(x, digit(b, k), borrow)
	}
	return trim(rest)
}

// times returns the product.
func times(a, b []uint32) []uint32 {
	product := make([]uint32, len(a)+len(b))
	for i, x := range a {
		carry := uint64(0)
		for j, y := range b {
			carry += uint64(x)*uint64(y) + uint64(product[i+j]) // at most 2^64 - 1 with the carry
			product[i+j] = uint32(carry)
			carry >>= 32
		}
		product[i+len(b)] = uint32(carry)
	}
	return trim(product)
}

// raised returns d moved up by so many digits and s < 32 binary digits, with one more digit at the end, which may be 0.
func raised(d []uint32, s int) []uint32 {
	up := make([]uint32, len(d)+1)
	copy(up, d)
	for k := range slices.Backward(up) {
		up[k] = up[k]<<s | digit(up, k-1)>>(32-s)
	}
	return up
}

// lowered returns d moved down by s < 32 binary digits.
func lowered(d []uint32, s int) []uint32 {
	down := slices.Clone(d)
	for k := range down {
		down[k] = down[k]>>s | digit(down, k+1)<<(32-s)
	}
	return trim(down)
}
