package num

import (
	"math/bits"
	"slices"
)

// divide returns the quotient and the rest of a by b, which is not 0.
func divide(a, b []uint32) ([]uint32, []uint32) {
	if compare(a, b) < 0 {
		return nil, slices.Clone(a)
	}
	if len(b) == 1 {
		q := slices.Clone(a)
		r := cut(q, b[0])
		return trim(q), digitsOf(uint64(r))
	}
	return divideLong(a, b)
}

// cut divides the digits of d themselves by one digit, and returns the rest.
func cut(d []uint32, by uint32) uint32 {
	rest := uint32(0)
	for k, x := range slices.Backward(d) {
		d[k], rest = bits.Div32(rest, x, by)
	}
	return rest
}

// divideLong divides, digit by digit, by a number of at least two digits that is at most a.
func divideLong(a, b []uint32) ([]uint32, []uint32) {
	// With the highest binary digit of b set, a digit of the quotient is guessed from the highest digits with an error of at most 2.
	s := bits.LeadingZeros32(b[len(b)-1])
	rest := raised(a, s)
	by := trim(raised(b, s))
	n := len(by)
	q := make([]uint32, len(rest)-n)
	for k := range slices.Backward(q) {
		part := rest[k : k+n+1]
		guess := guessed(part, by)
		if takeAway(part, by, guess) {
			guess--
			giveBack(part, by)
		}
		q[k] = guess
	}
	return trim(q), lowered(rest[:n], s)
}

// guessed returns the digit that is the quotient of part, which has one digit more, by these digits, or this digit and 1.
func guessed(part, by []uint32) uint32 {
	n := len(by)
	top := uint64(part[n])<<32 | uint64(part[n-1])
	high := uint64(by[n-1])
	q, rest := top/high, top%high
	for rest < 1<<32 && (q >= 1<<32 || q*uint64(by[n-2]) > rest<<32|uint64(part[n-2])) {
		q--
		rest += high
	}
	return uint32(q)
}

// takeAway subtracts q times by from part itself, and reports whether that was too much.
func takeAway(part, by []uint32, q uint32) bool {
	carry, borrow := uint64(0), uint32(0)
	for k := range part {
		carry += uint64(q) * uint64(digit(by, k))
		part[k], borrow = bits.Sub32(part[k], uint32(carry), borrow)
		carry >>= 32
	}
	return borrow == 1
}

// giveBack adds by to part itself; the carry at the end makes up for the borrow that takeAway left.
func giveBack(part, by []uint32) {
	carry := uint32(0)
	for k := range part {
		part[k], carry = bits.Add32(part[k], digit(by, k), carry)
	}
}
