package num

import (
	"math/bits"
	"slices"
)

// steps is what several steps of Euclid's algorithm at once make of x and y: ax x + ay y, and bx x + by y.
type steps struct{ ax, ay, bx, by int64 }

// common returns the greatest common divisor.
func common(a, b []uint32) []uint32 {
	if compare(a, b) < 0 {
		a, b = b, a
	}
	for len(b) > 2 {
		if s := foreseen(a, b); s.ay != 0 {
			a, b = s.done(a, b)
		} else {
			_, rest := divide(a, b)
			a, b = b, rest
		}
	}
	if len(b) == 0 {
		return slices.Clone(a)
	}
	_, rest := divide(a, b)
	return digitsOf(commonWord(word(b), word(rest)))
}

// commonWord returns the greatest common divisor of two words.
func commonWord(x, y uint64) uint64 {
	for y > 0 {
		x, y = y, x%y
	}
	return x
}

// foreseen returns the steps for a and b that their highest 60 binary digits make certain (Lehmer's algorithm); b has at least three digits and is at most a. ay is 0 if there is no such step.
//
// x and y are what the steps so far make of these binary digits. Those that were left out add a part of ax and of ay to x, and the same parts of bx and of by to y, so that the true quotient lies between the two that are compared. The factors stay below 2^30: none is greater than by, which is at most x, and by times x is at most what x was at first (absolute values).
func foreseen(a, b []uint32) steps {
	s := bits.LeadingZeros32(a[len(a)-1])
	x, y := highest(a, len(a), s), highest(b, len(a), s)
	f := steps{ax: 1, by: 1}
	for y+f.bx != 0 && y+f.by != 0 {
		q := (x + f.ax) / (y + f.bx)
		if q != (x+f.ay)/(y+f.by) {
			break
		}
		f = steps{f.bx, f.by, f.ax - q*f.bx, f.ay - q*f.by}
		x, y = y, x-q*y
	}
	return f
}

// highest returns the highest 60 of n digits, of which the first s binary digits are left out.
func highest(d []uint32, n, s int) int64 {
	w := uint64(digit(d, n-1))<<32 | uint64(digit(d, n-2))
	return int64((w<<s | uint64(digit(d, n-3))>>(32-s)) >> 4)
}

// done returns what the steps make of a and b, which has no more digits than a.
func (s steps) done(a, b []uint32) ([]uint32, []uint32) {
	return mixed(s.ax, a, s.ay, b), mixed(s.bx, a, s.by, b)
}

// mixed returns f a + g b, which is neither negative nor greater than a. The factors are less than 2^31 and have opposite signs, so that the sums fit an int64; the shift keeps the sign of the carry.
func mixed(f int64, a []uint32, g int64, b []uint32) []uint32 {
	sum := make([]uint32, len(a))
	carry := int64(0)
	for k := range a {
		carry += f*int64(a[k]) + g*int64(digit(b, k))
		sum[k] = uint32(carry)
		carry >>= 32
	}
	return trim(sum)
}
