// Package num is layer 1: see shared/doc/01-num.md. It computes exactly with integers of up to 256 digits to the base 2^32.
package num

import (
	"math/bits"

	"equipoise/api"
)

// Right reports whether a is the only Num of the integer that it stands for.
func Right(a api.Num) bool {
	n := len(a.D)
	if n == 0 {
		return !a.Neg
	}
	return n <= api.MaxDigits && a.D[n-1] != 0
}

// Of returns the right Num of n.
func Of(n int) api.Num {
	size := uint64(n)
	if n < 0 {
		size = -size // unlike -n, it is right for the least int too
	}
	a, _ := made(n < 0, digitsOf(size))
	return a
}

// Int returns the int that a stands for; false if there is none.
func Int(a api.Num) (int, bool) {
	if !Right(a) || len(a.D) > 2 {
		return 0, false
	}
	size := word(a.D)
	switch {
	case a.Neg && size <= 1<<63:
		return int(-size), true
	case !a.Neg && size < 1<<63:
		return int(size), true
	}
	return 0, false
}

// Add returns the sum; false if an argument is not right, or the sum does not fit.
func Add(a, b api.Num) (api.Num, bool) {
	switch {
	case !Right(a) || !Right(b):
		return api.Num{}, false
	case a.Neg == b.Neg:
		return made(a.Neg, plus(a.D, b.D))
	case compare(a.D, b.D) < 0:
		return made(b.Neg, minus(b.D, a.D))
	}
	return made(a.Neg, minus(a.D, b.D))
}

// Sub returns a less b; false if an argument is not right, or the difference does not fit.
func Sub(a, b api.Num) (api.Num, bool) {
	if len(b.D) > 0 { // there is no negative 0
		b.Neg = !b.Neg
	}
	return Add(a, b)
}

// Mul returns the product; false if an argument is not right, or the product does not fit.
func Mul(a, b api.Num) (api.Num, bool) {
	if !Right(a) || !Right(b) {
		return api.Num{}, false
	}
	return made(a.Neg != b.Neg, times(a.D, b.D))
}

// Div returns the quotient, and the rest, which is never negative; false if an argument is not right, or b is 0.
func Div(a, b api.Num) (api.Num, api.Num, bool) {
	if !Right(a) || !Right(b) || len(b.D) == 0 {
		return api.Num{}, api.Num{}, false
	}
	q, r := divide(a.D, b.D)
	if a.Neg && len(r) > 0 { // -(q b + r) is -(q + 1) b + (b - r)
		q = plus(q, []uint32{1})
		r = minus(b.D, r)
	}
	quotient, _ := made(a.Neg != b.Neg, q)
	rest, _ := made(false, r)
	return quotient, rest, true
}

// Gcd returns the greatest common divisor, 0 for 0 and 0; false if an argument is not right.
func Gcd(a, b api.Num) (api.Num, bool) {
	if !Right(a) || !Right(b) {
		return api.Num{}, false
	}
	return made(false, common(a.D, b.D))
}

// Pow returns a to the power of n; false if a is not right, n is negative, or the power does not fit.
func Pow(a api.Num, n int) (api.Num, bool) {
	if !Right(a) || n < 0 {
		return api.Num{}, false
	}
	power := Of(1)
	// From the highest binary digit of n on, no power on the way has a greater absolute value than the last one: if one does not fit, neither does the last one.
	for k := bits.Len(uint(n)) - 1; k >= 0; k-- {
		var fits bool
		power, fits = Mul(power, power)
		if fits && n>>k&1 == 1 {
			power, fits = Mul(power, a)
		}
		if !fits {
			return api.Num{}, false
		}
	}
	return power, true
}

// Cmp returns -1, 0 or 1 if a is less than, equal to, or greater than b; 0 if one of them is not right.
func Cmp(a, b api.Num) int {
	switch {
	case !Right(a) || !Right(b):
		return 0
	case a.Neg && b.Neg:
		return compare(b.D, a.D)
	case a.Neg:
		return -1
	case b.Neg:
		return 1
	}
	return compare(a.D, b.D)
}

// Bits returns the number of binary digits of the absolute value of a; 0 if a is not right.
func Bits(a api.Num) int {
	n := len(a.D)
	if n == 0 || !Right(a) {
		return 0
	}
	return 32*(n-1) + bits.Len32(a.D[n-1])
}

// made returns the right Num with this sign and these digits, without zeros at the end; false if it does not fit.
func made(neg bool, d []uint32) (api.Num, bool) {
	switch {
	case len(d) > api.MaxDigits:
		return api.Num{}, false
	case len(d) == 0:
		return api.Num{}, true
	}
	return api.Num{Neg: neg, D: d}, true
}
