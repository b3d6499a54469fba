package num_test

import (
	"math"
	"math/big"
	"math/rand"
	"slices"
	"testing"

	"equipoise/api"
	"equipoise/num"
)

const top = 1<<32 - 1 // the greatest digit

// n returns a Num of these digits, the lowest one first.
func n(d ...uint32) api.Num { return api.Num{D: d} }

// neg returns a Num of these digits that is negative.
func neg(d ...uint32) api.Num { return api.Num{Neg: true, D: d} }

// full returns the Num of so many digits, all of which are the greatest ones.
func full(digits int) api.Num { return n(slices.Repeat([]uint32{top}, digits)...) }

// unit returns the Num 2^(32 k).
func unit(k int) api.Num { return n(append(make([]uint32, k), 1)...) }

// minus returns the opposite of a Num other than 0.
func minus(a api.Num) api.Num { return api.Num{Neg: !a.Neg, D: slices.Clone(a.D)} }

// value returns what a right Num stands for, by another library.
func value(a api.Num) *big.Int {
	v := new(big.Int)
	for k := len(a.D) - 1; k >= 0; k-- {
		v.Lsh(v, 32).Or(v, big.NewInt(int64(a.D[k])))
	}
	if a.Neg {
		v.Neg(v)
	}
	return v
}

// of returns the right Num of an integer, and whether it fits.
func of(v *big.Int) (api.Num, bool) {
	if v.BitLen() > 8192 {
		return api.Num{}, false
	}
	a := api.Num{Neg: v.Sign() < 0}
	rest := new(big.Int).Abs(v)
	for rest.Sign() > 0 {
		a.D = append(a.D, uint32(rest.Uint64()))
		rest.Rsh(rest, 32)
	}
	return a, true
}

// same reports whether two Nums have equal fields.
func same(a, b api.Num) bool { return a.Neg == b.Neg && slices.Equal(a.D, b.D) }

// isZero reports whether a Num is the zero value.
func isZero(a api.Num) bool { return !a.Neg && len(a.D) == 0 }

// wrong returns Nums that are not right, in each of the ways in which a Num can fail to be right.
func wrong() []api.Num {
	return []api.Num{
		neg(),                         // -0
		{Neg: true, D: []uint32{}},    // the same
		n(0),                          // 0 with a digit
		neg(0),                        // -0 with a digit
		n(1, 0),                       // a zero at the end
		neg(7, 0),                     // the same
		n(0, 0, 0),                    // zeros only
		n(make([]uint32, 256)...),     // 256 zeros
		n(append(full(255).D, 0)...),  // a zero as digit 256
		full(257),                     // a digit too many
		minus(full(257)),              // the same
		unit(256),                     // 2^8192
		n(append(full(256).D, 0)...),  // a digit too many, and it is zero
		n(append(unit(3000).D, 5)...), // far too many
		n(make([]uint32, 5000)...),    // far too many zeros
		neg(make([]uint32, 5000)...),  // the same
	}
}

// corners returns right Nums, where carries, borrows and guesses of digits begin and end.
func corners() []api.Num {
	l := []api.Num{{}, {D: []uint32{}}}
	for _, a := range []api.Num{
		n(1), n(2), n(3), n(9), n(10), n(1 << 31), n(1<<31 - 1), n(top), n(1_000_000_000), n(999_999_999),
		n(0, 1), n(1, 1), n(top, top), n(0, 1<<31), n(top, 1<<31-1), n(1, 1<<31), n(0, top), n(top, 1),
		n(0, 0, 1), n(1, 0, 1<<31), n(0, 0, 1<<31), n(0, 0, 1<<31, 1<<31-1), n(0, top-1, 0, 1<<31), n(top, 0, 1<<31),
		n(3, 0, 1<<31), n(1, 0, 1<<29), n(0, 0, 3, 1<<31), n(0, 1<<31, top, top), full(3), unit(3), full(4), unit(7),
		full(127), unit(127), full(128), unit(128), full(129), unit(200), full(255), unit(255), full(256),
		n(append(make([]uint32, 255), 1<<31)...), n(append(full(255).D, 1<<31-1)...), n(append([]uint32{top - 1}, full(255).D...)...),
	} {
		l = append(l, a, minus(a))
	}
	return l
}

// digitOf returns a random digit, often one of the least or the greatest.
func digitOf(r *rand.Rand) uint32 {
	switch r.Intn(8) {
	case 0:
		return 0
	case 1:
		return top
	case 2:
		return uint32(r.Intn(3))
	case 3:
		return top - uint32(r.Intn(3))
	case 4:
		return 1<<31 - 1 + uint32(r.Intn(3))
	}
	return r.Uint32()
}

// randomNum returns a random right Num of at most so many digits, mostly of few.
func randomNum(r *rand.Rand, most int) api.Num {
	if r.Intn(2) == 0 {
		most = min(most, 6)
	}
	d := make([]uint32, r.Intn(most+1))
	for k := range d {
		d[k] = digitOf(r)
	}
	for len(d) > 0 && d[len(d)-1] == 0 {
		d = d[:len(d)-1]
	}
	return api.Num{Neg: len(d) > 0 && r.Intn(2) == 0, D: d}
}

// pairs calls f for pairs of corners, and for random pairs.
func pairs(f func(a, b api.Num)) {
	for _, a := range corners() {
		for _, b := range corners() {
			f(a, b)
		}
	}
	r := rand.New(rand.NewSource(1))
	for range 4000 {
		f(randomNum(r, 256), randomNum(r, 256))
		f(randomNum(r, 9), randomNum(r, 9))
	}
}

// check ends the test with a Num that is not the right one of an integer, or is not the zero value with false, if this does not fit.
func check(t *testing.T, name string, a, b, got api.Num, ok bool, want *big.Int) {
	t.Helper()
	w, fits := of(want)
	if ok != fits || !same(got, w) {
		t.Fatalf("%s of %v and %v: %v, %v; want %v, %v", name, a, b, got, ok, w, fits)
	}
}

// ints are ints at their limits and elsewhere.
var ints = []int{0, 1, -1, 2, -2, 9, 10, -10, top, -top, top + 1, -top - 1, top + 2, 1 << 40, -(1 << 40), 123456789012345678, math.MaxInt, math.MaxInt - 1, -math.MaxInt, math.MinInt}

// two is a function of two Nums, with all Nums that it returns.
type two func(a, b api.Num) []api.Num

// twos returns all functions of two Nums that return Nums.
func twos() map[string]two {
	single := func(f func(a, b api.Num) (api.Num, bool)) two {
		return func(a, b api.Num) []api.Num {
			c, _ := f(a, b)
			return []api.Num{c}
		}
	}
	return map[string]two{
		"Add": single(num.Add),
		"Sub": single(num.Sub),
		"Mul": single(num.Mul),
		"Gcd": single(num.Gcd),
		"Div": func(a, b api.Num) []api.Num {
			q, r, _ := num.Div(a, b)
			return []api.Num{q, r}
		},
	}
}
