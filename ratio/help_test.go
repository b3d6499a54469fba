package ratio_test

import (
	"math/big"
	"math/rand"
	"slices"
	"testing"

	"equipoise/api"
	"equipoise/num"
	"equipoise/ratio"
)

const top = 1<<32 - 1 // the greatest digit

// fit is the number of binary digits of the greatest integer that is not too long.
const fit = 8192

// n returns a Num of these digits, the lowest one first.
func n(d ...uint32) api.Num { return api.Num{D: d} }

// neg returns a Num of these digits that is negative.
func neg(d ...uint32) api.Num { return api.Num{Neg: true, D: d} }

// full returns the Num of so many digits, all of which are the greatest ones.
func full(digits int) api.Num { return n(slices.Repeat([]uint32{top}, digits)...) }

// ofInts returns n / d with these fields, whether they are right or not.
func ofInts(n, d int) api.Ratio { return api.Ratio{N: num.Of(n), D: num.Of(d)} }

// two returns 2^k + more.
func two(k uint, more int64) *big.Int {
	v := new(big.Int).Lsh(big.NewInt(1), k)
	return v.Add(v, big.NewInt(more))
}

// inverse returns 1 / x.
func inverse(x *big.Int) *big.Rat { return new(big.Rat).SetFrac(big.NewInt(1), x) }

// over returns x / y.
func over(x, y *big.Int) *big.Rat { return new(big.Rat).SetFrac(x, y) }

// integer returns x / 1.
func integer(x *big.Int) *big.Rat { return new(big.Rat).SetInt(x) }

// small returns x / y.
func small(x, y int64) *big.Rat { return big.NewRat(x, y) }

// opposite returns -x.
func opposite(x *big.Rat) *big.Rat { return new(big.Rat).Neg(x) }

// reciprocal returns 1 / x.
func reciprocal(x *big.Rat) *big.Rat { return new(big.Rat).Inv(x) }

// fits reports whether none of these integers is too long.
func fits(l ...*big.Int) bool {
	for _, x := range l {
		if x.BitLen() > fit {
			return false
		}
	}
	return true
}

// of returns the right Ratio of a number, and whether there is one.
func of(v *big.Rat) (api.Ratio, bool) {
	a, isNum := num.Parse(v.Num().String())
	b, isToo := num.Parse(v.Denom().String())
	if !isNum || !isToo {
		return api.Ratio{}, false
	}
	return api.Ratio{N: a, D: b}, true
}

// sure returns the right Ratio of a number that has one.
func sure(t *testing.T, v *big.Rat) api.Ratio {
	t.Helper()
	a, ok := of(v)
	if !ok {
		t.Fatalf("too long: %d and %d binary digits", v.Num().BitLen(), v.Denom().BitLen())
	}
	return a
}

// value returns what a right Ratio stands for.
func value(t *testing.T, a api.Ratio) *big.Rat {
	t.Helper()
	x, isInt := new(big.Int).SetString(num.Text(a.N), 10)
	y, isToo := new(big.Int).SetString(num.Text(a.D), 10)
	if !isInt || !isToo || y.Sign() == 0 {
		t.Fatalf("no number: %v", a)
	}
	return new(big.Rat).SetFrac(x, y)
}

// sameNum reports whether two Nums have equal fields.
func sameNum(a, b api.Num) bool { return a.Neg == b.Neg && slices.Equal(a.D, b.D) }

// same reports whether two Ratios have equal fields.
func same(a, b api.Ratio) bool { return sameNum(a.N, b.N) && sameNum(a.D, b.D) }

// isZero reports whether a Ratio is the zero value.
func isZero(a api.Ratio) bool { return same(a, api.Ratio{}) }

// check ends the test unless got is the right Ratio of want, or, with fine false, the zero value with false.
func check(t *testing.T, name string, got api.Ratio, ok bool, want *big.Rat, fine bool, args ...*big.Rat) {
	t.Helper()
	w := api.Ratio{}
	if fine {
		w = sure(t, want)
	}
	if ok != fine || !same(got, w) {
		t.Fatalf("%s of %v: %v, %v; want %v, %v", name, args, got, ok, w, fine)
	}
}

// wrong returns Ratios that are not right, in each of the ways in which a Ratio can fail to be right.
func wrong() []api.Ratio {
	long := n(append(make([]uint32, 256), 1)...) // 2^8192
	return []api.Ratio{
		{},
		{N: n(), D: n(0)},
		ofInts(1, 0), ofInts(-1, 0), // D is not positive
		ofInts(0, -1), ofInts(1, -1), ofInts(1, -2), ofInts(-1, -2), ofInts(3, -7),
		ofInts(0, 2), ofInts(0, 1<<40), // common factors
		ofInts(2, 2), ofInts(2, 4), ofInts(-2, 4), ofInts(4, 2), ofInts(6, -4), ofInts(15, 35), ofInts(-1<<40, 1<<20), ofInts(5, 5), ofInts(-9, 3),
		{N: full(2), D: full(1)}, {N: full(4), D: full(6)}, {N: full(256), D: full(256)}, {N: full(256), D: full(128)}, {N: full(128), D: full(256)}, {N: full(255), D: full(256)},
		{N: n(0, 0, 1), D: n(0, 1)}, {N: n(), D: full(256)},
		{N: neg(), D: n(1)}, {N: neg(), D: n(3)}, // -0
		{N: n(0), D: n(1)}, {N: neg(0), D: n(1)}, {N: n(1, 0), D: n(1)}, {N: n(1, 0), D: n(3)}, {N: neg(1, 0), D: n(3)}, // zeros at the end
		{N: n(1), D: n(1, 0)}, {N: n(1), D: n(3, 0)}, {N: n(1), D: n(0)}, {N: n(1), D: neg()}, {N: n(), D: n(1, 0)}, {N: n(1, 0), D: n(1, 0)},
		{N: long, D: n(1)}, {N: full(257), D: n(1)}, {N: api.Num{Neg: true, D: long.D}, D: n(1)}, {N: long, D: n(3)}, // too long
		{N: n(1), D: long}, {N: n(1), D: full(257)}, {N: n(), D: long}, {N: full(257), D: long}, {N: full(3000), D: n(7)}, {N: n(7), D: zeros(3000)},
	}
}

// zeros returns a Num of so many digits, which are 0.
func zeros(digits int) api.Num { return n(make([]uint32, digits)...) }

// corners returns numbers whose Ratios are right: small ones, those at the limits, and those with factors in common.
func corners() []*big.Rat {
	l := []*big.Rat{new(big.Rat)}
	for _, v := range []*big.Rat{
		small(1, 1), small(2, 1), small(3, 1), small(1, 2), small(2, 3), small(3, 4), small(1, 6), small(1, 10), small(31, 4), small(333, 1000), small(1, 3),
		small(1<<62, 3), small(3, 1<<62), small(1<<20, 1<<20-1),
		integer(two(fit-1, 0)), integer(two(fit, -1)), inverse(two(fit-1, 0)), inverse(two(fit, -1)),
		over(two(fit, -1), two(fit-1, 0)), over(two(fit, -2), two(fit, -1)), over(two(fit, -3), two(fit, -2)), over(two(fit-1, 0), big.NewInt(3)), over(big.NewInt(3), two(fit-1, 0)),
		inverse(two(fit/2, 1)), inverse(two(fit/2, -1)), over(two(fit/2, -1), two(fit/2, 1)), integer(two(fit/2, 1)), over(two(fit/2, 0), two(fit/2, -1)),
	} {
		l = append(l, v, opposite(v))
	}
	return l
}

// random returns a random number whose Ratio is right, with factors that others have, too, in both of its integers.
func random(r *rand.Rand, most int) *big.Rat {
	if r.Intn(2) == 0 {
		most = min(most, 100)
	}
	x, y := factors(r, most), factors(r, most)
	if r.Intn(2) == 0 {
		x.Neg(x)
	}
	if r.Intn(20) == 0 {
		x.SetInt64(0)
	}
	return over(x, y)
}

// factors returns a random integer of at most so many binary digits, with small and large factors that others have, too.
func factors(r *rand.Rand, most int) *big.Int {
	x := big.NewInt(1)
	for bits := 1 + r.Intn(most); x.BitLen() < bits; {
		f := big.NewInt(int64(2 + r.Intn(30)))
		switch r.Intn(3) {
		case 0:
			f = two(uint(r.Intn(bits/2+1)), 1)
		case 1:
			f = new(big.Int).Rand(r, two(uint(r.Intn(bits+1)), 0))
		}
		if f.Sign() > 0 && f.BitLen()+x.BitLen() <= most {
			x.Mul(x, f)
		} else {
			bits-- // so that this ends
		}
	}
	return x
}

// operation is a function of two Ratios.
type operation func(a, b api.Ratio) (api.Ratio, bool)

// operations returns all functions of two Ratios that return one.
func operations() map[string]operation {
	return map[string]operation{"Add": ratio.Add, "Sub": ratio.Sub, "Mul": ratio.Mul, "Div": ratio.Div}
}
