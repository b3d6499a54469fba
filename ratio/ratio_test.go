package ratio_test

import (
	"math"
	"math/big"
	"math/rand"
	"testing"

	"equipoise/api"
	"equipoise/num"
	"equipoise/ratio"
)

// ints are ints at their limits and elsewhere.
var ints = []int{0, 1, -1, 2, -2, 3, 7, -12, top, -top, top + 1, -top - 1, 1 << 40, math.MaxInt, math.MaxInt - 1, -math.MaxInt, math.MinInt}

// P3.1

func TestRight(t *testing.T) {
	for _, x := range corners() {
		if a := sure(t, x); !ratio.Right(a) {
			t.Errorf("%v is not right", a)
		}
	}
	for _, a := range wrong() {
		if ratio.Right(a) {
			t.Errorf("%v is right", a)
		}
	}
}

// TestRightFields tries all small integers.
func TestRightFields(t *testing.T) {
	for x := -40; x <= 40; x++ {
		for y := -40; y <= 40; y++ {
			want := y > 0 && gcd(x, y) == 1
			if got := ratio.Right(ofInts(x, y)); got != want {
				t.Fatalf("%d / %d: %v", x, y, got)
			}
			if got := ratio.Fit(api.Frac{N: x, D: y}); got != want {
				t.Fatalf("the Frac %d / %d: %v", x, y, got)
			}
		}
	}
}

// gcd returns the greatest integer that divides both.
func gcd(x, y int) int {
	return int(new(big.Int).GCD(nil, nil, new(big.Int).Abs(big.NewInt(int64(x))), new(big.Int).Abs(big.NewInt(int64(y)))).Int64())
}

// TestRightCommon has one common factor of long integers, which makes them not right.
func TestRightCommon(t *testing.T) {
	r := rand.New(rand.NewSource(3))
	for range 300 {
		x := random(r, 4000)
		if x.Sign() == 0 {
			continue
		}
		a := sure(t, x)
		if !ratio.Right(a) {
			t.Fatalf("%v is not right", a)
		}
		f := num.Of([]int{2, 3, 5, 7, top, 1 << 32, 1<<61 - 1, 97}[r.Intn(8)])
		for range r.Intn(3) {
			f, _ = num.Mul(f, f)
		}
		n, isNum := num.Mul(a.N, f)
		d, isToo := num.Mul(a.D, f)
		if !isNum || !isToo || ratio.Right(api.Ratio{N: n, D: d}) {
			t.Fatalf("%v times %v is right", a, f)
		}
	}
}

// fracs returns Fracs at the limits and beyond them, and whether they fit.
func fracs() map[api.Frac]bool {
	const most = 1048576
	return map[api.Frac]bool{
		{N: 0, D: 1}: true, {N: 1, D: 1}: true, {N: -1, D: 1}: true, {N: 3, D: 4}: true, {N: -3, D: 4}: true,
		{N: most, D: 1}: true, {N: -most, D: 1}: true, {N: most + 1, D: 1}: false, {N: -most - 1, D: 1}: false, {N: most - 1, D: 1}: true,
		{N: 1, D: most}: true, {N: -1, D: most}: true, {N: 1, D: most + 1}: false, {N: 0, D: most}: false, {N: 1, D: most - 1}: true,
		{N: most, D: most - 1}: true, {N: -most, D: most - 1}: true, {N: most - 1, D: most}: true, {N: 1 - most, D: most}: true,
		{N: most, D: most}: false, {N: -most, D: most}: false, {N: most + 1, D: most}: false, {N: -most - 1, D: most}: false, {N: most, D: most + 1}: false,
		{N: most / 2, D: most}: false, {N: most, D: most / 2}: false, {N: most, D: 3}: true, {N: 3, D: most}: true, {N: 2, D: most}: false,
		{}: false, {N: 1, D: 0}: false, {N: 0, D: -1}: false, {N: 1, D: -1}: false, {N: -1, D: -1}: false, {N: 1, D: -2}: false, {N: 0, D: 2}: false,
		{N: 2, D: 4}: false, {N: -2, D: 4}: false, {N: 6, D: 3}: false, {N: 5, D: 5}: false,
		{N: math.MaxInt, D: 1}: false, {N: math.MinInt, D: 1}: false, {N: math.MinInt, D: math.MinInt}: false, {N: 1, D: math.MinInt}: false,
		{N: 1, D: math.MaxInt}: false, {N: math.MinInt, D: -1}: false, {N: 1 << 32, D: 1}: false, {N: 1<<32 + 1, D: 1}: false, {N: 1, D: 1<<32 + 1}: false,
		{N: -1 << 62, D: 3}: false, {N: math.MinInt, D: math.MaxInt}: false,
	}
}

// P3.1, P3.2

func TestFit(t *testing.T) {
	for f, want := range fracs() {
		if got := ratio.Fit(f); got != want {
			t.Errorf("%v: %v", f, got)
		}
		a := ratio.Frac(f)
		if !want {
			if !isZero(a) {
				t.Errorf("Frac of %v: %v", f, a)
			}
			continue
		}
		if !ratio.Right(a) || !same(a, ofInts(f.N, f.D)) {
			t.Errorf("Frac of %v: %v", f, a)
		}
		if got, ok := ratio.Small(a); got != f || !ok {
			t.Errorf("Small of %v: %v, %v", a, got, ok)
		}
	}
}

// TestSmall has Ratios that are equal to no Frac that fits.
func TestSmall(t *testing.T) {
	for _, a := range append(wrong(),
		ofInts(1<<20+1, 1), ofInts(-1<<20-1, 1), ofInts(1, 1<<20+1), ofInts(1<<20+1, 1<<20), ofInts(1<<20, 1<<20+1), ofInts(math.MaxInt, 1), ofInts(math.MinInt, 1), ofInts(1, math.MaxInt),
		ofInts(1<<32+5, 1), ofInts(1, 1<<32+5), // their lowest digits would fit
		api.Ratio{N: n(5, 0, 1), D: n(1)}, api.Ratio{N: neg(5, 0, 1), D: n(1)}, api.Ratio{N: n(1), D: n(5, 0, 1)}, api.Ratio{N: n(), D: n(5, 0, 1)},
		api.Ratio{N: n(0, 0, 1), D: n(1)}, api.Ratio{N: n(1), D: n(0, 0, 1)}, api.Ratio{N: full(256), D: n(1)}, api.Ratio{N: n(1), D: full(256)},
	) {
		if f, ok := ratio.Small(a); ok || f != (api.Frac{}) {
			t.Errorf("%v: %v, %v", a, f, ok)
		}
	}
	for _, a := range []api.Ratio{ofInts(1<<20, 1), ofInts(-1<<20, 1<<20-1), ofInts(1, 1<<20), ofInts(0, 1), {N: api.Num{D: []uint32{}}, D: n(1)}} {
		if f, ok := ratio.Small(a); !ok || !same(ofInts(f.N, f.D), a) {
			t.Errorf("%v: %v, %v", a, f, ok)
		}
	}
}

// P3.2

func TestOfExamples(t *testing.T) {
	for _, x := range []struct {
		n, d int
		want *big.Rat
	}{
		{6, -4, small(-3, 2)}, {0, -7, small(0, 1)}, {1, 0, nil}, {0, 0, nil}, {-5, 0, nil},
		{0, 7, small(0, 1)}, {6, 4, small(3, 2)}, {-6, -4, small(3, 2)}, {-6, 4, small(-3, 2)}, {-4, 2, small(-2, 1)}, {4, -2, small(-2, 1)}, {2, -4, small(-1, 2)},
		{5, 5, small(1, 1)}, {5, -5, small(-1, 1)}, {-5, 1, small(-5, 1)}, {5, -1, small(-5, 1)}, {1, 1, small(1, 1)}, {7, 3, small(7, 3)},
		{math.MinInt, -1, new(big.Rat).Neg(small(math.MinInt, 1))}, {math.MinInt, math.MinInt, small(1, 1)}, {math.MinInt, 2, small(math.MinInt/2, 1)},
	} {
		got, ok := ratio.Of(num.Of(x.n), num.Of(x.d))
		check(t, "Of", got, ok, x.want, x.want != nil, small(int64(x.n), 1), small(int64(x.d), 1))
	}
}

func TestOf(t *testing.T) {
	r := rand.New(rand.NewSource(4))
	for k := range 1500 {
		most := []int{30, 200, 3000, fit}[k%4]
		x, y := factors(r, most), factors(r, most)
		if r.Intn(2) == 0 {
			x.Neg(x)
		}
		if r.Intn(2) == 0 {
			y.Neg(y)
		}
		a, b := sure(t, integer(x)).N, sure(t, integer(y)).N
		got, ok := ratio.Of(a, b)
		check(t, "Of", got, ok, over(x, y), true, integer(x), integer(y))
	}
	for _, x := range [][3]api.Num{
		{full(256), full(256), n(1)},
		{full(256), n(1), full(256)},
		{full(256), full(128), n(append(append([]uint32{1}, make([]uint32, 127)...), 1)...)},
		{api.Num{Neg: true, D: full(256).D}, neg(1), full(256)},
	} {
		if got, ok := ratio.Of(x[0], x[1]); !ok || !same(got, api.Ratio{N: x[2], D: n(1)}) {
			t.Errorf("%v / %v: %v, %v", x[0], x[1], got, ok)
		}
	}
}

// TestOfWrong has Nums that are not right.
func TestOfWrong(t *testing.T) {
	bad := []api.Num{neg(), n(0), neg(0), n(1, 0), neg(6, 0), full(257), zeros(256), zeros(1000), n(append(full(256).D, 0)...)}
	for _, a := range bad {
		for _, b := range append(bad, n(), n(1), neg(1), n(3), full(256)) {
			if got, ok := ratio.Of(a, b); ok || !isZero(got) {
				t.Errorf("%v / %v: %v, %v", a, b, got, ok)
			}
			if got, ok := ratio.Of(b, a); ok || !isZero(got) {
				t.Errorf("%v / %v: %v, %v", b, a, got, ok)
			}
		}
	}
}

func TestInt(t *testing.T) {
	for _, x := range ints {
		if a := ratio.Int(x); !same(a, ofInts(x, 1)) || !ratio.Right(a) || value(t, a).Cmp(small(int64(x), 1)) != 0 {
			t.Errorf("%d: %v", x, a)
		}
	}
}
