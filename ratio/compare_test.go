package ratio_test

import (
	"math/big"
	"math/rand"
	"slices"
	"testing"

	"equipoise/api"
	"equipoise/ratio"
)

// P3.5

func TestCmp(t *testing.T) {
	pairs(t, func(x, y *big.Rat, a, b api.Ratio) {
		if got := ratio.Cmp(a, b); got != x.Cmp(y) {
			t.Fatalf("%v and %v: %d", x, y, got)
		}
		if got := ratio.Cmp(a, a); got != 0 {
			t.Fatalf("%v and itself: %d", x, got)
		}
		if got := ratio.Sign(a); got != x.Sign() {
			t.Fatalf("the sign of %v: %d", x, got)
		}
	})
}

func TestCmpExamples(t *testing.T) {
	for _, x := range []struct {
		a, b api.Ratio
		want int
	}{
		{ofInts(1, 3), ofInts(333, 1000), 1},
		{ofInts(-1, 2), ofInts(-1, 3), -1},
		{ofInts(1, 2), api.Ratio{}, 0},
		{api.Ratio{}, ofInts(1, 2), 0},
		{api.Ratio{}, api.Ratio{}, 0},
		{ofInts(0, 1), ofInts(0, 1), 0},
		{ofInts(0, 1), ofInts(-1, 1000), 1},
		{ofInts(-1, 1000), ofInts(1, 1000), -1},
		{ofInts(7, 2), ofInts(7, 2), 0},
		{ofInts(7, 2), ofInts(7, 3), 1},
		{ofInts(5, 1), ofInts(14, 3), 1},
		{ofInts(-5, 1), ofInts(-14, 3), -1},
	} {
		if got := ratio.Cmp(x.a, x.b); got != x.want {
			t.Errorf("%v and %v: %d", x.a, x.b, got)
		}
	}
}

// TestCmpLong has long numbers that are as near to each other as they can be, and the products of whose integers are too long.
func TestCmpLong(t *testing.T) {
	chains := [][]*big.Rat{
		{over(two(fit, -4), two(fit, -3)), over(two(fit, -3), two(fit, -2)), over(two(fit, -2), two(fit, -1)), small(1, 1), over(two(fit, -1), two(fit, -2)), over(two(fit, -2), two(fit, -3))},
		{inverse(two(fit, -1)), inverse(two(fit, -2)), inverse(two(fit, -3)), small(1, 2), integer(two(fit, -3)), over(two(fit, -1), two(fit/2, 0)), integer(two(fit, -2)), integer(two(fit, -1))},
		{small(0, 1), inverse(two(fit, -1)), over(two(fit-1, -1), two(fit, -1)), small(1, 2), over(two(fit-1, 0), two(fit, -1)), over(two(fit-1, 0), two(fit, -3))},
		fibonacci(t),
		expansions(big.NewInt(0), two(fit-40, 7)),
		expansions(big.NewInt(1), two(fit-40, 7)),
		expansions(two(fit/2-40, 7), two(fit/2+10, 7)),
	}
	for _, l := range chains {
		for i, x := range l {
			a, b := sure(t, x), sure(t, opposite(x))
			for j, y := range l {
				c, d := sure(t, y), sure(t, opposite(y))
				want := x.Cmp(y)
				if got := ratio.Cmp(a, c); got != want {
					t.Fatalf("%d and %d: %d", i, j, got)
				}
				if got := ratio.Cmp(b, d); got != -want {
					t.Fatalf("%d and %d, negative: %d", i, j, got)
				}
				if got := ratio.Cmp(b, c); got != opposite(x).Cmp(y) {
					t.Fatalf("%d, negative, and %d: %d", i, j, got)
				}
			}
		}
	}
}

// fibonacci returns quotients of long numbers of Fibonacci, whose continued fractions are the longest ones, and differ only at the end.
func fibonacci(t *testing.T) []*big.Rat {
	t.Helper()
	x, y := big.NewInt(1), big.NewInt(1)
	var l []*big.Rat
	for fits(x) {
		l = append(l, over(x, y))
		x, y = new(big.Int).Add(x, y), x
	}
	l = l[len(l)-4:]
	slices.SortFunc(l, func(a, b *big.Rat) int { return a.Cmp(b) })
	return l
}

// expansions returns numbers whose continued fractions begin with these integers, and end after different numbers of steps: one of them may be the beginning of another one.
func expansions(first, second *big.Int) []*big.Rat {
	var l []*big.Rat
	for _, ends := range [][]int64{{}, {2}, {2, 3}, {2, 3, 5}, {3}, {3, 9}, {2, 4}} {
		x := new(big.Rat)
		for _, e := range slices.Backward(ends) {
			x.Inv(x.Add(x, small(e, 1)))
		}
		x.Inv(x.Add(x, integer(second)))
		l = append(l, x.Add(x, integer(first)))
	}
	return l
}

func TestCmpWrong(t *testing.T) {
	for _, a := range wrong() {
		if got := ratio.Sign(a); got != 0 {
			t.Errorf("the sign of %v: %d", a, got)
		}
		for _, b := range append(wrong(), ofInts(0, 1), ofInts(1, 1), ofInts(-5, 3), api.Ratio{N: full(256), D: n(1)}, api.Ratio{N: api.Num{Neg: true, D: full(256).D}, D: n(2)}) {
			if ratio.Cmp(a, b) != 0 || ratio.Cmp(b, a) != 0 {
				t.Errorf("%v and %v", a, b)
			}
		}
	}
}

func TestSignExamples(t *testing.T) {
	for x, want := range map[[2]int]int{{0, 1}: 0, {1, 2}: 1, {-1, 2}: -1, {5, 1}: 1, {-5, 1}: -1, {1, 1 << 60}: 1, {-1, 1 << 60}: -1, {1, -2}: 0, {2, 4}: 0, {-2, 4}: 0, {1, 0}: 0} {
		if got := ratio.Sign(ofInts(x[0], x[1])); got != want {
			t.Errorf("%v: %d", x, got)
		}
	}
}

// P3.7

func TestLogExamples(t *testing.T) {
	for x, want := range map[[2]int]int{
		{8, 1}: 3, {31, 4}: 2, {1, 1}: 0, {1, 2}: -1, {0, 1}: -1, {-8, 1}: -1, {-31, 4}: -1, {3, 2}: 0, {2, 1}: 1, {3, 1}: 1, {4, 1}: 2, {7, 2}: 1, {15, 2}: 2, {17, 2}: 3,
		{999, 1000}: -1, {1000, 999}: 0, {1999, 1000}: 0, {2001, 1000}: 1, {1, 1 << 60}: -1, {1 << 60, 1}: 60, {1 << 60, 3}: 58, {-1, 2}: -1, {-1, 1}: -1,
		{0, 0}: -1, {8, -1}: -1, {-8, -1}: -1, {16, 2}: -1, {8, 0}: -1, // not right
	} {
		if got := ratio.Log(ofInts(x[0], x[1])); got != want {
			t.Errorf("%v: %d", x, got)
		}
	}
	for _, a := range wrong() {
		if got := ratio.Log(a); got != -1 {
			t.Errorf("%v: %d", a, got)
		}
	}
}

func TestLog(t *testing.T) {
	var l []*big.Rat
	for k := uint(0); k < fit; k = k + 1 + k/3 {
		for _, d := range []*big.Int{big.NewInt(1), big.NewInt(3), two(fit-k-1, 1), two(fit-k-1, 0), two((fit-k)/2, 1)} {
			x := new(big.Int).Mul(two(k, 0), d)
			l = append(l, over(two(k, 0), d), over(x, d), over(new(big.Int).Add(x, big.NewInt(1)), d), over(new(big.Int).Sub(x, big.NewInt(1)), d))
		}
	}
	l = append(l, corners()...)
	r := rand.New(rand.NewSource(5))
	for k := range 500 {
		l = append(l, random(r, []int{20, 200, 2000, fit}[k%4]))
	}
	for _, x := range l {
		a, ok := of(x)
		if ok {
			checkLog(t, x, ratio.Log(a))
		}
	}
	if got := ratio.Log(sure(t, integer(two(fit, -1)))); got != fit-1 {
		t.Errorf("the greatest: %d", got)
	}
}

// checkLog checks that x is at least 2^n, and less than 2^(n + 1).
func checkLog(t *testing.T, x *big.Rat, n int) {
	t.Helper()
	switch {
	case n < -1:
		t.Fatalf("%v: %d", x, n)
	case n == -1:
		if x.Cmp(small(1, 1)) >= 0 {
			t.Fatalf("%v: %d", x, n)
		}
	case x.Cmp(integer(two(uint(n), 0))) < 0 || x.Cmp(integer(two(uint(n)+1, 0))) >= 0:
		t.Fatalf("%v: %d", x, n)
	}
}
