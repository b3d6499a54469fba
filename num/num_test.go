package num_test

import (
	"math"
	"math/big"
	"math/rand"
	"testing"

	"equipoise/api"
	"equipoise/num"
)

// P1.1

func TestRight(t *testing.T) {
	for _, a := range corners() {
		if !num.Right(a) {
			t.Fatalf("%v is not right", a)
		}
	}
	for _, a := range wrong() {
		if num.Right(a) {
			t.Fatalf("%v is right", a)
		}
	}
}

func TestOf(t *testing.T) {
	r := rand.New(rand.NewSource(2))
	l := append([]int{}, ints...)
	for range 1000 {
		l = append(l, int(r.Uint64())>>r.Intn(64))
	}
	for _, x := range l {
		a := num.Of(x)
		if want, _ := of(big.NewInt(int64(x))); !same(a, want) || !num.Right(a) {
			t.Errorf("Of %d: %v", x, a)
		}
		if got, ok := num.Int(a); got != x || !ok {
			t.Errorf("Int of Of %d: %d, %v", x, got, ok)
		}
	}
}

func TestOfExamples(t *testing.T) {
	if a := num.Of(4294967296); !same(a, n(0, 1)) {
		t.Error(a)
	}
	if a := num.Of(-1); !same(a, neg(1)) {
		t.Error(a)
	}
}

func TestInt(t *testing.T) {
	for _, x := range []struct {
		a    api.Num
		want int
		ok   bool
	}{
		{n(0, 1<<31), 0, false},               // 2^63
		{n(top, 1<<31-1), math.MaxInt, true},  // 2^63 - 1
		{neg(0, 1<<31), math.MinInt, true},    // -2^63
		{neg(1, 1<<31), 0, false},             // -2^63 - 1
		{neg(top, 1<<31-1), -1<<63 + 1, true}, // -2^63 + 1
		{full(2), 0, false},
		{minus(full(2)), 0, false},
		{unit(2), 0, false},
		{minus(unit(2)), 0, false},
		{n(5, 0, 1), 0, false}, // 5, if the third digit were left out
		{neg(5, 0, 1), 0, false},
		{full(256), 0, false},
		{n(), 0, true},
		{n(5), 5, true},
	} {
		if got, ok := num.Int(x.a); got != x.want || ok != x.ok {
			t.Fatalf("%v: %d, %v", x.a, got, ok)
		}
	}
	for _, a := range wrong() {
		if got, ok := num.Int(a); got != 0 || ok {
			t.Fatalf("%v: %d, %v", a, got, ok)
		}
	}
}

// P1.2

func TestAddSubMul(t *testing.T) {
	pairs(func(a, b api.Num) {
		x, y := value(a), value(b)
		got, ok := num.Add(a, b)
		check(t, "Add", a, b, got, ok, new(big.Int).Add(x, y))
		got, ok = num.Sub(a, b)
		check(t, "Sub", a, b, got, ok, new(big.Int).Sub(x, y))
		got, ok = num.Mul(a, b)
		check(t, "Mul", a, b, got, ok, new(big.Int).Mul(x, y))
	})
}

func TestMulSubExamples(t *testing.T) {
	if a, ok := num.Mul(num.Of(4294967295), num.Of(4294967295)); !ok || !same(a, n(1, 4294967294)) {
		t.Error(a, ok)
	}
	if a, ok := num.Sub(num.Of(4294967296), num.Of(1)); !ok || !same(a, n(4294967295)) {
		t.Error(a, ok)
	}
}

func TestSumsAtTheLimit(t *testing.T) {
	least := minus(full(256))
	half := n(append(make([]uint32, 255), 1<<31)...) // 2^8191
	for _, x := range []struct {
		name string
		f    func(a, b api.Num) (api.Num, bool)
		a, b api.Num
		want api.Num
		ok   bool
	}{
		{"Add", num.Add, full(256), n(1), n(), false},
		{"Add", num.Add, full(256), n(), full(256), true},
		{"Add", num.Add, least, neg(1), n(), false},
		{"Add", num.Add, full(256), least, n(), true},
		{"Add", num.Add, half, half, n(), false},
		{"Add", num.Add, half, n(append(full(255).D, 1<<31-1)...), full(256), true},
		{"Sub", num.Sub, full(256), neg(1), n(), false},
		{"Sub", num.Sub, least, n(1), n(), false},
		{"Sub", num.Sub, n(), full(256), least, true},
		{"Sub", num.Sub, full(256), full(256), n(), true},
		{"Sub", num.Sub, full(256), least, n(), false},
		{"Mul", num.Mul, full(256), neg(1), least, true},
		{"Mul", num.Mul, full(256), n(2), n(), false},
		{"Mul", num.Mul, half, n(2), n(), false},
		{"Mul", num.Mul, unit(128), unit(127), unit(255), true},
		{"Mul", num.Mul, unit(128), unit(128), n(), false},
		{"Mul", num.Mul, minus(unit(128)), unit(128), n(), false},
		{"Mul", num.Mul, unit(255), full(1), n(append(make([]uint32, 255), top)...), true},
		{"Mul", num.Mul, unit(255), unit(1), n(), false},
		{"Mul", num.Mul, n(), full(256), n(), true},
		{"Mul", num.Mul, least, n(), n(), true},
	} {
		if got, ok := x.f(x.a, x.b); ok != x.ok || !same(got, x.want) {
			t.Errorf("%s of %v and %v: %v, %v", x.name, x.a, x.b, got, ok)
		}
	}
}

// P1.3

func TestDiv(t *testing.T) {
	pairs(func(a, b api.Num) {
		q, r, ok := num.Div(a, b)
		if len(b.D) == 0 {
			if ok || !isZero(q) || !isZero(r) {
				t.Fatalf("Div of %v and 0: %v, %v, %v", a, q, r, ok)
			}
			return
		}
		rest := new(big.Int)
		quotient, _ := new(big.Int).DivMod(value(a), value(b), rest) // Euclid's, as here
		check(t, "quotient", a, b, q, ok, quotient)
		check(t, "rest", a, b, r, ok, rest)
	})
}

func TestDivBuilt(t *testing.T) {
	r := rand.New(rand.NewSource(3))
	for range 3000 {
		b := randomNum(r, 100)
		q := randomNum(r, 100)
		if len(b.D) == 0 {
			continue
		}
		size := new(big.Int).Abs(value(b))
		for _, rest := range []*big.Int{big.NewInt(0), new(big.Int).Sub(size, big.NewInt(1)), new(big.Int).Rand(r, size)} {
			a, _ := of(new(big.Int).Add(new(big.Int).Mul(value(q), value(b)), rest))
			w, _ := of(rest)
			if x, y, ok := num.Div(a, b); !ok || !same(x, q) || !same(y, w) {
				t.Fatalf("Div of %v and %v: %v, %v, %v", a, b, x, y, ok)
			}
		}
	}
}

func TestDivExamples(t *testing.T) {
	for _, x := range [][4]int{{-7, 2, -4, 1}, {7, -2, -3, 1}, {-7, -2, 4, 1}, {7, 2, 3, 1}, {-8, 2, -4, 0}, {-8, -2, 4, 0}, {0, -5, 0, 0}, {-1, 5, -1, 4}, {-1, -5, 1, 4}, {1, -5, 0, 1}, {-3, 1, -3, 0}, {math.MinInt, -1 << 62, 2, 0}} {
		q, r, ok := num.Div(num.Of(x[0]), num.Of(x[1]))
		if !ok || !same(q, num.Of(x[2])) || !same(r, num.Of(x[3])) {
			t.Errorf("%v: %v, %v, %v", x, q, r, ok)
		}
	}
	if q, r, ok := num.Div(num.Of(7), num.Of(0)); ok || !isZero(q) || !isZero(r) {
		t.Error(q, r, ok)
	}
}

// TestDivGuesses has divisions in which a digit of the quotient is first guessed too large, by 1 or 2, or beyond the greatest digit, or given back at last.
func TestDivGuesses(t *testing.T) {
	for _, x := range [][4]api.Num{
		{n(0, 0, 1<<31, 1<<31-1), n(1, 0, 1<<31), n(top - 1), n(2, top, 1<<31-1)},
		{n(0, top-1, 0, 1<<31), n(top, 0, 1<<31), n(top), n(top, top, 1<<31-1)},
		{n(0, top-1, 1<<31), n(top, 1<<31), n(top), n(top, 1<<31-1)},
		{n(3, 0, 1<<31), n(1, 0, 1<<29), n(3), n(0, 0, 1<<29)},
		{n(0, 0, 3), n(0, 0, 1), n(3), n()},
		{full(256), full(128), n(append(append([]uint32{1}, make([]uint32, 127)...), 1)...), n()},
		{full(256), n(3), n(repeated(0x55555555, 256)...), n()},
	} {
		if q, r, ok := num.Div(x[0], x[1]); !ok || !same(q, x[2]) || !same(r, x[3]) {
			t.Errorf("Div of %v and %v: %v, %v, %v", x[0], x[1], q, r, ok)
		}
	}
}

// repeated returns so many equal digits.
func repeated(x uint32, many int) []uint32 {
	d := make([]uint32, many)
	for k := range d {
		d[k] = x
	}
	return d
}

// P1.4

func TestGcd(t *testing.T) {
	pairs(func(a, b api.Num) {
		got, ok := num.Gcd(a, b)
		x, y := value(a), value(b)
		check(t, "Gcd", a, b, got, ok, new(big.Int).GCD(nil, nil, x.Abs(x), y.Abs(y)))
	})
}

// TestGcdOfMultiples has large common factors, and factors whose quotients are 1, as those of Fibonacci's numbers, or large.
func TestGcdOfMultiples(t *testing.T) {
	r := rand.New(rand.NewSource(4))
	x, y := big.NewInt(1), big.NewInt(1)
	for k := 0; x.BitLen() < 8000; k++ {
		x, y = new(big.Int).Add(x, y), x
		if k%400 == 0 {
			y.Lsh(y, uint(r.Intn(70))) // a large quotient
			x.Add(x, y)
		}
		if k%50 > 0 {
			continue
		}
		f := value(randomNum(r, max(1, (8192-x.BitLen())/32)))
		checkGcd(t, new(big.Int).Mul(x, f), new(big.Int).Mul(y, f))
		checkGcd(t, new(big.Int).Mul(y, f), new(big.Int).Neg(x))
	}
}

// checkGcd checks Gcd of two integers that fit, in both orders.
func checkGcd(t *testing.T, x, y *big.Int) {
	t.Helper()
	a, _ := of(x)
	b, fits := of(y)
	if !fits {
		return
	}
	want := new(big.Int).GCD(nil, nil, new(big.Int).Abs(x), new(big.Int).Abs(y))
	got, ok := num.Gcd(a, b)
	check(t, "Gcd", a, b, got, ok, want)
	got, ok = num.Gcd(b, a)
	check(t, "Gcd", b, a, got, ok, want)
}

func TestGcdExamples(t *testing.T) {
	for _, x := range [][3]int{{-12, 18, 6}, {0, 0, 0}, {0, -5, 5}, {-5, 0, 5}, {7, 9, 1}, {-4, -6, 2}, {6, 6, 6}, {1, 0, 1}} {
		if g, ok := num.Gcd(num.Of(x[0]), num.Of(x[1])); !ok || !same(g, num.Of(x[2])) {
			t.Errorf("%v: %v, %v", x, g, ok)
		}
	}
}

// P1.5

func TestPow(t *testing.T) {
	for _, a := range corners() {
		for _, e := range []int{0, 1, 2, 3, 4, 5, 7, 8, 13, 31, 64, 127, 128, 255, 256, 1000, 8191, 8192} {
			p, ok := num.Pow(a, e)
			checkPow(t, a, e, p, ok)
		}
	}
	r := rand.New(rand.NewSource(5))
	for range 2000 {
		a, e := randomNum(r, 4), r.Intn(100)
		p, ok := num.Pow(a, e)
		checkPow(t, a, e, p, ok)
	}
}

// checkPow checks a power; one that has far too many digits is not calculated for that.
func checkPow(t *testing.T, a api.Num, e int, p api.Num, ok bool) {
	t.Helper()
	v := value(a)
	if v.BitLen() > 1 && (v.BitLen()-1)*e > 8192 {
		if ok || !isZero(p) {
			t.Fatalf("%v to the power of %d: %v, %v", a, e, p, ok)
		}
		return
	}
	want, fits := of(new(big.Int).Exp(v, big.NewInt(int64(e)), nil))
	if ok != fits || !same(p, want) {
		t.Fatalf("%v to the power of %d: %v, %v", a, e, p, ok)
	}
}

func TestPowExamples(t *testing.T) {
	for _, x := range []struct {
		a, e, want int
		ok         bool
	}{
		{-2, 5, -32, true},
		{0, 0, 1, true},
		{2, -1, 0, false},
		{1, -1, 0, false},
		{-1, -1, 0, false},
		{0, -1, 0, false},
		{1, math.MinInt, 0, false},
		{5, math.MinInt, 0, false},
		{-7, 0, 1, true},
		{0, 1, 0, true},
		{0, math.MaxInt, 0, true},
		{1, math.MaxInt, 1, true},
		{1, math.MaxInt - 1, 1, true},
		{-1, math.MaxInt, -1, true},
		{-1, math.MaxInt - 1, 1, true},
		{2, math.MaxInt, 0, false},
		{-2, math.MaxInt, 0, false},
		{2, 1 << 62, 0, false},
		{2, 1 << 32, 0, false},
		{2, 8192, 0, false},
		{-2, 8192, 0, false},
		{4, 4096, 0, false},
	} {
		p, ok := num.Pow(num.Of(x.a), x.e)
		if ok != x.ok || !same(p, num.Of(x.want)) {
			t.Errorf("%v: %v, %v", x, p, ok)
		}
	}
}

func TestPowAtTheLimit(t *testing.T) {
	high := n(append(make([]uint32, 255), 1<<31)...)
	for _, x := range []struct {
		a    api.Num
		e    int
		want api.Num
		ok   bool
	}{
		{n(2), 8191, high, true},
		{neg(2), 8191, minus(high), true},
		{neg(2), 8190, n(append(make([]uint32, 255), 1<<30)...), true},
		{full(256), 1, full(256), true},
		{minus(full(256)), 1, minus(full(256)), true},
		{full(256), 2, n(), false},
		{full(256), 0, n(1), true},
		{unit(1), 255, unit(255), true},
		{unit(1), 256, n(), false},
		{unit(85), 3, unit(255), true},
		{unit(86), 3, n(), false},
		{unit(3), 85, unit(255), true},
	} {
		if p, ok := num.Pow(x.a, x.e); ok != x.ok || !same(p, x.want) {
			t.Errorf("%v to the power of %d: %v, %v", x.a, x.e, p, ok)
		}
	}
}

// P1.6

func TestCmp(t *testing.T) {
	pairs(func(a, b api.Num) {
		if got := num.Cmp(a, b); got != value(a).Cmp(value(b)) {
			t.Fatalf("Cmp of %v and %v: %d", a, b, got)
		}
		if got := num.Cmp(a, a); got != 0 {
			t.Fatalf("Cmp of %v and itself: %d", a, got)
		}
	})
}

// TestCmpDigits has numbers that differ in one digit only.
func TestCmpDigits(t *testing.T) {
	for many := 1; many <= 256; many += 17 {
		for k := range many {
			a, b := full(many), full(many)
			b.D[k]--
			if num.Cmp(a, b) != 1 || num.Cmp(b, a) != -1 || num.Cmp(minus(a), minus(b)) != -1 || num.Cmp(minus(b), minus(a)) != 1 || num.Cmp(minus(b), a) != -1 || num.Cmp(b, minus(a)) != 1 {
				t.Fatalf("digit %d of %d", k, many)
			}
		}
	}
}

func TestBits(t *testing.T) {
	for _, a := range corners() {
		if got := num.Bits(a); got != value(a).BitLen() {
			t.Fatalf("%v: %d", a, got)
		}
	}
	r := rand.New(rand.NewSource(6))
	for range 1000 {
		if a := randomNum(r, 256); num.Bits(a) != value(a).BitLen() {
			t.Fatalf("%v: %d", a, num.Bits(a))
		}
	}
	for x, want := range map[int]int{0: 0, -256: 9, 255: 8, 256: 9, 1: 1, -1: 1, top: 32, top + 1: 33, math.MinInt: 64, math.MaxInt: 63} {
		if got := num.Bits(num.Of(x)); got != want {
			t.Fatalf("%d: %d", x, got)
		}
	}
}

// P1.7

func TestText(t *testing.T) {
	r := rand.New(rand.NewSource(7))
	l := corners()
	for range 1000 {
		l = append(l, randomNum(r, 256))
	}
	for _, a := range l {
		s := num.Text(a)
		if s != value(a).String() {
			t.Fatalf("%v: %q", a, s)
		}
		if b, ok := num.Parse(s); !ok || !same(a, b) {
			t.Fatalf("Parse of %q: %v, %v", s, b, ok)
		}
	}
}

// TestTextOfPowers has the numbers about the powers of 10, whose texts have many zeros or nines.
func TestTextOfPowers(t *testing.T) {
	for e := range 2466 {
		if e > 60 && e%9 > 1 && e < 2460 {
			continue
		}
		for _, more := range []int64{-1, 0, 1} {
			v := new(big.Int).Exp(big.NewInt(10), big.NewInt(int64(e)), nil)
			v.Add(v, big.NewInt(more))
			a, _ := of(v)
			if s := num.Text(a); s != v.String() {
				t.Fatalf("10^%d + %d: %q", e, more, s)
			}
			if b, ok := num.Parse(v.String()); !ok || !same(a, b) {
				t.Fatalf("10^%d + %d: %v, %v", e, more, b, ok)
			}
		}
	}
}

func TestTextExamples(t *testing.T) {
	for _, x := range []struct {
		a    api.Num
		want string
	}{
		{neg(0, 0, 1), "-18446744073709551616"},
		{n(), "0"},
		{api.Num{D: []uint32{}}, "0"},
		{neg(7), "-7"},
		{n(1_000_000_000), "1000000000"},
		{n(999_999_999), "999999999"},
		{neg(1_000_000_001), "-1000000001"},
	} {
		if got := num.Text(x.a); got != x.want {
			t.Errorf("%v: %q", x.a, got)
		}
	}
}

func TestParseExamples(t *testing.T) {
	for s, want := range map[string]int{"-12": -12, "0": 0, "7": 7, "-1": -1, "10": 10, "100000000": 100000000, "1000000000": 1000000000, "-1000000000": -1000000000, "9223372036854775807": math.MaxInt, "-9223372036854775808": math.MinInt} {
		if a, ok := num.Parse(s); !ok || !same(a, num.Of(want)) {
			t.Errorf("%q: %v, %v", s, a, ok)
		}
	}
}
