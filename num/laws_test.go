package num_test

import (
	"math/rand"
	"strconv"
	"testing"

	"equipoise/api"
	"equipoise/num"
)

// calc calculates with numbers for which everything fits.
type calc struct{ t *testing.T }

func (c calc) sure(a api.Num, ok bool) api.Num {
	c.t.Helper()
	if !ok || !num.Right(a) {
		c.t.Fatalf("it does not fit: %v, %v", a, ok)
	}
	return a
}

func (c calc) add(a, b api.Num) api.Num {
	c.t.Helper()
	r, ok := num.Add(a, b)
	return c.sure(r, ok)
}

func (c calc) sub(a, b api.Num) api.Num {
	c.t.Helper()
	r, ok := num.Sub(a, b)
	return c.sure(r, ok)
}

func (c calc) mul(a, b api.Num) api.Num {
	c.t.Helper()
	r, ok := num.Mul(a, b)
	return c.sure(r, ok)
}

func (c calc) gcd(a, b api.Num) api.Num {
	c.t.Helper()
	r, ok := num.Gcd(a, b)
	return c.sure(r, ok)
}

func (c calc) pow(a api.Num, n int) api.Num {
	c.t.Helper()
	r, ok := num.Pow(a, n)
	return c.sure(r, ok)
}

func (c calc) equal(law string, a, b api.Num, of ...any) {
	c.t.Helper()
	if !same(a, b) || num.Cmp(a, b) != 0 {
		c.t.Fatalf("%s of %v: %v, %v", law, of, a, b)
	}
}

// TestLaws has the laws of sums and products: P1.8.
func TestLaws(t *testing.T) {
	c := calc{t}
	r := rand.New(rand.NewSource(8))
	for range 2000 {
		x, y, z := randomNum(r, 80), randomNum(r, 80), randomNum(r, 80)
		c.equal("x + y", c.add(x, y), c.add(y, x), x, y)
		c.equal("x + y + z", c.add(c.add(x, y), z), c.add(x, c.add(y, z)), x, y, z)
		c.equal("x y", c.mul(x, y), c.mul(y, x), x, y)
		c.equal("x y z", c.mul(c.mul(x, y), z), c.mul(x, c.mul(y, z)), x, y, z)
		c.equal("x (y + z)", c.mul(x, c.add(y, z)), c.add(c.mul(x, y), c.mul(x, z)), x, y, z)
		c.equal("x (y - z)", c.mul(x, c.sub(y, z)), c.sub(c.mul(x, y), c.mul(x, z)), x, y, z)
		c.equal("x + y - y", c.sub(c.add(x, y), y), x, x, y)
		c.equal("x - x", c.sub(x, x), num.Of(0), x)
	}
}

// TestPowLaws has the power of a sum of exponents: P1.8.
func TestPowLaws(t *testing.T) {
	c := calc{t}
	r := rand.New(rand.NewSource(9))
	for range 500 {
		x := randomNum(r, 6)
		m, n := r.Intn(21), r.Intn(21)
		c.equal("x^(m + n)", c.pow(x, m+n), c.mul(c.pow(x, m), c.pow(x, n)), x, m, n)
		y := randomNum(r, 5)
		c.equal("(x y)^m", c.pow(c.mul(x, y), m), c.mul(c.pow(x, m), c.pow(y, m)), x, y, m)
	}
}

// TestGcdLaws has common factors: P1.8.
func TestGcdLaws(t *testing.T) {
	c := calc{t}
	r := rand.New(rand.NewSource(10))
	for range 1000 {
		x, y, f := randomNum(r, 120), randomNum(r, 120), randomNum(r, 120)
		size := f
		if f.Neg {
			size = minus(f)
		}
		fx, fy := c.mul(f, x), c.mul(f, y)
		g := c.gcd(fx, fy)
		c.equal("gcd of f x and f y", g, c.mul(size, c.gcd(x, y)), f, x, y)
		c.equal("gcd of y and x", c.gcd(x, y), c.gcd(y, x), x, y)
		if len(f.D) == 0 || len(g.D) == 0 {
			continue
		}
		for _, a := range []api.Num{fx, fy} {
			if _, rest, ok := num.Div(a, g); !ok || len(rest.D) > 0 {
				t.Fatalf("gcd of %v and %v does not divide both: %v", fx, fy, g)
			}
		}
		if _, rest, ok := num.Div(g, f); !ok || len(rest.D) > 0 {
			t.Fatalf("%v does not divide gcd of %v and %v", f, fx, fy)
		}
	}
}

// TestBitsOfProducts has Bits of products: P1.9.
func TestBitsOfProducts(t *testing.T) {
	c := calc{t}
	r := rand.New(rand.NewSource(11))
	seen := [2]int{}
	for range 2000 {
		x, y := randomNum(r, 128), randomNum(r, 128)
		if len(x.D) == 0 || len(y.D) == 0 {
			continue
		}
		less := num.Bits(x) + num.Bits(y) - num.Bits(c.mul(x, y))
		if less != 0 && less != 1 {
			t.Fatalf("%v, %v: %d", x, y, less)
		}
		seen[less]++
	}
	if seen[0] == 0 || seen[1] == 0 {
		t.Error(seen)
	}
}

// TestTextOfTens has another decimal digit at the end: P1.9.
func TestTextOfTens(t *testing.T) {
	c := calc{t}
	r := rand.New(rand.NewSource(12))
	for range 300 {
		a := randomNum(r, 255)
		a.Neg = false
		if len(a.D) == 0 {
			continue
		}
		for d := range 10 {
			next := c.add(c.mul(num.Of(10), a), num.Of(d))
			if got := num.Text(next); got != num.Text(a)+strconv.Itoa(d) {
				t.Fatalf("10 %v + %d: %q", a, d, got)
			}
		}
	}
}
