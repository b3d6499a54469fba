package ratio_test

import (
	"math/big"
	"math/rand"
	"testing"

	"equipoise/api"
	"equipoise/ratio"
)

// calc calculates with numbers for which nothing is too long.
type calc struct{ t *testing.T }

func (c calc) of(f operation, a, b api.Ratio) api.Ratio {
	c.t.Helper()
	r, ok := f(a, b)
	if !ok || !ratio.Right(r) {
		c.t.Fatalf("%v and %v: %v, %v", a, b, r, ok)
	}
	return r
}

func (c calc) add(a, b api.Ratio) api.Ratio { c.t.Helper(); return c.of(ratio.Add, a, b) }
func (c calc) sub(a, b api.Ratio) api.Ratio { c.t.Helper(); return c.of(ratio.Sub, a, b) }
func (c calc) mul(a, b api.Ratio) api.Ratio { c.t.Helper(); return c.of(ratio.Mul, a, b) }
func (c calc) div(a, b api.Ratio) api.Ratio { c.t.Helper(); return c.of(ratio.Div, a, b) }

// equal checks that two ways lead to the same Ratio, in all fields (P3.10).
func (c calc) equal(law string, a, b api.Ratio, of ...api.Ratio) {
	c.t.Helper()
	if !same(a, b) || ratio.Cmp(a, b) != 0 {
		c.t.Fatalf("%s of %v: %v, %v", law, of, a, b)
	}
}

// triples calls f for random numbers for which nothing is too long.
func triples(t *testing.T, seed int64, f func(x, y, z api.Ratio)) {
	t.Helper()
	r := rand.New(rand.NewSource(seed))
	for k := range 600 {
		most := []int{6, 60, 600}[k%3]
		f(sure(t, random(r, most)), sure(t, random(r, most)), sure(t, random(r, most)))
	}
}

// P3.9

func TestLaws(t *testing.T) {
	c := calc{t}
	triples(t, 7, func(x, y, z api.Ratio) {
		c.equal("x + y", c.add(x, y), c.add(y, x), x, y)
		c.equal("x + y + z", c.add(c.add(x, y), z), c.add(x, c.add(y, z)), x, y, z)
		c.equal("x y", c.mul(x, y), c.mul(y, x), x, y)
		c.equal("x y z", c.mul(c.mul(x, y), z), c.mul(x, c.mul(y, z)), x, y, z)
		c.equal("x (y + z)", c.mul(x, c.add(y, z)), c.add(c.mul(x, y), c.mul(x, z)), x, y, z)
		c.equal("x (y - z)", c.mul(x, c.sub(y, z)), c.sub(c.mul(x, y), c.mul(x, z)), x, y, z)
		c.equal("x + y - y", c.sub(c.add(x, y), y), x, x, y)
		c.equal("x - y + y", c.add(c.sub(x, y), y), x, x, y)
		c.equal("x - x", c.sub(x, x), ratio.Int(0), x)
		c.equal("x - y", c.sub(x, y), c.mul(ratio.Int(-1), c.sub(y, x)), x, y)
		c.equal("x + 0", c.add(x, ratio.Int(0)), x, x)
		c.equal("1 x", c.mul(ratio.Int(1), x), x, x)
		if ratio.Sign(y) == 0 {
			return
		}
		c.equal("x y / y", c.div(c.mul(x, y), y), x, x, y)
		c.equal("x / y y", c.mul(c.div(x, y), y), x, x, y)
		c.equal("y / y", c.div(y, y), ratio.Int(1), y)
		c.equal("(x + z) / y", c.div(c.add(x, z), y), c.add(c.div(x, y), c.div(z, y)), x, y, z)
	})
}

func TestOrder(t *testing.T) {
	c := calc{t}
	triples(t, 8, func(x, y, z api.Ratio) {
		order := ratio.Cmp(x, y)
		if ratio.Cmp(y, x) != -order || (order == 0) != same(x, y) || ratio.Sign(c.sub(x, y)) != order {
			t.Fatalf("%v and %v: %d", x, y, order)
		}
		if order <= 0 && ratio.Cmp(y, z) <= 0 && ratio.Cmp(x, z) > 0 {
			t.Fatalf("%v, %v and %v: no order", x, y, z)
		}
		if got := ratio.Cmp(c.add(x, z), c.add(y, z)); got != order {
			t.Fatalf("%v and %v, with %v added: %d", x, y, z, got)
		}
		if got := ratio.Cmp(c.mul(x, z), c.mul(y, z)); got != order*ratio.Sign(z) {
			t.Fatalf("%v and %v, multiplied by %v: %d", x, y, z, got)
		}
		if ratio.Sign(x) != ratio.Cmp(x, ratio.Int(0)) {
			t.Fatalf("the sign of %v", x)
		}
	})
}

// P3.10

func TestEqualFields(t *testing.T) {
	var l []api.Ratio
	for _, x := range corners() {
		l = append(l, sure(t, x))
	}
	for i, a := range l {
		for j, b := range l {
			equal := i == j
			if same(a, b) != equal || (ratio.Cmp(a, b) == 0) != equal || (ratio.Text(a) == ratio.Text(b)) != equal {
				t.Fatalf("%v and %v", a, b)
			}
		}
	}
}

// TestManyWays has numbers that several calls return: the same fields each time, and the same text.
func TestManyWays(t *testing.T) {
	c := calc{t}
	r := rand.New(rand.NewSource(9))
	for range 300 {
		x, f := random(r, 300), factors(r, 300)
		want := sure(t, x)
		n, d := sure(t, integer(new(big.Int).Mul(x.Num(), f))), sure(t, integer(new(big.Int).Mul(x.Denom(), f)))
		got, ok := ratio.Of(n.N, d.N)
		if !ok {
			t.Fatalf("%v times %v is refused", x, f)
		}
		c.equal("Of", got, want)
		c.equal("Div", c.div(n, d), want)
		parsed, ok := ratio.Parse(x.RatString())
		if !ok || ratio.Text(parsed) != x.RatString() {
			t.Fatalf("%v: %v, %v", x, parsed, ok)
		}
		c.equal("Parse", parsed, want)
		third := c.div(want, ratio.Int(3))
		sum, ok := ratio.Sum([]api.Ratio{third, third, third})
		if !ok {
			t.Fatalf("three times %v", third)
		}
		c.equal("Sum", sum, want)
	}
}
