package ratio_test

import (
	"math/big"
	"math/rand"
	"slices"
	"testing"

	"equipoise/api"
	"equipoise/ratio"
)

// sum returns the sum of two numbers, and whether none of the integers of P3.3 is too long.
func sum(x, y *big.Rat) (*big.Rat, bool) {
	g := new(big.Int).GCD(nil, nil, x.Denom(), y.Denom())
	a := new(big.Int).Mul(x.Num(), new(big.Int).Div(y.Denom(), g))
	b := new(big.Int).Mul(y.Num(), new(big.Int).Div(x.Denom(), g))
	s := new(big.Rat).Add(x, y)
	return s, fits(a, b, new(big.Int).Add(a, b), s.Denom())
}

// product returns the product of two numbers, and whether its integers are not too long.
func product(x, y *big.Rat) (*big.Rat, bool) {
	p := new(big.Rat).Mul(x, y)
	return p, fits(p.Num(), p.Denom())
}

// quotient returns the quotient of two numbers, and whether it is there, and its integers are not too long.
func quotient(x, y *big.Rat) (*big.Rat, bool) {
	if y.Sign() == 0 {
		return nil, false
	}
	return product(x, reciprocal(y))
}

// pairs calls f for pairs of corners, and for random pairs, with their right Ratios.
func pairs(t *testing.T, f func(x, y *big.Rat, a, b api.Ratio)) {
	t.Helper()
	var l []api.Ratio
	for _, x := range corners() {
		l = append(l, sure(t, x))
	}
	for i, x := range corners() {
		for j, y := range corners() {
			f(x, y, l[i], l[j])
		}
	}
	r := rand.New(rand.NewSource(1))
	for k := range 1500 {
		most := []int{40, 300, 4200, fit}[k%4]
		x, y := random(r, most), random(r, most)
		f(x, y, sure(t, x), sure(t, y))
	}
}

// P3.3, P3.4

func TestCalculate(t *testing.T) {
	seen := map[bool]int{}
	pairs(t, func(x, y *big.Rat, a, b api.Ratio) {
		for name, f := range operations() {
			var want *big.Rat
			var fine bool
			switch name {
			case "Add":
				want, fine = sum(x, y)
			case "Sub":
				want, fine = sum(x, opposite(y))
			case "Mul":
				want, fine = product(x, y)
			case "Div":
				want, fine = quotient(x, y)
			}
			got, ok := f(a, b)
			check(t, name, got, ok, want, fine, x, y)
			seen[fine]++
		}
	})
	if seen[true] < 1000 || seen[false] < 1000 {
		t.Error(seen)
	}
}

func TestCalculateExamples(t *testing.T) {
	for _, x := range []struct {
		name       string
		a, b, want *big.Rat
	}{
		{"Add", small(1, 6), small(1, 10), small(4, 15)},
		{"Sub", small(1, 2), small(2, 3), small(-1, 6)},
		{"Mul", small(2, 3), small(3, 4), small(1, 2)},
		{"Div", small(1, 2), small(-3, 4), small(-2, 3)},
		{"Div", small(1, 2), small(0, 1), nil},
		{"Div", small(0, 1), small(0, 1), nil},
		{"Div", small(0, 1), small(-7, 3), small(0, 1)},
		{"Mul", integer(two(8191, 0)), integer(two(8191, 0)), nil},
		{"Add", small(1, 2), small(1, 2), small(1, 1)},
		{"Add", small(1, 6), small(-1, 6), small(0, 1)},
		{"Sub", small(-5, 7), small(-5, 7), small(0, 1)},
		{"Sub", small(0, 1), small(5, 7), small(-5, 7)},
		{"Sub", small(5, 7), small(0, 1), small(5, 7)},
		{"Mul", small(-2, 3), small(-3, 2), small(1, 1)},
		{"Mul", small(0, 1), small(-3, 2), small(0, 1)},
	} {
		got, ok := operations()[x.name](sure(t, x.a), sure(t, x.b))
		check(t, x.name, got, ok, x.want, x.want != nil, x.a, x.b)
	}
}

// atLimit is a sum or a product of two numbers, one integer of which is as long as permitted, or just too long.
type atLimit struct {
	why  string
	a, b *big.Rat
	want bool
}

// sumsAtTheLimit has pairs of sums that differ by whether one integer of P3.3 is too long, whereas all others are not.
func sumsAtTheLimit() []atLimit {
	half := two(fit/2, 1)
	return []atLimit{
		{"the first product", integer(two(fit-1, -1)), small(-1, 2), true},
		{"the first product", integer(two(fit-1, 0)), small(-1, 2), false}, // 2^8192 - 1 is the sum
		{"the first product, negative", opposite(integer(two(fit-1, -1))), small(1, 2), true},
		{"the first product, negative", opposite(integer(two(fit-1, 0))), small(1, 2), false},
		{"the first product, with a common factor", over(two(fit-1, -1), big.NewInt(15)), small(-1, 30), true},
		{"the first product, with a common factor", over(two(fit-1, 0), big.NewInt(15)), small(-1, 30), false},
		{"the second product", small(-1, 2), integer(two(fit-1, -1)), true},
		{"the second product", small(-1, 2), integer(two(fit-1, 0)), false},
		{"both products", integer(two(fit-1, 0)), over(two(fit, -1), big.NewInt(2)), false},
		{"both products, which cancel", over(two(fit-1, 0), big.NewInt(3)), over(two(fit-1, 0), big.NewInt(-5)), false},
		{"the sum", integer(two(fit, -2)), small(1, 1), true},
		{"the sum", integer(two(fit, -1)), small(1, 1), false},
		{"the sum, negative", opposite(integer(two(fit, -2))), small(-1, 1), true},
		{"the sum, negative", opposite(integer(two(fit, -1))), small(-1, 1), false},
		{"the sum, half of which is not too long", over(two(fit, -3), big.NewInt(2)), small(1, 2), true},
		{"the sum, half of which is not too long", over(two(fit, -1), big.NewInt(2)), small(1, 2), false},
		{"the sum, which is as long as permitted", integer(two(fit-1, 0)), integer(two(fit-1, -1)), true},
		{"the sum, which is just too long", integer(two(fit-1, 0)), integer(two(fit-1, 0)), false},
		{"the sum of products as long as permitted", integer(two(fit, -1)), opposite(integer(two(fit, -1))), true},
		{"D", inverse(two(fit-2, 0)), small(1, 3), true},
		{"D", inverse(two(fit-1, 0)), small(1, 3), false},
		{"D, with 2 in common", inverse(new(big.Int).Mul(big.NewInt(2), half)), inverse(new(big.Int).Mul(big.NewInt(2), two(fit/2, -1))), true}, // D is 2^8192 - 1
		{"D, with 2 in common", inverse(new(big.Int).Mul(big.NewInt(2), half)), inverse(new(big.Int).Mul(big.NewInt(2), two(fit/2, 3))), false},
		{"D, without 2 in common", inverse(half), inverse(two(fit/2, -1)), true},
		{"D, without 2 in common", inverse(half), inverse(two(fit/2, 3)), false},
		{"equal D", over(two(fit, -2), two(fit, -1)), inverse(two(fit, -1)), true}, // the sum is 1
		{"equal D", over(two(fit, -3), two(fit, -1)), inverse(two(fit, -1)), true},
		{"0 and long integers", small(0, 1), over(two(fit, -2), two(fit, -1)), true},
	}
}

func TestSumsAtTheLimit(t *testing.T) {
	checkLimits(t, sumsAtTheLimit(), sum, ratio.Add, ratio.Sub, opposite)
}

// checkLimits checks the sums, or the products, in both orders, and the differences, or the quotients, that are the same.
func checkLimits(t *testing.T, l []atLimit, model func(x, y *big.Rat) (*big.Rat, bool), do, undo operation, back func(x *big.Rat) *big.Rat) {
	t.Helper()
	for _, x := range l {
		want, fine := model(x.a, x.b)
		if fine != x.want {
			t.Fatalf("%s: it is %v that all of it fits", x.why, fine)
		}
		a, b := sure(t, x.a), sure(t, x.b)
		got, ok := do(a, b)
		check(t, x.why, got, ok, want, fine, x.a, x.b)
		got, ok = do(b, a)
		check(t, x.why+", turned", got, ok, want, fine, x.b, x.a)
		got, ok = undo(a, sure(t, back(x.b)))
		check(t, x.why+", undone", got, ok, want, fine, x.a, back(x.b))
	}
}

func TestProductsAtTheLimit(t *testing.T) {
	half := integer(two(fit/2, 1))
	checkLimits(t, []atLimit{
		{"N", half, integer(two(fit/2, -1)), true},
		{"N", half, integer(two(fit/2, 0)), false},
		{"N, negative", half, opposite(integer(two(fit/2, -1))), true},
		{"N, negative", half, opposite(integer(two(fit/2, 0))), false},
		{"N", integer(two(fit-1, 0)), small(1, 1), true},
		{"N", integer(two(fit-1, 0)), small(2, 1), false},
		{"N and a D without common factors", integer(two(fit-1, 0)), small(2, 3), false},
		{"D", inverse(two(fit/2, 1)), inverse(two(fit/2, -1)), true},
		{"D", inverse(two(fit/2, 1)), inverse(two(fit/2, 0)), false},
		{"D", inverse(two(fit-1, 0)), small(3, 2), false},
		{"N, with common factors", over(two(fit-1, 0), big.NewInt(3)), small(3, 2), true},
		{"N, with common factors", over(two(fit-1, 0), big.NewInt(3)), small(9, 4), true},
		{"N, with common factors", over(two(fit-1, 0), big.NewInt(3)), small(9, 2), true}, // 3 times 2^8190
		{"N, with common factors", over(two(fit-1, 0), big.NewInt(3)), small(9, 1), false},
		{"D, with common factors", over(big.NewInt(3), two(fit-1, 0)), small(2, 3), true},
		{"D, with common factors", over(big.NewInt(3), two(fit-1, 0)), small(2, 9), true},
		{"long common factors", over(two(fit, -2), two(fit, -1)), over(two(fit, -1), two(fit, -2)), true},
		{"long common factors", over(two(fit, -2), two(fit, -1)), over(two(fit, -3), two(fit, -2)), true},
		{"long N and D", over(two(fit, -2), two(fit, -1)), over(two(fit, -2), two(fit, -1)), false},
		{"0", small(0, 1), over(two(fit, -2), two(fit, -1)), true},
	}, product, ratio.Mul, ratio.Div, reciprocal)
}

// TestWrongArguments has arguments that are not right, at each of both positions.
func TestWrongArguments(t *testing.T) {
	partners := append(wrong(), ofInts(0, 1), ofInts(1, 1), ofInts(-5, 1), ofInts(3, 7), ofInts(-2, 1<<40), api.Ratio{N: full(256), D: n(1)}, api.Ratio{N: n(1), D: full(256)})
	for name, f := range operations() {
		for _, a := range wrong() {
			for _, b := range partners {
				if got, ok := f(a, b); ok || !isZero(got) {
					t.Fatalf("%s of %v and %v: %v, %v", name, a, b, got, ok)
				}
				if got, ok := f(b, a); ok || !isZero(got) {
					t.Fatalf("%s of %v and %v: %v, %v", name, b, a, got, ok)
				}
			}
		}
	}
}

// P3.6

func TestSum(t *testing.T) {
	r := rand.New(rand.NewSource(2))
	for k := range 300 {
		most := []int{10, 40, 500, 5000}[k%4]
		var l []api.Ratio
		want, fine := new(big.Rat), true
		for range r.Intn(12) {
			x := random(r, most)
			l = append(l, sure(t, x))
			if fine {
				want, fine = sum(want, x)
			}
		}
		got, ok := ratio.Sum(l)
		check(t, "Sum", got, ok, want, fine)
	}
}

func TestSumExamples(t *testing.T) {
	high, low := two(fit-1, 0), opposite(integer(two(fit-1, 0)))
	for _, x := range []struct {
		why  string
		l    []*big.Rat
		want *big.Rat
	}{
		{"three", []*big.Rat{small(1, 2), small(1, 3), small(1, 6)}, small(1, 1)},
		{"nothing", nil, small(0, 1)},
		{"one", []*big.Rat{small(-3, 4)}, small(-3, 4)},
		{"the longest", []*big.Rat{over(two(fit, -2), two(fit, -1))}, over(two(fit, -2), two(fit, -1))},
		{"zeros", []*big.Rat{small(0, 1), small(0, 1)}, small(0, 1)},
		{"too long at the end", []*big.Rat{small(1, 1), integer(high), integer(high)}, nil},
		{"too long on the way", []*big.Rat{integer(high), integer(high), low}, nil},
		{"in another order", []*big.Rat{integer(high), low, integer(high)}, integer(high)},
		{"in another order, too", []*big.Rat{low, integer(high), integer(high)}, integer(high)},
		{"too long on the way, and negative", []*big.Rat{low, low, integer(high)}, nil},
		{"not too long on the way, and negative", []*big.Rat{low, opposite(integer(two(fit-1, -1))), integer(high)}, opposite(integer(two(fit-1, -1)))},
	} {
		var l []api.Ratio
		for _, y := range x.l {
			l = append(l, sure(t, y))
		}
		got, ok := ratio.Sum(l)
		check(t, x.why, got, ok, x.want, x.want != nil)
	}
	if got, ok := ratio.Sum([]api.Ratio{}); !ok || !same(got, ofInts(0, 1)) {
		t.Errorf("an empty slice: %v, %v", got, ok)
	}
}

// TestSumOfWrong has an element that is not right, anywhere.
func TestSumOfWrong(t *testing.T) {
	for _, a := range wrong() {
		for n := range 4 {
			l := slices.Insert(slices.Repeat([]api.Ratio{ofInts(1, 2)}, 3), n, a)
			if got, ok := ratio.Sum(l); ok || !isZero(got) {
				t.Errorf("%v: %v, %v", l, got, ok)
			}
		}
		if got, ok := ratio.Sum([]api.Ratio{a}); ok || !isZero(got) {
			t.Errorf("only %v: %v, %v", a, got, ok)
		}
	}
}
