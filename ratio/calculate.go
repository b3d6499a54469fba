package ratio

import (
	"equipoise/api"
	"equipoise/num"
)

// Add returns the sum; false if an argument is not right, or one of the integers of P3.3 is too long.
func Add(a, b api.Ratio) (api.Ratio, bool) {
	if !Right(a) || !Right(b) {
		return api.Ratio{}, false
	}
	g := common(a.D, b.D)
	x, xFits := num.Mul(a.N, part(b.D, g))
	y, yFits := num.Mul(b.N, part(a.D, g))
	s, fits := num.Add(x, y)
	if !xFits || !yFits || !fits {
		return api.Ratio{}, false
	}
	// Neither D / g has a factor in common with s, so that all that s has in common with the product of both D / g and g, it has in common with g.
	h := common(s, g)
	d, fits := num.Mul(part(a.D, h), part(b.D, g))
	if !fits {
		return api.Ratio{}, false
	}
	return api.Ratio{N: part(s, h), D: d}, true
}

// Sub returns a less b, as Add of a and of b with the opposite sign.
func Sub(a, b api.Ratio) (api.Ratio, bool) {
	b.N = minus(b.N)
	return Add(a, b)
}

// Sum adds the elements to 0, from the first one on; false if one Add returns false.
func Sum(l []api.Ratio) (api.Ratio, bool) {
	total := Int(0)
	for _, a := range l {
		var fits bool
		total, fits = Add(total, a)
		if !fits {
			return api.Ratio{}, false
		}
	}
	return total, true
}

// Mul returns the product; false if an argument is not right, or N or D of the result is too long.
func Mul(a, b api.Ratio) (api.Ratio, bool) {
	if !Right(a) || !Right(b) {
		return api.Ratio{}, false
	}
	return product(a, b)
}

// Div returns the quotient; false if an argument is not right, b is 0, or N or D of the result is too long.
func Div(a, b api.Ratio) (api.Ratio, bool) {
	if !Right(a) || Sign(b) == 0 {
		return api.Ratio{}, false
	}
	return product(a, upright(b.D, b.N))
}

// product returns the product of two right Ratios; false if N or D of it is too long. The common factors are taken out first, for without them, it may fit.
func product(a, b api.Ratio) (api.Ratio, bool) {
	g, h := common(a.N, b.D), common(b.N, a.D)
	n, fits := num.Mul(part(a.N, g), part(b.N, h))
	d, fine := num.Mul(part(a.D, h), part(b.D, g))
	if !fits || !fine {
		return api.Ratio{}, false
	}
	return api.Ratio{N: n, D: d}, true
}
