package ratio

import (
	"equipoise/api"
	"equipoise/num"
)

// right reports whether all of these are right Nums.
func right(l ...api.Num) bool {
	for _, a := range l {
		if !num.Right(a) {
			return false
		}
	}
	return true
}

// sign returns the sign of a right Num.
func sign(a api.Num) int { return num.Cmp(a, api.Num{}) }

// isOne reports whether a right Num is 1.
func isOne(a api.Num) bool { return num.Cmp(a, num.Of(1)) == 0 }

// common returns the greatest common divisor of two right Nums.
func common(a, b api.Num) api.Num {
	g, _ := num.Gcd(a, b)
	return g
}

// part returns a divided by b, both of which are right, without the rest; b is positive.
func part(a, b api.Num) api.Num {
	q, _, _ := num.Div(a, b)
	return q
}

// minus returns a with the opposite sign. There is no negative 0, so that what is not right does not become right by it.
func minus(a api.Num) api.Num {
	if len(a.D) > 0 {
		a.Neg = !a.Neg
	}
	return a
}

// upright returns n / d with a positive D, for a d other than 0 and no common divisor.
func upright(n, d api.Num) api.Ratio {
	if d.Neg {
		n, d = minus(n), minus(d)
	}
	return api.Ratio{N: n, D: d}
}

// ofInts returns a Ratio with this N and D, whether it is right or not.
func ofInts(n, d int) api.Ratio { return api.Ratio{N: num.Of(n), D: num.Of(d)} }
