package ratio

import (
	"strings"

	"equipoise/api"
	"equipoise/num"
)

// Text returns a as its N, and, unless D is 1, a slash and D; the empty string if a is not right.
func Text(a api.Ratio) string {
	switch {
	case !Right(a):
		return ""
	case isOne(a.D):
		return num.Text(a.N)
	}
	return num.Text(a.N) + "/" + num.Text(a.D)
}

// Parse returns the right Ratio whose Text is s; false if there is none.
func Parse(s string) (api.Ratio, bool) {
	n, d, divided := strings.Cut(s, "/")
	if !divided {
		d = "1"
	}
	a, isNum := num.Parse(n)
	b, isToo := num.Parse(d)
	r := api.Ratio{N: a, D: b}
	if !isNum || !isToo || !Right(r) || divided && isOne(b) {
		return api.Ratio{}, false
	}
	return r, true
}
