package ratio

import (
	"equipoise/api"
	"equipoise/num"
)

// Cmp returns -1, 0 or 1 if a is less than, equal to, or greater than b; 0 if one of them is not right.
func Cmp(a, b api.Ratio) int {
	if !Right(a) || !Right(b) {
		return 0
	}
	x, fits := num.Mul(a.N, b.D)
	y, fine := num.Mul(b.N, a.D)
	switch {
	case fits && fine:
		return num.Cmp(x, y)
	case num.Cmp(a.N, b.N) == 0 && num.Cmp(a.D, b.D) == 0: // compare would go on until nothing is left of them
		return 0
	}
	return compare(a, b)
}

// compare compares two right Ratios by their continued fractions, because no integer on this way is longer than those of a and b. Where the integers below both are equal, the reciprocals of what is left are compared, the other way round.
func compare(a, b api.Ratio) int {
	left, way := [2]api.Ratio{a, b}, 1
steps:
	for {
		var below [2]api.Num
		var next [2]api.Ratio
		for k, r := range left {
			q, rest, ok := num.Div(r.N, r.D)
			if !ok { // D is 0: the reciprocal of nothing, which is greater than all others
				break steps
			}
			below[k], next[k] = q, api.Ratio{N: r.D, D: rest}
		}
		if order := num.Cmp(below[0], below[1]); order != 0 {
			return way * order
		}
		left, way = next, -way
	}
	return way * num.Cmp(left[1].D, left[0].D)
}
