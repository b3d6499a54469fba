package draw

import (
	"slices"

	"equipoise/api"
)

// adder returns a function that adds a weight to those before it and returns their sum; false, and nothing is added, if the weight is not permitted or would make the sum more than span. As no sum is more, none is more than an int holds.
func adder() func(weight int) (int, bool) {
	sum := 0
	return func(weight int) (int, bool) {
		if weight < 1 || weight > span-sum {
			return 0, false
		}
		sum += weight
		return sum, true
	}
}

// sum returns the sum of the weights of l; 0, of which no number can be drawn, if there are no weights, or they are not permitted.
func sum(l []api.Choice) int {
	add := adder()
	total := 0
	for _, c := range l {
		upTo, ok := add(c.Weight)
		if !ok {
			return 0
		}
		total = upTo
	}
	return total
}

// firstAbove returns the index of the first choice of l for which the weights up to it, its own included, are together more than n. The weights are permitted, and all together are more than n.
func firstAbove(n int, l []api.Choice) int {
	add := adder()
	return slices.IndexFunc(l, func(c api.Choice) bool {
		upTo, _ := add(c.Weight)
		return upTo > n
	})
}
