package design

import (
	"slices"

	"equipoise/api"
	"equipoise/ratio"
)

const (
	leastArms = 2   // of a design, and of those that are open
	mostParts = 100 // the greatest denominator of a coin
)

// Check returns what keeps a design from being valid for a number of arms; OK, if it is valid.
func Check(d api.Design, arms int) api.Errno {
	switch {
	case arms < leastArms || arms > api.MaxArms || len(d.Ratio) != arms:
		return api.ErrArm
	case d.Kind < api.DeSimple || d.Kind > api.DeCoin:
		return api.ErrDesign
	case !drawable(d.Ratio):
		return api.ErrWeight
	case !inRange(d):
		return api.ErrRange
	case hasOther(d):
		return api.ErrForm
	}
	return api.OK
}

// drawable reports whether all weights of arms are permitted, and enough arms are open.
func drawable(weights []int) bool {
	open := 0
	for _, weight := range weights {
		if weight > 0 {
			open++
		}
	}
	return open >= leastArms && within(weights, 0, api.MaxRatio)
}

// inRange reports whether that is permitted which a design has for its own kind.
func inRange(d api.Design) bool {
	switch d.Kind {
	case api.DeBlock:
		return len(d.Sizes) >= 1 && len(d.Sizes) <= api.MaxSizes && within(d.Sizes, 1, api.MaxTimes) && increasing(d.Sizes)
	case api.DeUrn:
		return d.Add >= 0 && d.Add <= api.MaxAdd
	case api.DeCoin:
		return ratio.Fit(d.Coin) && d.Coin.D <= mostParts && 2*d.Coin.N >= d.Coin.D && d.Coin.N <= d.Coin.D
	}
	return true
}

// hasOther reports whether a design has something that only another kind needs.
func hasOther(d api.Design) bool {
	return d.Kind != api.DeBlock && len(d.Sizes) > 0 || d.Kind != api.DeUrn && d.Add != 0 || d.Kind != api.DeCoin && d.Coin != api.Frac{}
}

// within reports whether each number of l is from lo to hi.
func within(l []int, lo, hi int) bool {
	return !slices.ContainsFunc(l, func(n int) bool { return n < lo || n > hi })
}

// increasing reports whether each number of l is greater than the one before it.
func increasing(l []int) bool {
	for i := 1; i < len(l); i++ {
		if l[i] <= l[i-1] {
			return false
		}
	}
	return true
}
