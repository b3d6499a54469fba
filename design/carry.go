package design

import (
	"slices"

	"equipoise/api"
)

// Carry returns the state with which the design e goes on where d held before: s, if they are the same; s with rows for the arms of e, if both are urns, or both are coins; otherwise the one at first.
func Carry(d api.Design, s api.State, e api.Design) api.State {
	switch {
	case Same(d, e):
		return replaced(s, slices.Clone[[]int])
	case d.Kind == api.DeUrn && e.Kind == api.DeUrn:
		return replaced(s, func(row []int) []int { return carriedBalls(row, e.Ratio) })
	case d.Kind == api.DeCoin && e.Kind == api.DeCoin:
		return replaced(s, func(row []int) []int { return carriedUnits(row, e.Ratio) })
	}
	return Start()
}

// carriedBalls returns the balls with which an urn with these weights of arms goes on: arms that are new begin with their weight.
func carriedBalls(row, weights []int) []int {
	if len(row) == 0 {
		return nil
	}
	balls := make([]int, len(weights))
	for arm, weight := range weights {
		switch {
		case weight <= 0: // the arm is not open any more
		case arm < len(row):
			balls[arm] = row[arm]
		default:
			balls[arm] = weight
		}
	}
	if !slices.ContainsFunc(balls, func(n int) bool { return n != 0 }) {
		return nil // an empty urn could draw nothing; it begins anew
	}
	return balls
}

// carriedUnits returns the units with which a coin with these weights of arms goes on: arms that are new have none, and others keep theirs, open or not.
func carriedUnits(row, weights []int) []int {
	if len(row) == 0 {
		return nil
	}
	units := make([]int, len(weights))
	copy(units, row)
	return units
}
