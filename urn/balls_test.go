package urn_test

import (
	"math"
	"slices"
	"testing"

	"equipoise/api"
)

// TestBallsExamples has the table of the chapter: P8.1.
func TestBallsExamples(t *testing.T) {
	d := design([]int{1, 2, 0}, 3)
	wantBalls(t, d, nil, []int{1, 2, 0})
	wantBalls(t, d, []int{}, []int{1, 2, 0})
	wantBalls(t, d, []int{4, 2, 7}, []int{4, 2, 7})
	wantBalls(t, d, []int{4, 2}, nil)
	wantBalls(t, d, []int{4, -1, 0}, nil)
	wantBalls(t, design([]int{1, 2, 0}, 9), nil, nil)
}

// TestBallsAtLimits has the least and the greatest ratios, numbers of balls, and Adds, and rows that are not empty, but whose elements are all 0: P8.1.
func TestBallsAtLimits(t *testing.T) {
	six := []int{8, 0, 1, 8, 0, 2}
	for _, add := range []int{0, 1, 7, 8} {
		wantBalls(t, design(nil, add), nil, nil)
		wantBalls(t, design([]int{0, 0}, add), nil, []int{0, 0})
		wantBalls(t, design([]int{0, 0}, add), []int{5, most}, []int{5, most})
		wantBalls(t, design([]int{1, 2, 0}, add), []int{0, 0, 0}, []int{0, 0, 0})
		wantBalls(t, design([]int{8}, add), nil, []int{8})
		wantBalls(t, design([]int{8}, add), []int{0}, []int{0})
		wantBalls(t, design([]int{8}, add), []int{most}, []int{most})
		wantBalls(t, design([]int{0}, add), []int{most}, []int{most})
		wantBalls(t, design(six, add), nil, six)
		wantBalls(t, design(six, add), slices.Repeat([]int{most}, 6), slices.Repeat([]int{most}, 6))
		wantBalls(t, design(six, add), make([]int, 6), make([]int, 6))
	}
}

// TestBalls compares all sorts of permitted arguments with the model: P8.1.
func TestBalls(t *testing.T) {
	for _, ratio := range ratios() {
		for add := range 9 {
			d := design(ratio, add)
			for _, row := range rows(len(ratio)) {
				if !permitted(d, row) {
					t.Fatalf("%s: the model does not permit it", named("Balls", d, row))
				}
				wantBalls(t, d, row, ballsOf(d, row))
			}
		}
	}
}

// TestBallsOfBadDesigns has designs that are not usable, with rows that would be well-formed: P8.1.
func TestBallsOfBadDesigns(t *testing.T) {
	for _, d := range badDesigns() {
		for _, row := range [][]int{nil, {}, make([]int, len(d.Ratio)), slices.Repeat([]int{1}, len(d.Ratio)), {1}, d.Ratio} {
			wantBalls(t, d, row, nil)
		}
	}
}

// TestBallsOfBadRows has rows that are not well-formed: P8.1.
func TestBallsOfBadRows(t *testing.T) {
	for i, ratio := range ratios() {
		for _, row := range badRows(len(ratio)) {
			wantBalls(t, design(ratio, i%9), row, nil)
		}
	}
}

// TestOnlyRatioAndAdd has designs in which all else is another: Kind, Sizes and Coin play no part.
func TestOnlyRatioAndAdd(t *testing.T) {
	want := design([]int{1, 2, 0}, 3)
	for _, kind := range []int{0, api.DeSimple, api.DeBlock, api.DeUrn, api.DeCoin, math.MinInt, math.MaxInt} {
		for _, sizes := range [][]int{nil, {}, {1}, {1, 2, 3}, {9, -1, 0, math.MinInt}} {
			for _, coin := range []api.Frac{{}, {N: 2, D: 3}, {N: math.MinInt, D: -1}} {
				d := api.Design{Kind: kind, Ratio: []int{1, 2, 0}, Sizes: sizes, Add: 3, Coin: coin}
				for _, row := range [][]int{nil, {0, 0, 0}, {2, 1, 4}} {
					wantBalls(t, d, row, ballsOf(want, row))
					wantChoices(t, d, row, choicesOf(want, row)...)
				}
				wantNext(t, d, nil, api.Choice{Weight: 2, Arm: 1}, []int{4, 2, 0}, true)
				wantNext(t, d, []int{2, 1, 4}, api.Choice{Weight: 2}, []int{2, 4, 4}, true)
			}
		}
	}
}
