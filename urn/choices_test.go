package urn_test

import (
	"slices"
	"testing"

	"equipoise/api"
)

// TestChoicesExamples has the table of the chapter: P8.2.
func TestChoicesExamples(t *testing.T) {
	d := design([]int{1, 2, 0}, 3)
	for _, row := range [][]int{nil, {}} {
		wantChoices(t, d, row, api.Choice{Weight: 1, Size: 0, Arm: 0}, api.Choice{Weight: 2, Size: 0, Arm: 1})
	}
	wantChoices(t, d, []int{4, 0, 7}, api.Choice{Weight: 4, Size: 0, Arm: 0})
}

// TestChoicesAtLimits has ratios with no element, with one, with the most and the greatest, and with none but 0, and rows with elements of 0, of 2^20, and for arms that are not in use: P8.2.
func TestChoicesAtLimits(t *testing.T) {
	for _, x := range []struct {
		ratio, row []int
		want       []api.Choice
	}{
		{nil, nil, nil},
		{[]int{}, []int{}, nil},
		{[]int{0}, nil, nil},
		{[]int{0, 0, 0}, nil, nil},
		{[]int{0, 0, 0}, []int{1, most, 3}, nil},
		{[]int{1}, nil, []api.Choice{{Weight: 1}}},
		{[]int{8}, nil, []api.Choice{{Weight: 8}}},
		{[]int{8}, []int{0}, nil},
		{[]int{8}, []int{most}, []api.Choice{{Weight: most}}},
		{[]int{1, 2, 0}, []int{0, 0, 0}, nil},
		{[]int{1, 2, 0}, []int{0, 0, 9}, nil},
		{[]int{1, 2, 0}, []int{0, 1, 9}, []api.Choice{{Weight: 1, Arm: 1}}},
		{[]int{0, 3, 0}, []int{5, most, 6}, []api.Choice{{Weight: most, Arm: 1}}},
		{[]int{8, 1, 2, 3, 4, 5}, nil, []api.Choice{{Weight: 8}, {Weight: 1, Arm: 1}, {Weight: 2, Arm: 2}, {Weight: 3, Arm: 3}, {Weight: 4, Arm: 4}, {Weight: 5, Arm: 5}}},
		{[]int{8, 1, 0, 3, 4, 5}, []int{0, 6, 7, most, 0, 1}, []api.Choice{{Weight: 6, Arm: 1}, {Weight: most, Arm: 3}, {Weight: 1, Arm: 5}}},
	} {
		for _, add := range []int{0, 3, 8} {
			wantChoices(t, design(x.ratio, add), x.row, x.want...)
		}
	}
}

// TestChoices compares all sorts of permitted arguments with the model: P8.2.
func TestChoices(t *testing.T) {
	for _, ratio := range ratios() {
		for add := range 9 {
			d := design(ratio, add)
			for _, row := range rows(len(ratio)) {
				wantChoices(t, d, row, choicesOf(d, row)...)
			}
		}
	}
}

// TestChoicesOfBadDesigns has designs that are not usable: P8.2.
func TestChoicesOfBadDesigns(t *testing.T) {
	for _, d := range badDesigns() {
		for _, row := range [][]int{nil, {}, make([]int, len(d.Ratio)), slices.Repeat([]int{1}, len(d.Ratio)), {1}, d.Ratio} {
			wantChoices(t, d, row)
		}
	}
}

// TestChoicesOfBadRows has rows that are not well-formed: P8.2.
func TestChoicesOfBadRows(t *testing.T) {
	for i, ratio := range ratios() {
		for _, row := range badRows(len(ratio)) {
			wantChoices(t, design(ratio, i%9), row)
		}
	}
}
