package coin_test

import (
	"slices"
	"testing"
)

// TestNextExamples has the table of the chapter: P9.4.
func TestNextExamples(t *testing.T) {
	d := design([]int{1, 1, 2})
	for _, row := range [][]int{nil, {}} {
		wantNext(t, d, row, 2, []int{0, 0, 1}, true)
		wantNext(t, d, row, 3, nil, false)
	}
}

// TestNextOfRows has ratios of 2 and of 6 elements, the empty row and ones whose elements are all 0, units of arms that are not open, and elements that become 2^20 - 1 and 2^20: P9.4.
func TestNextOfRows(t *testing.T) {
	for _, x := range []struct {
		ratio, row []int
		arm        int
		want       []int
	}{
		{[]int{1, 1}, nil, 0, []int{1, 0}},
		{[]int{8, 8}, nil, 1, []int{0, 1}},
		{[]int{1, 1}, []int{0, 0}, 1, []int{0, 1}},
		{[]int{1, 1}, []int{3, 9}, 0, []int{4, 9}},
		{[]int{1, 1}, []int{most - 1, 0}, 0, []int{most, 0}},
		{[]int{1, 1}, []int{most, 0}, 0, nil},
		{[]int{1, 1}, []int{most, 0}, 1, []int{most, 1}},
		{[]int{1, 1}, []int{0, most}, 1, nil},
		{[]int{1, 1}, []int{most, most}, 0, nil},
		{[]int{3, 0, 1}, nil, 1, nil},
		{[]int{3, 0, 1}, []int{3, 4, 5}, 1, nil},
		{[]int{3, 0, 1}, []int{3, most, 5}, 1, nil},
		{[]int{3, 0, 1}, []int{3, most, 5}, 2, []int{3, most, 6}},
		{[]int{0, 0, 2, 0, 0, 3}, []int{1, 2, 3, 4, 5, 6}, 5, []int{1, 2, 3, 4, 5, 7}},
		{[]int{8, 8, 8, 8, 8, 8}, nil, 5, []int{0, 0, 0, 0, 0, 1}},
		{[]int{8, 8, 8, 8, 8, 8}, slices.Repeat([]int{most}, 6), 5, nil},
		{[]int{8, 8, 8, 8, 8, 8}, slices.Repeat([]int{most - 1}, 6), 3, []int{most - 1, most - 1, most - 1, most, most - 1, most - 1}},
	} {
		wantNext(t, design(x.ratio), x.row, x.arm, x.want, x.want != nil)
	}
}

// farArms returns arms that no ratio has.
func farArms() []int { return append(badNumbers(), 7, 8, 64, most) }

// TestNext compares all sorts of permitted ratios and rows with the model, for each arm, open or not, and for such that there are not: P9.4.
func TestNext(t *testing.T) {
	for _, ratio := range ratios() {
		for _, row := range rows(len(ratio)) {
			for arm := -1; arm <= len(ratio); arm++ {
				want, ok := nextOf(ratio, row, arm)
				wantNext(t, design(ratio), row, arm, want, ok)
			}
		}
		for _, arm := range farArms() {
			wantNext(t, design(ratio), nil, arm, nil, false)
			wantNext(t, design(ratio), slices.Repeat([]int{1}, len(ratio)), arm, nil, false)
		}
	}
}

// TestNextOfBadRatios has ratios that are not proper: P9.4.
func TestNextOfBadRatios(t *testing.T) {
	for _, ratio := range badRatios() {
		for _, row := range rowsFor(ratio) {
			for arm := -1; arm <= 7; arm++ {
				wantNext(t, design(ratio), row, arm, nil, false)
			}
		}
	}
}

// TestNextOfBadRows has rows that are not proper: P9.4.
func TestNextOfBadRows(t *testing.T) {
	for _, ratio := range ratios() {
		for _, row := range badRows(len(ratio)) {
			for arm := -1; arm <= len(ratio); arm++ {
				wantNext(t, design(ratio), row, arm, nil, false)
			}
		}
	}
}
