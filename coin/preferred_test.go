package coin_test

import (
	"slices"
	"testing"
)

// TestPreferredExamples has the table of the chapter: P9.2.
func TestPreferredExamples(t *testing.T) {
	d := design([]int{1, 1, 2})
	for _, none := range [][]int{nil, {}} {
		wantPreferred(t, d, []int{1, 0, 2}, none, 1)
		wantPreferred(t, d, none, []int{1, 0, 2}, 1)
		wantPreferred(t, d, none, none, 2)
	}
}

// preferredRow is an example: the arms that are preferred for two rows.
type preferredRow struct {
	ratio, stratum, site, want []int
}

// TestPreferredOfRows has one and several preferred arms, and all of them, rows that prefer different arms, rows that are empty and ones whose elements are all 0, and units of arms that are not open, which play no part: P9.2.
func TestPreferredOfRows(t *testing.T) {
	for _, x := range []preferredRow{
		{[]int{1, 1}, nil, nil, []int{0, 1}},
		{[]int{1, 1}, []int{0, 0}, nil, []int{0, 1}},
		{[]int{1, 1}, []int{1, 0}, nil, []int{1}},
		{[]int{1, 1}, []int{1, 0}, []int{0, 1}, []int{0, 1}},
		{[]int{1, 1}, []int{2, 0}, []int{0, 1}, []int{0, 1}},
		{[]int{1, 2}, nil, nil, []int{1}},
		{[]int{1, 2}, []int{0, 1}, nil, []int{0, 1}},
		{[]int{1, 2}, []int{0, 1}, []int{0, 0}, []int{0, 1}},
		{[]int{1, 2}, []int{0, 2}, nil, []int{0}},
		{[]int{3, 0, 1}, nil, nil, []int{0}},
		{[]int{3, 0, 1}, []int{3, most, 0}, nil, []int{2}},
		{[]int{3, 0, 1}, []int{3, most, 0}, []int{3, 7, 1}, []int{2}},
		{[]int{0, 2, 0, 2}, []int{5, 1, 6, 1}, []int{7, 0, 0, 0}, []int{1, 3}},
		{[]int{0, 0, 0, 0, 8, 1}, nil, nil, []int{4}},
		{[]int{1, 1, 2}, []int{1, 0, 2}, []int{0, 0, 0}, []int{1}},
		{[]int{1, 1, 2}, []int{1, 0, 2}, []int{0, 1, 0}, []int{1}},
		{[]int{1, 1, 2}, []int{0, 3, 0}, []int{3, 0, 0}, []int{2}},
		{[]int{1, 1, 2}, []int{0, 1, 1}, []int{1, 0, 1}, []int{2}}, // the stratum alone prefers the arm 0, the site alone the arm 1
		{[]int{1, 2, 3}, []int{1, 0, 0}, nil, []int{2}},
		{[]int{1, 2, 3}, []int{1, 1, 2}, nil, []int{1, 2}},
		{[]int{1, 2, 3}, []int{1, 1, 2}, []int{0, 1, 2}, []int{1}},
		{[]int{8, 8, 8, 8, 8, 8}, nil, nil, []int{0, 1, 2, 3, 4, 5}},
		{[]int{8, 8, 8, 8, 8, 8}, []int{1, 1, 1, 1, 1, 0}, nil, []int{5}},
		{[]int{8, 8, 8, 8, 8, 8}, nil, []int{1, 1, 0, 1, 1, 0}, []int{2, 5}},
		{[]int{8, 7, 6, 5, 4, 3}, nil, nil, []int{0}},
		{[]int{8, 7, 6, 5, 4, 3}, []int{1, 0, 0, 0, 0, 0}, nil, []int{1}},
		{[]int{8, 7, 6, 5, 4, 3}, []int{1, 1, 0, 0, 0, 0}, []int{1, 1, 0, 0, 0, 0}, []int{2}},
		{[]int{8, 7, 6, 5, 4, 3}, []int{1, 1, 1, 1, 1, 0}, []int{1, 1, 1, 1, 0, 1}, []int{0}},
	} {
		wantPreferred(t, design(x.ratio), x.stratum, x.site, x.want...)
		wantPreferred(t, design(x.ratio), x.site, x.stratum, x.want...)
	}
}

// TestPreferredAtMost has arms with 2^20 - 1 units: one more would be too many, but is counted: P9.2.
func TestPreferredAtMost(t *testing.T) {
	for _, x := range []preferredRow{
		{[]int{1, 1}, []int{most, most}, nil, []int{0, 1}},
		{[]int{1, 1}, []int{most, most}, []int{most, most}, []int{0, 1}},
		{[]int{1, 1}, []int{most, most - 1}, []int{most, most}, []int{1}},
		{[]int{1, 1}, []int{most, 0}, []int{0, 1}, []int{0, 1}},
		{[]int{1, 1}, []int{most, 0}, []int{0, 2}, []int{0, 1}},
		{[]int{1, 1}, []int{most, 0}, []int{0, most}, []int{0, 1}},
		{[]int{1, 1}, []int{most, 0}, []int{0, most - 1}, []int{0, 1}},
		{[]int{1, 2}, []int{most, most}, nil, []int{1}},
		{[]int{2, 1}, []int{most, most}, []int{0, most}, []int{0}},
		{[]int{8, 8, 8, 8, 8, 8}, []int{most, most - 1, most, most, most, most}, nil, []int{1}},
		{[]int{8, 8, 8, 8, 8, 8}, slices.Repeat([]int{most}, 6), slices.Repeat([]int{most}, 6), []int{0, 1, 2, 3, 4, 5}},
	} {
		wantPreferred(t, design(x.ratio), x.stratum, x.site, x.want...)
		wantPreferred(t, design(x.ratio), x.site, x.stratum, x.want...)
	}
}

// TestPreferred compares all sorts of permitted arguments with the model: P9.2.
func TestPreferred(t *testing.T) {
	for _, ratio := range ratios() {
		for _, x := range pairs(len(ratio)) {
			wantPreferred(t, design(ratio), x[0], x[1], preferredOf(ratio, x[0], x[1])...)
		}
	}
}

// TestPreferredOfSmallRows has all rows with few units, in which many arms are preferred together: P9.2.
func TestPreferredOfSmallRows(t *testing.T) {
	small := lists([]int{0, 1, 2}, 3)
	for _, ratio := range [][]int{{1, 1, 1}, {1, 1, 2}, {2, 3, 4}, {1, 0, 2}, {8, 8, 1}} {
		for _, stratum := range small {
			for _, site := range small {
				wantPreferred(t, design(ratio), stratum, site, preferredOf(ratio, stratum, site)...)
			}
		}
	}
}

// TestPreferredOfBadRatios has ratios that are not proper: P9.2.
func TestPreferredOfBadRatios(t *testing.T) {
	for _, ratio := range badRatios() {
		for _, stratum := range rowsFor(ratio) {
			for _, site := range rowsFor(ratio) {
				wantPreferred(t, design(ratio), stratum, site)
			}
		}
	}
}

// TestPreferredOfBadRows has rows one of which is not proper, or none: P9.2.
func TestPreferredOfBadRows(t *testing.T) {
	for _, ratio := range ratios() {
		d, n := design(ratio), len(ratio)
		for _, bad := range badRows(n) {
			for _, good := range [][]int{nil, {}, make([]int, n), slices.Repeat([]int{2}, n), slices.Repeat([]int{most}, n)} {
				wantPreferred(t, d, bad, good)
				wantPreferred(t, d, good, bad)
			}
			wantPreferred(t, d, bad, bad)
		}
	}
}
