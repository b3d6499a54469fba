package coin_test

import (
	"slices"
	"testing"

	"equipoise/coin"
)

// TestUnevenExamples has the table of the chapter: P9.1.
func TestUnevenExamples(t *testing.T) {
	d := design([]int{1, 1, 2})
	wantUneven(t, d, []int{1, 0, 2}, 2)
	wantUneven(t, d, nil, 0)
	wantUneven(t, d, []int{}, 0)
	wantUneven(t, d, []int{1, 0}, 0)
}

// TestUnevenOfRows has ratios of 2 and of 6 elements, with those of 8 and of 0, the least and the greatest elements of rows, and such of arms that are not open, which play no part: P9.1.
func TestUnevenOfRows(t *testing.T) {
	for _, x := range []struct {
		ratio, row []int
		want       int
	}{
		{[]int{1, 1}, []int{0, 0}, 0},
		{[]int{1, 1}, []int{3, 5}, 2},
		{[]int{8, 8}, []int{7, 9}, 2},
		{[]int{4, 6}, []int{2, 2}, 2},
		{[]int{2, 4, 8}, []int{1, 1, 1}, 3},
		{[]int{8, 7}, []int{0, 0}, 0},
		{[]int{8, 7}, []int{1, 0}, 7},
		{[]int{8, 7}, []int{0, 1}, 8},
		{[]int{8, 7}, []int{8, 7}, 0},
		{[]int{8, 7}, []int{most, 0}, 7340025},
		{[]int{8, 7}, []int{0, most}, 8388600},
		{[]int{8, 7}, []int{most, most}, 1048575},
		{[]int{8, 7, 6, 5, 4, 3}, []int{1, 1, 1, 1, 1, 1}, 175},
		{[]int{8, 7, 6, 5, 4, 3}, []int{8, 7, 6, 5, 4, 3}, 0},
		{[]int{8, 7, 6, 5, 4, 3}, []int{most, 0, 0, 0, 0, 0}, 110100375},
		{[]int{8, 7, 6, 5, 4, 3}, []int{0, 0, 0, 0, 0, most}, 293601000},
		{[]int{8, 8, 8, 8, 8, 8}, []int{most, 0, 1, 2, 3, 4}, 1048575},
		{[]int{0, 5, 0, 1}, []int{9, 5, most, 1}, 0},
		{[]int{0, 5, 0, 1}, []int{most, 0, most, 3}, 15},
		{[]int{0, 0, 2, 0, 0, 3}, []int{1, 2, 2, 3, 4, 4}, 2},
		{[]int{8, 0, 1, 7, 0, 5}, []int{most, 4, 0, 0, 0, 0}, 36700125},
		{[]int{8, 0, 1, 7, 0, 5}, []int{0, most, most, 0, most, 0}, 293601000},
	} {
		wantUneven(t, design(x.ratio), x.row, x.want)
	}
}

// TestUneven compares all sorts of permitted arguments with the model: P9.1.
func TestUneven(t *testing.T) {
	for _, ratio := range ratios() {
		for _, row := range rows(len(ratio)) {
			wantUneven(t, design(ratio), row, unevenOf(ratio, row))
		}
	}
}

// TestUnevenOfAllRatios has all ratios of 2 elements, and many of 4, with units that only their least common multiple counts right: P9.1.
func TestUnevenOfAllRatios(t *testing.T) {
	all := lists([]int{0, 1, 2, 3, 4, 5, 6, 7, 8}, 2)
	for _, two := range slices.Clone(all) {
		all = append(all, slices.Concat(two, []int{6, 4}), slices.Concat(two, []int{0, 5}), slices.Concat([]int{0, 0}, two))
	}
	for _, ratio := range all {
		for _, row := range [][]int{{1, 0, 0, 0}, {0, 1, 0, 0}, {0, 0, 1, 0}, {0, 0, 0, 1}, {5, 4, 3, 2}} {
			wantUneven(t, design(ratio), row[:len(ratio)], unevenOf(ratio, row[:len(ratio)]))
		}
	}
}

// TestUnevenOfBadRatios has ratios that are not proper: P9.1.
func TestUnevenOfBadRatios(t *testing.T) {
	for _, ratio := range badRatios() {
		for _, row := range rowsFor(ratio) {
			wantUneven(t, design(ratio), row, 0)
		}
	}
}

// TestUnevenOfBadRows has rows that are not proper: P9.1.
func TestUnevenOfBadRows(t *testing.T) {
	for _, ratio := range ratios() {
		for _, row := range badRows(len(ratio)) {
			wantUneven(t, design(ratio), row, 0)
		}
	}
}

// TestOnlyRatio has designs of all kinds, with all coins and whatever else they have: nothing but the ratio plays a part: P9.1, P9.2, P9.4.
func TestOnlyRatio(t *testing.T) {
	for _, c := range append(coins(), badCoins()...) {
		for kind := -1; kind <= 5; kind++ {
			d := tossed([]int{1, 1, 2}, c)
			d.Kind, d.Add, d.Sizes = kind, 1-kind, []int{kind}
			if n := coin.Uneven(d, []int{1, 0, 2}); n != 2 {
				t.Errorf("kind %d, coin %v: Uneven: %d", kind, c, n)
			}
			if l := coin.Preferred(d, []int{1, 0, 2}, nil); !slices.Equal(l, []int{1}) {
				t.Errorf("kind %d, coin %v: Preferred: %v", kind, c, l)
			}
			if l, ok := coin.Next(d, nil, 2); !slices.Equal(l, []int{0, 0, 1}) || !ok {
				t.Errorf("kind %d, coin %v: Next: %v, %v", kind, c, l, ok)
			}
		}
	}
}
