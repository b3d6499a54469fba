package coin_test

import (
	"slices"
	"testing"

	"equipoise/api"
)

// weighted returns the choices of the arms from 0 on with these weights, without those of 0.
func weighted(weights ...int) []api.Choice {
	var l []api.Choice
	for arm, weight := range weights {
		if weight != 0 {
			l = append(l, api.Choice{Weight: weight, Size: 0, Arm: arm})
		}
	}
	return l
}

// TestChoicesExamples has the table of the chapter: P9.3.
func TestChoicesExamples(t *testing.T) {
	d := tossed([]int{1, 1, 2}, api.Frac{N: 2, D: 3})
	for _, none := range [][]int{nil, {}} {
		wantChoices(t, d, none, none, weighted(2, 2, 8)...)
	}
}

// TestChoicesOfCoins has coins of 1/2, of 1, of 99/100 and others, one and several preferred arms, and all of them, with weights that are not reduced: P9.3.
func TestChoicesOfCoins(t *testing.T) {
	half, most, sure := api.Frac{N: 1, D: 2}, api.Frac{N: 99, D: 100}, api.Frac{N: 1, D: 1}
	for _, x := range []struct {
		ratio         []int
		c             api.Frac
		stratum, site []int
		want          []api.Choice
	}{
		{[]int{1, 1}, half, nil, nil, weighted(1, 1)},
		{[]int{1, 1}, sure, nil, nil, weighted(1, 1)},
		{[]int{8, 8}, most, nil, []int{0, 0}, weighted(8, 8)},
		{[]int{2, 2, 0}, half, []int{5, 5, 0}, nil, weighted(2, 2)},
		{[]int{4, 4}, half, []int{1, 0}, nil, weighted(16, 16)},
		{[]int{4, 4}, most, []int{1, 0}, nil, weighted(16, 1584)},
		{[]int{4, 4}, sure, []int{1, 0}, nil, weighted(0, 16)},
		{[]int{1, 2}, half, []int{0, 1}, nil, weighted(1, 2)},
		{[]int{1, 2}, half, nil, nil, weighted(2, 2)},
		{[]int{1, 2}, most, nil, nil, weighted(2, 198)},
		{[]int{1, 2}, sure, nil, nil, weighted(0, 2)},
		{[]int{1, 1, 2}, half, []int{1, 0, 2}, nil, weighted(1, 3, 2)},
		{[]int{1, 1, 2}, sure, nil, []int{1, 0, 2}, weighted(0, 3)},
		{[]int{1, 1, 2}, api.Frac{N: 3, D: 4}, []int{0, 3, 0}, []int{3, 0, 0}, weighted(2, 2, 12)},
		{[]int{2, 4, 6}, half, []int{1, 1, 2}, nil, weighted(20, 8, 12)},
		{[]int{2, 4, 6}, api.Frac{N: 4, D: 5}, []int{1, 1, 2}, nil, weighted(20, 32, 48)},
		{[]int{0, 2, 0, 2}, half, []int{5, 1, 6, 1}, []int{7, 0, 0, 0}, weighted(0, 2, 0, 2)},
		{[]int{0, 2, 0, 4}, api.Frac{N: 2, D: 3}, []int{5, 0, 6, 1}, nil, weighted(0, 2, 0, 4)},
		{[]int{0, 2, 0, 4}, api.Frac{N: 2, D: 3}, []int{5, 0, 6, 2}, nil, weighted(0, 16, 0, 8)},
		{[]int{8, 7, 6, 5, 4, 3}, most, nil, nil, weighted(19800, 56, 48, 40, 32, 24)},
		{[]int{8, 7, 6, 5, 4, 3}, sure, nil, nil, weighted(200)},
		{[]int{8, 8, 8, 8, 8, 8}, half, nil, nil, weighted(8, 8, 8, 8, 8, 8)},
		{[]int{8, 8, 8, 8, 8, 8}, most, []int{1, 1, 1, 1, 1, 0}, nil, weighted(64, 64, 64, 64, 64, 31680)},
		{[]int{8, 8, 8, 8, 8, 8}, sure, nil, []int{1, 1, 0, 1, 1, 0}, weighted(0, 0, 256, 0, 0, 256)},
	} {
		wantChoices(t, tossed(x.ratio, x.c), x.stratum, x.site, x.want...)
		wantChoices(t, tossed(x.ratio, x.c), x.site, x.stratum, x.want...)
	}
}

// TestChoicesAtMost has an arm with 2^20 - 1 units, which can be preferred, and drawn, although it can get none: P9.3.
func TestChoicesAtMost(t *testing.T) {
	d := tossed([]int{1, 1}, api.Frac{N: 3, D: 4})
	wantChoices(t, d, []int{most, most}, nil, weighted(1, 1)...)
	wantChoices(t, d, []int{most, most}, []int{0, 1}, weighted(3, 1)...)
	wantChoices(t, d, nil, []int{most, 0}, weighted(1, 3)...)
}

// TestChoices compares all sorts of permitted arguments with the model: P9.3.
func TestChoices(t *testing.T) {
	for _, ratio := range ratios() {
		for i, x := range pairs(len(ratio)) {
			d := tossed(ratio, coins()[i%len(coins())])
			wantChoices(t, d, x[0], x[1], choicesOf(d, x[0], x[1])...)
		}
	}
}

// TestOnlyRatioAndCoin has designs of all kinds, with whatever else they have: nothing but the ratio and the coin plays a part: P9.3.
func TestOnlyRatioAndCoin(t *testing.T) {
	for kind := -1; kind <= 5; kind++ {
		for add := -1; add <= 9; add++ {
			for _, sizes := range [][]int{nil, {1, 2}, {-1}, {4, 3, 2, 1}} {
				d := api.Design{Kind: kind, Ratio: []int{1, 1, 2}, Sizes: sizes, Add: add, Coin: api.Frac{N: 2, D: 3}}
				wantChoices(t, d, nil, nil, weighted(2, 2, 8)...)
				wantChoices(t, d, []int{1, 0, 2}, nil, weighted(1, 6, 2)...)
			}
		}
	}
}

// TestChoicesOfAllCoins has all coins with small integers, permitted or not, for rows that prefer one arm, several, and all of them: P9.3.
func TestChoicesOfAllCoins(t *testing.T) {
	for n := -3; n <= 205; n++ {
		for denominator := -3; denominator <= 205; denominator++ {
			d := tossed([]int{1, 1, 2}, api.Frac{N: n, D: denominator})
			for _, stratum := range [][]int{nil, {1, 0, 2}, {0, 0, 1}} {
				wantChoices(t, d, stratum, nil, choicesOf(d, stratum, nil)...)
			}
		}
	}
}

// TestChoicesOfBadCoins has coins that are not permitted, whether all arms are preferred or not: P9.3.
func TestChoicesOfBadCoins(t *testing.T) {
	for _, c := range badCoins() {
		for _, ratio := range [][]int{{1, 1}, {1, 2}, {1, 0, 2}, {8, 8, 8, 8, 8, 8}} {
			for _, row := range [][]int{nil, {}, make([]int, len(ratio)), put(make([]int, len(ratio)), 0, 1)} {
				wantChoices(t, tossed(ratio, c), row, nil)
				wantChoices(t, tossed(ratio, c), nil, row)
			}
		}
	}
}

// TestChoicesOfBadRatios has ratios that are not proper: P9.3.
func TestChoicesOfBadRatios(t *testing.T) {
	for i, ratio := range badRatios() {
		for _, row := range rowsFor(ratio) {
			wantChoices(t, tossed(ratio, coins()[i%len(coins())]), row, nil)
			wantChoices(t, tossed(ratio, coins()[i%len(coins())]), nil, row)
			wantChoices(t, tossed(ratio, coins()[i%len(coins())]), row, row)
		}
	}
}

// TestChoicesOfBadRows has rows one of which is not proper, or none: P9.3.
func TestChoicesOfBadRows(t *testing.T) {
	for i, ratio := range ratios() {
		d, n := tossed(ratio, coins()[i%len(coins())]), len(ratio)
		for _, bad := range badRows(n) {
			for _, good := range [][]int{nil, {}, make([]int, n), slices.Repeat([]int{2}, n)} {
				wantChoices(t, d, bad, good)
				wantChoices(t, d, good, bad)
			}
			wantChoices(t, d, bad, bad)
		}
	}
}
