package design_test

import (
	"slices"
	"testing"

	"equipoise/api"
)

// TestCheckExamples has the table of the chapter: P10.1.
func TestCheckExamples(t *testing.T) {
	wantCheck(t, simple(1, 2), 2, api.OK)
	wantCheck(t, simple(1, 2), 3, api.ErrArm)
	wantCheck(t, simple(1, 0), 2, api.ErrWeight)
	wantCheck(t, simple(1, 9), 2, api.ErrWeight)
	wantCheck(t, blocks([]int{2, 1}, 1, 1), 2, api.ErrRange)
	wantCheck(t, api.Design{Kind: api.DeSimple, Ratio: []int{1, 1}, Sizes: []int{1}}, 2, api.ErrForm)
	wantCheck(t, coins(1, 3, 1, 1), 2, api.ErrRange)
	wantCheck(t, coins(2, 4, 1, 1), 2, api.ErrRange)
	wantCheck(t, coins(2, 3, 1, 1), 2, api.OK)
}

// TestCheckOfValid has designs of all kinds at the limits: P10.1.
func TestCheckOfValid(t *testing.T) {
	for _, weights := range ratios() {
		wantCheck(t, simple(weights...), len(weights), api.OK)
		for _, times := range sizes() {
			wantCheck(t, blocks(times, weights...), len(weights), api.OK)
		}
		for add := range 9 {
			wantCheck(t, urns(add, weights...), len(weights), api.OK)
		}
		for _, c := range goodCoins() {
			wantCheck(t, coins(c.N, c.D, weights...), len(weights), api.OK)
		}
	}
	for _, d := range designs() {
		wantCheck(t, d, len(d.Ratio), api.OK)
	}
}

// TestCheckOfArms has ratios of no, of 1 and of 7 elements, and numbers of arms that differ from it, or that are permitted nowhere: P10.1.
func TestCheckOfArms(t *testing.T) {
	for n := range 10 {
		for arms := -3; arms <= 12; arms++ {
			for _, d := range []api.Design{simple(), blocks([]int{1}), urns(2), coins(1, 2)} {
				d.Ratio = slices.Repeat([]int{1}, n)
				want := api.ErrArm
				if n == arms && n >= 2 && n <= 6 {
					want = api.OK
				}
				wantCheck(t, d, arms, want)
			}
		}
		for _, arms := range append(farNumbers(), 1<<32+n, -n) {
			if arms != n {
				wantCheck(t, simple(slices.Repeat([]int{1}, n)...), arms, api.ErrArm)
			}
		}
	}
	wantCheck(t, simple(slices.Repeat([]int{1}, 1000)...), 1000, api.ErrArm)
}

// TestCheckOfKinds has kinds that are none of the four: P10.1.
func TestCheckOfKinds(t *testing.T) {
	for _, kind := range append(farNumbers(), 0, 5, 6, 7, 8, 1<<32+1, -3, -4) {
		for _, d := range designs() {
			n := len(d.Ratio)
			d.Kind = kind
			wantCheck(t, d, n, api.ErrDesign)
		}
	}
}

// TestCheckOfWeights has ratios with bad elements at each place, and with less than two that are greater than 0: P10.1.
func TestCheckOfWeights(t *testing.T) {
	wrong := func(weights ...int) {
		for _, d := range []api.Design{simple(), blocks([]int{1}), urns(2), coins(1, 2)} {
			d.Ratio = weights
			wantCheck(t, d, len(weights), api.ErrWeight)
		}
	}
	for n := 2; n <= 6; n++ {
		wrong(make([]int, n)...)
		for at := range n {
			for only := range 9 {
				wrong(put(make([]int, n), at, only)...)
			}
			for _, bad := range append(farNumbers(), 9, 10, 16, 256) {
				wrong(put(slices.Repeat([]int{1}, n), at, bad)...)
				wrong(put(slices.Repeat([]int{8}, n), at, bad)...)
				wrong(put(make([]int, n), at, bad)...)
			}
		}
	}
	wrong(8, -1, 8)
	wrong(-1, 9)
}

// TestCheckOfAllRatios has all ratios of 2 and of 3 elements from -1 to 9: P10.1.
func TestCheckOfAllRatios(t *testing.T) {
	for a := -1; a <= 9; a++ {
		for b := -1; b <= 9; b++ {
			wantCheck(t, simple(a, b), 2, errorOf(simple(a, b), 2))
			for c := -1; c <= 9; c++ {
				wantCheck(t, urns(8, a, b, c), 3, errorOf(urns(8, a, b, c), 3))
			}
		}
	}
}

// lists returns all lists of at most n elements from lo to hi.
func lists(n, lo, hi int) [][]int {
	l := [][]int{nil}
	for first := 0; n > 0; n-- {
		end := len(l)
		for _, shorter := range l[first:end] {
			for k := lo; k <= hi; k++ {
				l = append(l, slices.Concat(shorter, []int{k}))
			}
		}
		first = end
	}
	return l
}

// TestCheckOfAllSizes has all Sizes of at most 4 elements from -1 to 6, of which 14 are permitted: P10.1.
func TestCheckOfAllSizes(t *testing.T) {
	permitted := 0
	for _, times := range lists(4, -1, 6) {
		want := api.ErrRange
		if slices.ContainsFunc(sizes(), func(l []int) bool { return sameList(l, times) }) {
			want = api.OK
			permitted++
		}
		wantCheck(t, blocks(times, 1, 2), 2, want)
	}
	if permitted != 14 {
		t.Errorf("%d Sizes are permitted", permitted)
	}
	for _, far := range farNumbers() {
		wantCheck(t, blocks([]int{far}, 1, 2), 2, api.ErrRange)
		wantCheck(t, blocks([]int{1, far}, 1, 2), 2, api.ErrRange)
		wantCheck(t, blocks([]int{far, 3}, 1, 2), 2, api.ErrRange)
	}
	wantCheck(t, blocks([]int{}, 1, 2), 2, api.ErrRange)
	wantCheck(t, blocks(make([]int, 1000), 1, 2), 2, api.ErrRange)
}

// TestCheckOfAdds has numbers of balls that are permitted, and others: P10.1.
func TestCheckOfAdds(t *testing.T) {
	for add := -300; add <= 300; add++ {
		want := api.ErrRange
		if add >= 0 && add <= 8 {
			want = api.OK
		}
		wantCheck(t, urns(add, 1, 2), 2, want)
	}
	for _, far := range append(farNumbers(), 1<<32+8) {
		wantCheck(t, urns(far, 1, 2), 2, api.ErrRange)
	}
}

// TestCheckOfCoins has all coins with small integers, and others: P10.1.
func TestCheckOfCoins(t *testing.T) {
	for n := -3; n <= 205; n++ {
		for denominator := -3; denominator <= 205; denominator++ {
			want := api.ErrRange
			if fair(api.Frac{N: n, D: denominator}) {
				want = api.OK
			}
			wantCheck(t, coins(n, denominator, 1, 2), 2, want)
		}
	}
	for _, c := range badCoins() {
		wantCheck(t, coins(c.N, c.D, 1, 2), 2, api.ErrRange)
	}
}

// TestCheckOfOtherKinds has Sizes, Add and Coin of designs of another kind, permitted there or not: P10.1.
func TestCheckOfOtherKinds(t *testing.T) {
	for _, d := range designs() {
		n := len(d.Ratio)
		for _, times := range append(sizes(), []int{0}, []int{-1}, []int{2, 1}, []int{1, 2, 3, 4}, make([]int, 1000)) {
			if other := d; d.Kind != api.DeBlock {
				other.Sizes = times
				wantCheck(t, other, n, api.ErrForm)
			}
		}
		for _, add := range append(farNumbers(), 1, 2, 8, 9) {
			if other := d; d.Kind != api.DeUrn {
				other.Add = add
				wantCheck(t, other, n, api.ErrForm)
			}
		}
		for _, c := range append(badCoins()[1:], goodCoins()...) {
			if other := d; d.Kind != api.DeCoin {
				other.Coin = c
				wantCheck(t, other, n, api.ErrForm)
			}
		}
	}
}

// TestCheckOfSeveral has designs with any of the errors, alone and together, of which the one that the chapter names first is returned: P10.1.
func TestCheckOfSeveral(t *testing.T) {
	for _, good := range []api.Design{simple(1, 2), blocks([]int{1, 2}, 1, 2), urns(3, 1, 2), coins(2, 3, 1, 2)} {
		for set := range 32 {
			d, arms, want := good, 2, api.OK
			if set&16 != 0 {
				want = api.ErrForm
				if d.Kind == api.DeBlock {
					d.Add = 1
				} else {
					d.Sizes = []int{1}
				}
			}
			if set&8 != 0 && d.Kind != api.DeSimple {
				want = api.ErrRange
				switch d.Kind {
				case api.DeBlock:
					d.Sizes = []int{2, 1}
				case api.DeUrn:
					d.Add = 9
				case api.DeCoin:
					d.Coin = api.Frac{N: 1, D: 3}
				}
			}
			if set&4 != 0 {
				d.Ratio, want = []int{1, 0}, api.ErrWeight
			}
			if set&2 != 0 {
				d.Kind, want = 5, api.ErrDesign
			}
			if set&1 != 0 {
				arms, want = 3, api.ErrArm
			}
			wantCheck(t, d, arms, want)
		}
	}
	wantCheck(t, api.Design{Kind: 9, Ratio: []int{-1}, Sizes: []int{9}, Add: 9, Coin: api.Frac{N: 9}}, 1, api.ErrArm)
	wantCheck(t, api.Design{Kind: 0, Ratio: []int{9, 9}, Sizes: []int{9}, Add: 9, Coin: api.Frac{N: 9}}, 2, api.ErrDesign)
}

// TestCheck compares designs of all sorts of parts with the model: P10.1.
func TestCheck(t *testing.T) {
	for kind := -1; kind <= 5; kind++ {
		for _, weights := range [][]int{nil, {1}, {1, 1}, {0, 8}, {3, 0, 8}, {1, 1, 9}, {-1, 1, 1}, {8, 8, 8, 8, 8, 8}, {1, 1, 1, 1, 1, 1, 1}} {
			for _, times := range [][]int{nil, {}, {1}, {4}, {5}, {0}, {1, 2, 3}, {2, 3, 4}, {1, 1}, {3, 2}, {1, 2, 3, 4}} {
				for _, add := range []int{-1, 0, 1, 8, 9} {
					for _, c := range []api.Frac{{}, {N: 1, D: 2}, {N: 1, D: 1}, {N: 99, D: 100}, {N: 1, D: 3}, {N: 4, D: 3}, {N: 51, D: 101}, {N: 2, D: 4}, {N: 0, D: 1}, {N: 1, D: 0}} {
						d := api.Design{Kind: kind, Ratio: weights, Sizes: times, Add: add, Coin: c}
						for _, arms := range []int{len(weights), len(weights) + 1} {
							wantCheck(t, d, arms, errorOf(d, arms))
						}
					}
				}
			}
		}
	}
}
