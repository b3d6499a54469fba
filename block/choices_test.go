package block_test

import (
	"math"
	"slices"
	"testing"

	"equipoise/api"
	"equipoise/block"
)

// TestChoicesExamples has the table of the chapter: P7.1.
func TestChoicesExamples(t *testing.T) {
	d := design([]int{2, 0, 1}, []int{1, 2})
	begun := []api.Choice{{Weight: 2, Size: 1, Arm: 0}, {Weight: 1, Size: 1, Arm: 2}, {Weight: 2, Size: 2, Arm: 0}, {Weight: 1, Size: 2, Arm: 2}}
	for _, row := range [][]int{nil, {}, {0, 0, 0}} {
		wantChoices(t, d, row, begun)
	}
	wantChoices(t, d, []int{4, 0, 1}, []api.Choice{{Weight: 4, Size: 0, Arm: 0}, {Weight: 1, Size: 0, Arm: 2}})
	wantChoices(t, d, []int{4, 0}, nil)
	wantChoices(t, d, []int{4, -1, 1}, nil)
}

// TestChoicesOfNewBlocks has sizes that are not in order, and with equal ones, and a ratio with elements that are 0, with one, and with the most and the greatest elements: P7.1.
func TestChoicesOfNewBlocks(t *testing.T) {
	for _, x := range []struct {
		ratio, sizes []int
		want         []api.Choice
	}{
		{[]int{1}, []int{1}, []api.Choice{{Weight: 1, Size: 1, Arm: 0}}},
		{[]int{8}, []int{4}, []api.Choice{{Weight: 8, Size: 4, Arm: 0}}},
		{[]int{0, 3}, []int{4, 1, 2}, []api.Choice{{Weight: 3, Size: 4, Arm: 1}, {Weight: 3, Size: 1, Arm: 1}, {Weight: 3, Size: 2, Arm: 1}}},
		{[]int{1, 8}, []int{2, 2}, []api.Choice{{Weight: 1, Size: 2, Arm: 0}, {Weight: 8, Size: 2, Arm: 1}, {Weight: 1, Size: 2, Arm: 0}, {Weight: 8, Size: 2, Arm: 1}}},
		{[]int{0, 5, 0, 0, 8, 0}, []int{3, 1, 3}, []api.Choice{{Weight: 5, Size: 3, Arm: 1}, {Weight: 8, Size: 3, Arm: 4}, {Weight: 5, Size: 1, Arm: 1}, {Weight: 8, Size: 1, Arm: 4}, {Weight: 5, Size: 3, Arm: 1}, {Weight: 8, Size: 3, Arm: 4}}},
		{[]int{8, 1, 2, 3, 4, 5}, []int{4}, []api.Choice{{Weight: 8, Size: 4, Arm: 0}, {Weight: 1, Size: 4, Arm: 1}, {Weight: 2, Size: 4, Arm: 2}, {Weight: 3, Size: 4, Arm: 3}, {Weight: 4, Size: 4, Arm: 4}, {Weight: 5, Size: 4, Arm: 5}}},
	} {
		d := design(x.ratio, x.sizes)
		wantChoices(t, d, nil, x.want)
		wantChoices(t, d, make([]int, len(x.ratio)), x.want)
	}
}

// TestChoicesOfRows has blocks that have begun, of arms that are in the ratio or not, and more places than a block of the design can have: P7.1.
func TestChoicesOfRows(t *testing.T) {
	for _, x := range []struct {
		ratio, row []int
		want       []api.Choice
	}{
		{[]int{1}, []int{1}, []api.Choice{{Weight: 1}}},
		{[]int{8}, []int{most}, []api.Choice{{Weight: most}}},
		{[]int{2, 0, 1}, []int{0, 7, 0}, []api.Choice{{Weight: 7, Arm: 1}}},
		{[]int{1, 1}, []int{0, most}, []api.Choice{{Weight: most, Arm: 1}}},
		{[]int{1, 2, 3, 4, 5, 6}, []int{6, 0, 4, 3, 0, 1}, []api.Choice{{Weight: 6}, {Weight: 4, Arm: 2}, {Weight: 3, Arm: 3}, {Weight: 1, Arm: 5}}},
		{[]int{0, 0, 0, 0, 0, 1}, []int{most, most, most, most, most, most}, []api.Choice{{Weight: most}, {Weight: most, Arm: 1}, {Weight: most, Arm: 2}, {Weight: most, Arm: 3}, {Weight: most, Arm: 4}, {Weight: most, Arm: 5}}},
	} {
		for _, sizes := range sizeLists() {
			wantChoices(t, design(x.ratio, sizes), x.row, x.want)
		}
	}
}

// TestChoices compares all sorts of permitted arguments with the model: P7.1.
func TestChoices(t *testing.T) {
	for _, ratio := range ratios() {
		for i, sizes := range sizeLists() {
			d := design(ratio, sizes)
			for k, row := range rows(len(ratio)) {
				if k > 8 && (i+k)%7 > 0 { // of most rows, some sizes are enough
					continue
				}
				want := choicesOf(d, row)
				if len(want) == 0 {
					t.Fatalf("%s: the model has none", named("Choices", d, row))
				}
				wantChoices(t, d, row, want)
			}
		}
	}
}

// TestOnlyRatioAndSizes has designs in which all else is another: of d only Ratio and Sizes are used.
func TestOnlyRatioAndSizes(t *testing.T) {
	want := design([]int{1, 2}, []int{2})
	for _, kind := range []int{0, api.DeSimple, api.DeBlock, api.DeUrn, api.DeCoin, math.MaxInt} {
		for _, add := range []int{0, -1, 8, math.MinInt} {
			for _, coin := range []api.Frac{{}, {N: 2, D: 3}, {N: math.MinInt, D: -1}} {
				d := api.Design{Kind: kind, Ratio: []int{1, 2}, Sizes: []int{2}, Add: add, Coin: coin}
				for _, row := range [][]int{nil, {0, 0}, {2, 1}} {
					wantChoices(t, d, row, choicesOf(want, row))
				}
				wantNext(t, d, nil, api.Choice{Weight: 2, Size: 2, Arm: 1}, []int{2, 3}, true)
				wantNext(t, d, []int{2, 1}, api.Choice{Weight: 2}, []int{1, 1}, true)
			}
		}
	}
}

// badDesigns returns designs that have no blocks, with all lengths and a bad element at each place.
func badDesigns() []api.Design {
	l := []api.Design{{}, {Ratio: []int{}, Sizes: []int{}}}
	for _, sizes := range [][]int{{1}, {1, 2, 4}} {
		l = append(l, design(nil, sizes), design([]int{}, sizes), design(slices.Repeat([]int{1}, 7), sizes), design(slices.Repeat([]int{8}, 8), sizes), design(slices.Repeat([]int{1}, 1000), sizes))
		l = append(l, design([]int{1, 1, 1, 1, 1, 1, 0}, sizes), design([]int{0, 0, 0, 0, 0, 0, 1}, sizes))
		for n := 1; n <= 7; n++ {
			l = append(l, design(make([]int, n), sizes))
		}
	}
	for _, ratio := range [][]int{{1}, {8, 8}, {2, 0, 1}, {1, 2, 3, 4, 5, 8}, {0, 0, 0, 0, 0, 1}} {
		l = append(l, design(ratio, nil), design(ratio, []int{}), design(ratio, []int{1, 2, 3, 4}), design(ratio, []int{1, 1, 1, 1}), design(ratio, slices.Repeat([]int{4}, 1000)))
		for at := range ratio {
			for _, bad := range append(badNumbers(), 9, 10, 256, most) {
				l = append(l, design(put(ratio, at, bad), []int{1}), design(put(ratio, at, bad), []int{4, 2, 2}))
			}
		}
		for _, sizes := range [][]int{{1}, {4}, {1, 2}, {4, 1, 4}, {1, 2, 3}} {
			for at := range sizes {
				for _, bad := range append(badNumbers(), 0, 5, 6, 8, 256, most) {
					l = append(l, design(ratio, put(sizes, at, bad)))
				}
			}
		}
	}
	return append(l, design([]int{-1, 2}, []int{1}), design([]int{2, -1}, []int{1}), design([]int{9, -1}, []int{1}), design([]int{math.MaxInt, math.MaxInt, 3}, []int{1}))
}

// badRows returns rows that do not fit a design with n arms: of all other lengths, and with a bad element at each place.
func badRows(n int) [][]int {
	var l [][]int
	for _, length := range []int{1, 2, 3, 4, 5, 6, 7, 8, 1000} {
		if length != n {
			l = append(l, make([]int, length), slices.Repeat([]int{1}, length), slices.Repeat([]int{most}, length), slices.Repeat([]int{-1}, length))
		}
	}
	for at := range n {
		for _, bad := range badNumbers() {
			l = append(l, put(make([]int, n), at, bad), put(slices.Repeat([]int{1}, n), at, bad), put(slices.Repeat([]int{most}, n), at, bad))
		}
	}
	if n > 1 { // rows with the sum 0, or with a good one, only because of a bad element
		l = append(l, append(make([]int, n-2), -1, 1), append(make([]int, n-2), 1, -1), append(make([]int, n-2), 5, -1), append(make([]int, n-2), most+1, -1), append(make([]int, n-2), math.MinInt, math.MinInt))
	}
	return l
}

// TestChoicesOfBadDesigns has designs without blocks: P7.1.
func TestChoicesOfBadDesigns(t *testing.T) {
	for _, d := range badDesigns() {
		for _, row := range [][]int{nil, {}, make([]int, len(d.Ratio)), slices.Repeat([]int{1}, len(d.Ratio)), {1}, {0, 0}, d.Ratio} {
			wantChoices(t, d, row, nil)
		}
	}
}

// TestChoicesOfBadRows has rows that do not fit: P7.1.
func TestChoicesOfBadRows(t *testing.T) {
	for _, ratio := range ratios() {
		d := design(ratio, []int{1, 4})
		for _, row := range badRows(len(ratio)) {
			wantChoices(t, d, row, nil)
		}
	}
}

// TestLeft has the table of the chapter, elements at their limits, and rows that are longer than any that fits: P7.3.
func TestLeft(t *testing.T) {
	for _, x := range []struct {
		row  []int
		want int
	}{
		{[]int{4, 0, 1}, 5}, {[]int{4, -1}, 0}, {nil, 0}, {[]int{}, 0}, {[]int{0}, 0}, {[]int{0, 0, 0}, 0}, {[]int{7}, 7},
		{[]int{most}, most}, {[]int{most - 1, 1}, most}, {slices.Repeat([]int{most}, 6), 6 * most}, {[]int{most, 0, 1}, most + 1},
		{slices.Repeat([]int{1}, 7), 7}, {slices.Repeat([]int{3}, 1000), 3000}, {slices.Repeat([]int{most}, 10000), 10000 * most},
		{append(slices.Repeat([]int{2}, 300), -1), 0}, {[]int{most + 1}, 0}, {[]int{most + 1, -1}, 0}, {[]int{-1, most + 1}, 0},
	} {
		if got := block.Left(x.row); got != x.want {
			t.Errorf("Left of %.20v: %d; want %d", x.row, got, x.want)
		}
	}
	for n := 1; n <= 6; n++ {
		for _, row := range rows(n) {
			if got := block.Left(row); got != total(row) {
				t.Errorf("Left of %v: %d; want %d", row, got, total(row))
			}
		}
	}
}

// TestLeftOfBadRows has a bad element at each place: P7.3.
func TestLeftOfBadRows(t *testing.T) {
	for n := 1; n <= 9; n++ {
		for at := range n {
			for _, bad := range badNumbers() {
				for _, x := range []int{0, 1, 5, most} {
					row := put(slices.Repeat([]int{x}, n), at, bad)
					if got := block.Left(row); got != 0 {
						t.Errorf("Left of %v: %d; want 0", row, got)
					}
				}
			}
		}
	}
}
