package block_test

import (
	"math"
	"slices"
	"testing"

	"equipoise/api"
)

// TestNextExamples has the table of the chapter: P7.2.
func TestNextExamples(t *testing.T) {
	d := design([]int{2, 0, 1}, []int{1, 2})
	for _, row := range [][]int{nil, {}, {0, 0, 0}} {
		wantNext(t, d, row, api.Choice{Weight: 1, Size: 2, Arm: 2}, []int{4, 0, 1}, true)
	}
	wantNext(t, d, []int{0, 0, 1}, api.Choice{Weight: 1, Size: 0, Arm: 2}, nil, true)
	wantNext(t, d, []int{4, 0, 1}, api.Choice{Weight: 1, Size: 0, Arm: 0}, nil, false)
}

// TestNextOfNewBlocks has the least and the greatest sizes and ratios, and blocks of one place, of which nothing is left: P7.2.
func TestNextOfNewBlocks(t *testing.T) {
	for _, x := range []struct {
		ratio, sizes []int
		c            api.Choice
		want         []int
	}{
		{[]int{1}, []int{1}, api.Choice{Weight: 1, Size: 1}, nil},
		{[]int{1}, []int{4}, api.Choice{Weight: 1, Size: 4}, []int{3}},
		{[]int{0, 0, 1, 0}, []int{2, 1}, api.Choice{Weight: 1, Size: 1, Arm: 2}, nil},
		{[]int{0, 0, 1, 0}, []int{2, 1}, api.Choice{Weight: 1, Size: 2, Arm: 2}, []int{0, 0, 1, 0}},
		{[]int{8, 8}, []int{4}, api.Choice{Weight: 8, Size: 4, Arm: 1}, []int{32, 31}},
		{[]int{3, 1, 2}, []int{4, 1, 4}, api.Choice{Weight: 3, Size: 4}, []int{11, 4, 8}},
		{[]int{3, 1, 2}, []int{4, 1, 4}, api.Choice{Weight: 1, Size: 1, Arm: 1}, []int{3, 0, 2}},
		{[]int{8, 8, 8, 8, 8, 8}, []int{3}, api.Choice{Weight: 8, Size: 3, Arm: 5}, []int{24, 24, 24, 24, 24, 23}},
	} {
		d := design(x.ratio, x.sizes)
		wantNext(t, d, nil, x.c, x.want, true)
		wantNext(t, d, make([]int, len(x.ratio)), x.c, x.want, true)
	}
}

// TestNextOfRows has rows with elements at their limits, and with one place left: P7.2.
func TestNextOfRows(t *testing.T) {
	d := design([]int{2, 0, 1}, []int{1})
	wantNext(t, d, []int{4, 0, 1}, api.Choice{Weight: 4}, []int{3, 0, 1}, true)
	wantNext(t, d, []int{4, 0, 1}, api.Choice{Weight: 1, Arm: 2}, []int{4, 0, 0}, true)
	wantNext(t, d, []int{most, 0, most}, api.Choice{Weight: most, Arm: 2}, []int{most, 0, most - 1}, true)
	wantNext(t, d, []int{0, 1, 0}, api.Choice{Weight: 1, Arm: 1}, nil, true)
	wantNext(t, d, []int{0, 2, 0}, api.Choice{Weight: 2, Arm: 1}, []int{0, 1, 0}, true)
	wantNext(t, d, []int{1, 0, 1}, api.Choice{Weight: 1}, []int{0, 0, 1}, true)
}

// tryAll compares with the model, for each choice of so many weights, and each size and arm that there could be.
func tryAll(t *testing.T, d api.Design, row, weights []int) {
	t.Helper()
	for _, weight := range weights {
		for size := -1; size <= 5; size++ {
			for arm := -1; arm <= len(d.Ratio); arm++ {
				c := api.Choice{Weight: weight, Size: size, Arm: arm}
				want, ok := nextOf(d, row, c)
				wantNext(t, d, row, c, want, ok)
			}
		}
	}
}

// TestNext has all choices that there could be, most of which are equal to none of Choices: P7.2.
func TestNext(t *testing.T) {
	for i, ratio := range ratios() {
		weights := []int{-1, 0, 1, 2, 3, 5, 7, 8, 9, most - 1, most, most + 1}
		for k, sizes := range sizeLists() {
			if (i+k)%7 > 0 {
				continue
			}
			d := design(ratio, sizes)
			tryAll(t, d, nil, weights)
			tryAll(t, d, make([]int, len(ratio)), weights)
			for j, row := range rows(len(ratio)) {
				if (i+k+j)%13 == 0 {
					tryAll(t, d, row, append(weights, row...))
				}
			}
		}
	}
}

// TestNextChoices has each choice that there is: P7.2.
func TestNextChoices(t *testing.T) {
	for _, ratio := range ratios() {
		for k, sizes := range sizeLists() {
			d := design(ratio, sizes)
			for i, row := range rows(len(ratio)) {
				if i > 3 && (i+k)%5 > 0 {
					continue
				}
				for _, c := range choicesOf(d, row) {
					want, _ := nextOf(d, row, c)
					wantNext(t, d, row, c, want, true)
				}
			}
		}
	}
}

// TestNextOfOtherChoices has choices one field of which is not that of any of Choices: P7.2.
func TestNextOfOtherChoices(t *testing.T) {
	d := design([]int{2, 0, 1}, []int{1, 2})
	far := []int{-1, -2, 3, 4, 5, 6, 9, most, 1 << 32, 1<<32 + 1, 1<<32 + 2, math.MinInt, math.MaxInt}
	for _, row := range [][]int{nil, {0, 0, 0}, {2, 0, 1}} {
		for _, c := range choicesOf(d, row) {
			for _, n := range far {
				for _, other := range []api.Choice{{Weight: n, Size: c.Size, Arm: c.Arm}, {Weight: c.Weight, Size: n, Arm: c.Arm}, {Weight: c.Weight, Size: c.Size, Arm: n}} {
					wantNext(t, d, row, other, nil, false)
				}
			}
		}
		for _, other := range []api.Choice{{}, {Size: 1}, {Size: 1, Arm: 1}, {Arm: 1}, {Weight: 2, Size: 1, Arm: 2}, {Weight: 1, Size: 1, Arm: 0}, {Weight: 2, Arm: 2}, {Weight: 1, Size: 3, Arm: 2}} {
			wantNext(t, d, row, other, nil, false)
		}
	}
	wantNext(t, d, []int{2, 0, 1}, api.Choice{Weight: 2, Size: 1}, nil, false) // a block that has begun is not begun anew
	wantNext(t, d, nil, api.Choice{Weight: 2}, nil, false)                     // a new block has a size
	wantNext(t, d, []int{0, 0, 0}, api.Choice{Weight: 2}, nil, false)
	wantNext(t, d, []int{0, 0, 1}, api.Choice{Weight: 2, Size: 1}, nil, false)
}

// someChoices returns choices that there would be, if the design and the row were permitted.
func someChoices(d api.Design, row []int) []api.Choice {
	l := []api.Choice{{}, {Weight: 1}, {Weight: 1, Size: 1}, {Weight: 1, Arm: 1}, {Weight: 1, Size: 2, Arm: 1}}
	for arm, w := range row {
		l = append(l, api.Choice{Weight: w, Arm: arm})
	}
	for arm, w := range d.Ratio {
		for _, size := range append(slices.Clone(d.Sizes), 0, 1) {
			l = append(l, api.Choice{Weight: w, Size: size, Arm: arm})
		}
	}
	if len(l) > 100 {
		l = append(l[:50], l[len(l)-50:]...)
	}
	return l
}

// TestNextOfBadDesigns has designs without blocks: P7.2.
func TestNextOfBadDesigns(t *testing.T) {
	for _, d := range badDesigns() {
		for _, row := range [][]int{nil, make([]int, len(d.Ratio)), slices.Repeat([]int{1}, len(d.Ratio)), {1}, d.Ratio} {
			for _, c := range someChoices(d, row) {
				wantNext(t, d, row, c, nil, false)
			}
		}
	}
}

// TestNextOfBadRows has rows that do not fit: P7.2.
func TestNextOfBadRows(t *testing.T) {
	for i, ratio := range ratios() {
		d := design(ratio, sizeLists()[i%20])
		for _, row := range badRows(len(ratio)) {
			for _, c := range someChoices(d, row) {
				wantNext(t, d, row, c, nil, false)
			}
		}
	}
}
