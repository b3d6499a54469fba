package urn_test

import (
	"math"
	"slices"
	"testing"

	"equipoise/api"
)

// TestNextExamples has the table of the chapter: P8.3.
func TestNextExamples(t *testing.T) {
	d := design([]int{1, 2, 0}, 3)
	for _, row := range [][]int{nil, {}} {
		wantNext(t, d, row, api.Choice{Weight: 1, Size: 0, Arm: 0}, []int{1, 5, 0}, true)
		wantNext(t, d, row, api.Choice{Weight: 1, Size: 0, Arm: 1}, nil, false)
		wantNext(t, d, row, api.Choice{Weight: 0, Size: 0, Arm: 2}, nil, false)
		wantNext(t, d, row, api.Choice{Weight: 2, Size: 1, Arm: 1}, nil, false)
	}
	wantNext(t, d, []int{1, 5, 0}, api.Choice{Weight: 5, Size: 0, Arm: 1}, []int{4, 5, 0}, true)
	wantNext(t, d, []int{most, 1, 0}, api.Choice{Weight: 1, Size: 0, Arm: 1}, nil, false)
}

// TestNextOfRows has ratios with one and with the most elements, an Add of 0 and of 8, arms in use without balls, which get some, and balls of arms that are not in use, which stay: P8.3.
func TestNextOfRows(t *testing.T) {
	for _, x := range []struct {
		ratio []int
		add   int
		row   []int
		c     api.Choice
		want  []int
	}{
		{[]int{1}, 8, nil, api.Choice{Weight: 1}, []int{1}},
		{[]int{8}, 8, []int{most}, api.Choice{Weight: most}, []int{most}},
		{[]int{1, 1}, 0, nil, api.Choice{Weight: 1, Arm: 1}, []int{1, 1}},
		{[]int{1, 1}, 0, []int{3, 9}, api.Choice{Weight: 9, Arm: 1}, []int{3, 9}},
		{[]int{1, 1}, 8, []int{3, 9}, api.Choice{Weight: 9, Arm: 1}, []int{11, 9}},
		{[]int{2, 1, 3}, 5, []int{0, 4, 0}, api.Choice{Weight: 4, Arm: 1}, []int{5, 4, 5}},
		{[]int{2, 0, 3}, 5, []int{0, 4, 1}, api.Choice{Weight: 1, Arm: 2}, []int{5, 4, 1}},
		{[]int{0, 1, 0, 2}, 1, nil, api.Choice{Weight: 2, Arm: 3}, []int{0, 2, 0, 2}},
		{[]int{8, 8, 8, 8, 8, 8}, 8, nil, api.Choice{Weight: 8}, []int{8, 16, 16, 16, 16, 16}},
		{[]int{8, 1, 0, 3, 0, 5}, 8, []int{1, 2, 3, 4, 0, 6}, api.Choice{Weight: 6, Arm: 5}, []int{9, 10, 3, 12, 0, 6}},
	} {
		wantNext(t, design(x.ratio, x.add), x.row, x.c, x.want, true)
	}
}

// TestNextAtMost has elements that become exactly 2^20, and 2^20 + 1, at each place, and ones that are 2^20 and get nothing: P8.3.
func TestNextAtMost(t *testing.T) {
	for n := 2; n <= 6; n++ {
		for add := range 9 {
			d := design(slices.Repeat([]int{1}, n), add)
			for at := 1; at < n; at++ {
				row := put(slices.Repeat([]int{2}, n), at, most-add)
				after := put(put(slices.Repeat([]int{2 + add}, n), at, most), 0, 2)
				wantNext(t, d, row, api.Choice{Weight: 2}, after, true)
				if add > 0 {
					wantNext(t, d, put(row, at, most-add+1), api.Choice{Weight: 2}, nil, false)
					wantNext(t, d, put(row, at, most), api.Choice{Weight: 2}, nil, false)
				}
			}
		}
	}
	drawn, other := design([]int{2, 1}, 8), design([]int{1, 0, 1}, 8)
	wantNext(t, drawn, []int{most, 0}, api.Choice{Weight: most}, []int{most, 8}, true)
	wantNext(t, drawn, []int{most, most - 8}, api.Choice{Weight: most}, []int{most, most}, true)
	wantNext(t, drawn, []int{most, most - 7}, api.Choice{Weight: most}, nil, false)
	wantNext(t, other, []int{1, most, 1}, api.Choice{Weight: 1}, []int{1, most, 9}, true)
	wantNext(t, other, []int{most, most, most}, api.Choice{Weight: most, Arm: 2}, nil, false)
	wantNext(t, design([]int{1, 0, 1}, 0), []int{most, most, most}, api.Choice{Weight: most, Arm: 2}, []int{most, most, most}, true)
}

// tryAll compares with the model, for each choice of so many weights, and each size and arm that there could be.
func tryAll(t *testing.T, d api.Design, row, weights []int) {
	t.Helper()
	for _, weight := range weights {
		for size := -1; size <= 2; size++ {
			for arm := -1; arm <= len(d.Ratio); arm++ {
				c := api.Choice{Weight: weight, Size: size, Arm: arm}
				want, ok := nextOf(d, row, c)
				wantNext(t, d, row, c, want, ok)
			}
		}
	}
}

// TestNext has all choices that there could be, most of which are equal to none of Choices: P8.3.
func TestNext(t *testing.T) {
	weights := []int{-1, 0, 1, 2, 3, 7, 8, 9, most - 8, most - 1, most, most + 1}
	for i, ratio := range ratios() {
		tryAll(t, design(ratio, i%9), nil, weights)
		for k, row := range rows(len(ratio)) {
			if (i+k)%11 == 0 {
				tryAll(t, design(ratio, k%9), row, append(weights, row...))
			}
		}
	}
}

// TestNextChoices has each choice that there is, of which some lead to more balls than permitted: P8.3.
func TestNextChoices(t *testing.T) {
	for _, ratio := range ratios() {
		for add := range 9 {
			d := design(ratio, add)
			for _, row := range rows(len(ratio)) {
				for _, c := range choicesOf(d, row) {
					want, ok := nextOf(d, row, c)
					wantNext(t, d, row, c, want, ok)
				}
			}
		}
	}
}

// TestNextOfOtherChoices has choices one field of which is not that of any of Choices: P8.3.
func TestNextOfOtherChoices(t *testing.T) {
	d := design([]int{1, 2, 0, 3}, 3)
	far := []int{-1, -2, 4, 5, 6, 8, 9, most, 1 << 32, 1<<32 + 1, 1<<32 + 2, math.MinInt, math.MaxInt}
	for _, row := range [][]int{nil, {}, {1, 2, 0, 3}, {1, 2, 7, 3}} {
		for _, c := range choicesOf(d, row) {
			wantNext(t, d, row, api.Choice{Weight: c.Weight, Size: 1, Arm: c.Arm}, nil, false)
			for _, n := range far {
				for _, other := range []api.Choice{{Weight: n, Size: c.Size, Arm: c.Arm}, {Weight: c.Weight, Size: n, Arm: c.Arm}, {Weight: c.Weight, Size: c.Size, Arm: n}} {
					wantNext(t, d, row, other, nil, false)
				}
			}
		}
		for _, other := range []api.Choice{{}, {Arm: 1}, {Arm: 2}, {Weight: 7, Arm: 2}, {Weight: 1, Arm: 2}, {Weight: 2}, {Weight: 1, Arm: 1}, {Weight: 3, Arm: 1}, {Weight: 2, Arm: 3}, {Weight: 1, Size: 1}} {
			wantNext(t, d, row, other, nil, false)
		}
	}
	wantNext(t, d, []int{4, 0, 7, 6}, api.Choice{Weight: 1}, nil, false) // the ratio is not drawn from any more
	wantNext(t, d, []int{4, 0, 7, 6}, api.Choice{Arm: 1}, nil, false)    // an arm in use without balls
	wantNext(t, d, []int{4, 0, 7, 6}, api.Choice{Weight: 2, Arm: 1}, nil, false)
	wantNext(t, d, []int{0, 0, 0, 0}, api.Choice{Weight: 1}, nil, false)
	wantNext(t, d, []int{0, 0, 0, 0}, api.Choice{}, nil, false)
}

// someChoices returns choices that there would be, if the design and the row were permitted.
func someChoices(d api.Design, row []int) []api.Choice {
	l := []api.Choice{{}, {Weight: 1}, {Weight: 1, Arm: 1}, {Weight: 2}}
	for _, weights := range [][]int{row, d.Ratio} {
		for arm, n := range weights[:min(len(weights), 10)] {
			l = append(l, api.Choice{Weight: n, Arm: arm})
		}
	}
	return l
}

// TestNextOfBadDesigns has designs that are not usable: P8.3.
func TestNextOfBadDesigns(t *testing.T) {
	for _, d := range badDesigns() {
		for _, row := range [][]int{nil, {}, make([]int, len(d.Ratio)), slices.Repeat([]int{1}, len(d.Ratio)), {1}, d.Ratio} {
			for _, c := range someChoices(d, row) {
				wantNext(t, d, row, c, nil, false)
			}
		}
	}
}

// TestNextOfBadRows has rows that are not well-formed: P8.3.
func TestNextOfBadRows(t *testing.T) {
	for i, ratio := range ratios() {
		d := design(ratio, i%9)
		for _, row := range badRows(len(ratio)) {
			for _, c := range someChoices(d, row) {
				wantNext(t, d, row, c, nil, false)
			}
		}
	}
}
