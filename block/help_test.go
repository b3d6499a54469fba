package block_test

import (
	"fmt"
	"math"
	"slices"
	"testing"

	"equipoise/api"
	"equipoise/block"
)

const most = 1 << 20 // the greatest element of a row

// The model follows the words of the chapter, and calls nothing of the package.

// design returns a design with a ratio and sizes. What the package does not use is filled, and not with what any kind of design permits.
func design(ratio, sizes []int) api.Design {
	return api.Design{Kind: -7, Ratio: ratio, Sizes: sizes, Add: 99, Coin: api.Frac{N: 4, D: -2}}
}

// outside reports whether an element of l is less than lo or more than hi.
func outside(l []int, lo, hi int) bool {
	for _, n := range l {
		if n < lo || n > hi {
			return true
		}
	}
	return false
}

// total returns the sum of l.
func total(l []int) int {
	sum := 0
	for _, n := range l {
		sum += n
	}
	return sum
}

// times returns l, with each element so many times.
func times(s int, l []int) []int {
	var product []int
	for _, n := range l {
		product = append(product, s*n)
	}
	return product
}

// permitted reports whether the design has blocks and the row fits it.
func permitted(d api.Design, row []int) bool {
	switch {
	case len(d.Ratio) == 0, len(d.Ratio) > 6, outside(d.Ratio, 0, 8), total(d.Ratio) == 0:
		return false
	case len(d.Sizes) == 0, len(d.Sizes) > 3, outside(d.Sizes, 1, 4):
		return false
	case len(row) == 0:
		return true
	}
	return len(row) == len(d.Ratio) && !outside(row, 0, most)
}

// choicesOf returns what can be drawn.
func choicesOf(d api.Design, row []int) []api.Choice {
	if !permitted(d, row) {
		return nil
	}
	sizes, weights := []int{0}, row
	if total(row) == 0 {
		sizes, weights = d.Sizes, d.Ratio
	}
	var l []api.Choice
	for k := range len(sizes) * len(weights) {
		arm := k % len(weights)
		c := api.Choice{Arm: arm, Size: sizes[k/len(weights)], Weight: weights[arm]}
		if c.Weight != 0 {
			l = append(l, c)
		}
	}
	return l
}

// nextOf returns what is left after a draw.
func nextOf(d api.Design, row []int, c api.Choice) ([]int, bool) {
	if !slices.Contains(choicesOf(d, row), c) {
		return nil, false
	}
	var left []int
	for arm, n := range d.Ratio {
		n *= c.Size
		if c.Size == 0 {
			n = row[arm]
		}
		if arm == c.Arm {
			n--
		}
		left = append(left, n)
	}
	if total(left) == 0 {
		return nil, true
	}
	return left, true
}

// lists returns all lists of n elements of l.
func lists(l []int, n int) [][]int {
	if n == 0 {
		return [][]int{nil}
	}
	var longer [][]int
	for _, first := range lists(l, n-1) {
		for _, last := range l {
			longer = append(longer, slices.Concat(first, []int{last}))
		}
	}
	return longer
}

// ratios returns ratios that are permitted: with 1 to 6 elements, with those that are 0 at each place, and with the greatest ones.
func ratios() [][]int {
	l := [][]int{{1}, {2}, {8}, {2, 0, 1}, {1, 2, 3, 4, 5, 6}, {8, 8, 8, 8, 8, 8}, {0, 0, 0, 0, 0, 8}, {1, 0, 0, 0, 0, 0}, {0, 7, 0, 8, 0, 1}, {3, 1, 2, 1}, {1, 1, 1, 1, 1}}
	for n := 2; n <= 3; n++ {
		for _, ratio := range lists([]int{0, 1, 2, 8}, n) {
			if total(ratio) > 0 {
				l = append(l, ratio)
			}
		}
	}
	return l
}

// sizeLists returns all sizes that are permitted: one to three, in any order, with equal ones.
func sizeLists() [][]int {
	var l [][]int
	for n := 1; n <= 3; n++ {
		l = append(l, lists([]int{1, 2, 3, 4}, n)...)
	}
	return l
}

// rows returns rows of n elements that fit, and some of them have nothing left.
func rows(n int) [][]int {
	l := [][]int{nil, {}}
	if n <= 3 {
		return append(l, lists([]int{0, 1, 5, most - 1, most}, n)...)
	}
	for _, x := range []int{0, 1, 2, 32, 33, 1000, most - 1, most} {
		l = append(l, slices.Repeat([]int{x}, n))
		for at := range n {
			row := make([]int, n)
			row[at] = x
			other := slices.Repeat([]int{most}, n)
			other[at] = x
			l = append(l, row, other)
		}
	}
	return l
}

// badNumbers returns numbers that are permitted in no ratio, no sizes and no row.
func badNumbers() []int {
	return []int{-1, -2, -8, -most, most + 1, 1 << 32, 1<<32 + 1, 1 << 62, math.MinInt, math.MinInt + 1, math.MaxInt, math.MaxInt - 1}
}

// put returns l with an element changed.
func put(l []int, at, n int) []int {
	changed := slices.Clone(l)
	changed[at] = n
	return changed
}

// named returns a call as text.
func named(call string, d api.Design, row []int) string {
	return fmt.Sprintf("%s of %v, %v, row %v", call, d.Ratio, d.Sizes, row)
}

// wantChoices checks what can be drawn.
func wantChoices(t *testing.T, d api.Design, row []int, want []api.Choice) {
	t.Helper()
	if got := block.Choices(d, row); !slices.Equal(got, want) {
		t.Errorf("%s: %v; want %v", named("Choices", d, row), got, want)
	}
}

// wantNext checks what is left after a draw, or that there is no such choice.
func wantNext(t *testing.T, d api.Design, row []int, c api.Choice, want []int, wantOK bool) {
	t.Helper()
	if got, ok := block.Next(d, row, c); !slices.Equal(got, want) || ok != wantOK {
		t.Errorf("%s, %v: %v, %v; want %v, %v", named("Next", d, row), c, got, ok, want, wantOK)
	}
}

// next returns what is left after a choice, which must be permitted.
func next(t *testing.T, d api.Design, row []int, c api.Choice) []int {
	t.Helper()
	left, ok := block.Next(d, row, c)
	if !ok {
		t.Fatalf("%s, %v: false", named("Next", d, row), c)
	}
	return left
}
