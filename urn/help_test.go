package urn_test

import (
	"fmt"
	"math"
	"math/big"
	"slices"
	"testing"

	"equipoise/api"
	"equipoise/urn"
)

const most = 1 << 20 // the greatest element of a row

// The model follows the words of the chapter, and calls nothing of the package.

// design returns a design with a ratio and what it adds. What the package does not use is filled, and not with what any kind of design permits.
func design(ratio []int, add int) api.Design {
	return api.Design{Kind: -7, Ratio: ratio, Sizes: []int{0, 99, -1, 5}, Add: add, Coin: api.Frac{N: 4, D: -2}}
}

// outside reports whether an element of l is less than lo or more than hi.
func outside(lo, hi int, l ...int) bool {
	for _, n := range l {
		if n < lo || n > hi {
			return true
		}
	}
	return false
}

// permitted reports whether the design is usable and the row is well-formed for it.
func permitted(d api.Design, row []int) bool {
	switch {
	case len(d.Ratio) > 6, outside(0, 8, d.Ratio...), outside(0, 8, d.Add):
		return false
	case len(row) == 0:
		return true
	}
	return len(row) == len(d.Ratio) && !outside(0, most, row...)
}

// ballsOf returns the balls of all arms.
func ballsOf(d api.Design, row []int) []int {
	switch {
	case !permitted(d, row):
		return nil
	case len(row) == 0:
		return d.Ratio
	}
	return row
}

// choicesOf returns what can be drawn.
func choicesOf(d api.Design, row []int) []api.Choice {
	var l []api.Choice
	for arm, n := range ballsOf(d, row) {
		if d.Ratio[arm] != 0 && n != 0 {
			l = append(l, api.Choice{Weight: n, Size: 0, Arm: arm})
		}
	}
	return l
}

// nextOf returns the balls after a draw.
func nextOf(d api.Design, row []int, c api.Choice) ([]int, bool) {
	if !slices.Contains(choicesOf(d, row), c) {
		return nil, false
	}
	var after []int
	for arm, n := range ballsOf(d, row) {
		if d.Ratio[arm] != 0 && arm != c.Arm {
			n += d.Add
		}
		if n > most {
			return nil, false
		}
		after = append(after, n)
	}
	return after, true
}

// total returns the sum of l.
func total(l []int) int {
	sum := 0
	for _, n := range l {
		sum += n
	}
	return sum
}

// used returns how many arms are in use.
func used(ratio []int) int {
	n := 0
	for _, x := range ratio {
		n += min(x, 1)
	}
	return n
}

// chance returns the probability of an arm.
func chance(l []api.Choice, arm int) *big.Rat {
	ofArm, sum := 0, 0
	for _, c := range l {
		sum += c.Weight
		if c.Arm == arm {
			ofArm += c.Weight
		}
	}
	return big.NewRat(int64(ofArm), int64(sum))
}

// lists returns all lists of n elements of l.
func lists(l []int, n int) [][]int {
	if n == 0 {
		return [][]int{nil}
	}
	var longer [][]int
	for _, first := range lists(l, n-1) {
		for _, last := range l {
			longer = append(longer, slices.Concat(first, []int{last}))
		}
	}
	return longer
}

// ratios returns ratios that are permitted: with 0 to 6 elements, with those that are 0 at each place and everywhere, and with the greatest ones.
func ratios() [][]int {
	l := [][]int{nil, {}, {1, 2, 3, 4, 5, 6}, {8, 8, 8, 8, 8, 8}, {0, 0, 0, 0, 0, 0}, {0, 0, 0, 0, 0, 8}, {1, 0, 0, 0, 0, 0}, {0, 7, 0, 8, 0, 1}, {3, 1, 2, 1}, {0, 0, 0, 0}, {1, 1, 1, 1, 1}}
	for n := 1; n <= 3; n++ {
		l = append(l, lists([]int{0, 1, 2, 8}, n)...)
	}
	return l
}

// rows returns rows of n elements, or none, that are well-formed, with the least and the greatest elements at each place, whether the arm is in use or not.
func rows(n int) [][]int {
	l := [][]int{nil, {}}
	if n <= 3 {
		return append(l, lists([]int{0, 1, 7, most - 8, most - 1, most}, n)...)
	}
	for _, x := range []int{0, 1, 2, 8, 1000, most - 9, most - 8, most - 7, most - 1, most} {
		l = append(l, slices.Repeat([]int{x}, n))
		for at := range n {
			l = append(l, put(make([]int, n), at, x), put(slices.Repeat([]int{3}, n), at, x), put(slices.Repeat([]int{most}, n), at, x))
		}
	}
	return l
}

// badNumbers returns numbers that are permitted nowhere.
func badNumbers() []int {
	return []int{-1, -2, -8, -most, most + 1, most + 8, 1 << 21, 1 << 32, 1<<32 + 1, 1 << 62, math.MinInt, math.MinInt + 1, math.MaxInt, math.MaxInt - 1}
}

// badDesigns returns designs that are not usable: with too many elements, with a bad element at each place, and with a bad Add.
func badDesigns() []api.Design {
	var l []api.Design
	for _, n := range []int{7, 8, 1000} {
		l = append(l, design(make([]int, n), 0), design(slices.Repeat([]int{1}, n), 3), design(slices.Repeat([]int{8}, n), 8), design(put(make([]int, n), n-1, 1), 1))
	}
	for _, ratio := range [][]int{{1}, {0}, {8, 8}, {1, 2, 0}, {0, 0, 0}, {1, 2, 3, 4, 5, 8}} {
		for at := range ratio {
			for _, bad := range append(badNumbers(), 9, 10, 256, most) {
				l = append(l, design(put(ratio, at, bad), 0), design(put(ratio, at, bad), 3), design(put(ratio, at, bad), 8))
			}
		}
	}
	for _, ratio := range [][]int{nil, {}, {1}, {1, 2, 0}, {0, 0}, {8, 8, 8, 8, 8, 8}} {
		for _, bad := range append(badNumbers(), 9, 10, 256, most) {
			l = append(l, design(ratio, bad))
		}
	}
	return l
}

// badRows returns rows that are not well-formed for a ratio of n elements: with too few and too many, and with a bad element at each place.
func badRows(n int) [][]int {
	var l [][]int
	for long := 1; long <= 8; long++ {
		if long != n {
			l = append(l, make([]int, long), slices.Repeat([]int{1}, long), slices.Repeat([]int{most}, long))
		}
	}
	for at := range n {
		for _, bad := range badNumbers() {
			l = append(l, put(make([]int, n), at, bad), put(slices.Repeat([]int{4}, n), at, bad), slices.Repeat([]int{bad}, n))
		}
	}
	return append(l, make([]int, 1000), slices.Repeat([]int{2}, 1000))
}

// put returns l with an element changed.
func put(l []int, at, n int) []int {
	changed := slices.Clone(l)
	changed[at] = n
	return changed
}

// named returns a call as text.
func named(call string, d api.Design, row []int) string {
	return fmt.Sprintf("%s of %v, Add %d, row %v", call, d.Ratio, d.Add, row)
}

// wantBalls checks the balls of all arms.
func wantBalls(t *testing.T, d api.Design, row, want []int) {
	t.Helper()
	if got := urn.Balls(d, row); !slices.Equal(got, want) {
		t.Errorf("%s: %v; want %v", named("Balls", d, row), got, want)
	}
}

// wantChoices checks what can be drawn.
func wantChoices(t *testing.T, d api.Design, row []int, want ...api.Choice) {
	t.Helper()
	if got := urn.Choices(d, row); !slices.Equal(got, want) {
		t.Errorf("%s: %v; want %v", named("Choices", d, row), got, want)
	}
}

// wantNext checks the balls after a draw, or that there is no such choice.
func wantNext(t *testing.T, d api.Design, row []int, c api.Choice, want []int, wantOK bool) {
	t.Helper()
	if got, ok := urn.Next(d, row, c); !slices.Equal(got, want) || ok != wantOK {
		t.Errorf("%s, %v: %v, %v; want %v, %v", named("Next", d, row), c, got, ok, want, wantOK)
	}
}

// next returns the balls after a choice, which must be permitted.
func next(t *testing.T, d api.Design, row []int, c api.Choice) []int {
	t.Helper()
	after, ok := urn.Next(d, row, c)
	if !ok {
		t.Fatalf("%s, %v: false", named("Next", d, row), c)
	}
	return after
}
