package draw_test

import (
	"fmt"
	"math"
	"slices"
	"testing"

	"equipoise/api"
	"equipoise/draw"
)

// TestPickExamples has the table of the chapter, and choices that were picked by another program: P6.3.
func TestPickExamples(t *testing.T) {
	for _, x := range []struct {
		k       int
		weights []int
		want    int
	}{
		{3, []int{7}, 0},
		{0, []int{1, 1}, 0},
		{1, []int{1, 2, 3}, 0},
		{2, []int{1, 2, 3}, 2},
		{3, []int{1, 2, 3}, 2},
		{1, []int{5, 1, 4}, 2},
		{2, []int{5, 1, 4}, 1},
		{4, []int{5, 1, 4}, 0},
		{0, []int{most}, 0},
		{0, []int{most / 2, most / 2}, 0},
		{1, []int{most / 2, most / 2}, 1},
		{2, []int{most / 2, most / 2}, 0},
	} {
		got, ok := draw.Pick("x", x.k, choices(x.weights...))
		wantNumber(t, fmt.Sprintf("Pick of %d, %v", x.k, x.weights), got, ok, x.want)
	}
	got, ok := draw.Pick("x", 0, nil)
	wantNoNumber(t, "Pick of none", got, ok)
	got, ok = draw.Pick("x", 0, choices(1, 0))
	wantNoNumber(t, "Pick of the weights 1 and 0", got, ok)
}

// weightLists returns weights that are permitted, some of which are together as much as permitted.
func weightLists() [][]int {
	return [][]int{
		{1}, {7}, {1, 1}, {1, 2}, {2, 1}, {1, 1, 1}, {3, 1, 4, 1, 5, 9, 2, 6}, ones(400), ones(251), {1000, 1, 1000}, {1, 1000, 1}, {30, 10, 1, 1, 10, 30},
		{most}, {most - 1}, {1, most - 1}, {most - 1, 1}, {1, most - 2}, {most / 2, most / 2}, {most / 2, 1}, {1, most / 2}, {most / 4, most / 4, most / 4, most / 4},
		{most / 3, most / 3, most/3 + 1}, {most / 3, most / 3, most / 3}, {most / 4, most / 2}, slices.Repeat([]int{most / 64}, 64), slices.Repeat([]int{most / 100}, 100),
	}
}

// TestPick has all sorts of seeds, draws and weights: P6.3.
func TestPick(t *testing.T) {
	for _, seed := range seeds() {
		for _, k := range append(ks(), 5, 6, 7, 8, 9, 10, 11, 12, 13, 14) {
			for _, weights := range weightLists() {
				want := indexOf(numberOf(seed, k, sumOf(weights)), weights)
				got, ok := draw.Pick(seed, k, choices(weights...))
				wantNumber(t, fmt.Sprintf("Pick of %.20q, %d, %v", seed, k, weights), got, ok, want)
			}
		}
	}
}

// TestPickNumber has weights of 1, of which the index is the number itself, and a weight that ends just at it, or just before: P6.3.
func TestPickNumber(t *testing.T) {
	for _, seed := range seeds() {
		for k := range 40 {
			total := 2 + 10*k
			n := numberOf(seed, k, total)
			got, ok := draw.Pick(seed, k, choices(ones(total)...))
			wantNumber(t, fmt.Sprintf("Pick of %.20q, %d, %d weights of 1", seed, k, total), got, ok, n)
			if n > 0 {
				got, ok = draw.Pick(seed, k, choices(n, total-n))
				wantNumber(t, fmt.Sprintf("Pick of %.20q, %d, %d and %d", seed, k, n, total-n), got, ok, 1)
			}
			if n < total-1 {
				got, ok = draw.Pick(seed, k, choices(n+1, total-n-1))
				wantNumber(t, fmt.Sprintf("Pick of %.20q, %d, %d and %d", seed, k, n+1, total-n-1), got, ok, 0)
			}
		}
	}
}

// TestPickOnlyByWeight has choices with other sizes and arms, which do not count: P6.3.
func TestPickOnlyByWeight(t *testing.T) {
	for k := range 40 {
		l := choices(3, 1, 4, 1, 5)
		want := pick(t, "seed", k, l)
		for i := range l {
			l[i].Size, l[i].Arm = []int{-1, math.MaxInt, math.MinInt, 0, 9}[i], []int{math.MinInt, 0, -5, math.MaxInt, 1 << 40}[i]
		}
		got, ok := draw.Pick("seed", k, l)
		wantNumber(t, "Pick with other sizes and arms", got, ok, want)
	}
}

// TestManyChoices has very many choices, with weights that are just not too great together, or just too great: P6.3.
func TestManyChoices(t *testing.T) {
	l := choices(slices.Repeat([]int{1 << 10}, 1<<20)...)
	for k := range 5 {
		got, ok := draw.Pick("seed", k, l)
		wantNumber(t, "Pick of 2^20 choices", got, ok, numberOf("seed", k, most)>>10)
	}
	l = append(l, api.Choice{Weight: 1})
	got, ok := draw.Pick("seed", 0, l)
	wantNoNumber(t, "Pick of 2^20 + 1 choices", got, ok)
}

// wrongWeights returns weights that are not permitted: none, too small or too great ones, and those that are too great together, though their sum as an int is not.
func wrongWeights() [][]int {
	l := [][]int{
		nil, {},
		{most + 1}, {most, 1}, {1, most}, {most / 2, most / 2, 1}, {most - 1, 2}, {2, most - 1}, {most, most}, {most / 2, most/2 + 1}, {1 << 31}, {1 << 32}, {1<<32 + 1}, {1 << 32, 5}, {5, 1 << 32},
		{math.MaxInt}, {math.MaxInt, 1}, {1, math.MaxInt}, {math.MaxInt, math.MaxInt}, {math.MaxInt, math.MaxInt, 9}, {9, math.MaxInt, math.MaxInt}, {math.MaxInt, math.MaxInt, 2}, {math.MaxInt, 2, math.MaxInt},
		{1 << 62, 1 << 62, 1 << 62, 1 << 62}, {1 << 62, 1 << 62, 1 << 62, 1<<62 + 7}, {7, 1 << 62, 1 << 62, 1 << 62, 1 << 62}, {most, math.MaxInt, math.MaxInt, 2},
		slices.Repeat([]int{most / 64}, 65), slices.Repeat([]int{most / 4}, 5), slices.Repeat([]int{most}, 4), append(slices.Repeat([]int{most}, 4), 1),
		{math.MinInt, math.MaxInt, 2}, {math.MaxInt, math.MinInt, 2}, {most + 5, -5}, {-5, most + 5}, {-1, 2}, {2, -1}, {5, -2, 5}, {-1, -1},
	}
	for _, wrong := range []int{0, -1, -7, -most, math.MinInt, math.MinInt + 1} {
		for at := range 4 {
			weights := []int{3, 1, 4, 1}
			weights[at] = wrong
			l = append(l, weights)
		}
		l = append(l, []int{wrong}, []int{most, wrong}, []int{wrong, most})
	}
	return l
}

// TestPickRefused has wrong weights, and draws for which there is no number: P6.3, R2.
func TestPickRefused(t *testing.T) {
	check := func(seed string, k int, weights []int) {
		t.Helper()
		got, ok := draw.Pick(seed, k, choices(weights...))
		wantNoNumber(t, fmt.Sprintf("Pick of %.20q, %d, %v", seed, k, weights), got, ok)
	}
	for _, weights := range wrongWeights() {
		for k := range 8 {
			check("x", k, weights)
			check("seed", k, weights)
		}
		check("", 0, weights)
		check("x", -1, weights)
		check("x", math.MaxInt, weights)
	}
	for _, weights := range weightLists() {
		check("", 0, weights)
		check("", 7, weights)
		for _, k := range noDraws() {
			check("x", k, weights)
		}
	}
}
