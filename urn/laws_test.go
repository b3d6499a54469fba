package urn_test

import (
	"fmt"
	"math/big"
	"math/rand"
	"slices"
	"testing"

	"equipoise/api"
	"equipoise/urn"
)

// wantGrowth checks what a draw changes: P8.4.
func wantGrowth(t *testing.T, d api.Design, row []int, c api.Choice) []int {
	t.Helper()
	after, before, name := next(t, d, row, c), urn.Balls(d, row), fmt.Sprint(named("Next", d, row), ", ", c)
	if len(after) != len(before) {
		t.Fatalf("%s: %v, after %v", name, after, before)
	}
	if grown := total(after) - total(before); grown != d.Add*(used(d.Ratio)-1) {
		t.Errorf("%s: %d balls more", name, grown)
	}
	for arm, n := range after {
		if (arm == c.Arm || d.Ratio[arm] == 0) && n != before[arm] {
			t.Errorf("%s: the arm %d has %d balls, and had %d", name, arm, n, before[arm])
		}
	}
	was, is := chance(urn.Choices(d, row), c.Arm), chance(urn.Choices(d, after), c.Arm)
	if is.Cmp(was) > 0 {
		t.Errorf("%s: the probability of the arm is %s, and was %s", name, is, was)
	}
	return after
}

// TestGrowth has a draw of each arm, from all sorts of rows: P8.4.
func TestGrowth(t *testing.T) {
	for _, ratio := range ratios() {
		for _, add := range []int{0, 1, 5, 8} {
			d := design(ratio, add)
			for _, row := range rows(len(ratio)) {
				for _, c := range choicesOf(d, row) {
					if _, ok := nextOf(d, row, c); ok {
						wantGrowth(t, d, row, c)
					}
				}
			}
		}
	}
}

// randomDesign returns a design that is usable, with at least one arm in use.
func randomDesign(r *rand.Rand) api.Design {
	ratio := make([]int, 1+r.Intn(6))
	for total(ratio) == 0 {
		for arm := range ratio {
			ratio[arm] = r.Intn(9) * r.Intn(2)
		}
	}
	return design(ratio, r.Intn(9))
}

// choiceOf returns the choice of an arm, which must be one.
func choiceOf(t *testing.T, d api.Design, row []int, arm int) api.Choice {
	t.Helper()
	l := urn.Choices(d, row)
	i := slices.IndexFunc(l, func(c api.Choice) bool { return c.Arm == arm })
	if i < 0 {
		t.Fatalf("%s: %v, without the arm %d", named("Choices", d, row), l, arm)
	}
	return l[i]
}

// drawAll draws arms one after the other, from the empty row on, and checks after each of them how many balls there are: P8.5.
func drawAll(t *testing.T, d api.Design, arms []int) []int {
	t.Helper()
	var row []int
	for at, arm := range arms {
		row = wantGrowth(t, d, row, choiceOf(t, d, row, arm))
		want := slices.Clone(d.Ratio)
		for _, drawn := range arms[:at+1] {
			for other, n := range d.Ratio {
				if n > 0 && other != drawn {
					want[other] += d.Add
				}
			}
		}
		wantBalls(t, d, row, want)
	}
	return row
}

// TestDraws draws the same arms in several orders, from the empty row on: P8.4, P8.5.
func TestDraws(t *testing.T) {
	r := rand.New(rand.NewSource(8))
	for range 300 {
		d := randomDesign(r)
		var open, arms []int
		for arm, n := range d.Ratio {
			if n > 0 {
				open = append(open, arm)
			}
		}
		for range r.Intn(30) {
			arms = append(arms, open[r.Intn(len(open))])
		}
		want := drawAll(t, d, arms)
		for range 3 {
			r.Shuffle(len(arms), func(i, j int) { arms[i], arms[j] = arms[j], arms[i] })
			if got := drawAll(t, d, arms); !slices.Equal(got, want) {
				t.Fatalf("ratio %v, Add %d: the draws %v lead to %v, and to %v in another order", d.Ratio, d.Add, arms, got, want)
			}
		}
	}
}

// TestAllOrders draws short lists of arms in all orders, and as often as there can be places: P8.5.
func TestAllOrders(t *testing.T) {
	d, after := design([]int{1, 0, 8, 3}, 7), map[[3]int][]int{}
	for _, arms := range lists([]int{0, 2, 3}, 6) {
		var times [3]int
		for _, arm := range arms {
			times[max(arm-1, 0)]++
		}
		row := drawAll(t, d, arms)
		if want, ok := after[times]; ok && !slices.Equal(row, want) {
			t.Errorf("the draws %v lead to %v, and to %v in another order", arms, row, want)
		}
		after[times] = row
	}
	long := slices.Repeat([]int{0, 3}, 200)
	if row := drawAll(t, design([]int{1, 0, 8, 3}, 8), long); !slices.Equal(row, []int{1601, 0, 3208, 1603}) {
		t.Errorf("after 400 draws, the row %v", row)
	}
}

// chanceOfRatio returns the probability that an arm has by the ratio.
func chanceOfRatio(ratio []int, arm int) *big.Rat {
	return big.NewRat(int64(ratio[arm]), int64(total(ratio)))
}

// TestAddNothing draws with Add 0: P8.6.
func TestAddNothing(t *testing.T) {
	r := rand.New(rand.NewSource(86))
	for _, ratio := range ratios() {
		d := design(ratio, 0)
		first := urn.Choices(d, nil)
		for arm, n := range ratio {
			if n > 0 && chance(first, arm).Cmp(chanceOfRatio(ratio, arm)) != 0 {
				t.Fatalf("ratio %v: the arm %d has the probability %s", ratio, arm, chance(first, arm))
			}
		}
		var row []int
		for range min(len(first)*10, 30) {
			c := first[r.Intn(len(first))]
			row = next(t, d, row, c)
			wantBalls(t, d, row, ratio)
			wantChoices(t, d, row, first...)
		}
	}
}
