package urn_test

import (
	"math"
	"reflect"
	"slices"
	"testing"

	"equipoise/api"
	"equipoise/urn"
)

// TestEndsWithoutPanic calls everything with all sorts of arguments: P1.
func TestEndsWithoutPanic(t *testing.T) {
	numbers := []int{0, 1, 2, 6, 7, 8, 9, most - 8, most, most + 1, -1, math.MinInt, math.MaxInt}
	all := [][]int{nil, {}, numbers, slices.Repeat([]int{math.MaxInt}, 6), slices.Repeat([]int{math.MinInt}, 6), make([]int, 1<<20), slices.Repeat([]int{math.MaxInt}, 1<<16)}
	for _, n := range numbers {
		all = append(all, []int{n}, []int{n, 1}, []int{1, n}, []int{n, n, n}, []int{1, 1, 1, 1, 1, n})
	}
	for _, row := range all {
		for _, ratio := range all {
			for _, add := range numbers {
				d := design(ratio, add)
				urn.Balls(d, row)
				urn.Choices(d, row)
				for _, c := range []api.Choice{{}, {Weight: 1}, {Weight: 1, Size: 1}, {Weight: math.MaxInt, Size: math.MaxInt, Arm: math.MaxInt}, {Weight: math.MinInt, Size: math.MinInt, Arm: math.MinInt}, {Weight: 1, Arm: -1}, {Weight: 1, Arm: 7}} {
					urn.Next(d, row, c)
				}
			}
		}
	}
}

// TestNilAndEmpty has the two forms of what has no elements: R1.
func TestNilAndEmpty(t *testing.T) {
	d := design([]int{1, 2, 0}, 3)
	for _, none := range [][]int{nil, {}, []int{5, 5, 5}[:0]} {
		wantBalls(t, d, none, []int{1, 2, 0})
		wantChoices(t, d, none, api.Choice{Weight: 1}, api.Choice{Weight: 2, Arm: 1})
		wantNext(t, d, none, api.Choice{Weight: 2, Arm: 1}, []int{4, 2, 0}, true)
		for _, row := range [][]int{nil, {}, {0}, {1}} {
			wantBalls(t, design(none, 3), row, nil)
			wantChoices(t, design(none, 3), row)
			wantNext(t, design(none, 3), row, api.Choice{Weight: 1}, nil, false)
			wantNext(t, design(none, 3), row, api.Choice{}, nil, false)
		}
	}
}

// TestArguments has arguments with more memory behind them, which is neither read nor written, and which are the same after each call: R3.
func TestArguments(t *testing.T) {
	tail := []int{7, -7, 7, 0, 7, 7, 7}
	for _, ratio := range ratios() {
		for i, row := range slices.Concat(rows(len(ratio)), badRows(len(ratio))) {
			longRatio, longRow := slices.Concat(ratio, tail), slices.Concat(row, tail)
			d, r, model := design(longRatio[:len(ratio)], i%9), longRow[:len(row)], design(ratio, i%9)
			wantBalls(t, d, r, ballsOf(model, row))
			wantChoices(t, d, r, choicesOf(model, row)...)
			for _, c := range append(someChoices(d, r), choicesOf(model, row)...) {
				want, ok := nextOf(model, row, c)
				wantNext(t, d, r, c, want, ok)
			}
			if !slices.Equal(longRatio, slices.Concat(ratio, tail)) || !slices.Equal(longRow, slices.Concat(row, tail)) {
				t.Fatalf("%s: an argument was changed", named("a call", d, row))
			}
		}
	}
}

// spoil overwrites a list, and the memory behind it.
func spoil(l []int) {
	for k := range l[:cap(l)] {
		l[:cap(l)][k] = 9
	}
}

// TestResultsShareNothing has results that are overwritten, together with the memory behind them: R3.
func TestResultsShareNothing(t *testing.T) {
	for _, row := range [][]int{nil, {}, {0, 0, 0}, {4, 0, 7}, {1, 5, 0}} {
		d, given := design([]int{1, 2, 0}, 3), slices.Clone(row)
		first, second := urn.Balls(d, given), urn.Balls(d, given)
		spoil(first)
		if !slices.Equal(second, ballsOf(design([]int{1, 2, 0}, 3), row)) || !slices.Equal(given, row) || !slices.Equal(d.Ratio, []int{1, 2, 0}) {
			t.Errorf("Balls of %v shares memory", row)
		}
		choices, again := urn.Choices(d, given), urn.Choices(d, given)
		want := slices.Clone(again)
		clear(choices[:cap(choices)])
		if !slices.Equal(again, want) {
			t.Errorf("Choices of %v returns what was overwritten", row)
		}
		wantChoices(t, d, given, want...)
		for _, c := range want {
			after, same := next(t, d, given, c), next(t, d, given, c)
			wantAfter := slices.Clone(same)
			spoil(after)
			if !slices.Equal(same, wantAfter) || !slices.Equal(given, row) || !slices.Equal(d.Ratio, []int{1, 2, 0}) {
				t.Errorf("Next of %v, %v shares memory", row, c)
			}
		}
	}
}

// TestSameCalls has the same calls again, in another order: R4.
func TestSameCalls(t *testing.T) {
	var calls []func() []any
	for _, ratio := range [][]int{{1}, {2, 1}, {1, 2, 0}, nil} {
		for _, row := range [][]int{nil, {1}, {2, 1}, {4, 2, 7}, {-1, 2}} {
			d := design(ratio, 3)
			calls = append(calls,
				func() []any { return []any{urn.Balls(d, row)} },
				func() []any { return []any{urn.Choices(d, row)} },
				func() []any {
					after, ok := urn.Next(d, row, api.Choice{Weight: 2, Arm: 1})
					return []any{after, ok}
				},
			)
		}
	}
	var first [][]any
	for _, f := range calls {
		first = append(first, f())
	}
	for range 3 {
		for i, f := range slices.Backward(calls) {
			if got := f(); !reflect.DeepEqual(got, first[i]) {
				t.Errorf("call %d: %v, and then %v", i, first[i], got)
			}
		}
	}
}
