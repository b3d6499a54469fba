package block_test

import (
	"math"
	"reflect"
	"slices"
	"testing"

	"equipoise/api"
	"equipoise/block"
)

// TestEndsWithoutPanic calls everything with all sorts of arguments: P1.
func TestEndsWithoutPanic(t *testing.T) {
	numbers := []int{0, 1, 2, 4, 5, 8, 9, most, most + 1, -1, math.MinInt, math.MaxInt}
	all := [][]int{nil, {}, numbers, slices.Repeat([]int{math.MaxInt}, 6), slices.Repeat([]int{math.MinInt}, 6), make([]int, 1<<20), slices.Repeat([]int{math.MaxInt}, 1<<16)}
	for _, n := range numbers {
		all = append(all, []int{n}, []int{n, 1}, []int{1, n}, []int{n, n, n}, []int{1, 1, 1, 1, 1, n})
	}
	for _, row := range all {
		block.Left(row)
		for _, ratio := range all {
			for _, sizes := range all {
				d := design(ratio, sizes)
				block.Choices(d, row)
				for _, c := range []api.Choice{{}, {Weight: 1, Size: 1}, {Weight: math.MaxInt, Size: math.MaxInt, Arm: math.MaxInt}, {Weight: math.MinInt, Size: math.MinInt, Arm: math.MinInt}, {Weight: 1, Arm: -1}, {Weight: 1, Arm: 7}} {
					block.Next(d, row, c)
				}
			}
		}
	}
}

// TestNilAndEmpty has the two forms of what has no elements: R1.
func TestNilAndEmpty(t *testing.T) {
	d := design([]int{1, 2}, []int{1, 3})
	for _, none := range [][]int{nil, {}, []int{5, 5, 5}[:0]} {
		wantChoices(t, d, none, choicesOf(d, nil))
		wantNext(t, d, none, api.Choice{Weight: 2, Size: 3, Arm: 1}, []int{3, 5}, true)
		wantChoices(t, design(none, []int{1}), nil, nil)
		wantChoices(t, design([]int{1}, none), nil, nil)
		if n := block.Left(none); n != 0 {
			t.Errorf("Left of no row: %d", n)
		}
	}
}

// TestArguments has arguments with more memory behind them, which is neither read nor written, and which are the same after each call: R3.
func TestArguments(t *testing.T) {
	tail := []int{7, -7, 7, 0, 7, 7, 7}
	for _, ratio := range ratios() {
		for _, row := range slices.Concat(rows(len(ratio)), badRows(len(ratio))) {
			longRatio, longSizes, longRow := slices.Concat(ratio, tail), slices.Concat([]int{2, 1}, tail), slices.Concat(row, tail)
			d, r := design(longRatio[:len(ratio)], longSizes[:2]), longRow[:len(row)]
			wantChoices(t, d, r, choicesOf(design(ratio, []int{2, 1}), row))
			for _, c := range append(someChoices(d, r), choicesOf(d, r)...) {
				want, ok := nextOf(design(ratio, []int{2, 1}), row, c)
				wantNext(t, d, r, c, want, ok)
			}
			block.Left(r)
			if !slices.Equal(longRatio, slices.Concat(ratio, tail)) || !slices.Equal(longSizes, slices.Concat([]int{2, 1}, tail)) || !slices.Equal(longRow, slices.Concat(row, tail)) {
				t.Fatalf("%s: an argument was changed", named("a call", d, row))
			}
		}
	}
}

// TestResultsShareNothing has results that are overwritten, together with the memory behind them: R3.
func TestResultsShareNothing(t *testing.T) {
	for _, row := range [][]int{nil, {0, 0, 0}, {4, 0, 1}, {1, 1, 0}} {
		d := design([]int{2, 0, 1}, []int{1, 2})
		first, second := block.Choices(d, row), block.Choices(d, row)
		want := slices.Clone(second)
		clear(first[:cap(first)])
		if !slices.Equal(second, want) {
			t.Errorf("Choices of %v returns what was overwritten", row)
		}
		wantChoices(t, d, row, want)
		for _, c := range want {
			given := slices.Clone(row)
			left, again := next(t, d, given, c), next(t, d, given, c)
			wantLeft := slices.Clone(again)
			for k := range left[:cap(left)] {
				left[:cap(left)][k] = 9
			}
			if !slices.Equal(again, wantLeft) || !slices.Equal(given, row) || !slices.Equal(d.Ratio, []int{2, 0, 1}) {
				t.Errorf("Next of %v, %v shares memory", row, c)
			}
		}
	}
}

// TestSameCalls has the same calls again, in another order: R4.
func TestSameCalls(t *testing.T) {
	var calls []func() []any
	for _, ratio := range [][]int{{1}, {2, 1}, {2, 0, 1}, nil} {
		for _, row := range [][]int{nil, {1}, {2, 1}, {4, 0, 1}, {-1, 2}} {
			d := design(ratio, []int{2, 1})
			calls = append(calls,
				func() []any { return []any{block.Choices(d, row)} },
				func() []any { return []any{block.Left(row)} },
				func() []any {
					left, ok := block.Next(d, row, api.Choice{Weight: 1, Size: 2, Arm: 1})
					return []any{left, ok}
				},
			)
		}
	}
	var first [][]any
	for _, f := range calls {
		first = append(first, f())
	}
	for range 3 {
		for i, f := range slices.Backward(calls) {
			if got := f(); !reflect.DeepEqual(got, first[i]) {
				t.Errorf("call %d: %v, and then %v", i, first[i], got)
			}
		}
	}
}
