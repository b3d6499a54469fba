package coin_test

import (
	"math"
	"reflect"
	"slices"
	"testing"

	"equipoise/api"
	"equipoise/coin"
)

// TestEndsWithoutPanic calls everything with all sorts of arguments: P1.
func TestEndsWithoutPanic(t *testing.T) {
	numbers := []int{0, 1, 2, 6, 7, 8, 9, most - 1, most, most + 1, -1, math.MinInt, math.MaxInt}
	all := [][]int{nil, {}, numbers, slices.Repeat([]int{math.MaxInt}, 6), slices.Repeat([]int{math.MinInt}, 6), make([]int, 1<<20), slices.Repeat([]int{math.MaxInt}, 1<<16)}
	for _, n := range numbers {
		all = append(all, []int{n}, []int{n, 1}, []int{1, n}, []int{n, n, n}, []int{1, 1, 1, 1, 1, n})
	}
	for i, ratio := range all {
		for k, stratum := range all {
			d := tossed(ratio, append(coins(), badCoins()...)[(i+k)%20])
			coin.Uneven(d, stratum)
			for _, arm := range numbers {
				coin.Next(d, stratum, arm)
			}
			for _, site := range all {
				coin.Preferred(d, stratum, site)
				coin.Choices(d, stratum, site)
			}
		}
	}
	for _, n := range numbers {
		for _, denominator := range numbers {
			coin.Choices(tossed([]int{1, 2}, api.Frac{N: n, D: denominator}), nil, nil)
		}
	}
	coin.Uneven(api.Design{}, nil)
	coin.Preferred(api.Design{}, nil, nil)
	coin.Choices(api.Design{}, nil, nil)
	coin.Next(api.Design{}, nil, 0)
}

// TestNilAndEmpty has the two forms of what has no elements: R1.
func TestNilAndEmpty(t *testing.T) {
	c := api.Frac{N: 2, D: 3}
	forms := [][]int{nil, {}, []int{5, 5, 5}[:0]}
	for _, none := range forms {
		d := tossed([]int{1, 1, 2}, c)
		wantUneven(t, d, none, 0)
		wantNext(t, d, none, 1, []int{0, 1, 0}, true)
		for _, other := range forms {
			wantPreferred(t, d, none, other, 2)
			wantChoices(t, d, none, other, weighted(2, 2, 8)...)
		}
		for _, row := range append(forms, []int{0}, []int{1}, []int{0, 0}) {
			wantUneven(t, tossed(none, c), row, 0)
			wantPreferred(t, tossed(none, c), row, none)
			wantChoices(t, tossed(none, c), none, row)
			wantNext(t, tossed(none, c), row, 0, nil, false)
		}
	}
}

// TestArguments has arguments with more memory behind them, which is neither read nor written, and which are the same after each call: R3.
func TestArguments(t *testing.T) {
	tail := []int{7, -7, 7, 0, 7, 7, 7}
	for _, ratio := range ratios()[:40] {
		all := slices.Concat(rows(len(ratio)), badRows(len(ratio)))
		for i, row := range all {
			other := all[(5*i+1)%len(all)]
			longRatio, longRow, longOther := slices.Concat(ratio, tail), slices.Concat(row, tail), slices.Concat(other, tail)
			d, stratum, site := tossed(longRatio[:len(ratio)], coins()[i%len(coins())]), longRow[:len(row)], longOther[:len(other)]
			model := tossed(ratio, d.Coin)
			wantUneven(t, d, stratum, unevenOf(ratio, row))
			wantPreferred(t, d, stratum, site, preferredOf(ratio, row, other)...)
			wantChoices(t, d, stratum, site, choicesOf(model, row, other)...)
			for arm := -1; arm <= len(ratio); arm++ {
				want, ok := nextOf(ratio, row, arm)
				wantNext(t, d, stratum, arm, want, ok)
			}
			if !slices.Equal(longRatio, slices.Concat(ratio, tail)) || !slices.Equal(longRow, slices.Concat(row, tail)) || !slices.Equal(longOther, slices.Concat(other, tail)) || !slices.Equal(d.Sizes, model.Sizes) {
				t.Fatalf("%s: an argument was changed", named("a call", d, row, other))
			}
		}
	}
}

// spoil overwrites a list, and the memory behind it.
func spoil(l []int) {
	for k := range l[:cap(l)] {
		l[:cap(l)][k] = 9
	}
}

// TestResultsShareNothing has results that are overwritten, together with the memory behind them: R3.
func TestResultsShareNothing(t *testing.T) {
	for _, row := range [][]int{nil, {}, {0, 0, 0}, {4, 0, 7}, {1, 5, 0}} {
		d, given := tossed([]int{1, 1, 2}, api.Frac{N: 2, D: 3}), slices.Clone(row)
		untouched := func() bool {
			return slices.Equal(given, row) && slices.Equal(d.Ratio, []int{1, 1, 2})
		}
		best, again := coin.Preferred(d, given, given), coin.Preferred(d, given, given)
		spoil(best)
		if !slices.Equal(again, preferredOf(d.Ratio, row, row)) || !untouched() {
			t.Errorf("Preferred of %v shares memory", row)
		}
		l, same := coin.Choices(d, given, given), coin.Choices(d, given, given)
		clear(l[:cap(l)])
		if !slices.Equal(same, choicesOf(d, row, row)) || !untouched() {
			t.Errorf("Choices of %v shares memory", row)
		}
		for arm := range 3 {
			after, second := next(t, d, given, arm), next(t, d, given, arm)
			want, _ := nextOf(d.Ratio, row, arm)
			spoil(after)
			if !slices.Equal(second, want) || !untouched() {
				t.Errorf("Next of %v shares memory", row)
			}
		}
	}
}

// TestSameCalls has the same calls again, in another order: R4.
func TestSameCalls(t *testing.T) {
	var calls []func() []any
	for _, ratio := range [][]int{{1, 1}, {2, 1}, {1, 2, 0}, {1}, nil} {
		for _, row := range [][]int{nil, {2, 1}, {4, 2, 7}, {-1, 2}} {
			d := tossed(ratio, api.Frac{N: 2, D: 3})
			calls = append(calls,
				func() []any { return []any{coin.Uneven(d, row)} },
				func() []any { return []any{coin.Preferred(d, row, nil)} },
				func() []any { return []any{coin.Choices(d, nil, row)} },
				func() []any {
					after, ok := coin.Next(d, row, 1)
					return []any{after, ok}
				},
			)
		}
	}
	var first [][]any
	for _, f := range calls {
		first = append(first, f())
	}
	for range 3 {
		for i, f := range slices.Backward(calls) {
			if got := f(); !reflect.DeepEqual(got, first[i]) {
				t.Errorf("call %d: %v, and then %v", i, first[i], got)
			}
		}
	}
}
