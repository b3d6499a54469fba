package draw_test

import (
	"math"
	"reflect"
	"slices"
	"strings"
	"testing"

	"equipoise/api"
	"equipoise/draw"
)

// numbers returns ints of all sorts.
func numbers() []int {
	return []int{0, 1, 2, 3, 63, 64, 399, 400, 401, most - 1, most, most + 1, 1<<32 + 1, -1, math.MinInt, math.MinInt + 1, math.MaxInt, math.MaxInt - 1}
}

// TestEndsWithoutPanic calls everything with all sorts of arguments: P1.
func TestEndsWithoutPanic(t *testing.T) {
	texts := append(seeds(), "", strings.Repeat("x", 70000))
	lists := [][]int{nil, {}, {0}, numbers(), slices.Repeat([]int{math.MaxInt}, 100), slices.Repeat([]int{math.MinInt}, 100), {1, 2, 3}, {most}, {math.MaxInt, math.MaxInt, 3}}
	for _, s := range texts {
		draw.Commit(s)
		draw.Joined([]string{s})
		draw.Joined(texts)
		for _, k := range numbers() {
			if len(s) > 1000 && k > 3 {
				continue
			}
			draw.Shuffle(s, k)
			for _, total := range numbers() {
				draw.Number(s, k, total)
			}
			for _, weights := range lists {
				draw.Pick(s, k, choices(weights...))
			}
		}
	}
}

// TestNilAndEmpty has the two forms of no seeds and of no choices: R1.
func TestNilAndEmpty(t *testing.T) {
	for _, l := range [][]string{nil, {}, make([]string, 0, 5)} {
		if s, ok := draw.Joined(l); s != "" || ok {
			t.Errorf("Joined of no seeds: %x, %v", s, ok)
		}
	}
	for _, l := range [][]api.Choice{nil, {}, choices(1, 2)[:0]} {
		i, ok := draw.Pick("x", 0, l)
		wantNoNumber(t, "Pick of no choices", i, ok)
	}
}

// TestArguments has arguments with more memory behind them, which is neither read nor written: R3, R4.
func TestArguments(t *testing.T) {
	names, l := []string{"a", "b", "", "c"}, choices(3, 4, 0, -1)
	got, ok := draw.Joined(names[:2])
	if want, _ := draw.Joined([]string{"a", "b"}); got != want || !ok {
		t.Errorf("Joined: %x, %v", got, ok)
	}
	for k := range 20 {
		i, ok := draw.Pick("x", k, l[:2])
		wantNumber(t, "Pick", i, ok, pick(t, "x", k, choices(3, 4)))
	}
	if !slices.Equal(names, []string{"a", "b", "", "c"}) || !slices.Equal(l, choices(3, 4, 0, -1)) {
		t.Error("an argument was changed")
	}
}

// TestResultsShareNothing has orders that are overwritten: R3.
func TestResultsShareNothing(t *testing.T) {
	for _, n := range []int{1, 2, 20, 400} {
		first, second := shuffle(t, "seed", n), shuffle(t, "seed", n)
		want := slices.Clone(second)
		clear(first[:cap(first)])
		if !slices.Equal(second, want) || !slices.Equal(shuffle(t, "seed", n), want) {
			t.Errorf("Shuffle of %d returns what was overwritten", n)
		}
	}
}

// TestSameCalls has the same calls again, in another order: R4.
func TestSameCalls(t *testing.T) {
	pair := func(x any, ok bool) []any { return []any{x, ok} }
	var calls []func() []any
	for _, seed := range []string{"x", "y", "", "seed"} {
		for _, k := range []int{0, 1, 7, 401, -1} {
			calls = append(calls,
				func() []any { return []any{draw.Commit(seed)} },
				func() []any { s, ok := draw.Joined([]string{seed, "a"}); return pair(s, ok) },
				func() []any { n, ok := draw.Number(seed, k, 1<<29+1); return pair(n, ok) },
				func() []any { i, ok := draw.Pick(seed, k, choices(3, 1, 4)); return pair(i, ok) },
				func() []any { l, ok := draw.Shuffle(seed, k); return pair(l, ok) },
			)
		}
	}
	var first [][]any
	for _, f := range calls {
		first = append(first, f())
	}
	for range 3 {
		for i, f := range slices.Backward(calls) {
			if got := f(); !reflect.DeepEqual(got, first[i]) {
				t.Errorf("call %d: %v, and then %v", i, first[i], got)
			}
		}
	}
}
