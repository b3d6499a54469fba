package share_test

import (
	"math"
	"slices"
	"testing"

	"equipoise/share"
)

// pair returns two results as one value.
func pair[T any](x T, ok bool) any {
	return struct {
		x  T
		ok bool
	}{x, ok}
}

// calls returns what all functions return for these arguments.
func calls(i, a, j, b, k int) []any {
	s := [3]int{a, b, k}
	return []any{
		pair(share.Split(a, b)), pair(share.Join(i, a, j, b)), pair(share.Third(i, a, j, b, k)),
		pair(share.Blind(a, i, b)), pair(share.Renew(s, j)), share.Agree(s),
	}
}

// each visits lists of five numbers of all sorts.
func each(visit func(i, a, j, b, k int)) {
	l := []int{0, 1, 2, 3, 4, 250, 251, -1, math.MinInt, math.MaxInt}
	for _, i := range l {
		for _, a := range l {
			for _, j := range l {
				for _, b := range l {
					for _, k := range l {
						visit(i, a, j, b, k)
					}
				}
			}
		}
	}
}

// TestEndsWithoutPanic calls everything with all sorts of arguments: P1.
func TestEndsWithoutPanic(t *testing.T) {
	each(func(i, a, j, b, k int) { calls(i, a, j, b, k) })
}

// TestSameCalls calls everything again, with other calls in between: R4.
func TestSameCalls(t *testing.T) {
	each(func(i, a, j, b, k int) {
		first := calls(i, a, j, b, k)
		calls(j, b, k, a, i)
		if second := calls(i, a, j, b, k); !slices.Equal(first, second) {
			t.Errorf("with %d, %d, %d, %d, %d: %v, and then %v", i, a, j, b, k, first, second)
		}
	})
}

// TestShares changes what was returned and what was passed: R3.
func TestShares(t *testing.T) {
	s := split(t, 5, 7)
	s[0] = 99
	if split(t, 5, 7) != [3]int{12, 19, 26} {
		t.Error("Split returns what was changed")
	}
	old := [3]int{12, 19, 26}
	fresh, ok := share.Renew(old, 250)
	old[1] = 99
	wantShares(t, "Renew", "12, 19, 26 by 250", fresh, ok, [3]int{11, 17, 23}, true)
}
