package run_test

import (
	"slices"
	"testing"

	"equipoise/api"
)

// TestExamplesOfOdds has the examples of the chapter, and others like them: P11.5.
func TestExamplesOfOdds(t *testing.T) {
	d, e := always(simple(1, 2)), always(blocks([]int{1, 2}, 1, 1))
	wantOdds(t, d, same(3), nil, "1/3", "2/3")
	wantOdds(t, d, same(3), []int{0, 0}, "1/3", "2/3")
	wantOdds(t, e, same(3), nil, "1/2", "1/2")
	wantOdds(t, e, same(3), []int{0}, "1/6", "5/6")
	wantOdds(t, e, same(3), []int{0, 0}, "0", "1")
	wantNoOdds(t, e, same(4), []int{0, 0, 0}, api.ErrZero)
	wantOdds(t, e, same(4), []int{0, 0, 1}, "0", "1")
	wantOdds(t, e, same(4), []int{0, 1}, "1/2", "1/2")
	wantOdds(t, e, same(4), []int{0, 1, 1}, "9/10", "1/10") // 1/16 for two blocks of 2; 1/16 for one of 2 and one of 4, of which 0, 0, 1 is left; 1/12 for one of 4
	wantOdds(t, e, strata(0, 1, 0), []int{0, 1}, "1/6", "5/6")
	wantOdds(t, e, strata(0, 1, 1), []int{0, 1}, "5/6", "1/6")
	wantOdds(t, always(urns(1, 1, 0, 2)), same(3), []int{2}, "1/2", "0", "1/2")
	wantOdds(t, []api.Phase{phase(0, simple(1, 1)), phase(1, simple(1, 1, 0, 6))}, same(3), []int{0}, "1/8", "1/8", "0", "3/4")
	wantOdds(t, []api.Phase{phase(0, simple(1, 1, 1)), phase(1, simple(0, 1, 1))}, same(3), []int{0}, "0", "1/2", "1/2")
}

// TestOdds compares the odds after all arms that are possible with the sums over all courses: P11.5.
func TestOdds(t *testing.T) {
	for _, a := range trials() {
		for n := range len(a.x) {
			l := pathsOf(a.p, a.x, n)
			for _, arms := range armsOf(l) {
				with := slices.DeleteFunc(slices.Clone(l), func(b path) bool { return !slices.Equal(b.arms, arms) })
				wantOdds(t, a.p, a.x, arms, oddsOf(a.p, a.x, with)...)
			}
		}
	}
}

// TestOddsAfterNothing has arms of probability 0, possible or not: P11.5.
func TestOddsAfterNothing(t *testing.T) {
	for i, a := range trials() {
		if i%6 > 0 {
			continue
		}
		l := pathsOf(a.p, a.x, len(a.x)-1)
		for _, arms := range lists(min(3, len(a.x)-1)) {
			if chanceOf(l, arms).Sign() == 0 {
				wantNoOdds(t, a.p, a.x, arms, api.ErrZero)
			}
		}
		for _, b := range armsOf(l)[:1] {
			for k := range b {
				for _, no := range append(far(), 6, 256, 257, 1<<32) {
					changed := slices.Clone(b)
					changed[k] = no
					wantNoOdds(t, a.p, a.x, changed, api.ErrZero)
				}
			}
		}
	}
}

// TestNoPlaceLeft has as many arms as there are places, and more, possible or not: P11.5.
func TestNoPlaceLeft(t *testing.T) {
	for _, a := range append(trials(), long()...) {
		_, arms := drawnOf(a.p, a.x, "x")
		for _, more := range [][]int{nil, {0}, {-1}, {0, 0}, make([]int, 401)} {
			wantNoOdds(t, a.p, a.x, slices.Concat(arms, more), api.ErrArg)
			wantNoOdds(t, a.p, a.x, append(slices.Repeat([]int{-1}, len(arms)), more...), api.ErrArg)
		}
	}
}

// TestOneArmLeft has the last places of blocks, and coins that always fall on the preferred arms: P11.5.
func TestOneArmLeft(t *testing.T) {
	wantOdds(t, always(blocks([]int{2}, 1, 0, 1)), same(4), []int{0, 2, 2}, "1", "0", "0")
	wantOdds(t, always(blocks([]int{2}, 1, 0, 1)), same(4), []int{0, 0}, "0", "0", "1")
	wantOdds(t, always(blocks([]int{1, 3}, 2, 1)), same(4), []int{1, 1}, "6/7", "1/7") // in a block of 3 there is only one 1
	wantOdds(t, always(coins(1, 1, 1, 1)), same(4), []int{1, 0, 1}, "1", "0")
	wantOdds(t, always(coins(1, 1, 1, 2, 0)), same(4), nil, "0", "1", "0")
	wantOdds(t, []api.Phase{phase(0, urns(0, 1, 1, 0)), phase(1, urns(0, 1, 0, 3))}, same(2), []int{1}, "1", "0", "0") // no balls of the arm 2, which was closed
}

// TestOddsFar has the last of many places, and others: P11.5.
func TestOddsFar(t *testing.T) {
	for i, a := range long() {
		_, arms := drawnOf(a.p, a.x, seeds()[i%7])
		for _, n := range []int{1, 31, 199, len(arms) - 1} {
			l, _ := joinedFor(a.p, a.x, arms[:n])
			wantOdds(t, a.p, a.x, arms[:n], oddsOf(a.p, a.x, l)...)
		}
	}
}

// TestOddsOfTooManyStates has tables with up to 4000 entries for the arms, whatever the one with the next place would have, and with more: P11.5.
func TestOddsOfTooManyStates(t *testing.T) {
	p, x, arms := full()
	wantOdds(t, p, x, arms[:6], "1/2", "1/2")
	wantOdds(t, p, x, arms[:7], "1/2", "1/2")
	wantNoOdds(t, p, append(slices.Clone(x), x[0]), arms, api.ErrWork)
	wantNoOdds(t, append(p, phase(8, simple(1, 1))), append(slices.Clone(x), x[0]), arms, api.ErrWork)
	wantNoOdds(t, p, x, arms, api.ErrArg)
	wantNoOdds(t, p, append(slices.Clone(x), x[0], x[1]), append(slices.Clone(arms), 5), api.ErrWork)
	wantNoOdds(t, p, append(slices.Clone(x), x[0]), append(slices.Clone(arms[:7]), 5), api.ErrZero)
}
