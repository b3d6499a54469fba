package run_test

import (
	"slices"
	"testing"

	"equipoise/api"
)

// lists returns all lists of at most n numbers from -1 to 6, of which the first one is not an arm, and the last one is beyond all arms.
func lists(n int) [][]int {
	all := [][]int{nil}
	for from := 0; n > 0; n-- {
		to := len(all)
		for _, l := range all[from:to] {
			for arm := -1; arm <= 6; arm++ {
				all = append(all, append(slices.Clone(l), arm))
			}
		}
		from = to
	}
	return all
}

// strata returns a slot in each of the strata.
func strata(l ...int) []api.Slot {
	var x []api.Slot
	for _, stratum := range l {
		x = append(x, api.Slot{Stratum: stratum})
	}
	return x
}

// TestExamplesOfChance has the examples of the chapter, and others like them: P11.4.
func TestExamplesOfChance(t *testing.T) {
	d, e := simple(1, 2), blocks([]int{1, 2}, 1, 1)
	wantChance(t, always(d), same(3), []int{0, 1, 1}, "4/27")
	wantChance(t, always(e), same(3), []int{0, 0, 0}, "0")
	wantChance(t, []api.Phase{phase(0, d), phase(1, e)}, same(2), []int{1, 0}, "1/3")
	wantChance(t, always(e), same(3), []int{0}, "1/2")
	wantChance(t, always(e), same(3), []int{0, 0}, "1/12")
	wantChance(t, always(e), same(3), []int{0, 1}, "5/12")
	wantChance(t, always(e), same(3), []int{0, 1, 0}, "5/24")                         // after the block of 2: 1/8; within that of 4: 1/12
	wantChance(t, always(e), same(4), []int{0, 1, 0, 1}, "3/16")                      // two blocks of 2: 1/16; one of 4: 1/12; one of 2 and the beginning of one of 4: 1/24
	wantChance(t, always(blocks([]int{1, 2, 4}, 1, 1)), same(2), []int{1, 1}, "8/63") // a third of 1/6 and of 3/14
}

// TestHiddenSizes has arms that several choices have, in several strata: P11.4.
func TestHiddenSizes(t *testing.T) {
	e := always(blocks([]int{1, 2}, 1, 1))
	wantChance(t, e, strata(0, 1, 0, 1), []int{0, 1, 0, 1}, "1/144")
	wantChance(t, e, strata(0, 1, 1, 0), []int{0, 1, 0, 1}, "25/144")
	wantChance(t, e, strata(7, 0, 7, 0), []int{0, 0, 0, 1}, "5/144")
}

// TestChance compares the probability of all lists of arms, also of such that are not possible, with the sum over all courses: P11.4.
func TestChance(t *testing.T) {
	for i, a := range trials() {
		l := pathsOf(a.p, a.x, len(a.x))
		for _, b := range armsOf(l) {
			for n := range len(a.x) + 1 {
				wantChance(t, a.p, a.x, b[:n], chanceOf(l, b[:n]).RatString())
			}
		}
		if i%6 > 0 {
			continue
		}
		for _, arms := range lists(min(3, len(a.x))) {
			wantChance(t, a.p, a.x, arms, chanceOf(l, arms).RatString())
		}
	}
}

// TestNoSuchArms has arms that are not possible, or closed, at each place: the probability is 0, whatever is before and behind them: P11.4.
func TestNoSuchArms(t *testing.T) {
	for i, a := range trials() {
		b := armsOf(pathsOf(a.p, a.x, len(a.x)))[0]
		for k := range b {
			n := len(designAt(a.p, k).Ratio)
			for _, no := range append(far(), n, n+1, 6, 255, 256, 257, 512, 1<<32+1, 1<<40) {
				changed := slices.Clone(b)
				changed[k] = no
				wantChance(t, a.p, a.x, changed, "0")
				if i%9 == 0 {
					wantChance(t, a.p, a.x, changed[:k+1], "0")
				}
			}
			for arm, weight := range designAt(a.p, k).Ratio {
				if weight == 0 {
					wantChance(t, a.p, a.x, append(slices.Clone(b[:k]), arm), "0")
				}
			}
		}
	}
	longer := []api.Phase{phase(0, simple(1, 1)), phase(2, simple(1, 1, 2))}
	wantChance(t, longer, same(4), []int{0, 1, 2, 2}, "1/16")
	wantChance(t, longer, same(4), []int{0, 2, 2}, "0")
	wantChance(t, []api.Phase{phase(0, simple(1, 1, 2)), phase(2, simple(1, 1, 0))}, same(4), []int{2, 2, 1}, "1/8")
	wantChance(t, []api.Phase{phase(0, simple(1, 1, 2)), phase(2, simple(1, 1, 0))}, same(4), []int{2, 2, 2}, "0")
}

// TestTooManyArms has as many arms as there are places, and more, possible or not: P11.4.
func TestTooManyArms(t *testing.T) {
	for i, a := range append(trials()[:60], long()...) {
		_, arms := drawnOf(a.p, a.x, "x")
		for _, more := range [][]int{{0}, {1}, {-1}, {6}, make([]int, 401)} {
			wantNoChance(t, a.p, a.x, slices.Concat(arms, more), api.ErrArg)
			wantNoChance(t, a.p, a.x, append([]int{-1}, slices.Concat(arms, more)...), api.ErrArg)
		}
		if i < 60 {
			l := pathsOf(a.p, a.x, len(a.x))
			wantChance(t, a.p, a.x, arms, chanceOf(l, arms).RatString())
		}
	}
}

// TestChanceFar has the arms of many places: P11.4.
func TestChanceFar(t *testing.T) {
	for i, a := range long() {
		_, arms := drawnOf(a.p, a.x, seeds()[i%7])
		for _, n := range []int{1, 30, 170, len(arms)} {
			l, _ := joinedFor(a.p, a.x, arms[:n])
			wantChance(t, a.p, a.x, arms[:n], chanceOf(l, arms[:n]).RatString())
		}
	}
}

// TestJoined has so many courses with these arms that only joining them lets all of them be counted: P11.4.
func TestJoined(t *testing.T) {
	p := always(blocks([]int{1, 2, 3}, 1, 1))
	x := same(40)
	arms := slices.Repeat([]int{0, 1}, 20)
	l, counts := joinedFor(p, x, arms)
	if slices.Max(counts) > 3 {
		t.Error("the model does not join", counts)
	}
	wantChance(t, p, x, arms, chanceOf(l, arms).RatString())
}

// full is strata of which each has so many states that there are not more than 4000 together, and of which one more is too many; the block of each has three sizes.
func full() (p []api.Phase, x []api.Slot, arms []int) {
	return always(blocks([]int{1, 2, 3}, 1, 1)), strata(0, 1, 2, 3, 4, 5, 6, 7), []int{0, 1, 0, 1, 1, 1, 0, 0}
}

// TestTooManyStates has tables of more than 4000 entries: P11.4.
func TestTooManyStates(t *testing.T) {
	p, x, arms := full()
	for n := range arms {
		wantChance(t, p, x, arms[:n], []string{"1", "1/2", "1/4", "1/8", "1/16", "1/32", "1/64", "1/128"}[n]) // up to 3^7 entries
	}
	wantNoChance(t, p, x, arms, api.ErrWork) // 3^8
	more := append(slices.Clone(x), same(3)...)
	wantNoChance(t, p, more, append(slices.Clone(arms), 0, 0, 0), api.ErrWork)
	for _, from := range []int{8, 9} { // where the next design begins, all entries would be joined to one: but only behind the table that is too great
		wantNoChance(t, append(slices.Clone(p), phase(from, simple(1, 1))), more, append(slices.Clone(arms), 0, 0, 0), api.ErrWork)
	}
	wantChance(t, append(slices.Clone(p), phase(7, simple(1, 1))), more, append(slices.Clone(arms), 0, 0, 0), "1/2048")
	wantChance(t, append(slices.Clone(p), phase(7, p[0].Design)), more, arms[:7], "1/128")
	wantNoChance(t, append(slices.Clone(p), phase(7, p[0].Design)), more, arms, api.ErrWork)
	wantNoChance(t, p, x, append(slices.Clone(arms), 0), api.ErrArg)
	wantChance(t, p, x, append(slices.Clone(arms[:7]), 2), "0")
}

// TestNearlyTooManyStates has tables of 3072 entries, and then one of 4096: P11.4.
func TestNearlyTooManyStates(t *testing.T) {
	p := always(blocks([]int{1, 2, 4}, 1, 1))
	var x []api.Slot
	var arms []int
	for stratum := range 6 { // 1, 0, 0 has four states: with no place left, and of the blocks of 4, 4 and 8
		x, arms = append(x, strata(stratum, stratum, stratum)...), append(arms, 1, 0, 0)
	}
	l, counts := joinedFor(p, x[:15], arms[:15])
	if !slices.Equal(counts[12:], []int{768, 768, 1024}) {
		t.Fatal("the model has other counts", counts)
	}
	wantChance(t, p, x, arms[:15], chanceOf(l, arms[:15]).RatString())
	l, counts = joinedFor(p, x, arms[:17])
	if counts[16] != 3072 {
		t.Fatal("the model has other counts", counts)
	}
	wantChance(t, p, x, arms[:17], chanceOf(l, arms[:17]).RatString())
	wantNoChance(t, p, x, arms, api.ErrWork)
}
