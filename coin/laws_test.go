package coin_test

import (
	"math/big"
	"math/rand"
	"slices"
	"testing"

	"equipoise/api"
	"equipoise/coin"
)

// others returns the open arms that are none of some.
func others(ratio, arms []int) []int {
	return slices.DeleteFunc(openOf(ratio), func(arm int) bool { return slices.Contains(arms, arm) })
}

// wantByRatio checks that the probabilities of some arms are as their ratio.
func wantByRatio(t *testing.T, name string, l []api.Choice, ratio, arms []int) {
	t.Helper()
	together := 0
	for _, arm := range arms {
		together += ratio[arm]
	}
	for _, arm := range arms {
		want := new(big.Rat).Mul(chance(l, arms...), big.NewRat(int64(ratio[arm]), int64(together)))
		if got := chance(l, arm); got.Cmp(want) != 0 {
			t.Errorf("%s: the arm %d has the probability %s; want %s", name, arm, got, want)
		}
	}
}

// wantChances checks the probabilities of all arms: P9.5.
func wantChances(t *testing.T, d api.Design, stratum, site []int) {
	t.Helper()
	l, best, name := coin.Choices(d, stratum, site), coin.Preferred(d, stratum, site), named("Choices", d, stratum, site)
	if len(l) == 0 || len(best) == 0 {
		t.Fatalf("%s: nothing", name)
	}
	rest := others(d.Ratio, best)
	if got := chance(l, best...); len(rest) > 0 && got.Cmp(big.NewRat(int64(d.Coin.N), int64(d.Coin.D))) != 0 {
		t.Errorf("%s: the preferred arms %v have the probability %s", name, best, got)
	}
	wantByRatio(t, name, l, d.Ratio, best)
	wantByRatio(t, name, l, d.Ratio, rest)
}

// TestChances has all sorts of rows and coins: P9.5.
func TestChances(t *testing.T) {
	for _, ratio := range ratios() {
		for i, x := range pairs(len(ratio)) {
			if i%4 == 0 {
				wantChances(t, tossed(ratio, coins()[i/4%len(coins())]), x[0], x[1])
			}
		}
	}
}

// randomRatio returns a ratio that is proper.
func randomRatio(r *rand.Rand) []int {
	ratio := make([]int, 2+r.Intn(5))
	for len(openOf(ratio)) < 2 {
		for arm := range ratio {
			ratio[arm] = r.Intn(9) * min(r.Intn(3), 1)
		}
	}
	return ratio
}

// TestCourses draws arms one after the other, by the choices that there are, for units of several strata and sites: P9.2 to P9.5.
func TestCourses(t *testing.T) {
	r := rand.New(rand.NewSource(9))
	for range 100 {
		d := tossed(randomRatio(r), coins()[r.Intn(len(coins()))])
		strata, sites := make([][]int, 1+r.Intn(3)), make([][]int, 1+r.Intn(4))
		for range 60 {
			stratum, site := r.Intn(len(strata)), r.Intn(len(sites))
			wantPreferred(t, d, strata[stratum], sites[site], preferredOf(d.Ratio, strata[stratum], sites[site])...)
			wantChances(t, d, strata[stratum], sites[site])
			l := coin.Choices(d, strata[stratum], sites[site])
			arm := l[r.Intn(len(l))].Arm
			strata[stratum], sites[site] = next(t, d, strata[stratum], arm), next(t, d, sites[site], arm)
		}
		sums := func(rows [][]int) []int {
			all := make([]int, len(d.Ratio))
			for _, row := range rows {
				for arm, n := range row {
					all[arm] += n
				}
			}
			return all
		}
		if a, b := sums(strata), sums(sites); !slices.Equal(a, b) || total(a) != 60 {
			t.Errorf("ratio %v: %v in all strata, %v at all sites", d.Ratio, a, b)
		}
	}
}

// TestSureCoin draws only preferred arms: after as many draws as the sum of a ratio without common divisors, a single row is even again: P9.2 to P9.4.
func TestSureCoin(t *testing.T) {
	for _, ratio := range [][]int{{1, 1}, {1, 0, 1}, {1, 2}, {1, 1, 2}, {1, 1, 1, 1, 1, 1}} {
		d := tossed(ratio, api.Frac{N: 1, D: 1})
		var row []int
		for range 5 * total(ratio) {
			l := coin.Choices(d, row, row)
			row = next(t, d, row, l[len(l)-1].Arm)
			if n := total(row); n%total(ratio) == 0 {
				wantUneven(t, d, row, 0)
			}
		}
	}
}

// plus returns a row with so many times the ratio more; an empty one, if it is to stay one.
func plus(ratio, row []int, times int) []int {
	if len(row) == 0 && times == 0 {
		return row
	}
	more := make([]int, len(ratio))
	copy(more, row)
	for arm, n := range ratio {
		more[arm] += times * n
	}
	return more
}

// mostTimes returns how many times the ratio a row can get.
func mostTimes(ratio, row []int) int {
	times := most
	for _, arm := range openOf(ratio) {
		n := 0
		if len(row) > 0 {
			n = row[arm]
		}
		times = min(times, (most-n)/ratio[arm])
	}
	return times
}

// TestRatioMore has rows with the ratio more, once, several times, and as often as possible, in the stratum, at the site, and both: P9.6.
func TestRatioMore(t *testing.T) {
	for _, ratio := range ratios() {
		d := tossed(ratio, api.Frac{N: 2, D: 3})
		for i, x := range pairs(len(ratio)) {
			if i%5 != 0 {
				continue
			}
			uneven, best, l := coin.Uneven(d, x[0]), coin.Preferred(d, x[0], x[1]), coin.Choices(d, x[0], x[1])
			for _, times := range []int{1, 2, 13, most} {
				stratum := plus(ratio, x[0], min(times, mostTimes(ratio, x[0])))
				site := plus(ratio, x[1], min(times, mostTimes(ratio, x[1])))
				wantUneven(t, d, stratum, uneven)
				wantPreferred(t, d, stratum, x[1], best...)
				wantPreferred(t, d, x[0], site, best...)
				wantPreferred(t, d, stratum, site, best...)
				wantChoices(t, d, stratum, site, l...)
			}
		}
	}
}

// evenRow returns a row in which all open arms have the load that they have with so many units of the ratio, divided by what divides all of it, and other arms any number.
func evenRow(ratio []int, times, other int) []int {
	divisor := 8
	for slices.ContainsFunc(ratio, func(n int) bool { return n%divisor != 0 }) {
		divisor--
	}
	row := make([]int, len(ratio))
	for arm, n := range ratio {
		row[arm] = times * n / divisor
		if n == 0 {
			row[arm] = other
		}
	}
	return row
}

// TestEvenRows has rows with the same load for all open arms: P9.7.
func TestEvenRows(t *testing.T) {
	for _, ratio := range ratios() {
		d := design(ratio)
		var greatest []int
		for arm, n := range ratio {
			if n == slices.Max(ratio) {
				greatest = append(greatest, arm)
			}
		}
		even := [][]int{nil, {}, evenRow(ratio, 0, 0), evenRow(ratio, 0, most), evenRow(ratio, 1, 0), evenRow(ratio, 1, 7), evenRow(ratio, 5, most), evenRow(ratio, most/8, 1)}
		for _, stratum := range even {
			wantUneven(t, d, stratum, 0)
			for _, site := range even {
				wantPreferred(t, d, stratum, site, greatest...)
			}
		}
	}
}
