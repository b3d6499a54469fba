package coin_test

import (
	"fmt"
	"math"
	"math/big"
	"slices"
	"testing"

	"equipoise/api"
	"equipoise/coin"
)

const most = 1<<20 - 1 // the greatest element of a row

// The model follows the words of the chapter, and calls nothing of the package.

// design returns a design with a ratio. What is not used without a coin is filled, and not with what any kind of design permits.
func design(ratio []int) api.Design { return tossed(ratio, api.Frac{N: 4, D: -2}) }

// tossed returns a design with a ratio and a coin. What the package does not use is filled, and not with what any kind of design permits.
func tossed(ratio []int, c api.Frac) api.Design {
	return api.Design{Kind: -7, Ratio: ratio, Sizes: []int{0, 99, -1, 5}, Add: 1 << 30, Coin: c}
}

// outside reports whether an element of l is less than 0 or more than hi.
func outside(hi int, l []int) bool {
	for _, n := range l {
		if n < 0 || n > hi {
			return true
		}
	}
	return false
}

// openOf returns the open arms.
func openOf(ratio []int) []int {
	var l []int
	for arm, n := range ratio {
		if n > 0 {
			l = append(l, arm)
		}
	}
	return l
}

// permitted reports whether the ratio is proper, and each of the rows.
func permitted(ratio []int, rows ...[]int) bool {
	if len(ratio) < 2 || len(ratio) > 6 || outside(8, ratio) || len(openOf(ratio)) < 2 {
		return false
	}
	for _, row := range rows {
		if len(row) > 0 && (len(row) != len(ratio) || outside(most, row)) {
			return false
		}
	}
	return true
}

// fairOrMore reports whether a coin is one of a permitted design.
func fairOrMore(c api.Frac) bool {
	if c.D < 1 || c.D > 100 || c.N < 1 || c.N > c.D || c.N < c.D-c.N {
		return false
	}
	for n := 2; n <= c.N; n++ {
		if c.N%n == 0 && c.D%n == 0 {
			return false
		}
	}
	return true
}

// multipleOf returns the least common multiple of the ratio of the open arms.
func multipleOf(ratio []int) int {
	for m := 1; ; m++ {
		if !slices.ContainsFunc(ratio, func(n int) bool { return n > 0 && m%n != 0 }) {
			return m
		}
	}
}

// gap returns the unevenness of a row with so many units more of an arm.
func gap(ratio, row []int, arm, more int) int {
	if len(row) == 0 {
		row = make([]int, len(ratio))
	}
	m := multipleOf(ratio)
	var loads []int
	for _, a := range openOf(ratio) {
		n := row[a]
		if a == arm {
			n += more
		}
		loads = append(loads, n*m/ratio[a])
	}
	slices.Sort(loads)
	return loads[len(loads)-1] - loads[0]
}

// unevenOf returns the unevenness of a row.
func unevenOf(ratio, row []int) int {
	if !permitted(ratio, row) {
		return 0
	}
	return gap(ratio, row, 0, 0)
}

// preferredOf returns the arms that are preferred.
func preferredOf(ratio, stratum, site []int) []int {
	if !permitted(ratio, stratum, site) {
		return nil
	}
	by := map[int][]int{}
	for _, arm := range openOf(ratio) {
		sum := gap(ratio, stratum, arm, 1) + gap(ratio, site, arm, 1)
		by[sum] = append(by[sum], arm)
	}
	least := math.MaxInt
	for sum := range by {
		least = min(least, sum)
	}
	return by[least]
}

// choicesOf returns what can be drawn.
func choicesOf(d api.Design, stratum, site []int) []api.Choice {
	best := preferredOf(d.Ratio, stratum, site)
	if len(best) == 0 || !fairOrMore(d.Coin) {
		return nil
	}
	f := 0
	for _, arm := range best {
		f += d.Ratio[arm]
	}
	g := total(d.Ratio) - f
	var l []api.Choice
	for _, arm := range openOf(d.Ratio) {
		c := api.Choice{Weight: d.Ratio[arm], Size: 0, Arm: arm}
		if g > 0 && slices.Contains(best, arm) {
			c.Weight = d.Coin.N * g * d.Ratio[arm]
		} else if g > 0 {
			c.Weight = (d.Coin.D - d.Coin.N) * f * d.Ratio[arm]
		}
		if c.Weight != 0 {
			l = append(l, c)
		}
	}
	return l
}

// nextOf returns the row with one unit more.
func nextOf(ratio, row []int, arm int) ([]int, bool) {
	if !permitted(ratio, row) || !slices.Contains(openOf(ratio), arm) || len(row) > 0 && row[arm] == most {
		return nil, false
	}
	if len(row) == 0 {
		row = make([]int, len(ratio))
	}
	return put(row, arm, row[arm]+1), true
}

// total returns the sum of l.
func total(l []int) int {
	sum := 0
	for _, n := range l {
		sum += n
	}
	return sum
}

// chance returns the probability that one of some arms is drawn.
func chance(l []api.Choice, arms ...int) *big.Rat {
	ofArms, sum := 0, 0
	for _, c := range l {
		sum += c.Weight
		if slices.Contains(arms, c.Arm) {
			ofArms += c.Weight
		}
	}
	return big.NewRat(int64(ofArms), int64(sum))
}

// lists returns all lists of n elements of l.
func lists(l []int, n int) [][]int {
	if n == 0 {
		return [][]int{nil}
	}
	var longer [][]int
	for _, first := range lists(l, n-1) {
		for _, last := range l {
			longer = append(longer, slices.Concat(first, []int{last}))
		}
	}
	return longer
}

// ratios returns ratios that are proper: with 2 to 6 elements, with those that are 0 at each place, with exactly two others, and with the greatest ones.
func ratios() [][]int {
	l := [][]int{{1, 2, 3, 4, 5, 6}, {8, 7, 6, 5, 4, 3}, {8, 8, 8, 8, 8, 8}, {1, 1, 1, 1, 1, 1}, {0, 0, 0, 0, 3, 8}, {1, 0, 0, 0, 0, 1}, {0, 7, 0, 8, 0, 1}, {0, 5, 7, 0}, {3, 1, 2, 1}, {2, 4, 6, 8, 2}, {1, 1, 0, 1, 1}}
	for n := 2; n <= 3; n++ {
		for _, ratio := range lists([]int{0, 1, 2, 3, 8}, n) {
			if len(openOf(ratio)) >= 2 {
				l = append(l, ratio)
			}
		}
	}
	return l
}

// rows returns rows of n elements, or none, that are proper, with the least and the greatest elements at each place, whether the arm is open or not.
func rows(n int) [][]int {
	l := [][]int{nil, {}}
	if n <= 3 {
		return append(l, lists([]int{0, 1, 2, 7, most - 1, most}, n)...)
	}
	for _, x := range []int{0, 1, 2, 8, 1000, most - 1, most} {
		l = append(l, slices.Repeat([]int{x}, n))
		for at := range n {
			l = append(l, put(make([]int, n), at, x), put(slices.Repeat([]int{3}, n), at, x), put(slices.Repeat([]int{most}, n), at, x))
		}
	}
	return l
}

// pairs returns pairs of rows of n elements: each row with no other, with itself, and with several others.
func pairs(n int) [][2][]int {
	all := rows(n)
	var l [][2][]int
	for i, row := range all {
		for _, other := range []int{0, 1, 2, i, i + 1, 3*i + 5, 7*i + 2, 11*i + 3} {
			l = append(l, [2][]int{row, all[other%len(all)]}, [2][]int{all[other%len(all)], row})
		}
	}
	return l
}

// coins returns coins that are permitted.
func coins() []api.Frac {
	return []api.Frac{{N: 1, D: 2}, {N: 2, D: 3}, {N: 3, D: 4}, {N: 50, D: 99}, {N: 51, D: 100}, {N: 98, D: 99}, {N: 99, D: 100}, {N: 1, D: 1}}
}

// badCoins returns coins that do not fit, that are less than 1/2 or greater than 1, or that have too great denominators.
func badCoins() []api.Frac {
	l := []api.Frac{{}, {N: 1}, {D: 1}, {D: 2}, {N: 2, D: 4}, {N: 2, D: 2}, {N: 4, D: 6}, {N: 50, D: 100}, {N: 98, D: 100}, {N: 100, D: 100}, {N: -1, D: -1}, {N: -1, D: -2}, {N: -2, D: -3}, {N: 1, D: -2}}
	l = append(l, []api.Frac{{N: 1, D: 3}, {N: 49, D: 99}, {N: 49, D: 100}, {N: 1, D: 100}, {N: -1, D: 2}, {N: -1, D: 1}, {N: -99, D: 100}, {N: -3, D: 2}}...)
	l = append(l, []api.Frac{{N: 2, D: 1}, {N: 3, D: 2}, {N: 100, D: 99}, {N: 101, D: 100}, {N: 1 << 20, D: 1}, {N: 199, D: 100}}...)
	l = append(l, []api.Frac{{N: 51, D: 101}, {N: 100, D: 101}, {N: 52, D: 103}, {N: 101, D: 102}, {N: most, D: 1 << 20}, {N: 1<<19 + 1, D: 1 << 20}, {N: 199, D: 200}}...)
	for _, far := range badNumbers() {
		l = append(l, api.Frac{N: far, D: far}, api.Frac{N: far, D: 1}, api.Frac{N: 1, D: far}, api.Frac{N: far, D: 100}, api.Frac{N: 99, D: far}, api.Frac{N: far - 1, D: far})
	}
	return l
}

// badNumbers returns numbers that are permitted nowhere.
func badNumbers() []int {
	return []int{-1, -2, -8, -most, most + 1, most + 2, most + 9, 1 << 21, 1 << 32, 1<<32 + 1, 1<<32 + 2, 1 << 62, 1<<62 + 1, math.MinInt, math.MinInt + 1, math.MaxInt, math.MaxInt - 1}
}

// badRatios returns ratios that are not proper: with too few and too many elements, with too few that are greater than 0, and with a bad one at each place.
func badRatios() [][]int {
	l := [][]int{nil, {}, {0, 0}, {0, 0, 0, 0, 0, 0}}
	for n := range 9 {
		l = append(l, []int{n})
	}
	for n := 2; n <= 6; n++ {
		for at := range n {
			for _, only := range []int{1, 2, 8} {
				l = append(l, put(make([]int, n), at, only))
			}
		}
	}
	for _, n := range []int{7, 8, 1000} {
		l = append(l, make([]int, n), slices.Repeat([]int{1}, n), slices.Repeat([]int{8}, n), put(put(make([]int, n), n-1, 1), 0, 2), put(put(make([]int, n), 1, 1), 0, 2))
	}
	for _, ratio := range [][]int{{1, 1}, {8, 8}, {1, 2, 0}, {3, 0, 1}, {1, 1, 1}, {1, 2, 3, 4, 5, 8}} {
		for at := range ratio {
			for _, bad := range append(badNumbers(), 9, 10, 256, most) {
				l = append(l, put(ratio, at, bad))
			}
		}
	}
	return l
}

// badRows returns rows that are not proper for a ratio of n elements: with too few and too many, and with a bad one at each place.
func badRows(n int) [][]int {
	var l [][]int
	for long := 1; long <= 8; long++ {
		if long != n {
			l = append(l, make([]int, long), slices.Repeat([]int{1}, long), slices.Repeat([]int{most}, long), put(make([]int, long), 0, 5))
		}
	}
	for at := range n {
		for _, bad := range badNumbers() {
			l = append(l, put(make([]int, n), at, bad), put(slices.Repeat([]int{4}, n), at, bad), slices.Repeat([]int{bad}, n))
		}
	}
	return append(l, make([]int, 1000), slices.Repeat([]int{2}, 1000))
}

// rowsFor returns rows for a ratio that is not proper: what would be proper ones, if it were.
func rowsFor(ratio []int) [][]int {
	n := len(ratio)
	l := [][]int{nil, {}, make([]int, n), slices.Repeat([]int{1}, n), {0, 1}, {1}}
	if n > 0 {
		l = append(l, put(make([]int, n), n-1, 3), put(slices.Repeat([]int{2}, n), 0, 9))
	}
	return l
}

// put returns l with an element changed.
func put(l []int, at, n int) []int {
	changed := slices.Clone(l)
	changed[at] = n
	return changed
}

// named returns a call as text.
func named(call string, d api.Design, args ...any) string {
	return fmt.Sprintf("%s of the ratio %v, the coin %d/%d, and %v", call, d.Ratio, d.Coin.N, d.Coin.D, args)
}

// wantUneven checks the unevenness of a row.
func wantUneven(t *testing.T, d api.Design, row []int, want int) {
	t.Helper()
	if got := coin.Uneven(d, row); got != want {
		t.Errorf("%s: %d; want %d", named("Uneven", d, row), got, want)
	}
}

// wantPreferred checks which arms are preferred.
func wantPreferred(t *testing.T, d api.Design, stratum, site []int, want ...int) {
	t.Helper()
	if got := coin.Preferred(d, stratum, site); !slices.Equal(got, want) {
		t.Errorf("%s: %v; want %v", named("Preferred", d, stratum, site), got, want)
	}
}

// wantChoices checks what can be drawn.
func wantChoices(t *testing.T, d api.Design, stratum, site []int, want ...api.Choice) {
	t.Helper()
	if got := coin.Choices(d, stratum, site); !slices.Equal(got, want) {
		t.Errorf("%s: %v; want %v", named("Choices", d, stratum, site), got, want)
	}
}

// wantNext checks the row with one unit more, or that there is none.
func wantNext(t *testing.T, d api.Design, row []int, arm int, want []int, wantOK bool) {
	t.Helper()
	if got, ok := coin.Next(d, row, arm); !slices.Equal(got, want) || ok != wantOK {
		t.Errorf("%s: %v, %v; want %v, %v", named("Next", d, row, arm), got, ok, want, wantOK)
	}
}

// next returns the row with one unit more of an arm, which must be permitted.
func next(t *testing.T, d api.Design, row []int, arm int) []int {
	t.Helper()
	after, ok := coin.Next(d, row, arm)
	if !ok {
		t.Fatalf("%s: false", named("Next", d, row, arm))
	}
	return after
}
