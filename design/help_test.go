package design_test

import (
	"fmt"
	"math"
	"slices"
	"testing"

	"equipoise/api"
	"equipoise/block"
	"equipoise/coin"
	"equipoise/design"
	"equipoise/urn"
)

const (
	most = 1 << 20 // the greatest element of the rows of blocks and urns; those of coins have one less
	rows = 20      // of a state
	site = 8       // the index of the row of the first site
)

// The model follows the words of the chapter, and calls nothing of the package.

// simple returns a design that draws by the ratio.
func simple(weights ...int) api.Design {
	return api.Design{Kind: api.DeSimple, Ratio: weights}
}

// blocks returns a design with blocks.
func blocks(sizes []int, weights ...int) api.Design {
	return api.Design{Kind: api.DeBlock, Ratio: weights, Sizes: sizes}
}

// urns returns a design with urns.
func urns(add int, weights ...int) api.Design {
	return api.Design{Kind: api.DeUrn, Ratio: weights, Add: add}
}

// coins returns a design with the coin n/d.
func coins(n, d int, weights ...int) api.Design {
	return api.Design{Kind: api.DeCoin, Ratio: weights, Coin: api.Frac{N: n, D: d}}
}

// ratios returns ratios that are permitted: of 2 to 6 elements, with those of 0 and of 8 at each place, and with exactly two that are greater than 0.
func ratios() [][]int {
	return [][]int{{1, 1}, {1, 2}, {8, 8}, {8, 1}, {1, 0, 2}, {0, 3, 8}, {2, 1, 0}, {1, 1, 1}, {2, 0, 1, 3}, {0, 0, 5, 0, 3}, {4, 4, 0, 4, 2}, {1, 2, 3, 4, 5, 6}, {8, 8, 8, 8, 8, 8}, {1, 0, 0, 0, 0, 8}, {0, 8, 0, 0, 1, 0}, {8, 7, 0, 5, 0, 3}}
}

// sizes returns all Sizes that are permitted.
func sizes() [][]int {
	return [][]int{{1}, {2}, {3}, {4}, {1, 2}, {1, 3}, {1, 4}, {2, 3}, {2, 4}, {3, 4}, {1, 2, 3}, {1, 2, 4}, {1, 3, 4}, {2, 3, 4}}
}

// goodCoins returns coins that are permitted.
func goodCoins() []api.Frac {
	return []api.Frac{{N: 1, D: 2}, {N: 2, D: 3}, {N: 1, D: 1}, {N: 99, D: 100}, {N: 51, D: 100}, {N: 50, D: 99}, {N: 3, D: 4}}
}

// badCoins returns coins that do not fit, that are less than 1/2 or greater than 1, or that have too great denominators.
func badCoins() []api.Frac {
	l := []api.Frac{{}, {N: 1}, {D: 1}, {D: 2}, {N: 2, D: 4}, {N: 2, D: 2}, {N: 4, D: 6}, {N: 50, D: 100}, {N: 100, D: 100}, {N: -1, D: -1}, {N: -1, D: -2}, {N: -2, D: -3}, {N: 2, D: -3}, {N: 1, D: -2}}
	l = append(l, []api.Frac{{N: 1, D: 3}, {N: 49, D: 99}, {N: 49, D: 100}, {N: 1, D: 100}, {N: -1, D: 2}, {N: -1, D: 1}, {N: -3, D: 2}}...)
	l = append(l, []api.Frac{{N: 2, D: 1}, {N: 3, D: 2}, {N: 4, D: 3}, {N: 100, D: 99}, {N: 101, D: 100}, {N: most, D: 1}}...)
	l = append(l, []api.Frac{{N: 51, D: 101}, {N: 100, D: 101}, {N: 52, D: 103}, {N: most - 1, D: most}, {N: 199, D: 200}}...)
	for _, far := range farNumbers() {
		l = append(l, api.Frac{N: far, D: far}, api.Frac{N: far, D: 1}, api.Frac{N: 1, D: far}, api.Frac{N: 99, D: far}, api.Frac{N: far - 1, D: far})
	}
	return l
}

// farNumbers returns numbers that are permitted nowhere.
func farNumbers() []int {
	return []int{-1, -2, -8, -most, most + 1, most + 2, 1 << 32, 1<<32 + 1, 1<<32 + 2, 1 << 62, 1<<62 + 1, math.MinInt, math.MinInt + 1, math.MaxInt, math.MaxInt - 1}
}

// designs returns valid designs of all kinds, with each ratio and, for each kind, different parts of its own.
func designs() []api.Design {
	var l []api.Design
	for i, weights := range ratios() {
		c := goodCoins()[i%len(goodCoins())]
		l = append(l, simple(weights...), blocks(sizes()[(5*i)%14], weights...), urns((4*i)%9, weights...), coins(c.N, c.D, weights...))
	}
	return l
}

// badDesigns returns designs each of which is invalid; many of them would have choices, if only their kind was asked.
func badDesigns() []api.Design {
	l := []api.Design{{}, {Kind: api.DeSimple}, simple(1), simple(1, 0), simple(1, -1), simple(1, 9), simple(0, 0, 3), simple(1, 1, 1, 1, 1, 1, 1), blocks([]int{1}, 1), blocks([]int{1}, 1, 0), blocks([]int{1}, 0, 0, 8), urns(1), urns(1, 1), urns(1, 1, 0), urns(1, 0, 0), coins(1, 2, 1), coins(1, 2, 1, 0)}
	for _, wrong := range [][]int{nil, {}, {0}, {5}, {1, 1}, {2, 1}, {1, 3, 2}, {1, 2, 2}, {1, 2, 3, 4}, {0, 1}, {3, 5}} {
		l = append(l, blocks(wrong, 1, 1))
	}
	for _, n := range append(farNumbers(), 9, 10) {
		l = append(l, urns(n, 1, 1))
	}
	for _, c := range badCoins() {
		l = append(l, coins(c.N, c.D, 1, 2))
	}
	for _, kind := range append(farNumbers(), 0, 5, 6) {
		l = append(l, api.Design{Kind: kind, Ratio: []int{1, 1}})
	}
	for _, d := range []api.Design{simple(1, 1), blocks([]int{1, 2}, 1, 1), urns(3, 1, 1), coins(2, 3, 1, 1)} {
		other := []api.Design{d, d, d, d}
		other[0].Sizes, other[1].Add, other[2].Coin, other[3].Coin = []int{1}, 1, api.Frac{N: 1, D: 2}, api.Frac{D: 1}
		l = append(l, slices.DeleteFunc(other, func(o api.Design) bool { return errorOf(o, 2) == api.OK || o.Kind == d.Kind && sameOf(o, d) })...)
	}
	return l
}

// openOf returns the open arms.
func openOf(weights []int) []int {
	var l []int
	for arm, n := range weights {
		if n > 0 {
			l = append(l, arm)
		}
	}
	return l
}

// outside reports whether an element of l is less than lo or more than hi.
func outside(lo, hi int, l []int) bool {
	for _, n := range l {
		if n < lo || n > hi {
			return true
		}
	}
	return false
}

// errorOf returns the first error of a design.
func errorOf(d api.Design, arms int) api.Errno {
	if arms < 2 || arms > 6 || arms != len(d.Ratio) {
		return api.ErrArm
	}
	if d.Kind != 1 && d.Kind != 2 && d.Kind != 3 && d.Kind != 4 {
		return api.ErrDesign
	}
	if outside(0, 8, d.Ratio) || len(openOf(d.Ratio)) < 2 {
		return api.ErrWeight
	}
	isSize := func(l []int) bool { return sameList(l, d.Sizes) }
	if d.Kind == api.DeBlock && !slices.ContainsFunc(sizes(), isSize) || d.Kind == api.DeUrn && outside(0, 8, []int{d.Add}) || d.Kind == api.DeCoin && !fair(d.Coin) {
		return api.ErrRange
	}
	if d.Kind != api.DeBlock && len(d.Sizes) != 0 || d.Kind != api.DeUrn && d.Add != 0 || d.Kind != api.DeCoin && (d.Coin.N != 0 || d.Coin.D != 0) {
		return api.ErrForm
	}
	return api.OK
}

// fair reports whether a coin is permitted.
func fair(c api.Frac) bool {
	if c.D < 1 || c.D > 100 || c.N < 1 || c.N > c.D || c.N < c.D-c.N {
		return false
	}
	for n := 2; n <= c.N; n++ {
		if c.N%n == 0 && c.D%n == 0 {
			return false
		}
	}
	return true
}

// sameList reports whether two lists are equal.
func sameList(a, b []int) bool {
	if len(a) != len(b) {
		return false
	}
	for i := range a {
		if a[i] != b[i] {
			return false
		}
	}
	return true
}

// sameOf reports whether two designs are equal.
func sameOf(d, e api.Design) bool {
	return d.Kind == e.Kind && sameList(d.Ratio, e.Ratio) && sameList(d.Sizes, e.Sizes) && d.Add == e.Add && d.Coin.N == e.Coin.N && d.Coin.D == e.Coin.D
}

// inside reports whether a slot fits.
func inside(x api.Slot) bool {
	return !outside(0, 7, []int{x.Stratum}) && !outside(0, 11, []int{x.Site})
}

// choicesOf returns what can be drawn.
func choicesOf(d api.Design, s api.State, x api.Slot) []api.Choice {
	if errorOf(d, len(d.Ratio)) != api.OK || len(s.Rows) != rows || !inside(x) {
		return nil
	}
	switch d.Kind {
	case api.DeBlock:
		return block.Choices(d, s.Rows[x.Stratum])
	case api.DeUrn:
		return urn.Choices(d, s.Rows[x.Stratum])
	case api.DeCoin:
		return coin.Choices(d, s.Rows[x.Stratum], s.Rows[site+x.Site])
	}
	var l []api.Choice
	for _, arm := range openOf(d.Ratio) {
		l = append(l, api.Choice{Weight: d.Ratio[arm], Size: 0, Arm: arm})
	}
	return l
}

// nextOf returns the state after a draw.
func nextOf(d api.Design, s api.State, x api.Slot, c api.Choice) (api.State, bool) {
	if !slices.Contains(choicesOf(d, s, x), c) {
		return api.State{}, false
	}
	after := copied(s)
	stratum, ok := s.Rows[x.Stratum], true
	switch d.Kind {
	case api.DeBlock:
		stratum, ok = block.Next(d, stratum, c)
	case api.DeUrn:
		stratum, ok = urn.Next(d, stratum, c)
	case api.DeCoin:
		row, atSite := coin.Next(d, s.Rows[site+x.Site], c.Arm)
		after.Rows[site+x.Site] = row
		stratum, ok = coin.Next(d, stratum, c.Arm)
		ok = ok && atSite
	}
	if !ok {
		return api.State{}, false
	}
	after.Rows[x.Stratum] = stratum
	return after, true
}

// carryOf returns the state with which another design goes on.
func carryOf(d api.Design, s api.State, e api.Design) api.State {
	if sameOf(d, e) {
		return copied(s)
	}
	if d.Kind != e.Kind || d.Kind != api.DeUrn && d.Kind != api.DeCoin {
		return empty()
	}
	after := copied(s)
	for k, row := range s.Rows {
		if len(row) == 0 {
			continue
		}
		after.Rows[k] = nil
		for arm, weight := range e.Ratio {
			n := 0
			if arm < len(row) && (weight > 0 || d.Kind == api.DeCoin) {
				n = row[arm]
			} else if arm >= len(row) && weight > 0 && d.Kind == api.DeUrn {
				n = weight
			}
			after.Rows[k] = append(after.Rows[k], n)
		}
		if d.Kind == api.DeUrn && !outside(0, 0, after.Rows[k]) {
			after.Rows[k] = nil
		}
	}
	return after
}

// empty returns a state of empty rows.
func empty() api.State { return api.State{Rows: make([][]int, rows)} }

// copied returns a state in memory of its own.
func copied(s api.State) api.State {
	var l [][]int
	for _, row := range s.Rows {
		l = append(l, slices.Clone(row))
	}
	return api.State{Rows: l}
}

// with returns a state with a row changed.
func with(s api.State, at int, row ...int) api.State {
	changed := copied(s)
	changed.Rows[at] = row
	return changed
}

// sameState reports whether two states are equal.
func sameState(a, b api.State) bool { return slices.EqualFunc(a.Rows, b.Rows, sameList) }

// states returns states of different rows with n elements: of which all are empty, all are different, every third one is empty, all are zeros, and all are as great as permitted.
func states(n int) []api.State {
	l := []api.State{empty(), empty(), empty(), empty(), empty(), {Rows: slices.Repeat([][]int{{}}, rows)}}
	for k := range rows {
		different := make([]int, n)
		for arm := range different {
			different[arm] = (7*k*k + 11*arm*k + 5*arm) % 13
		}
		different[0] = k + 1
		l[1].Rows[k], l[3].Rows[k], l[4].Rows[k] = different, make([]int, n), slices.Repeat([]int{most - 1}, n)
		if k%3 > 0 {
			l[2].Rows[k] = slices.Clone(different)
			slices.Reverse(l[2].Rows[k])
		}
	}
	return l
}

// oddStates returns states which do not fit, for ratios of n elements: with too few and too many rows.
func oddStates(n int) []api.State {
	l := []api.State{{}, {Rows: [][]int{}}}
	for _, count := range []int{1, 8, 12, 19, 21, 22, 40, 1000} {
		l = append(l, api.State{Rows: make([][]int, count)}, api.State{Rows: slices.Repeat([][]int{slices.Repeat([]int{2}, n)}, count)})
	}
	return l
}

// badRows returns rows that are proper for no kind, for a ratio of n elements: with too few and too many, and with a bad one at each place.
func badRows(n int) [][]int {
	var l [][]int
	for long := 1; long <= 8; long++ {
		if long != n {
			l = append(l, make([]int, long), slices.Repeat([]int{1}, long))
		}
	}
	for at := range n {
		for _, bad := range farNumbers() {
			l = append(l, put(make([]int, n), at, bad), put(slices.Repeat([]int{4}, n), at, bad))
		}
	}
	return append(l, slices.Repeat([]int{2}, 1000))
}

// slots returns all slots that fit.
func slots() []api.Slot {
	var l []api.Slot
	for stratum := range 8 {
		for site := range 12 {
			l = append(l, api.Slot{Site: site, Stratum: stratum})
		}
	}
	return l
}

// ends returns slots at the limits.
func ends() []api.Slot {
	return []api.Slot{{Site: 0, Stratum: 0}, {Site: 11, Stratum: 0}, {Site: 0, Stratum: 7}, {Site: 11, Stratum: 7}, {Site: 5, Stratum: 3}}
}

// badSlots returns slots that do not fit.
func badSlots() []api.Slot {
	l := []api.Slot{{Site: 8, Stratum: 8}, {Site: 0, Stratum: 8}, {Site: 0, Stratum: 11}, {Site: 12, Stratum: 0}, {Site: 19, Stratum: 0}, {Site: 12, Stratum: 8}, {Site: -1, Stratum: -1}, {Site: -8, Stratum: 7}, {Site: 11, Stratum: -8}, {Site: -1, Stratum: 8}, {Site: 0, Stratum: 19}, {Site: 0, Stratum: 20}, {Site: 20, Stratum: 0}}
	for _, far := range farNumbers() {
		l = append(l, api.Slot{Site: far, Stratum: 0}, api.Slot{Site: 0, Stratum: far}, api.Slot{Site: far, Stratum: far})
	}
	return l
}

// triple is a choice: its weight, its size and its arm.
type triple [3]int

// choice returns a choice.
func (c triple) choice() api.Choice { return api.Choice{Weight: c[0], Size: c[1], Arm: c[2]} }

// choices returns choices.
func choices(all ...triple) []api.Choice {
	var l []api.Choice
	for _, c := range all {
		l = append(l, c.choice())
	}
	return l
}

// put returns l with an element changed.
func put(l []int, at, n int) []int {
	changed := slices.Clone(l)
	changed[at] = n
	return changed
}

// named returns a call as text.
func named(call string, args ...any) string { return fmt.Sprintf("%s of %+v", call, args) }

// wantCheck checks the error of a design.
func wantCheck(t *testing.T, d api.Design, arms int, want api.Errno) {
	t.Helper()
	if got := design.Check(d, arms); got != want {
		t.Errorf("%s: %d; want %d", named("Check", d, arms), got, want)
	}
}

// wantChoices checks what can be drawn.
func wantChoices(t *testing.T, d api.Design, s api.State, x api.Slot, want ...api.Choice) {
	t.Helper()
	if got := design.Choices(d, s, x); !slices.Equal(got, want) {
		t.Errorf("%s: %v; want %v", named("Choices", d, s, x), got, want)
	}
}

// wantNext checks the state after a draw.
func wantNext(t *testing.T, d api.Design, s api.State, x api.Slot, c api.Choice, want api.State) {
	t.Helper()
	if got, ok := design.Next(d, s, x, c); !ok || !sameState(got, want) {
		t.Errorf("%s: %v, %v; want %v", named("Next", d, s, x, c), got, ok, want)
	}
}

// wantNoNext checks that a draw is refused.
func wantNoNext(t *testing.T, d api.Design, s api.State, x api.Slot, c api.Choice) {
	t.Helper()
	if got, ok := design.Next(d, s, x, c); ok || len(got.Rows) != 0 {
		t.Errorf("%s: %v, %v; want no rows, and false", named("Next", d, s, x, c), got, ok)
	}
}

// wantDraw checks what the model says of a draw.
func wantDraw(t *testing.T, d api.Design, s api.State, x api.Slot, c api.Choice) {
	t.Helper()
	if want, ok := nextOf(d, s, x, c); ok {
		wantNext(t, d, s, x, c, want)
	} else {
		wantNoNext(t, d, s, x, c)
	}
}

// wantCarry checks the state with which another design goes on.
func wantCarry(t *testing.T, d api.Design, s api.State, e api.Design, want api.State) {
	t.Helper()
	if got := design.Carry(d, s, e); !sameState(got, want) {
		t.Errorf("%s: %v; want %v", named("Carry", d, s, e), got, want)
	}
}

// wantSame checks whether two designs are the same.
func wantSame(t *testing.T, d, e api.Design, want bool) {
	t.Helper()
	if got := design.Same(d, e); got != want {
		t.Errorf("%s: %v; want %v", named("Same", d, e), got, want)
	}
	if got := design.Same(e, d); got != want {
		t.Errorf("%s: %v; want %v", named("Same", e, d), got, want)
	}
}
