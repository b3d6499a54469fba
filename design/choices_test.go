package design_test

import (
	"slices"
	"testing"

	"equipoise/api"
	"equipoise/block"
	"equipoise/coin"
	"equipoise/design"
	"equipoise/urn"
)

// TestStart has the only result of Start: P10.2.
func TestStart(t *testing.T) {
	s := design.Start()
	if len(s.Rows) != 20 {
		t.Fatalf("Start: %d rows", len(s.Rows))
	}
	for k, row := range s.Rows {
		if len(row) != 0 {
			t.Errorf("Start: the row %d is %v", k, row)
		}
	}
}

// TestChoicesExamples has the table of the chapter: P10.3.
func TestChoicesExamples(t *testing.T) {
	wantChoices(t, simple(2, 0, 1), design.Start(), api.Slot{}, api.Choice{Weight: 2, Size: 0, Arm: 0}, api.Choice{Weight: 1, Size: 0, Arm: 2})
}

// TestChoicesOfKinds has the choices of each kind: at first, and for rows of the stratum and of the site, which only minimisation reads: P10.3.
func TestChoicesOfKinds(t *testing.T) {
	x := api.Slot{Site: 2, Stratum: 5}
	both := func(stratum, atSite []int) api.State { return with(with(empty(), 5, stratum...), 10, atSite...) }
	for _, c := range []struct {
		d    api.Design
		s    api.State
		want []triple
	}{
		{simple(1, 1), empty(), []triple{{1, 0, 0}, {1, 0, 1}}},
		{simple(8, 0, 3), both([]int{5, 5, 5}, []int{-1}), []triple{{8, 0, 0}, {3, 0, 2}}},
		{simple(0, 1, 2, 0, 3, 8), empty(), []triple{{1, 0, 1}, {2, 0, 2}, {3, 0, 4}, {8, 0, 5}}},
		{blocks([]int{1, 2}, 2, 0, 1), empty(), []triple{{2, 1, 0}, {1, 1, 2}, {2, 2, 0}, {1, 2, 2}}},
		{blocks([]int{1, 2}, 2, 0, 1), both(nil, []int{4, 0, 1}), []triple{{2, 1, 0}, {1, 1, 2}, {2, 2, 0}, {1, 2, 2}}},
		{blocks([]int{1, 2}, 2, 0, 1), both([]int{4, 0, 1}, []int{7}), []triple{{4, 0, 0}, {1, 0, 2}}},
		{blocks([]int{4}, 8, 8), both([]int{0, 3}, nil), []triple{{3, 0, 1}}},
		{urns(3, 1, 2, 0), empty(), []triple{{1, 0, 0}, {2, 0, 1}}},
		{urns(3, 1, 2, 0), both(nil, []int{4, 5, 6}), []triple{{1, 0, 0}, {2, 0, 1}}},
		{urns(0, 1, 2, 0), both([]int{4, 5, 6}, []int{-1}), []triple{{4, 0, 0}, {5, 0, 1}}},
		{urns(8, 1, 2), both([]int{0, 5}, nil), []triple{{5, 0, 1}}},
		{urns(8, 1, 2), both([]int{0, 0}, nil), nil},
		{coins(2, 3, 1, 1, 2), empty(), []triple{{2, 0, 0}, {2, 0, 1}, {8, 0, 2}}},
		{coins(2, 3, 1, 1, 2), both([]int{1, 0, 2}, nil), []triple{{1, 0, 0}, {6, 0, 1}, {2, 0, 2}}},
		{coins(2, 3, 1, 1, 2), both(nil, []int{1, 0, 2}), []triple{{1, 0, 0}, {6, 0, 1}, {2, 0, 2}}},
		{coins(3, 4, 1, 1, 2), both([]int{0, 3, 0}, []int{3, 0, 0}), []triple{{2, 0, 0}, {2, 0, 1}, {12, 0, 2}}},
		{coins(1, 1, 1, 1, 2), both([]int{1, 0, 2}, nil), []triple{{3, 0, 1}}},
		{coins(1, 2, 4, 4), both([]int{1, 0}, nil), []triple{{16, 0, 0}, {16, 0, 1}}},
		{coins(99, 100, 4, 4), both(nil, []int{1, 0}), []triple{{16, 0, 0}, {1584, 0, 1}}},
	} {
		wantChoices(t, c.d, c.s, x, choices(c.want...)...)
	}
}

// TestChoicesOfSlots has all slots, and states whose rows differ: each slot has its own rows: P10.3.
func TestChoicesOfSlots(t *testing.T) {
	for _, d := range designs() {
		for _, s := range states(len(d.Ratio)) {
			for _, x := range slots() {
				wantChoices(t, d, s, x, choicesOf(d, s, x)...)
			}
		}
	}
}

// TestChoicesOfRow has a single row that is not empty, at each index: only the slots of this stratum, or for minimisation of this site, have other choices than at first: P10.3.
func TestChoicesOfRow(t *testing.T) {
	row := []int{5, 3, 0}
	for _, c := range []struct {
		d    api.Design
		at   func(x api.Slot, k int) bool
		want []api.Choice
	}{
		{simple(1, 1, 2), func(x api.Slot, k int) bool { return false }, nil},
		{blocks([]int{2}, 1, 1, 2), func(x api.Slot, k int) bool { return x.Stratum == k }, block.Choices(blocks([]int{2}, 1, 1, 2), row)},
		{urns(2, 1, 1, 2), func(x api.Slot, k int) bool { return x.Stratum == k }, urn.Choices(urns(2, 1, 1, 2), row)},
		{coins(2, 3, 1, 2, 1), func(x api.Slot, k int) bool { return x.Stratum == k || x.Site == k-8 }, coin.Choices(coins(2, 3, 1, 2, 1), row, nil)},
	} {
		first := choicesOf(c.d, empty(), api.Slot{})
		for k := range rows {
			for _, x := range slots() {
				want := first
				if c.at(x, k) {
					want = c.want
				}
				wantChoices(t, c.d, with(empty(), k, row...), x, want...)
			}
		}
	}
}

// TestChoicesOfBadDesigns has designs that are not valid, also such for which the layer of their kind has choices: P10.3.
func TestChoicesOfBadDesigns(t *testing.T) {
	asked := 0
	for _, d := range badDesigns() {
		for _, s := range append(states(max(1, len(d.Ratio))), empty()) {
			for _, x := range ends() {
				wantChoices(t, d, s, x)
			}
		}
		asked += len(block.Choices(d, nil)) + len(urn.Choices(d, nil)) + len(coin.Choices(d, nil, nil))
	}
	if asked == 0 {
		t.Error("no layer of a kind has choices for a design that is not valid")
	}
}

// TestChoicesOfOddStates has states of 19 and of 21 rows, and of others: P10.3.
func TestChoicesOfOddStates(t *testing.T) {
	for _, d := range designs() {
		for _, s := range oddStates(len(d.Ratio)) {
			for _, x := range ends() {
				wantChoices(t, d, s, x)
			}
		}
	}
}

// TestChoicesOfBadSlots has slots that do not fit, although there may be rows for them: P10.3.
func TestChoicesOfBadSlots(t *testing.T) {
	for _, d := range designs() {
		for _, s := range states(len(d.Ratio)) {
			for _, x := range badSlots() {
				wantChoices(t, d, s, x)
			}
		}
	}
}

// TestChoicesOfBadRows has rows that are not proper: where they are read, there are no choices, and where not, nothing changes: P10.3.
func TestChoicesOfBadRows(t *testing.T) {
	x := api.Slot{Site: 11, Stratum: 7}
	for _, d := range designs() {
		first := choicesOf(d, empty(), x)
		for _, row := range badRows(len(d.Ratio)) {
			all := api.State{Rows: slices.Repeat([][]int{row}, rows)}
			others := with(with(all, 7), 19)
			wantChoices(t, d, others, x, first...)
			inStratum, atSite := with(others, 7, row...), with(others, 19, row...)
			if d.Kind == api.DeSimple {
				wantChoices(t, d, all, x, first...)
				continue
			}
			wantChoices(t, d, all, x)
			wantChoices(t, d, inStratum, x)
			if d.Kind == api.DeCoin {
				wantChoices(t, d, atSite, x)
			} else {
				wantChoices(t, d, atSite, x, first...)
			}
		}
	}
}
