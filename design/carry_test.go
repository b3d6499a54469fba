package design_test

import (
	"math"
	"slices"
	"testing"

	"equipoise/api"
	"equipoise/design"
)

// wantRow checks the row to which Carry changes a row, at each index, while empty rows stay.
func wantRow(t *testing.T, d, e api.Design, row, want []int) {
	t.Helper()
	for k := range rows {
		wantCarry(t, d, with(empty(), k, row...), e, with(empty(), k, want...))
	}
	wantCarry(t, d, api.State{Rows: slices.Repeat([][]int{row}, rows)}, e, api.State{Rows: slices.Repeat([][]int{want}, rows)})
}

// TestCarryExamples has the table of the chapter: P10.7.
func TestCarryExamples(t *testing.T) {
	wantRow(t, urns(1, 1, 1), urns(1, 0, 1, 2), []int{3, 5}, []int{0, 5, 2})
	wantRow(t, coins(2, 3, 1, 1), coins(2, 3, 1, 1, 1), []int{3, 5}, []int{3, 5, 0})
}

// TestCarryOfUrns has urns with more arms, with fewer, with arms that are not open any more, or open again, and such in which nothing would be left: P10.7.
func TestCarryOfUrns(t *testing.T) {
	for _, x := range []struct {
		d, e      api.Design
		row, want []int
	}{
		{urns(1, 1, 1), urns(2, 1, 1), []int{3, 5}, []int{3, 5}},
		{urns(1, 1, 1), urns(1, 8, 2), []int{3, 5}, []int{3, 5}},
		{urns(1, 1, 1), urns(1, 1, 1, 8, 7, 6, 5), []int{3, 5}, []int{3, 5, 8, 7, 6, 5}},
		{urns(1, 1, 1), urns(1, 1, 1, 0, 4), []int{3, 5}, []int{3, 5, 0, 4}},
		{urns(1, 1, 1, 1), urns(1, 1, 1), []int{3, 5, 9}, []int{3, 5}},
		{urns(1, 1, 1, 1), urns(1, 1, 0, 1), []int{3, 5, 9}, []int{3, 0, 9}},
		{urns(1, 1, 1, 1), urns(1, 0, 1, 0, 1), []int{3, 5, 9}, []int{0, 5, 0, 1}},
		{urns(1, 1, 0, 1), urns(1, 1, 4, 1), []int{3, 0, 9}, []int{3, 0, 9}},
		{urns(1, 1, 0, 1), urns(1, 0, 4, 0, 0), []int{3, 0, 9}, nil},
		{urns(1, 1, 0, 1), urns(1, 0, 4, 0, 1), []int{3, 0, 9}, []int{0, 0, 0, 1}},
		{urns(1, 1, 1), urns(1, 0, 0), []int{3, 5}, nil},
		{urns(1, 1, 1), urns(1, 0, 0, 0, 0, 0, 8), []int{3, 5}, []int{0, 0, 0, 0, 0, 8}},
		{urns(1, 1, 1), urns(2, 1, 1), []int{0, 0}, nil},
		{urns(1, 1, 1), urns(2, 1, 1), []int{0, 0, 7}, nil},
		{urns(1, 1, 1), urns(2, 1, 1), []int{7}, []int{7, 1}},
		{urns(1, 1, 1), urns(2, 1, 1), []int{0}, []int{0, 1}},
		{urns(1, 1, 1), urns(2, 1, 1), []int{-4, 4}, []int{-4, 4}},
		{urns(1, 1, 1), urns(2, 1, 1), []int{0, -4}, []int{0, -4}},
		{urns(1, 1, 1), urns(2, 1, 1), []int{math.MaxInt, math.MinInt, 1}, []int{math.MaxInt, math.MinInt}},
		{urns(1, 1, 1), urns(1, -1, 1, -1, 9), []int{3, 5}, []int{0, 5, 0, 9}},
		{urns(1, 1, 1), urns(1, -1, -8), []int{3, 5}, nil},
		{urns(1), urns(2), []int{3, 5}, nil},
		{urns(9, 1), urns(-2, 1, 1, 1, 1, 1, 1, 1), []int{3, 5}, []int{3, 5, 1, 1, 1, 1, 1}},
	} {
		wantRow(t, x.d, x.e, x.row, x.want)
	}
}

// TestCarryOfCoins has coins with more arms, with fewer, and with arms that are not open any more, which keep their units: P10.7.
func TestCarryOfCoins(t *testing.T) {
	for _, x := range []struct {
		d, e      api.Design
		row, want []int
	}{
		{coins(2, 3, 1, 1), coins(1, 2, 1, 1), []int{3, 5}, []int{3, 5}},
		{coins(2, 3, 1, 1), coins(2, 3, 8, 2), []int{3, 5}, []int{3, 5}},
		{coins(2, 3, 1, 1), coins(2, 3, 1, 1, 8, 7, 6, 5), []int{3, 5}, []int{3, 5, 0, 0, 0, 0}},
		{coins(2, 3, 1, 1, 1), coins(2, 3, 1, 1), []int{3, 5, 9}, []int{3, 5}},
		{coins(2, 3, 1, 1, 1), coins(2, 3, 1, 0, 1), []int{3, 5, 9}, []int{3, 5, 9}},
		{coins(2, 3, 1, 1, 1), coins(2, 3, 0, 0, 0), []int{3, 5, 9}, []int{3, 5, 9}},
		{coins(2, 3, 1, 1, 1), coins(2, 3, 0, 1, 0, 1), []int{3, 5, 9}, []int{3, 5, 9, 0}},
		{coins(2, 3, 1, 1, 1), coins(2, 3, 1, 1), []int{0, 0, 9}, []int{0, 0}},
		{coins(2, 3, 1, 1), coins(2, 3, 1, 2), []int{7}, []int{7, 0}},
		{coins(2, 3, 1, 1), coins(2, 3, -1, 9), []int{-7, 8, 9}, []int{-7, 8}},
		{coins(2, 3, 1, 1), coins(2, 3), []int{3, 5}, nil},
		{coins(1, 9, 1), coins(9, 1, 1, 1, 1, 1, 1, 1, 1), []int{math.MaxInt, math.MinInt}, []int{math.MaxInt, math.MinInt, 0, 0, 0, 0, 0}},
	} {
		wantRow(t, x.d, x.e, x.row, x.want)
	}
}

// TestCarryToOtherKinds has all pairs of designs of different kinds, and of two that are simple, or have blocks, or are none of the four: only if they are the same, the state stays: P10.7.
func TestCarryToOtherKinds(t *testing.T) {
	other := []api.Design{{}, {Kind: 7}, {Kind: 7, Ratio: []int{1, 1}}, {Kind: -1, Ratio: []int{1, 1}}, {Kind: 5, Ratio: []int{1, 1}}}
	l := slices.Concat(designs(), other, []api.Design{simple(1, 1, 0), blocks([]int{2}, 1, 2), blocks([]int{2, 1}, 1, 2), simple()})
	s := states(3)[1]
	for i, d := range l {
		for k, e := range l {
			switch {
			case i == k:
				wantCarry(t, d, s, e, s)
			case d.Kind != e.Kind || d.Kind != api.DeUrn && d.Kind != api.DeCoin:
				wantCarry(t, d, s, e, empty())
			}
		}
	}
}

// TestCarryOfOneField has designs that differ in only one field, so that they are not the same: P10.7.
func TestCarryOfOneField(t *testing.T) {
	s := with(with(empty(), 3, 4, 5, 6), 12, 1, 0, 0)
	d := api.Design{Kind: api.DeUrn, Ratio: []int{1, 2, 0}, Sizes: []int{1}, Add: 3, Coin: api.Frac{N: 2, D: 3}}
	left := with(with(empty(), 3, 4, 5, 0), 12, 1, 0, 0)
	wantCarry(t, d, s, d, s)
	for _, change := range []func(e *api.Design){
		func(e *api.Design) { e.Sizes = nil },
		func(e *api.Design) { e.Sizes = []int{2} },
		func(e *api.Design) { e.Add = 4 },
		func(e *api.Design) { e.Coin.N = 1 },
		func(e *api.Design) { e.Coin.D = 5 },
		func(e *api.Design) { e.Ratio = []int{2, 2, 0} },
	} {
		e := d
		change(&e)
		wantCarry(t, d, s, e, left)
		wantCarry(t, e, s, d, left)
		d, e := d, e
		d.Kind, e.Kind = api.DeSimple, api.DeSimple
		wantCarry(t, d, s, e, empty())
		d.Kind, e.Kind = api.DeCoin, api.DeCoin
		wantCarry(t, d, s, e, s)
	}
}

// TestCarryOfOddStates has states with other numbers of rows, and with rows that are proper for no kind: P10.7.
func TestCarryOfOddStates(t *testing.T) {
	l := []api.Design{simple(1, 1), simple(1, 2), blocks([]int{1}, 1, 1), urns(3, 1, 1), urns(3, 0, 1, 2), urns(2, 1, 0), coins(2, 3, 1, 1), coins(2, 3, 1, 0, 1), {}, {Kind: 9}}
	for _, d := range l {
		for _, e := range l {
			for _, s := range oddStates(2) {
				wantCarry(t, d, s, e, carryOf(d, s, e))
			}
			for _, row := range badRows(2) {
				s := api.State{Rows: [][]int{row, nil, row, {1, 2}, {}}}
				wantCarry(t, d, s, e, carryOf(d, s, e))
			}
		}
	}
	wantCarry(t, urns(1, 1, 1), api.State{}, urns(1, 1, 2), api.State{})
	wantCarry(t, coins(1, 2, 1, 1), api.State{}, coins(1, 2, 1, 2), api.State{})
	wantCarry(t, simple(1, 1), api.State{}, simple(1, 1), api.State{})
	wantCarry(t, simple(1, 1), api.State{}, simple(1, 2), empty())
	three := api.State{Rows: [][]int{{1, 2, 3}, nil, {4}}}
	wantCarry(t, urns(1, 1, 1), three, urns(1, 1, 2), api.State{Rows: [][]int{{1, 2}, nil, {4, 2}}})
	wantCarry(t, coins(1, 2, 1, 1), three, coins(1, 2, 1, 2), api.State{Rows: [][]int{{1, 2}, nil, {4, 0}}})
	wantCarry(t, simple(1, 1), three, simple(1, 1), three)
}

// TestCarry compares all pairs of designs with the model: P10.7.
func TestCarry(t *testing.T) {
	l := append(designs(), badDesigns()[:20]...)
	for _, d := range l {
		for _, s := range states(max(1, len(d.Ratio)))[:4] {
			for _, e := range l {
				wantCarry(t, d, s, e, carryOf(d, s, e))
			}
		}
	}
}

// TestCarriedAgain has designs that hold for no place: for the same one, Carry changes nothing: P10.7.
func TestCarriedAgain(t *testing.T) {
	for _, d := range designs() {
		for _, s := range states(len(d.Ratio)) {
			wantCarry(t, d, design.Carry(d, s, d), d, s)
		}
	}
}
