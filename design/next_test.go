package design_test

import (
	"slices"
	"testing"

	"equipoise/api"
	"equipoise/coin"
	"equipoise/design"
	"equipoise/urn"
)

// TestNextOfKinds has draws of each kind: the row of the stratum becomes what the layer of the kind says, and for minimisation that of the site, too: P10.4.
func TestNextOfKinds(t *testing.T) {
	x := api.Slot{Site: 2, Stratum: 5}
	both := func(stratum, atSite []int) api.State {
		return with(with(with(with(empty(), 5, stratum...), 10, atSite...), 0, 1, 2, 3), 19, -4)
	}
	for _, c := range []struct {
		d             api.Design
		stratum, site []int
		drawn         triple
		after, atSite []int
	}{
		{simple(1, 1), nil, nil, triple{1, 0, 1}, nil, nil},
		{simple(2, 0, 1), []int{7, 8, 9}, []int{-5}, triple{2, 0, 0}, []int{7, 8, 9}, []int{-5}},
		{blocks([]int{1, 2}, 2, 0, 1), nil, []int{9, 9, 9}, triple{1, 2, 2}, []int{4, 0, 1}, []int{9, 9, 9}},
		{blocks([]int{1, 2}, 2, 0, 1), []int{4, 0, 1}, nil, triple{4, 0, 0}, []int{3, 0, 1}, nil},
		{blocks([]int{1, 2}, 2, 0, 1), []int{0, 0, 1}, nil, triple{1, 0, 2}, nil, nil},
		{blocks([]int{1, 2}, 2, 0, 1), []int{0, 0, 0}, []int{1}, triple{2, 1, 0}, []int{1, 0, 1}, []int{1}},
		{urns(3, 1, 2, 0), nil, []int{9, 9, 9}, triple{1, 0, 0}, []int{1, 5, 0}, []int{9, 9, 9}},
		{urns(3, 1, 2, 0), []int{1, 5, 6}, nil, triple{5, 0, 1}, []int{4, 5, 6}, nil},
		{urns(0, 1, 2, 0), []int{1, 5, 6}, []int{1}, triple{5, 0, 1}, []int{1, 5, 6}, []int{1}},
		{urns(8, 1, 8), []int{most - 8, most}, nil, triple{most, 0, 1}, []int{most, most}, nil},
		{coins(2, 3, 1, 1, 2), nil, nil, triple{8, 0, 2}, []int{0, 0, 1}, []int{0, 0, 1}},
		{coins(2, 3, 1, 1, 2), []int{1, 0, 2}, nil, triple{6, 0, 1}, []int{1, 1, 2}, []int{0, 1, 0}},
		{coins(2, 3, 1, 1, 2), nil, []int{1, 0, 2}, triple{2, 0, 2}, []int{0, 0, 1}, []int{1, 0, 3}},
		{coins(1, 1, 1, 1), []int{most - 2, most - 1}, []int{most - 2, most - 1}, triple{1, 0, 0}, []int{most - 1, most - 1}, []int{most - 1, most - 1}},
	} {
		wantNext(t, c.d, both(c.stratum, c.site), x, c.drawn.choice(), both(c.after, c.atSite))
	}
}

// TestNext compares the draws of all choices with the model, in all slots: P10.4.
func TestNext(t *testing.T) {
	for i, d := range designs() {
		for k, s := range states(len(d.Ratio)) {
			for j, x := range slots() {
				if (i+k+j)%5 != 0 && !slices.Contains(ends(), x) {
					continue
				}
				for _, c := range choicesOf(d, s, x) {
					wantDraw(t, d, s, x, c)
				}
			}
		}
	}
}

// TestNextOfOtherChoices has choices that differ from one of Choices in only one field, and are not another one; the other fields are right: P10.4.
func TestNextOfOtherChoices(t *testing.T) {
	for _, d := range designs() {
		for _, s := range states(len(d.Ratio)) {
			for _, x := range ends()[1:4] {
				l := choicesOf(d, s, x)
				for _, c := range l {
					for _, n := range []int{-1, 1, -c.Weight, 8, 1 << 32, -c.Weight - 1} {
						for _, other := range choices(triple{c.Weight + n, c.Size, c.Arm}, triple{c.Weight, c.Size + n, c.Arm}, triple{c.Weight, c.Size, c.Arm + n}) {
							if !slices.Contains(l, other) {
								wantNoNext(t, d, s, x, other)
							}
						}
					}
				}
				wantNoNext(t, d, s, x, api.Choice{})
			}
		}
	}
}

// TestNextOfClosedArms has choices of arms that are not open, or that there are not, with whatever weight and size: P10.4.
func TestNextOfClosedArms(t *testing.T) {
	for _, d := range designs() {
		for _, arm := range append(farNumbers(), 0, 1, 2, 3, 4, 5, 6, 7) {
			if arm >= 0 && arm < len(d.Ratio) && d.Ratio[arm] > 0 {
				continue
			}
			for _, weight := range []int{0, 1, 2, 8} {
				for size := range 3 {
					wantNoNext(t, d, empty(), api.Slot{}, api.Choice{Weight: weight, Size: size, Arm: arm})
				}
			}
		}
	}
}

// TestNextOfFullRows has choices that can be drawn, but whose row is full: in the stratum, at the site, or both: P10.4.
func TestNextOfFullRows(t *testing.T) {
	x := api.Slot{Site: 11, Stratum: 7}
	for _, row := range [][]int{{most, 1}, {most - 7, 1}} {
		s, c := with(empty(), 7, row...), api.Choice{Weight: 1, Arm: 1}
		if d := urns(8, 1, 1); !slices.Contains(urn.Choices(d, row), c) {
			t.Fatal("the example is none")
		}
		wantChoices(t, urns(8, 1, 1), s, x, api.Choice{Weight: row[0]}, c)
		wantNoNext(t, urns(8, 1, 1), s, x, c)
		wantNext(t, urns(8, 1, 1), s, x, api.Choice{Weight: row[0]}, with(empty(), 7, row[0], 9))
	}
	d, full, even := coins(2, 3, 1, 1), []int{most - 1, most - 1}, []int{4, 4}
	for _, pair := range [][2][]int{{full, even}, {even, full}, {full, nil}, {nil, full}, {full, full}, {{most - 1, most - 2}, full}, {full, {most - 1, most - 2}}} {
		s := with(with(empty(), 7, pair[0]...), 19, pair[1]...)
		l := coin.Choices(d, pair[0], pair[1])
		if len(l) != 2 {
			t.Fatal("the example is none")
		}
		wantChoices(t, d, s, x, l...)
		for _, c := range l {
			wantNoNext(t, d, s, x, c)
		}
	}
	s := with(with(empty(), 7, most-1, 3), 19, 3, most-1)
	for _, c := range design.Choices(d, s, x) {
		wantNoNext(t, d, s, x, c)
	}
}

// TestNextOfBadDesigns has designs that are not valid, with choices that the layer of their kind has: P10.4.
func TestNextOfBadDesigns(t *testing.T) {
	for _, d := range badDesigns() {
		for _, s := range []api.State{empty(), states(max(1, len(d.Ratio)))[1]} {
			l := choices([]triple{{}, {1, 0, 0}, {1, 1, 0}, {1, 0, 1}, {1, 1, 1}, {2, 0, 0}, {2, 2, 0}}...)
			l = slices.Concat(l, urn.Choices(d, s.Rows[0]), coin.Choices(d, s.Rows[0], s.Rows[8]), choicesOf(simple(1, 1), s, api.Slot{}))
			for _, c := range l {
				wantNoNext(t, d, s, api.Slot{}, c)
			}
		}
	}
}

// TestNextOfOddStates has states of 19 and of 21 rows, and of others, and slots that do not fit: P10.4.
func TestNextOfOddStates(t *testing.T) {
	for _, d := range designs() {
		l := choicesOf(d, empty(), api.Slot{})
		for _, s := range oddStates(len(d.Ratio)) {
			for _, c := range append(l, api.Choice{Weight: 2}, api.Choice{}) {
				wantNoNext(t, d, s, api.Slot{}, c)
			}
		}
		for _, x := range badSlots() {
			for _, c := range append(l, api.Choice{}) {
				wantNoNext(t, d, empty(), x, c)
			}
		}
	}
}

// TestNextOfBadRows has rows that are not proper: where they are read, nothing can be drawn, and where not, they stay: P10.4.
func TestNextOfBadRows(t *testing.T) {
	x := api.Slot{Site: 0, Stratum: 0}
	for _, d := range designs() {
		l := choicesOf(d, empty(), x)
		for _, row := range badRows(len(d.Ratio)) {
			all := api.State{Rows: slices.Repeat([][]int{row}, rows)}
			for _, s := range []api.State{all, with(all, 0), with(all, 8), with(with(all, 0), 8)} {
				wantDraw(t, d, s, x, l[0])
				wantDraw(t, d, s, x, l[len(l)-1])
			}
		}
	}
}
