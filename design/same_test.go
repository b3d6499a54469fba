package design_test

import (
	"slices"
	"testing"

	"equipoise/api"
)

// full returns a design that has everything, and is not valid.
func full() api.Design {
	return api.Design{Kind: 2, Ratio: []int{1, 2, 3}, Sizes: []int{1, 3}, Add: 5, Coin: api.Frac{N: 2, D: 3}}
}

// TestSameOfOneField has designs that differ in only one field, or in one element: P10.8.
func TestSameOfOneField(t *testing.T) {
	wantSame(t, full(), full(), true)
	wantSame(t, api.Design{}, api.Design{}, true)
	changes := []func(d *api.Design){
		func(d *api.Design) { d.Kind = 3 },
		func(d *api.Design) { d.Kind = 0 },
		func(d *api.Design) { d.Add = 4 },
		func(d *api.Design) { d.Add = -5 },
		func(d *api.Design) { d.Coin.N = 1 },
		func(d *api.Design) { d.Coin.D = 5 },
		func(d *api.Design) { d.Coin = api.Frac{N: 4, D: 6} },
		func(d *api.Design) { d.Coin = api.Frac{N: 3, D: 2} },
		func(d *api.Design) { d.Ratio = nil },
		func(d *api.Design) { d.Sizes = nil },
		func(d *api.Design) { d.Ratio = []int{1, 2} },
		func(d *api.Design) { d.Ratio = []int{2, 3} },
		func(d *api.Design) { d.Ratio = []int{1, 2, 3, 0} },
		func(d *api.Design) { d.Ratio = []int{3, 2, 1} },
		func(d *api.Design) { d.Sizes = []int{1} },
		func(d *api.Design) { d.Sizes = []int{3} },
		func(d *api.Design) { d.Sizes = []int{3, 1} },
		func(d *api.Design) { d.Sizes = []int{1, 3, 0} },
		func(d *api.Design) { d.Ratio, d.Sizes = d.Sizes, d.Ratio },
	}
	for at := range 3 {
		changes = append(changes, func(d *api.Design) { d.Ratio = put(d.Ratio, at, 9) }, func(d *api.Design) { d.Ratio = put(d.Ratio, at, -1) })
	}
	for at := range 2 {
		changes = append(changes, func(d *api.Design) { d.Sizes = put(d.Sizes, at, 2) }, func(d *api.Design) { d.Sizes = put(d.Sizes, at, -1) })
	}
	for i, change := range changes {
		d := full()
		change(&d)
		wantSame(t, d, d, true)
		wantSame(t, full(), d, false)
		wantSame(t, api.Design{}, d, false)
		for _, other := range changes[i+1:] {
			e := full()
			other(&e)
			wantSame(t, d, e, sameOf(d, e))
		}
	}
}

// TestSameOfEmpty has an empty slice and nil: P10.8, R1.
func TestSameOfEmpty(t *testing.T) {
	forms := [][]int{nil, {}, []int{5, 5}[:0]}
	for _, none := range forms {
		for _, other := range forms {
			wantSame(t, api.Design{Ratio: none, Sizes: other}, api.Design{Ratio: other, Sizes: none}, true)
			d, e := coins(2, 3, 1, 2), coins(2, 3, 1, 2)
			d.Sizes, e.Sizes = none, other
			wantSame(t, d, e, true)
		}
		wantSame(t, api.Design{Ratio: none}, api.Design{Ratio: []int{0}}, false)
		wantSame(t, api.Design{Sizes: none}, api.Design{Sizes: []int{0}}, false)
	}
}

// TestSame compares designs of all kinds, valid and not, with themselves, and with all others: P10.8.
func TestSame(t *testing.T) {
	l := append(designs(), badDesigns()...)
	for i, d := range l {
		again := d
		again.Ratio, again.Sizes = slices.Clone(d.Ratio), slices.Clone(d.Sizes)
		wantSame(t, d, again, true)
		for _, e := range l[i+1:] {
			wantSame(t, d, e, sameOf(d, e))
		}
	}
	for i, d := range designs() {
		for k, e := range designs() {
			wantSame(t, d, e, i == k)
		}
	}
}
