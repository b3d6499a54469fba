package run_test

import (
	"fmt"
	"math"
	"math/rand"
	"slices"
	"testing"

	"equipoise/api"
)

// wrong is a design that is not valid, and its error.
type wrong struct {
	d    api.Design
	want api.Errno
}

// wrongDesigns returns designs that are not valid, with each error.
func wrongDesigns() []wrong {
	l := []wrong{
		{api.Design{}, api.ErrArm}, {simple(1), api.ErrArm}, {simple(1, 1, 1, 1, 1, 1, 1), api.ErrArm}, {urns(9, make([]int, 400)...), api.ErrArm},
		{api.Design{Ratio: []int{1, 1}}, api.ErrDesign}, {api.Design{Kind: 5, Ratio: []int{1, 1}}, api.ErrDesign}, {api.Design{Kind: -1, Ratio: []int{0, 9}}, api.ErrDesign},
		{simple(1, 0), api.ErrWeight}, {simple(0, 0), api.ErrWeight}, {urns(1, 1, 9), api.ErrWeight}, {coins(1, 1, 1, -1, 1), api.ErrWeight}, {blocks(nil, 0, 0, 4), api.ErrWeight},
		{blocks(nil, 1, 1), api.ErrRange}, {blocks([]int{2, 1}, 1, 1), api.ErrRange}, {blocks([]int{1, 5}, 1, 1), api.ErrRange}, {urns(9, 1, 1), api.ErrRange}, {urns(-1, 1, 1), api.ErrRange}, {coins(1, 3, 1, 1), api.ErrRange}, {coins(0, 0, 1, 1), api.ErrRange}, {coins(51, 101, 1, 1), api.ErrRange},
	}
	other := []api.Design{simple(1, 1), simple(1, 1), simple(1, 1), blocks([]int{1}, 1, 1), urns(0, 1, 1), coins(1, 2, 1, 1)}
	other[0].Sizes, other[1].Add, other[2].Coin, other[3].Add, other[4].Coin, other[5].Sizes = []int{1}, 1, api.Frac{N: 1, D: 2}, 1, api.Frac{D: 1}, []int{1}
	for _, d := range other {
		l = append(l, wrong{d, api.ErrForm})
	}
	return l
}

// inOrder returns n phases with these designs in turn.
func inOrder(n int, designs ...api.Design) []api.Phase {
	var p []api.Phase
	for i := range n {
		p = append(p, phase(3*i, designs[i%len(designs)]))
	}
	return p
}

// TestValid has phases and slots that are valid: P11.1.
func TestValid(t *testing.T) {
	for _, a := range trials() {
		wantCheck(t, a.p, a.x, api.OK)
	}
	all := kinds()[0]
	for _, d := range all {
		for _, n := range []int{1, 2, 399, 400} {
			wantCheck(t, always(d), same(n), api.OK)
			wantCheck(t, inOrder(13, d), spread(n, 12, 8), api.OK)
			wantCheck(t, inOrder(n%13+1, d, all[n%8]), spread(n, 12, 8), api.OK)
		}
	}
	wantCheck(t, []api.Phase{phase(0, all[0]), phase(1, all[1]), phase(math.MaxInt-1, all[0]), phase(math.MaxInt, all[2])}, same(1), api.OK)
	for site := range 12 {
		for stratum := range 8 {
			wantCheck(t, always(all[site%8]), append(same(2), api.Slot{Site: site, Stratum: stratum}), api.OK)
		}
	}
	longer := []api.Design{simple(1, 1), urns(1, 1, 1, 1), urns(1, 0, 0, 1, 1), coins(1, 1, 1, 1, 1, 1), blocks([]int{4}, 8, 0, 0, 0, 8), simple(0, 0, 0, 0, 1, 1), simple(1, 1, 1, 1, 1, 1)}
	wantCheck(t, inOrder(7, longer...), same(1), api.OK)
}

// TestHowMany has too few and too many phases and slots: P11.1.
func TestHowMany(t *testing.T) {
	d := simple(1, 1)
	for _, n := range []int{0, 401, 402, 800, 1 << 16} {
		wantInvalid(t, always(d), same(n), api.ErrMany)
		wantInvalid(t, inOrder(13, d), same(n), api.ErrMany)
	}
	for _, n := range []int{0, 14, 15, 26, 400, 1 << 12} {
		wantInvalid(t, inOrder(n, d), same(1), api.ErrMany)
		wantInvalid(t, inOrder(n, d), same(400), api.ErrMany)
	}
	wantInvalid(t, nil, nil, api.ErrMany)
	wantInvalid(t, inOrder(14, d), same(401), api.ErrMany)
}

// TestOrder has phases that begin too early, at the same place, or at an earlier one: P11.1.
func TestOrder(t *testing.T) {
	d := urns(1, 1, 1)
	for _, from := range append(far(), 1, 2, 399, 400) {
		wantInvalid(t, []api.Phase{phase(from, d)}, same(5), api.ErrOrder)
		if from < math.MaxInt-1 {
			wantInvalid(t, []api.Phase{phase(from, d), phase(from+1, d), phase(from+2, d)}, same(5), api.ErrOrder)
		}
	}
	wantInvalid(t, []api.Phase{phase(-1, d), phase(0, d)}, same(5), api.ErrOrder)
	for i := 1; i < 13; i++ {
		for _, from := range []int{3*i - 3, 3*i - 4, 0, -1, math.MinInt} {
			p := inOrder(13, d)
			p[i].From = from
			wantInvalid(t, p, same(5), api.ErrOrder)
		}
		p := inOrder(13, d)
		p[i].From, p[i-1].From = p[i-1].From+1, p[i].From-1
		wantInvalid(t, p, same(400), api.ErrOrder)
		p = inOrder(i+1, d)
		p[i].From = 3*i - 2
		wantCheck(t, p, same(5), api.OK)
	}
}

// TestFewerArms has a Ratio that is shorter than the one before: P11.1.
func TestFewerArms(t *testing.T) {
	for n := 2; n < 6; n++ {
		short, long := slices.Repeat([]int{1}, n), slices.Repeat([]int{1}, n+1)
		for i, d := range []api.Design{simple(short...), blocks([]int{1}, short...), urns(1, short...), coins(1, 1, short...)} {
			for at := 1; at < 13; at++ {
				p := slices.Concat(inOrder(at, simple(long...)), []api.Phase{phase(3*at, d)})
				wantInvalid(t, p, same(at*i+1), api.ErrArm)
			}
			p := []api.Phase{phase(0, simple(long...)), phase(3, simple(long...)), phase(4, d), phase(9, simple(long...))}
			wantInvalid(t, p, same(2), api.ErrArm)
		}
	}
	wantInvalid(t, []api.Phase{phase(0, simple(1, 1, 1)), phase(1, simple(1, 1, 0)), phase(500, simple(1, 1))}, same(2), api.ErrArm)
}

// TestDesigns has designs that are not valid, in each phase: P11.1.
func TestDesigns(t *testing.T) {
	for _, w := range wrongDesigns() {
		wantInvalid(t, always(w.d), same(3), w.want)
		for _, n := range []int{2, 3, 13} {
			p := inOrder(n, simple(1, 1))
			p[n-1].Design = w.d
			wantInvalid(t, p, spread(3, 12, 8), w.want)
			if n > 2 {
				p[n-1].Design = simple(1, 1, 1, 1, 1, 1, 1)
				p[n-2].Design = w.d
				wantInvalid(t, p, spread(400, 12, 8), w.want)
			}
		}
	}
}

// TestSlots has slots of sites and of strata that are not permitted, at each place: P11.1.
func TestSlots(t *testing.T) {
	p := inOrder(3, kinds()[0]...)
	for _, n := range []int{1, 2, 7, 400} {
		for _, at := range []int{0, n / 2, n - 1} {
			for _, bad := range append(far(), -12, -8, 12, 13, 100, 1<<32+1) {
				x := spread(n, 12, 8)
				x[at].Site = bad
				wantInvalid(t, p, x, api.ErrSite)
				x[at].Stratum = bad
				wantInvalid(t, p, x, api.ErrSite)
				x[at].Site = 11
				wantInvalid(t, p, x, api.ErrStratum)
			}
			x := spread(n, 12, 8)
			x[at] = api.Slot{Site: 11, Stratum: 8}
			wantInvalid(t, p, x, api.ErrStratum)
		}
	}
}

// TestFirstError has several errors, of which the first one is returned, phase by phase and slot by slot: P11.1, R2.
func TestFirstError(t *testing.T) {
	good, x := simple(1, 1, 1), same(3)
	badSlots := []api.Slot{{Site: 0}, {Site: 12, Stratum: 8}, {Stratum: -1}}
	badForm := good
	badForm.Add = 1
	wantInvalid(t, inOrder(14, api.Design{}), badSlots, api.ErrMany)
	wantInvalid(t, []api.Phase{phase(1, api.Design{})}, nil, api.ErrMany)
	wantInvalid(t, []api.Phase{phase(1, api.Design{})}, badSlots, api.ErrOrder)
	wantInvalid(t, []api.Phase{phase(0, badForm), phase(0, simple(1, 1))}, badSlots, api.ErrOrder)
	wantInvalid(t, []api.Phase{phase(0, badForm), phase(2, simple(1, 1))}, badSlots, api.ErrForm)
	wantInvalid(t, []api.Phase{phase(0, good), phase(2, simple(1, 1)), phase(3, badForm)}, badSlots, api.ErrArm)
	wantInvalid(t, []api.Phase{phase(0, good), phase(2, api.Design{Kind: 9, Ratio: []int{1, 9}})}, badSlots, api.ErrArm)
	wantInvalid(t, []api.Phase{phase(0, good), phase(2, api.Design{Kind: 9, Ratio: []int{1, 9, 1}})}, badSlots, api.ErrDesign)
	wantInvalid(t, []api.Phase{phase(0, good), phase(2, urns(9, 1, 9, 1)), phase(3, simple(1, 1))}, badSlots, api.ErrWeight)
	wantInvalid(t, []api.Phase{phase(0, good), phase(2, urns(9, 1, 1, 1)), phase(3, simple(1, 9, 1))}, x, api.ErrRange)
	wantInvalid(t, always(badForm), badSlots, api.ErrForm)
	wantInvalid(t, always(good), badSlots, api.ErrSite)
	wantInvalid(t, always(good), []api.Slot{{Stratum: 8}, {Site: 12}}, api.ErrStratum)
	wantInvalid(t, always(good), []api.Slot{{Site: -1}, {Stratum: -1}}, api.ErrSite)
	wantInvalid(t, always(good), []api.Slot{{}, {Stratum: 8}, {Site: 12}}, api.ErrStratum)
}

// TestManyErrors compares the error with the model, where any number of things is wrong: P11.1.
func TestManyErrors(t *testing.T) {
	r := rand.New(rand.NewSource(11))
	found := map[api.Errno]int{}
	bad, good := wrongDesigns(), slices.Concat(kinds()...)
	for range 4000 {
		p, x := inOrder(1+r.Intn(5), good[r.Intn(8)], good[8+r.Intn(8)], good[r.Intn(16)]), spread(1+r.Intn(4), 12, 8)
		for r.Intn(3) > 0 {
			i, k := r.Intn(len(p)), r.Intn(len(x))
			switch r.Intn(6) {
			case 0:
				p[i].From = r.Intn(5) - 1
			case 1:
				p[i].Design = bad[r.Intn(len(bad))].d
			case 2:
				p[i].Design = good[r.Intn(16)]
			case 3:
				x[k].Site = r.Intn(14) - 1
			case 4:
				x[k].Stratum = r.Intn(10) - 1
			case 5:
				p = append(p, phase(p[len(p)-1].From+1, good[r.Intn(16)]))
			}
		}
		want := errorOf(p, x)
		found[want]++
		if want == api.OK {
			wantCheck(t, p, x, want)
		} else {
			wantInvalid(t, p, x, want)
		}
	}
	for _, err := range []api.Errno{api.OK, api.ErrOrder, api.ErrArm, api.ErrDesign, api.ErrWeight, api.ErrRange, api.ErrForm, api.ErrSite, api.ErrStratum} {
		if found[err] < 20 {
			t.Error("few trials with the error", fmt.Sprint(err, found))
		}
	}
}
