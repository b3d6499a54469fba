package run_test

import (
	"strings"
	"testing"

	"equipoise/api"
	"equipoise/design"
	"equipoise/draw"
)

// drawnOf returns the choices that a seed draws, and their arms.
func drawnOf(p []api.Phase, x []api.Slot, seed string) (choices, arms []int) {
	s := design.Start()
	for k, slot := range x {
		d := designAt(p, k)
		s = stateAt(p, k, s)
		l := design.Choices(d, s, slot)
		i, _ := draw.Pick(seed, k, l)
		s, _ = design.Next(d, s, slot, l[i])
		choices, arms = append(choices, i), append(arms, l[i].Arm)
	}
	return choices, arms
}

// seeds returns seeds of one byte and more.
func seeds() []string {
	return []string{"x", "\x00", "\xff", "xx", "another seed", strings.Repeat("s", 64), strings.Repeat("long", 100)}
}

// long returns trials with as many places as permitted, with designs of all kinds in one phase, and in many.
func long() []trial {
	var l []trial
	for i, d := range []api.Design{simple(1, 2), blocks([]int{1, 2}, 1, 1), urns(2, 1, 2, 3), coins(2, 3, 1, 1, 2), blocks([]int{1, 3, 4}, 1, 0, 2), coins(1, 1, 1, 2), urns(0, 8, 8, 8, 8, 8, 8)} {
		l = append(l, trial{always(d), spread(400, 12, i%2+1)}, trial{[]api.Phase{phase(0, d), phase(200, d), phase(399, urns(i+1, 1, 0, 1, 0, 1, 2))}, same(400)})
	}
	var many []api.Phase
	for i, d := range []api.Design{simple(1, 1), urns(3, 1, 2), urns(3, 1, 2, 1), urns(1, 0, 1, 1), coins(2, 3, 1, 1, 1), coins(3, 4, 1, 0, 1), blocks([]int{1, 2}, 1, 1, 2), blocks([]int{2, 3}, 1, 1, 2), blocks([]int{2, 3}, 1, 1, 2), urns(2, 0, 1, 1, 1), coins(1, 2, 3, 2, 1, 1), coins(1, 1, 0, 0, 1, 1, 1), simple(1, 2, 3, 4, 5, 6)} {
		many = append(many, phase(31*i, d))
	}
	return append(l, trial{many, spread(400, 12, 2)}, trial{many, spread(399, 5, 3)}, trial{many, same(200)})
}

// TestDrawn compares what seeds draw with the model: P11.2.
func TestDrawn(t *testing.T) {
	for i, a := range trials() {
		for k, seed := range seeds() {
			if (i+k)%2 == 0 {
				choices, arms := drawnOf(a.p, a.x, seed)
				wantDrawn(t, a.p, a.x, seed, choices, arms)
			}
		}
	}
	for _, a := range long() {
		for _, seed := range seeds() {
			choices, arms := drawnOf(a.p, a.x, seed)
			wantDrawn(t, a.p, a.x, seed, choices, arms)
		}
	}
}

// TestDrawnChoices has draws whose choices follow from draw.Number for the seed and the place: P11.2.
func TestDrawnChoices(t *testing.T) {
	var halves, thirds, sixths []int
	for k := range 8 {
		half, _ := draw.Number("x", k, 2)
		third, _ := draw.Number("x", k, 3)
		sixth, _ := draw.Number("x", k, 6)
		halves, thirds, sixths = append(halves, half), append(thirds, third), append(sixths, sixth)
	}
	wantDrawn(t, always(simple(1, 1)), same(8), "x", halves, halves)
	wantDrawn(t, always(simple(1, 1, 1)), spread(8, 12, 8), "x", thirds, thirds)
	var arms, choices []int
	for _, n := range sixths {
		choices, arms = append(choices, []int{0, 1, 1, 2, 2, 2}[n]), append(arms, []int{0, 2, 2, 3, 3, 3}[n])
	}
	wantDrawn(t, always(simple(1, 0, 2, 3)), same(8), "x", choices, arms)
	choices, arms = nil, nil
	for k := range 8 { // in each stratum a block begins, so that there are three choices of each arm
		n, _ := draw.Number("x", k, 6)
		choices, arms = append(choices, n), append(arms, n%2)
	}
	first := make([]api.Slot, 8)
	for k := range first {
		first[k].Stratum = k
	}
	wantDrawn(t, always(blocks([]int{1, 2, 4}, 1, 1)), first, "x", choices, arms)
}

// TestNoSeed has an empty seed, which comes after the errors of Check: P11.2.
func TestNoSeed(t *testing.T) {
	for _, a := range append(trials(), long()...) {
		wantNotDrawn(t, a.p, a.x, "", api.ErrSeed)
	}
	wantNotDrawn(t, nil, same(1), "", api.ErrMany)
	wantNotDrawn(t, always(simple(1, 1)), []api.Slot{{Stratum: 8}}, "", api.ErrStratum)
}
