package run

import (
	"iter"

	"equipoise/api"
	"equipoise/design"
	"equipoise/ratio"
)

// place is where a course draws next: the design that holds there, the slot, and the state.
type place struct {
	design api.Design
	slot   api.Slot
	state  api.State
}

// reached returns the place k of a course whose state after the places before it is s.
func reached(p []api.Phase, x []api.Slot, k int, s api.State) place {
	i := holding(p, k)
	d := p[i].Design
	if k > 0 && p[i].From == k {
		s = design.Carry(p[i-1].Design, s, d)
	}
	return place{d, x[k], s}
}

// holding returns the index of the phase that holds at the place k.
func holding(p []api.Phase, k int) int {
	i := 0
	for i+1 < len(p) && p[i+1].From <= k {
		i++
	}
	return i
}

// list returns what can be drawn.
func (h place) list() []api.Choice { return design.Choices(h.design, h.state, h.slot) }

// choices produces what can be drawn with a permitted arm, each with its probability among all choices.
func (h place) choices(permitted func(arm int) bool) iter.Seq2[api.Choice, api.Ratio] {
	return func(yield func(c api.Choice, chance api.Ratio) bool) {
		l := h.list()
		all := ratio.Int(weights(l))
		for _, c := range l {
			if !permitted(c.Arm) {
				continue
			}
			chance, _ := ratio.Div(ratio.Int(c.Weight), all) // all weights are positive
			if !yield(c, chance) {
				return
			}
		}
	}
}

// weights returns the sum of the weights of choices.
func weights(l []api.Choice) int {
	sum := 0
	for _, c := range l {
		sum += c.Weight
	}
	return sum
}

// choice returns the choice with this index, and its probability; false if there is none.
func (h place) choice(index int) (api.Choice, api.Ratio, bool) {
	i := 0
	for c, chance := range h.choices(anyArm) {
		if i == index {
			return c, chance, true
		}
		i++
	}
	return api.Choice{}, api.Ratio{}, false
}

// anyArm permits all arms.
func anyArm(arm int) bool { return true }

// after returns the state after one of the choices.
func (h place) after(c api.Choice) api.State {
	s, _ := design.Next(h.design, h.state, h.slot, c) // in 400 places no row becomes too great
	return s
}
