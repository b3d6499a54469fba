package run

import (
	"equipoise/api"
	"equipoise/design"
	"equipoise/ratio"
)

// entry is what courses have come to: their arms, the state, and how probable they are together.
type entry struct {
	arms   string // a byte for each arm, so that strings are ordered as lists of arms are
	state  api.State
	chance api.Ratio
}

// met is what entries that are joined have in common: their arms, and the key of their state.
type met struct{ arms, state string }

// table has entries in the order in which they were met, and finds them again.
type table struct {
	entries []entry
	index   map[met]int
}

// first returns the entry before the place 0.
func first() entry { return entry{state: design.Start(), chance: ratio.Int(1)} }

// with returns what becomes of an entry by a choice that has this probability; false if its own becomes too long.
func (e entry) with(here place, c api.Choice, chance api.Ratio) (entry, bool) {
	product, ok := ratio.Mul(e.chance, chance)
	return entry{e.arms + string([]byte{byte(c.Arm)}), here.after(c), product}, ok
}

// followed returns what becomes of an entry without arms by the choices with these indices at the first places.
func (e entry) followed(p []api.Phase, x []api.Slot, choices []int) (entry, api.Errno) {
	for k, index := range choices {
		here := reached(p, x, k, e.state)
		c, chance, ok := here.choice(index)
		if !ok {
			return entry{}, api.ErrArg
		}
		if e, ok = e.with(here, c, chance); !ok {
			return entry{}, api.ErrRange
		}
	}
	return e, api.OK
}

// tableFor returns the table for given arms.
func tableFor(p []api.Phase, x []api.Slot, arms []int) ([]entry, api.Errno) {
	return tableOf(p, x, len(arms), func(k, arm int) bool { return arm == arms[k] })
}

// tableOf returns the table after n places, of the choices whose arms are permitted at their places.
func tableOf(p []api.Phase, x []api.Slot, n int, permitted func(k, arm int) bool) ([]entry, api.Errno) {
	entries := []entry{first()}
	for k := range n {
		t := table{index: map[met]int{}}
		for _, e := range entries {
			here := reached(p, x, k, e.state)
			if err := t.grow(e, here, func(arm int) bool { return permitted(k, arm) }); err != api.OK {
				return nil, err
			}
		}
		entries = t.entries
	}
	return entries, api.OK
}

// grow adds what becomes of an entry by each choice with a permitted arm.
func (t *table) grow(e entry, here place, permitted func(arm int) bool) api.Errno {
	for c, chance := range here.choices(permitted) {
		grown, ok := e.with(here, c, chance)
		if !ok {
			return api.ErrRange
		}
		if err := t.add(grown); err != api.OK {
			return err
		}
	}
	return api.OK
}

// add joins an entry with the one that was met with the same arms and state, or appends it.
func (t *table) add(e entry) api.Errno {
	key := met{e.arms, design.Key(e.state)}
	if i, ok := t.index[key]; ok {
		sum, fits := ratio.Add(t.entries[i].chance, e.chance)
		if !fits {
			return api.ErrRange
		}
		t.entries[i].chance = sum
		return api.OK
	}
	if len(t.entries) == api.MaxStates {
		return api.ErrWork
	}
	t.index[key] = len(t.entries)
	t.entries = append(t.entries, e)
	return api.OK
}
