package design_test

import (
	"math/rand"
	"slices"
	"testing"

	"equipoise/api"
	"equipoise/design"
	"equipoise/ratio"
)

// wantWhole checks that there are choices, all of them with a positive weight and an open arm, and that the probabilities of the arms add up to 1: P10.9.
func wantWhole(t *testing.T, d api.Design, s api.State, x api.Slot) []api.Choice {
	t.Helper()
	l := design.Choices(d, s, x)
	if len(l) == 0 {
		t.Fatalf("%s: nothing", named("Choices", d, s, x))
	}
	for _, c := range l {
		if c.Weight <= 0 || !slices.Contains(openOf(d.Ratio), c.Arm) {
			t.Errorf("%s: %v", named("Choices", d, s, x), c)
		}
	}
	var chances []api.Ratio
	for arm := range d.Ratio {
		chances = append(chances, design.Chance(l, arm))
	}
	if sum, ok := ratio.Sum(chances); !ok || ratio.Cmp(sum, ratio.Int(1)) != 0 {
		t.Errorf("the chances of %v are together %s", l, ratio.Text(sum))
	}
	return l
}

// changedRows returns which rows differ.
func changedRows(a, b api.State) []int {
	var l []int
	for k := range a.Rows {
		if !sameList(a.Rows[k], b.Rows[k]) {
			l = append(l, k)
		}
	}
	return l
}

// mayChange returns the rows that a draw may change: P10.10.
func mayChange(d api.Design, x api.Slot) []int {
	switch d.Kind {
	case api.DeBlock, api.DeUrn:
		return []int{x.Stratum}
	case api.DeCoin:
		return []int{x.Stratum, site + x.Site}
	}
	return nil
}

// follow draws choices one after the other, and returns the states; k says which choice is taken, out of n, and where the unit arrives.
func follow(t *testing.T, d api.Design, s api.State, places int, k func(n int) int, at func() api.Slot) []api.State {
	t.Helper()
	l := []api.State{s}
	for range places {
		x := at()
		choices := wantWhole(t, d, s, x)
		c := choices[k(len(choices))]
		after, ok := design.Next(d, s, x, c)
		if !ok || len(after.Rows) != rows {
			t.Fatalf("%s: %v, %v", named("Next", d, s, x, c), after, ok)
		}
		for _, row := range changedRows(s, after) {
			if !slices.Contains(mayChange(d, x), row) {
				t.Errorf("%s: the row %d becomes %v", named("Next", d, s, x, c), row, after.Rows[row])
			}
		}
		s = after
		l = append(l, s)
	}
	return l
}

// anywhere returns slots of up to so many strata and sites.
func anywhere(r *rand.Rand, strata, sites int) func() api.Slot {
	return func() api.Slot { return api.Slot{Stratum: 7 - r.Intn(strata), Site: 11 - r.Intn(sites)} }
}

// TestCourses has courses of 400 choices from Start on, in all slots and in one, which take any choices, always the first one, or always the last one: P10.9, P10.10.
func TestCourses(t *testing.T) {
	r := rand.New(rand.NewSource(10))
	for i, d := range designs() {
		follow(t, d, design.Start(), api.MaxPlaces, r.Intn, anywhere(r, 8, 12))
		follow(t, d, design.Start(), api.MaxPlaces, r.Intn, anywhere(r, 1, 1))
		if i%3 == 0 {
			follow(t, d, design.Start(), api.MaxPlaces, func(n int) int { return 0 }, anywhere(r, 1, 2))
			follow(t, d, design.Start(), api.MaxPlaces, func(n int) int { return n - 1 }, anywhere(r, 2, 1))
		}
	}
}

// TestKeysOfCourses has the states of courses, of which equal ones, and only these, have equal keys: P10.10.
func TestKeysOfCourses(t *testing.T) {
	r := rand.New(rand.NewSource(11))
	met := map[string]api.State{}
	again := 0
	for _, d := range designs() {
		for range 3 {
			for _, s := range follow(t, d, design.Start(), 40, r.Intn, anywhere(r, 2, 2)) {
				key := design.Key(s)
				if other, ok := met[key]; ok {
					again++
					if !sameState(s, other) {
						t.Errorf("%v and %v have the same key", s, other)
					}
				}
				met[key] = s
				if forms := (api.State{Rows: slices.Repeat([][]int{{}}, rows)}); design.Key(copyInto(forms, s)) != key {
					t.Errorf("%v has another key, if its empty rows are not nil", s)
				}
			}
		}
	}
	if again == 0 || len(met) < 1000 {
		t.Errorf("%d different states, and %d that were met again", len(met), again)
	}
}

// copyInto returns s with the elements of its rows behind those of other rows.
func copyInto(other, s api.State) api.State {
	l := copied(other)
	for k, row := range s.Rows {
		l.Rows[k] = append(l.Rows[k], row...)
	}
	return l
}

// goesOn reports whether P10.11 speaks of a design that follows another one.
func goesOn(d, e api.Design) bool {
	if len(e.Ratio) < len(d.Ratio) {
		return false
	}
	return !slices.ContainsFunc(openOf(e.Ratio), func(arm int) bool { return arm < len(d.Ratio) && d.Ratio[arm] == 0 })
}

// TestCarriedCourses has courses of 400 choices from a state of Carry on, from each kind to each other one, to designs with more arms, and with arms that are not open any more: P10.9, P10.11.
func TestCarriedCourses(t *testing.T) {
	r := rand.New(rand.NewSource(12))
	tried := map[[2]int]int{}
	l := slices.Concat(designs(), []api.Design{urns(8, 1, 1, 1), urns(0, 0, 1, 8), urns(3, 1, 0, 1), coins(2, 3, 1, 0, 1), coins(1, 1, 8, 1, 1), coins(1, 2, 0, 7, 8, 0, 1)})
	for _, d := range l {
		for _, e := range l {
			pair := [2]int{d.Kind, e.Kind}
			if !goesOn(d, e) || r.Intn(3) > 0 && tried[pair] > 20 {
				continue
			}
			tried[pair]++
			before := follow(t, d, design.Start(), []int{0, 1, 2, 30, 120}[r.Intn(5)], r.Intn, anywhere(r, 3, 3))
			s := design.Carry(d, before[len(before)-1], e)
			follow(t, e, s, 20, r.Intn, anywhere(r, 8, 12))
			if tried[pair]%8 == 1 {
				follow(t, e, s, api.MaxPlaces, r.Intn, anywhere(r, 1+r.Intn(3), 1+r.Intn(3)))
			}
		}
	}
	for k := range 16 {
		if pair := [2]int{1 + k/4, 1 + k%4}; tried[pair] < 20 {
			t.Errorf("from the kind %d to the kind %d: %d times", pair[0], pair[1], tried[pair])
		}
	}
}

// TestCarriedAfterAll has designs that follow after 400 places, and one after the other: P10.9, P10.11.
func TestCarriedAfterAll(t *testing.T) {
	r := rand.New(rand.NewSource(13))
	for _, l := range [][]api.Design{
		{urns(8, 1, 1, 1), urns(8, 0, 1, 1, 2), urns(8, 0, 1, 0, 8, 8)},
		{coins(1, 1, 8, 7, 6), coins(1, 1, 8, 0, 6, 5), coins(1, 2, 1, 0, 0, 8, 7)},
		{blocks([]int{1, 2, 3}, 1, 1), blocks([]int{1, 2, 3}, 1, 2), simple(1, 1, 1), urns(1, 1, 0, 1), coins(2, 3, 1, 0, 1)},
		{coins(2, 3, 1, 1), urns(2, 1, 1), urns(2, 1, 1), blocks([]int{4}, 1, 1), simple(1, 1)},
	} {
		s := design.Start()
		for i, d := range l {
			if i > 0 {
				if !goesOn(l[i-1], d) {
					t.Fatal("the example is none")
				}
				s = design.Carry(l[i-1], s, d)
			}
			course := follow(t, d, s, api.MaxPlaces, r.Intn, anywhere(r, 1, 1))
			s = course[len(course)-1]
		}
	}
}
