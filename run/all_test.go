package run_test

import (
	"slices"
	"testing"

	"equipoise/api"
	"equipoise/run"
)

// coursesOf returns the courses of all places.
func coursesOf(p []api.Phase, x []api.Slot) []course {
	l := pathsOf(p, x, len(x))
	var all []course
	for _, arms := range armsOf(l) {
		all = append(all, course{arms, chanceOf(l, arms).RatString()})
	}
	return all
}

// TestExamplesOfAll has the example of the chapter, and others like it: P11.6.
func TestExamplesOfAll(t *testing.T) {
	e := blocks([]int{1, 2}, 1, 1)
	wantAll(t, always(e), same(2), course{[]int{0, 0}, "1/12"}, course{[]int{0, 1}, "5/12"}, course{[]int{1, 0}, "5/12"}, course{[]int{1, 1}, "1/12"})
	wantAll(t, always(simple(1, 2)), same(2), course{[]int{0, 0}, "1/9"}, course{[]int{0, 1}, "2/9"}, course{[]int{1, 0}, "2/9"}, course{[]int{1, 1}, "4/9"})
	wantAll(t, always(blocks([]int{1}, 1, 2)), same(3), course{[]int{0, 1, 1}, "1/3"}, course{[]int{1, 0, 1}, "1/3"}, course{[]int{1, 1, 0}, "1/3"})
	wantAll(t, []api.Phase{phase(0, simple(0, 1, 1)), phase(1, simple(2, 0, 0, 1))}, same(2), course{[]int{1, 0}, "1/3"}, course{[]int{1, 3}, "1/6"}, course{[]int{2, 0}, "1/3"}, course{[]int{2, 3}, "1/6"})
}

// TestOnePlace has all courses of one place: P11.6.
func TestOnePlace(t *testing.T) {
	wantAll(t, always(simple(8, 0, 1)), same(1), course{[]int{0}, "8/9"}, course{[]int{2}, "1/9"})
	wantAll(t, always(blocks([]int{1, 2, 4}, 1, 2, 0, 3)), same(1), course{[]int{0}, "1/6"}, course{[]int{1}, "1/3"}, course{[]int{3}, "1/2"})
	wantAll(t, always(urns(8, 1, 1, 1, 1, 1, 1)), same(1), course{[]int{0}, "1/6"}, course{[]int{1}, "1/6"}, course{[]int{2}, "1/6"}, course{[]int{3}, "1/6"}, course{[]int{4}, "1/6"}, course{[]int{5}, "1/6"})
	wantAll(t, always(coins(2, 3, 1, 2)), same(1), course{[]int{0}, "1/3"}, course{[]int{1}, "2/3"})
	wantAll(t, always(coins(1, 1, 1, 2)), same(1), course{[]int{1}, "1"})
}

// TestAll compares all courses with the model: P11.6.
func TestAll(t *testing.T) {
	for _, a := range trials() {
		wantAll(t, a.p, a.x, coursesOf(a.p, a.x)...)
	}
	for _, a := range []trial{{always(blocks([]int{1, 3}, 1, 2)), spread(7, 1, 2)}, {always(coins(1, 1, 1, 1)), spread(14, 2, 2)}, {always(urns(2, 1, 1, 1)), spread(6, 1, 2)}, {always(simple(1, 1)), same(9)}} {
		wantAll(t, a.p, a.x, coursesOf(a.p, a.x)...)
	}
}

// TestManyPlaces has courses of many places, of which there are few: P11.6.
func TestManyPlaces(t *testing.T) {
	p := always(coins(1, 1, 1, 2))
	_, arms := drawnOf(p, same(400), "x")
	wantAll(t, p, same(400), course{arms, "1"}) // 1, 0, 1 again and again
	_, arms = drawnOf(always(coins(1, 1, 1, 1)), same(400), "x")
	wantNotAll(t, always(coins(1, 1, 1, 1)), same(400), api.ErrWork)
	wantAll(t, []api.Phase{phase(0, p[0].Design), phase(399, simple(1, 3, 0))}, same(400), course{append(slices.Repeat([]int{1, 0, 1}, 133), 0), "1/4"}, course{append(slices.Repeat([]int{1, 0, 1}, 133), 1), "3/4"})
}

// lengths returns how many courses there are.
func lengths(t *testing.T, p []api.Phase, x []api.Slot) int {
	t.Helper()
	l, err := run.All(p, x)
	if err != api.OK {
		t.Errorf("%s: %d", named("All", p, x), err)
	}
	return len(l)
}

// TestFullTables has tables of exactly 4000 entries, and then of more: P11.6.
func TestFullTables(t *testing.T) {
	p := []api.Phase{phase(0, simple(1, 1)), phase(5, simple(1, 2, 1, 1, 1))}
	if n := lengths(t, p, same(8)); n != 4000 {
		t.Error("there are 2^5 5^3 courses:", n)
	}
	wantNotAll(t, p, same(9), api.ErrWork)
	p = append(p, phase(8, coins(1, 1, 1, 2, 1, 1, 1, 8))) // which has only one arm after no units
	if n := lengths(t, p, same(9)); n != 4000 {
		t.Error("there are 2^5 5^3 courses, each with one arm more:", n)
	}
	p = []api.Phase{phase(0, simple(1, 1)), phase(1, simple(1, 1, 1)), phase(5, simple(1, 1, 1, 1, 1))}
	wantNotAll(t, p, same(7), api.ErrWork) // 2 3^4 5^2 are 4050
	if n := lengths(t, p, same(6)); n != 810 {
		t.Error("there are 2 3^4 5 courses:", n)
	}
	if n := lengths(t, always(coins(1, 1, 1, 2, 1, 3)), same(25)); n != 4000 {
		t.Error("there are 4000 courses:", n)
	}
	wantNotAll(t, always(coins(1, 1, 1, 2, 1, 3)), same(30), api.ErrWork)
}

// TestHiddenStates has tables with many states for each list of arms: P11.6.
func TestHiddenStates(t *testing.T) {
	d := blocks([]int{1, 2, 3}, 1, 1)
	x := strata(0, 1, 2, 3, 4)
	if n := lengths(t, always(d), x[:4]); n != 16 {
		t.Error("there are 2^4 courses:", n) // in a table of 6^4 entries
	}
	wantNotAll(t, always(d), x, api.ErrWork) // 6^5 entries
	wantNotAll(t, []api.Phase{phase(0, d), phase(5, simple(1, 1))}, append(x, x...), api.ErrWork)
	if n := lengths(t, []api.Phase{phase(0, d), phase(4, simple(1, 1))}, append(x, x...)); n != 1<<10 {
		t.Error("there are 2^10 courses:", n)
	}
}

// TestOrderOfCourses has courses in lexicographic order, each one once: P11.6.
func TestOrderOfCourses(t *testing.T) {
	for _, a := range trials() {
		l, err := run.All(a.p, a.x)
		if err != api.OK {
			t.Errorf("%s: %d", named("All", a.p, a.x), err)
		}
		for i, c := range l {
			if len(c.Arms) != len(a.x) || i > 0 && slices.Compare(l[i-1].Arms, c.Arms) != -1 {
				t.Errorf("%s: the course %d is %v", named("All", a.p, a.x), i, c)
			}
		}
	}
}
