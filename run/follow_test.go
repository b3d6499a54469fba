package run_test

import (
	"slices"
	"testing"

	"equipoise/api"
	"equipoise/design"
)

// TestExamplesOfFollow has the examples of the chapter: P11.3.
func TestExamplesOfFollow(t *testing.T) {
	e := always(blocks([]int{1, 2}, 1, 1))
	wantFollow(t, e, same(2), []int{2, 0}, []int{0, 0}, "1/12")
	wantFollow(t, e, same(2), []int{0, 0}, []int{0, 1}, "1/4") // a block of 2, of which the arm 1 is left
	wantFollow(t, e, same(2), []int{3, 1}, []int{1, 1}, "1/12")
	wantFollow(t, e, same(3), []int{1, 0, 3}, []int{1, 0, 1}, "1/16")
	wantFollow(t, always(simple(1, 2)), same(3), []int{0, 1, 1}, []int{0, 1, 1}, "4/27")
	wantFollow(t, always(simple(1, 0, 2)), same(2), []int{1, 0}, []int{2, 0}, "2/9")
	wantFollow(t, always(urns(1, 1, 1)), same(3), []int{0, 0, 1}, []int{0, 0, 1}, "1/8") // 1/2, 1/3 and 3/4
	wantFollow(t, always(coins(2, 3, 1, 1)), same(3), []int{0, 0, 1}, []int{0, 0, 1}, "1/9")
	wantFollow(t, []api.Phase{phase(0, urns(1, 1, 1)), phase(1, urns(1, 1, 1, 3))}, same(2), []int{0, 2}, []int{0, 2}, "1/4") // 1, 2 and 3 balls
	wantFollow(t, []api.Phase{phase(0, urns(1, 1, 1)), phase(1, coins(1, 1, 1, 1, 3))}, same(2), []int{0, 0}, []int{0, 2}, "1/2")
}

// TestFollow compares all courses of all numbers of places with the model: P11.3.
func TestFollow(t *testing.T) {
	for _, a := range trials() {
		for n := range len(a.x) + 1 {
			for _, b := range pathsOf(a.p, a.x, n) {
				wantFollow(t, a.p, a.x, b.choices, b.arms, b.chance.RatString())
			}
		}
	}
}

// TestFollowFar follows courses of many places: P11.3.
func TestFollowFar(t *testing.T) {
	for i, a := range long() {
		b := before()
		for k := range a.x {
			l := b.longer(a.p, a.x, k)
			b = l[(i+k*k/3)%len(l)]
			if k%57 == 0 || k == len(a.x)-1 {
				wantFollow(t, a.p, a.x, b.choices, b.arms, b.chance.RatString())
			}
		}
		wantNotFollowed(t, a.p, a.x, append(slices.Clone(b.choices), 0), api.ErrArg)
	}
}

// TestNoChoices follows no choices: P11.3.
func TestNoChoices(t *testing.T) {
	for _, a := range append(trials(), long()...) {
		wantFollow(t, a.p, a.x, nil, nil, "1")
		wantFollow(t, a.p, a.x, []int{}, []int{}, "1")
	}
}

// TestTooManyChoices has a choice more than there are places, and many more: P11.3.
func TestTooManyChoices(t *testing.T) {
	for i, a := range trials() {
		if i%5 > 0 {
			continue
		}
		l := pathsOf(a.p, a.x, len(a.x))
		for _, b := range []path{l[0], l[len(l)-1]} {
			wantFollow(t, a.p, a.x, b.choices, b.arms, b.chance.RatString())
			for _, more := range [][]int{{0}, {1}, {-1}, {0, 0}, make([]int, 400)} {
				wantNotFollowed(t, a.p, a.x, slices.Concat(b.choices, more), api.ErrArg)
			}
		}
	}
}

// TestBadIndices has what is no index of a choice, at each place, and before and behind indices of all sorts: P11.3.
func TestBadIndices(t *testing.T) {
	for i, a := range trials() {
		if i%7 > 0 {
			continue
		}
		l := pathsOf(a.p, a.x, len(a.x))
		b := l[len(l)*(i%3)/3]
		s := design.Start()
		for k, slot := range a.x {
			d := designAt(a.p, k)
			s = stateAt(a.p, k, s)
			choices := design.Choices(d, s, slot)
			for _, bad := range append(far(), len(choices), len(choices)+1, len(choices)+256) {
				wantNotFollowed(t, a.p, a.x, append(slices.Clone(b.choices[:k]), bad), api.ErrArg)
				changed := slices.Clone(b.choices)
				changed[k] = bad
				wantNotFollowed(t, a.p, a.x, changed, api.ErrArg)
			}
			s, _ = design.Next(d, s, slot, choices[b.choices[k]])
		}
	}
}
