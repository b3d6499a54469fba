package run

import (
	"slices"
	"strings"

	"equipoise/api"
	"equipoise/design"
	"equipoise/ratio"
)

// together returns the sum of the probabilities of entries.
func together(entries []entry) (api.Ratio, api.Errno) {
	l := make([]api.Ratio, 0, len(entries))
	for _, e := range entries {
		l = append(l, e.chance)
	}
	return sumOf(l)
}

// sumOf returns the sum of fractions; ErrRange if there is none.
func sumOf(l []api.Ratio) (api.Ratio, api.Errno) {
	sum, ok := ratio.Sum(l)
	if !ok {
		return api.Ratio{}, api.ErrRange
	}
	return sum, api.OK
}

// odds returns the probability of each arm at the place k, if the courses of these entries led there.
func odds(p []api.Phase, x []api.Slot, entries []entry, k int) ([]api.Ratio, api.Errno) {
	all, err := together(entries)
	if err != api.OK {
		return nil, err
	}
	if ratio.Sign(all) == 0 {
		return nil, api.ErrZero
	}
	lists := make([][]api.Choice, 0, len(entries))
	for _, e := range entries {
		lists = append(lists, reached(p, x, k, e.state).list())
	}
	var l []api.Ratio
	for arm := range p[holding(p, k)].Design.Ratio {
		both, err := withArm(entries, lists, arm)
		if err != api.OK {
			return nil, err
		}
		part, ok := ratio.Div(both, all)
		if !ok {
			return nil, api.ErrRange
		}
		l = append(l, part)
	}
	return l, api.OK
}

// withArm returns the probability of the courses of entries that go on with this arm, by a choice of the list of their entry.
func withArm(entries []entry, lists [][]api.Choice, arm int) (api.Ratio, api.Errno) {
	l := make([]api.Ratio, 0, len(entries))
	for i, e := range entries {
		product, ok := ratio.Mul(e.chance, design.Chance(lists[i], arm))
		if !ok {
			return api.Ratio{}, api.ErrRange
		}
		l = append(l, product)
	}
	return sumOf(l)
}

// courses returns the arms that entries have, in lexicographic order, with their probabilities.
func courses(entries []entry) ([]api.Course, api.Errno) {
	left := slices.SortedStableFunc(slices.Values(entries), byArms)
	var l []api.Course
	for len(left) > 0 {
		n := alike(left)
		chance, err := together(left[:n])
		if err != api.OK {
			return nil, err
		}
		l = append(l, api.Course{Arms: listed(left[0].arms), Chance: chance})
		left = left[n:]
	}
	return l, api.OK
}

// byArms compares the arms of two entries.
func byArms(a, b entry) int { return strings.Compare(a.arms, b.arms) }

// alike returns how many entries, from the first one on, have the same arms.
func alike(entries []entry) int {
	n := 1
	for n < len(entries) && entries[n].arms == entries[0].arms {
		n++
	}
	return n
}

// listed returns arms as a list.
func listed(arms string) []int {
	l := make([]int, 0, len(arms))
	for _, arm := range []byte(arms) {
		l = append(l, int(arm))
	}
	return l
}
