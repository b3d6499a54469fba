package run_test

import (
	"math/rand"
	"slices"
	"testing"

	"equipoise/api"
	"equipoise/ratio"
	"equipoise/run"
)

// chance returns the probability of arms.
func chance(t *testing.T, p []api.Phase, x []api.Slot, arms []int) api.Ratio {
	t.Helper()
	c, err := run.Chance(p, x, arms)
	if err != api.OK {
		t.Fatalf("%s: %d", named("Chance", p, x, arms), err)
	}
	return c
}

// wantLaws checks that the probabilities of arms and of the next ones fit together: P11.7.
func wantLaws(t *testing.T, p []api.Phase, x []api.Slot, arms []int) {
	t.Helper()
	all := chance(t, p, x, arms)
	if ratio.Sign(all) == 0 {
		wantNoOdds(t, p, x, arms, api.ErrZero)
		return
	}
	odds, err := run.Odds(p, x, arms)
	if err != api.OK || len(odds) != len(designAt(p, len(arms)).Ratio) || sumOf(odds...) != "1" {
		t.Errorf("%s: %v, %d", named("Odds", p, x, arms), texts(odds), err)
	}
	var parts []api.Ratio
	for arm, odd := range odds {
		part := chance(t, p, x, append(slices.Clone(arms), arm))
		if product, ok := ratio.Mul(all, odd); !ok || ratio.Cmp(product, part) != 0 {
			t.Errorf("%s and then %d: %s; before %s, and the odds %v", named("Chance", p, x, arms), arm, ratio.Text(part), ratio.Text(all), texts(odds))
		}
		parts = append(parts, part)
	}
	if sumOf(parts...) != ratio.Text(all) {
		t.Errorf("%s: %s; with an arm more %v", named("Chance", p, x, arms), ratio.Text(all), texts(parts))
	}
}

// TestSums adds the probabilities of all courses, and those of the next arms: P11.7.
func TestSums(t *testing.T) {
	for i, a := range trials() {
		if i%2 > 0 && i < 330 {
			continue
		}
		l, err := run.All(a.p, a.x)
		var chances []api.Ratio
		for _, c := range l {
			chances = append(chances, c.Chance)
			if ratio.Sign(c.Chance) != 1 || ratio.Cmp(c.Chance, chance(t, a.p, a.x, c.Arms)) != 0 {
				t.Errorf("%s: %v has %s", named("All", a.p, a.x), c.Arms, ratio.Text(c.Chance))
			}
		}
		if err != api.OK || sumOf(chances...) != "1" {
			t.Errorf("%s: together %s", named("All", a.p, a.x), sumOf(chances...))
		}
		for i, c := range l {
			if i%5 == 0 {
				for n := range len(a.x) {
					wantLaws(t, a.p, a.x, c.Arms[:n])
				}
			}
		}
	}
}

// TestSumsFar has the arms of many places: P11.7.
func TestSumsFar(t *testing.T) {
	for i, a := range long() {
		_, arms := drawnOf(a.p, a.x, seeds()[i%7])
		for _, n := range []int{5, 77, len(arms) - 1} {
			wantLaws(t, a.p, a.x, arms[:n])
			no := slices.Clone(arms[:n])
			no[n/2] = 5
			wantLaws(t, a.p, a.x, no)
		}
	}
}

// random returns valid phases of all kinds.
func random(r *rand.Rand) []api.Phase {
	var p []api.Phase
	from, arms := 0, 2
	for range 1 + r.Intn(13) {
		arms = min(6, arms+r.Intn(8)/5)
		weights := make([]int, arms)
		for arm := range weights {
			weights[arm] = max(0, r.Intn(11)-2)
		}
		weights[r.Intn(arms-1)], weights[arms-1] = 1+r.Intn(8), 1+r.Intn(8)
		c := [][2]int{{1, 2}, {2, 3}, {99, 100}, {1, 1}}[r.Intn(4)]
		sizes := [][]int{{1}, {4}, {1, 2}, {2, 4}, {1, 2, 3}, {2, 3, 4}}[r.Intn(6)]
		d := []api.Design{simple(weights...), blocks(sizes, weights...), urns(r.Intn(9), weights...), coins(c[0], c[1], weights...)}[r.Intn(4)]
		p = append(p, phase(from, d))
		from += 1 + r.Intn(40)
	}
	return p
}

// TestFollowDrawn follows what seeds draw: P11.8.
func TestFollowDrawn(t *testing.T) {
	r := rand.New(rand.NewSource(12))
	for i := range 300 {
		p, x := random(r), spread(1+r.Intn(150), 1+r.Intn(12), 1+r.Intn(8))
		choices, arms, err := run.Drawn(p, x, seeds()[i%7])
		if err != api.OK || len(choices) != len(x) || len(arms) != len(x) {
			t.Fatalf("%s: %v, %v, %d", named("Drawn", p, x), choices, arms, err)
		}
		for _, n := range []int{0, 1, len(x) / 2, len(x)} {
			followed, chance, err := run.Follow(p, x, choices[:n])
			if err != api.OK || !slices.Equal(followed, arms[:n]) || ratio.Sign(chance) != 1 {
				t.Errorf("%s: %v, %s, %d; drawn %v", named("Follow", p, x, choices[:n]), followed, ratio.Text(chance), err, arms)
			}
		}
	}
}

// TestBeginnings has slots that change, and phases that begin later, both of which leave what was drawn before: P11.8.
func TestBeginnings(t *testing.T) {
	r := rand.New(rand.NewSource(13))
	for i := range 300 {
		p, x := random(r), spread(2+r.Intn(150), 1+r.Intn(12), 1+r.Intn(8))
		seed := seeds()[i%7]
		choices, arms, _ := run.Drawn(p, x, seed)
		n := 1 + r.Intn(len(x))
		wantDrawn(t, p, x[:n], seed, choices[:n], arms[:n])
		other, later := slices.Clone(x), slices.Clone(p)
		for k := n; k < len(x); k++ {
			other[k] = api.Slot{Site: r.Intn(12), Stratum: r.Intn(8)}
		}
		later = slices.DeleteFunc(later, func(phase api.Phase) bool { return phase.From >= n })
		before := len(later)
		if before < 13 {
			later = append(later, phase(n, simple(1, 1, 1, 1, 1, 1)))
		}
		for _, q := range [][]api.Phase{p, later, later[:before]} {
			for _, y := range [][]api.Slot{x, other, append(slices.Clone(other[:n]), same(5)...)} {
				gotChoices, gotArms, err := run.Drawn(q, y, seed)
				if err != api.OK || len(gotArms) != len(y) || !slices.Equal(gotChoices[:n], choices[:n]) || !slices.Equal(gotArms[:n], arms[:n]) {
					t.Errorf("%s: the first %d places change: %v, %v, %d", named("Drawn", q, y), n, gotChoices, gotArms, err)
				}
			}
		}
	}
}

// divided returns phases one of which is divided, at the place from; false if there are too many, or one begins there.
func divided(p []api.Phase, from int) ([]api.Phase, bool) {
	i := slices.IndexFunc(p, func(phase api.Phase) bool { return phase.From >= from })
	if i < 0 {
		i = len(p)
	}
	if len(p) == 13 || from == 0 || i < len(p) && p[i].From == from {
		return nil, false
	}
	d := p[i-1].Design
	d.Ratio, d.Sizes = slices.Clone(d.Ratio), slices.Clone(d.Sizes)
	return slices.Insert(slices.Clone(p), i, phase(from, d)), true
}

// TestDivided has phases that are divided, in which nothing changes: P11.9.
func TestDivided(t *testing.T) {
	for i, a := range trials() {
		if i%2 > 0 && i < 330 {
			continue
		}
		all := coursesOf(a.p, a.x)
		for from := range len(a.x) + 2 {
			q, ok := divided(a.p, from)
			if !ok {
				continue
			}
			wantAll(t, q, a.x, all...)
			choices, arms := drawnOf(a.p, a.x, seeds()[i%7])
			wantDrawn(t, q, a.x, seeds()[i%7], choices, arms)
			for n := range len(a.x) {
				l, _ := joinedFor(a.p, a.x, arms[:n])
				wantChance(t, q, a.x, arms[:n], chanceOf(l, arms[:n]).RatString())
				wantOdds(t, q, a.x, arms[:n], oddsOf(a.p, a.x, l)...)
			}
			for _, b := range pathsOf(a.p, a.x, len(a.x))[:1] {
				wantFollow(t, q, a.x, b.choices, b.arms, b.chance.RatString())
			}
		}
	}
}

// TestDividedFar has phases of many places that are divided, several times: P11.9.
func TestDividedFar(t *testing.T) {
	r := rand.New(rand.NewSource(14))
	for i := range 100 {
		p, x := random(r), spread(100+r.Intn(301), 1+r.Intn(12), 1+r.Intn(3))
		q := p
		for range 12 {
			if more, ok := divided(q, r.Intn(len(x)+20)); ok {
				q = more
			}
		}
		choices, arms, _ := run.Drawn(p, x, seeds()[i%7])
		wantDrawn(t, q, x, seeds()[i%7], choices, arms)
		_, chance, _ := run.Follow(p, x, choices)
		wantFollow(t, q, x, choices, arms, ratio.Text(chance))
	}
}
