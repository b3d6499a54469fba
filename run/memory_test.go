package run_test

import (
	"math"
	"reflect"
	"slices"
	"strings"
	"testing"

	"equipoise/api"
	"equipoise/ratio"
	"equipoise/run"
)

// everything calls all functions, and returns all results.
func everything(p []api.Phase, x []api.Slot, seed string, l []int) []any {
	choices, drawn, drawnErr := run.Drawn(p, x, seed)
	arms, part, followErr := run.Follow(p, x, l)
	chance, chanceErr := run.Chance(p, x, l)
	odds, oddsErr := run.Odds(p, x, l)
	all, allErr := run.All(p, x)
	return []any{run.Check(p, x), choices, drawn, drawnErr, arms, part, followErr, chance, chanceErr, odds, oddsErr, all, allErr}
}

// TestEndsWithoutPanic calls everything with all sorts of arguments: P1.
func TestEndsWithoutPanic(t *testing.T) {
	numbers := append(far(), 0, 1, 5, 6, 7, 8, 11, 12, 255, 256, 400)
	designs := append(slices.Concat(kinds()...), simple(numbers...), urns(math.MaxInt, make([]int, 1<<16)...), coins(math.MinInt, -1, numbers...), blocks(numbers, numbers...), api.Design{Kind: math.MinInt})
	for _, w := range wrongDesigns() {
		designs = append(designs, w.d)
	}
	lists := [][]int{nil, {}, numbers, {0}, {-1}, {math.MaxInt}, {0, 1, 0, 1}, make([]int, 401), slices.Repeat([]int{math.MinInt}, 1<<12)}
	for i, d := range designs {
		for k, n := range numbers {
			e := designs[(i*7+k)%len(designs)]
			slots := []api.Slot{{Site: n, Stratum: numbers[(i+k)%len(numbers)]}, {Site: 11, Stratum: 7}, {Site: i % 3, Stratum: n}}
			for _, p := range [][]api.Phase{always(d), {phase(n, d)}, {phase(0, d), phase(n, e)}, {phase(0, e), phase(1, d), phase(2, e)}, {phase(n, d), phase(n, e)}} {
				for _, x := range [][]api.Slot{slots, slots[:1], slots[1:2], slots[:0], nil} {
					everything(p, x, strings.Repeat("\x00", k), lists[(i+k)%len(lists)])
				}
			}
		}
	}
	everything(make([]api.Phase, 1<<16), make([]api.Slot, 1<<20), strings.Repeat("s", 1<<20), make([]int, 1<<20))
	everything(always(simple(1, 1)), same(3), strings.Repeat("s", 1<<20), make([]int, 1<<20))
}

// TestNilAndEmpty has the forms of what has no elements: R1.
func TestNilAndEmpty(t *testing.T) {
	for _, none := range [][]int{nil, {}, []int{5, 5}[:0]} {
		d, e := simple(1, 2), urns(1, 1, 1, 1)
		d.Sizes, e.Sizes = none, none
		p := []api.Phase{phase(0, d), phase(2, e)}
		wantCheck(t, p, same(3), api.OK)
		wantFollow(t, p, same(3), none, none, "1")
		wantChance(t, p, same(3), none, "1")
		wantOdds(t, p, same(3), none, "1/3", "2/3")
		wantAll(t, p, same(3), coursesOf(p, same(3))...)
		p[0].Design.Ratio = none
		wantInvalid(t, p, same(3), api.ErrArm)
		wantInvalid(t, p[:0], same(3), api.ErrMany)
	}
	wantInvalid(t, []api.Phase{}, []api.Slot{}, api.ErrMany)
	wantInvalid(t, always(simple(1, 1)), []api.Slot{}, api.ErrMany)
}

// behind returns what is behind the elements of the arguments of TestArguments.
func behind() []int { return []int{1, 0, -7, 1 << 40} }

// held is arguments with more memory behind them.
func held(a trial) trial {
	b := trial{slices.Clone(a.p), slices.Concat(a.x, []api.Slot{{Site: 1, Stratum: 1}, {Site: -1}})[:len(a.x)]}
	for i, phase := range b.p {
		d := phase.Design
		d.Ratio, d.Sizes = slices.Concat(d.Ratio, behind())[:len(d.Ratio)], slices.Concat(d.Sizes, behind())[:len(d.Sizes)]
		b.p[i].Design = d
	}
	b.p = append(b.p, phase(7, simple(1, 1)), api.Phase{})[:len(b.p)]
	return b
}

// inMemory returns everything that is in the memory of arguments.
func inMemory(a trial, l []int) []any {
	all := []any{slices.Clone(a.x[:cap(a.x)]), slices.Clone(l[:cap(l)])}
	for _, phase := range a.p[:cap(a.p)] {
		d := phase.Design
		all = append(all, phase.From, d.Kind, slices.Clone(d.Ratio[:cap(d.Ratio)]), slices.Clone(d.Sizes[:cap(d.Sizes)]), d.Add, d.Coin)
	}
	return all
}

// overwrite changes everything that is in the memory of results.
func overwrite(results []any) {
	numbers := func(l []int) {
		for i := range l[:cap(l)] {
			l[:cap(l)][i] = math.MinInt + i
		}
	}
	digits := func(c api.Ratio) {
		for _, l := range [][]uint32{c.N.D, c.D.D} {
			for i := range l[:cap(l)] {
				l[:cap(l)][i] = 99
			}
		}
	}
	for _, result := range results {
		switch l := result.(type) {
		case []int:
			numbers(l)
		case api.Ratio:
			digits(l)
		case []api.Ratio:
			for i := range l[:cap(l)] {
				digits(l[:cap(l)][i])
				l[:cap(l)][i] = api.Ratio{}
			}
		case []api.Course:
			for i, c := range l[:cap(l)] {
				numbers(c.Arms)
				digits(c.Chance)
				l[:cap(l)][i] = api.Course{}
			}
		}
	}
}

// TestArguments has arguments with more memory behind them, which is neither read nor written, and which are the same after each call, and after results were overwritten: R3.
func TestArguments(t *testing.T) {
	all := append(trials(), trial{always(simple(1, 9)), same(3)}, trial{[]api.Phase{phase(0, urns(1, 1, 1, 1)), phase(1, simple(1, 1))}, same(3)}, trial{always(urns(1, 1, 1)), badSlot()})
	for i, a := range all {
		if i%3 > 0 && i < len(all)-10 {
			continue
		}
		for _, l := range [][]int{nil, {0}, {1, 0}, {0, 0, 1}, make([]int, len(a.x)), make([]int, len(a.x)+1), {-1}} {
			b, more := held(a), slices.Concat(l, behind())[:len(l)]
			before, want := inMemory(b, more), everything(a.p, a.x, "x", l)
			got := everything(b.p, b.x, "x", more)
			if !reflect.DeepEqual(got, want) {
				t.Fatalf("the trial %d: %v; with more memory behind the arguments %v", i, want, got)
			}
			overwrite(got)
			if !reflect.DeepEqual(inMemory(b, more), before) {
				t.Fatalf("the trial %d: an argument was changed", i)
			}
		}
	}
}

// badSlot returns slots one of which is not permitted.
func badSlot() []api.Slot { return []api.Slot{{}, {Stratum: 8}, {}} }

// TestResultsShareNothing has results that are overwritten, one after the other; neither other parts of the same result nor later ones change: R3.
func TestResultsShareNothing(t *testing.T) {
	for i, a := range trials() {
		if i%3 > 0 {
			continue
		}
		for _, l := range [][]int{nil, {0}, {0, 1}} {
			want := everything(a.p, a.x, "x", l)
			for range 2 {
				overwrite(everything(a.p, a.x, "x", l))
			}
			if again := everything(a.p, a.x, "x", l); !reflect.DeepEqual(again, want) {
				t.Fatalf("the trial %d: %v; after overwriting results %v", i, want, again)
			}
		}
		wantOwnParts(t, a)
	}
}

// wantOwnParts overwrites each part of a result alone, and checks the others.
func wantOwnParts(t *testing.T, a trial) {
	t.Helper()
	all, _ := run.All(a.p, a.x)
	for i, c := range all {
		others := slices.Concat(all[:i], all[i+1:])
		before := textsOf(others)
		overwrite([]any{c.Arms, c.Chance})
		if !slices.Equal(textsOf(others), before) {
			t.Fatalf("%s: a course shares memory with another one", named("All", a.p, a.x))
		}
	}
	odds, _ := run.Odds(a.p, a.x, nil)
	for i := range odds {
		others := slices.Concat(odds[:i], odds[i+1:])
		before := texts(others)
		overwrite([]any{odds[i]})
		if !slices.Equal(texts(others), before) {
			t.Fatalf("%s: numbers share memory", named("Odds", a.p, a.x))
		}
	}
	choices, arms, _ := run.Drawn(a.p, a.x, "x")
	before := slices.Clone(choices)
	overwrite([]any{arms})
	if !slices.Equal(choices, before) {
		t.Fatalf("%s: choices and arms share memory", named("Drawn", a.p, a.x))
	}
}

// textsOf returns courses as text.
func textsOf(l []api.Course) []string {
	var s []string
	for _, c := range l {
		s = append(s, named(ratio.Text(c.Chance), c.Arms))
	}
	return s
}

// TestSameCalls has the same calls again, in another order: R4.
func TestSameCalls(t *testing.T) {
	all := append(trials(), trial{always(simple(1, 9)), same(3)}, trial{always(urns(1, 1, 1)), badSlot()})
	var first [][]any
	for i, a := range all {
		first = append(first, everything(a.p, a.x, seeds()[i%7], []int{0, 1}[:i%3]))
	}
	for i, a := range slices.Backward(all) {
		if again := everything(a.p, a.x, seeds()[i%7], []int{0, 1}[:i%3]); !reflect.DeepEqual(again, first[i]) {
			t.Errorf("the trial %d: %v, and then %v", i, first[i], again)
		}
	}
}
