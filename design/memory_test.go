package design_test

import (
	"math"
	"reflect"
	"slices"
	"testing"

	"equipoise/api"
	"equipoise/design"
)

// TestEndsWithoutPanic calls everything with all sorts of arguments: P1.
func TestEndsWithoutPanic(t *testing.T) {
	far := append(farNumbers(), 0, 1, 2, 7, 8, 11, 12, 20)
	l := slices.Concat(designs()[:12], badDesigns(), []api.Design{
		{Kind: api.DeSimple, Ratio: make([]int, 1<<16)}, urns(8, make([]int, 1<<10)...), coins(2, 3, slices.Repeat([]int{math.MaxInt}, 1<<10)...), blocks(slices.Repeat([]int{math.MaxInt}, 1<<16), 1, 1),
		urns(8, far...), coins(1, 2, far...), simple(far...), blocks(far, far...),
	})
	all := append(oddStates(2), states(2)...)
	for _, row := range [][]int{far, slices.Repeat([]int{math.MaxInt}, 3), slices.Repeat([]int{math.MinInt}, 2), {math.MaxInt, 1}, make([]int, 1<<10)} {
		all = append(all, api.State{Rows: slices.Repeat([][]int{row}, 20)}, api.State{Rows: [][]int{row}}, with(empty(), 0, row...))
	}
	for i, d := range l {
		for k, s := range all {
			x := api.Slot{Site: far[(i+k)%len(far)], Stratum: far[(3*i+k)%len(far)]}
			for _, at := range []api.Slot{x, {}} {
				design.Choices(d, s, at)
				for _, c := range []api.Choice{{}, {Weight: 1}, {Weight: 1, Arm: far[k%len(far)]}, {Weight: far[k%len(far)], Size: far[i%len(far)], Arm: 1}} {
					design.Next(d, s, at, c)
				}
			}
			design.Carry(d, s, l[(7*i+k)%len(l)])
			design.Carry(d, s, d)
			design.Key(s)
		}
		for _, n := range far {
			design.Check(d, n)
		}
		design.Same(d, l[(5*i)%len(l)])
	}
	for _, n := range far {
		design.Chance(choices(slices.Repeat([]triple{{n, n, n}}, 100)...), n)
	}
}

// TestNilAndEmpty has the forms of what has no elements: R1.
func TestNilAndEmpty(t *testing.T) {
	x := api.Slot{Site: 11, Stratum: 7}
	for _, none := range [][]int{nil, {}, []int{5, 5}[:0]} {
		s := api.State{Rows: slices.Repeat([][]int{none}, 20)}
		for _, d := range designs() {
			e := d
			if d.Kind != api.DeBlock {
				e.Sizes = none
			}
			wantCheck(t, e, len(e.Ratio), api.OK)
			l := choicesOf(d, empty(), x)
			wantChoices(t, e, s, x, l...)
			for _, c := range l {
				want, _ := nextOf(d, empty(), x, c)
				wantNext(t, e, s, x, c, want)
			}
			wantCarry(t, e, s, d, empty())
			wantSame(t, d, e, true)
		}
		if key := design.Key(s); key != design.Key(design.Start()) {
			t.Errorf("Key of empty rows: % d", []byte(key))
		}
		e := simple(none...)
		wantCheck(t, e, 0, api.ErrArm)
		wantChoices(t, e, s, x)
		wantNoNext(t, e, s, x, api.Choice{})
	}
}

// tail is behind the elements of the arguments of TestArguments.
func tail() []int { return []int{7, -7, 1, 0, 7, 7, 1} }

// longer returns a state whose rows have more memory behind them.
func longer(s api.State) api.State {
	l := make([][]int, 0, len(s.Rows)+2)
	for _, row := range s.Rows {
		l = append(l, slices.Concat(row, tail())[:len(row)])
	}
	return api.State{Rows: append(l, tail(), tail())[:len(l)]}
}

// behind returns everything that is in the memory of a state.
func behind(s api.State) [][]int {
	var l [][]int
	for _, row := range s.Rows[:cap(s.Rows)] {
		l = append(l, slices.Clone(row[:cap(row)]))
	}
	return l
}

// longDesign returns a design with more memory behind its lists.
func longDesign(d api.Design) api.Design {
	d.Ratio, d.Sizes = slices.Concat(d.Ratio, tail())[:len(d.Ratio)], slices.Concat(d.Sizes, tail())[:len(d.Sizes)]
	return d
}

// inMemory returns everything that is in the memory of a design.
func inMemory(d api.Design) []any {
	return []any{d.Kind, slices.Clone(d.Ratio[:cap(d.Ratio)]), slices.Clone(d.Sizes[:cap(d.Sizes)]), d.Add, d.Coin}
}

// TestArguments has arguments with more memory behind them, which is neither read nor written, and which are the same after each call: R3.
func TestArguments(t *testing.T) {
	l := append(designs(), badDesigns()[:30]...)
	for i, d := range l {
		e := l[(11*i+4)%len(l)]
		n := max(1, len(d.Ratio))
		for _, s := range slices.Concat(states(n), oddStates(n)[:8], []api.State{{Rows: slices.Repeat([][]int{badRows(n)[0]}, 20)}}) {
			given, other, held := longDesign(d), longDesign(e), longer(s)
			before := []any{inMemory(given), inMemory(other), behind(held)}
			wantCheck(t, given, len(d.Ratio), errorOf(d, len(d.Ratio)))
			for _, x := range append(ends()[:3], badSlots()[0]) {
				choices := choicesOf(d, s, x)
				wantChoices(t, given, held, x, choices...)
				for _, c := range append(choices, api.Choice{Weight: 3}) {
					wantDraw(t, given, held, x, c)
				}
				drawn := slices.Concat(choices, []api.Choice{{Weight: 9}})
				drawn = drawn[:len(choices)]
				design.Chance(drawn, 0)
				if !slices.Equal(drawn, choices) || drawn[:len(choices)+1][len(choices)].Weight != 9 {
					t.Errorf("Chance changed %v to %v", choices, drawn)
				}
			}
			wantCarry(t, given, held, other, carryOf(d, s, e))
			wantCarry(t, given, held, given, s)
			wantSame(t, given, other, sameOf(d, e))
			if design.Key(held) != design.Key(s) {
				t.Errorf("%v has another key, if there is more memory behind it", s)
			}
			if !reflect.DeepEqual(before, []any{inMemory(given), inMemory(other), behind(held)}) {
				t.Fatalf("an argument of %+v, %+v, %v was changed", d, e, s)
			}
		}
	}
}

// wantOwn checks that a result is what is wanted, and that none of its rows shares memory with another one, or with what must not change: R3.
func wantOwn(t *testing.T, call string, got, want, argument api.State, again func() api.State) {
	t.Helper()
	before := behind(argument)
	for k := range got.Rows {
		row := got.Rows[k][:cap(got.Rows[k])]
		for i := range row {
			row[i] = math.MinInt + k
		}
	}
	for k, row := range got.Rows {
		if slices.ContainsFunc(row[:cap(row)], func(n int) bool { return n != math.MinInt+k }) {
			t.Errorf("%s: the row %d shares memory with another one", call, k)
		}
	}
	clear(got.Rows[:cap(got.Rows)])
	if !reflect.DeepEqual(before, behind(argument)) {
		t.Errorf("%s: a result shares memory with an argument", call)
	}
	if second := again(); !sameState(second, want) {
		t.Errorf("%s: %v; want %v", call, second, want)
	}
}

// TestResultsShareNothing has results that are overwritten, together with the memory behind them: R3.
func TestResultsShareNothing(t *testing.T) {
	wantOwn(t, "Start", design.Start(), empty(), api.State{}, design.Start)
	for _, d := range designs() {
		for _, s := range states(len(d.Ratio)) {
			held := longer(s)
			for _, x := range ends()[:4] {
				l := design.Choices(d, held, x)
				for _, c := range slices.Clone(l) {
					want, ok := nextOf(d, s, x, c)
					if !ok {
						continue
					}
					next := func() api.State {
						after, _ := design.Next(d, held, x, c)
						return after
					}
					wantOwn(t, named("Next", d, s, x, c), next(), want, held, next)
				}
				clear(l[:cap(l)])
				wantChoices(t, d, held, x, choicesOf(d, s, x)...)
			}
			for _, e := range []api.Design{d, urns(3, 0, 1, 1), urns(3, 1, 1, 1, 1, 1, 1), coins(2, 3, 1, 0, 1), coins(1, 2, 1, 2), simple(3, 3)} {
				carry := func() api.State { return design.Carry(d, held, e) }
				wantOwn(t, named("Carry", d, s, e), carry(), carryOf(d, s, e), held, carry)
			}
		}
	}
}

// TestChanceSharesNothing has probabilities that are overwritten: R3.
func TestChanceSharesNothing(t *testing.T) {
	for _, l := range [][]triple{nil, {{0, 0, 0}}, {{-1, 0, 0}}, {{1, 0, 0}}, {{1, 0, 0}, {2, 0, 1}}} {
		for arm := range 3 {
			first := design.Chance(choices(l...), arm)
			second := design.Chance(choices(l...), arm)
			n, d := slices.Clone(second.N.D), slices.Clone(second.D.D)
			for _, digits := range [][]uint32{first.N.D, first.D.D} {
				for k := range digits[:cap(digits)] {
					digits[:cap(digits)][k] = 99
				}
			}
			if !slices.Equal(second.N.D, n) || !slices.Equal(second.D.D, d) {
				t.Errorf("Chance of %v shares memory", l)
			}
		}
	}
}

// TestSameCalls has the same calls again, in another order: R4.
func TestSameCalls(t *testing.T) {
	var calls []func() []any
	l := append(designs()[:16], badDesigns()[:16]...)
	for i, d := range l {
		for _, s := range []api.State{empty(), states(max(1, len(d.Ratio)))[1], oddStates(2)[2]} {
			x, e := ends()[i%4], l[(i*5+1)%len(l)]
			calls = append(calls,
				func() []any { return []any{design.Check(d, i%7)} },
				func() []any { return []any{design.Choices(d, s, x)} },
				func() []any { return []any{design.Key(s)} },
				func() []any { return []any{design.Carry(d, s, e)} },
				func() []any { return []any{design.Same(d, e)} },
				func() []any { return []any{design.Chance(design.Choices(d, s, x), 1)} },
				func() []any {
					after, ok := design.Next(d, s, x, api.Choice{Weight: 1})
					return []any{after, ok}
				},
			)
		}
	}
	var first [][]any
	for _, f := range calls {
		first = append(first, f())
	}
	for range 2 {
		for i, f := range slices.Backward(calls) {
			if got := f(); !reflect.DeepEqual(got, first[i]) {
				t.Errorf("call %d: %v, and then %v", i, first[i], got)
			}
		}
	}
}
