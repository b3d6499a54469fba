package run_test

import (
	"fmt"
	"math"
	"math/big"
	"reflect"
	"slices"
	"testing"

	"equipoise/api"
	"equipoise/design"
	"equipoise/ratio"
	"equipoise/run"
)

// The model follows the words of the chapter, and calls nothing of the package; its probabilities are those of math/big.

// simple returns a design that draws by the ratio.
func simple(weights ...int) api.Design {
	return api.Design{Kind: api.DeSimple, Ratio: weights}
}

// blocks returns a design with blocks.
func blocks(sizes []int, weights ...int) api.Design {
	return api.Design{Kind: api.DeBlock, Ratio: weights, Sizes: sizes}
}

// urns returns a design with urns.
func urns(add int, weights ...int) api.Design {
	return api.Design{Kind: api.DeUrn, Ratio: weights, Add: add}
}

// coins returns a design with the coin n/d.
func coins(n, d int, weights ...int) api.Design {
	return api.Design{Kind: api.DeCoin, Ratio: weights, Coin: api.Frac{N: n, D: d}}
}

// phase returns a phase.
func phase(from int, d api.Design) api.Phase { return api.Phase{From: from, Design: d} }

// always returns the only phase of a design.
func always(d api.Design) []api.Phase { return []api.Phase{phase(0, d)} }

// same returns n slots of the same site and stratum.
func same(n int) []api.Slot { return make([]api.Slot, n) }

// spread returns n slots of several sites and strata.
func spread(n, sites, strata int) []api.Slot {
	l := make([]api.Slot, n)
	for k := range l {
		l[k] = api.Slot{Site: (5*k + 11) % sites, Stratum: (k*k + k/3 + 7) % strata}
	}
	return l
}

// trial is the arguments of all calls.
type trial struct {
	p []api.Phase
	x []api.Slot
}

// kinds returns designs of all kinds; each list has two of each kind that differ, and that go on with the same arms.
func kinds() [][]api.Design {
	return [][]api.Design{
		{simple(1, 2), simple(3, 1), blocks([]int{1, 2}, 1, 1), blocks([]int{1}, 2, 1), urns(1, 1, 2), urns(0, 2, 1), coins(2, 3, 1, 1), coins(1, 1, 1, 2)},
		{simple(2, 0, 1), simple(1, 1, 1), blocks([]int{1, 3}, 0, 1, 1), blocks([]int{2}, 1, 0, 1), urns(2, 1, 0, 2), urns(2, 1, 3, 0), coins(3, 4, 1, 2, 0), coins(1, 2, 1, 1, 2)},
	}
}

// trials returns trials of few places: with designs of all kinds alone, after each other, with the same arms and with more, and in many phases.
func trials() []trial {
	var l []trial
	two, three := kinds()[0], kinds()[1]
	for i, d := range slices.Concat(two, three) {
		l = append(l, trial{always(d), same(1)}, trial{always(d), same(4)}, trial{always(d), spread(4, 2, 2)}, trial{always(d), spread(4, 12, 8)})
		l = append(l, trial{[]api.Phase{phase(0, d), phase(i%3+1, d)}, spread(4, 1, 2)})
	}
	for i, d := range two {
		for j, e := range slices.Concat(two, three) {
			l = append(l, trial{[]api.Phase{phase(0, d), phase(1+(i+j)%3, e)}, spread(4, 2, 2)})
		}
	}
	for i, d := range three {
		for j, e := range three {
			l = append(l, trial{[]api.Phase{phase(0, d), phase(1+(i+j)%3, e)}, spread(4, 3, 1)})
			l = append(l, trial{[]api.Phase{phase(0, two[i]), phase(1, d), phase(2+i%2, e), phase(4+j%2, d)}, spread(4, 1, 1)})
		}
	}
	return append(l, limits()...)
}

// limits returns trials of few places with as many phases as permitted, and with phases that begin at the last place, behind it, and nowhere.
func limits() []trial {
	var many []api.Phase
	for i := range 13 {
		many = append(many, phase(i, []api.Design{urns(i%9, 1, 1, 1), coins(2, 3, 1, 1, 1), blocks([]int{1, 2}, 1, 1, 1), simple(1, 2, 0)}[i/4]))
	}
	d, e := urns(3, 1, 1), urns(3, 2, 1, 2)
	return []trial{
		{many, spread(5, 2, 2)},
		{[]api.Phase{phase(0, d), phase(4, e)}, same(5)},
		{[]api.Phase{phase(0, d), phase(5, e)}, same(5)},
		{[]api.Phase{phase(0, d), phase(3, e), phase(math.MaxInt, d)}[:2], same(4)},
		{[]api.Phase{phase(0, d), phase(math.MaxInt, e)}, same(4)},
		{[]api.Phase{phase(0, simple(1, 1)), phase(1, simple(1, 1, 1)), phase(2, simple(0, 0, 1, 1)), phase(3, simple(1, 0, 0, 0, 3)), phase(4, simple(1, 1, 1, 1, 1, 1))}, same(5)},
		{[]api.Phase{phase(0, urns(2, 1, 1)), phase(1, urns(2, 1, 1, 4)), phase(2, urns(0, 0, 0, 1, 1)), phase(4, urns(1, 1, 1, 0, 0, 3, 2))}, same(5)},
	}
}

// far returns numbers that are permitted nowhere.
func far() []int {
	return []int{math.MinInt, math.MinInt + 1, -1 << 32, -2, -1, 1 << 32, 1<<62 + 1, math.MaxInt - 1, math.MaxInt}
}

// errorOf returns the first error of phases and slots.
func errorOf(p []api.Phase, x []api.Slot) api.Errno {
	if len(x) == 0 || len(x) > 400 || len(p) == 0 || len(p) > 13 {
		return api.ErrMany
	}
	for i := range p {
		if i == 0 && p[i].From != 0 || i > 0 && p[i].From <= p[i-1].From {
			return api.ErrOrder
		}
	}
	for i, phase := range p {
		if i > 0 && len(phase.Design.Ratio) < len(p[i-1].Design.Ratio) {
			return api.ErrArm
		}
		if err := design.Check(phase.Design, len(phase.Design.Ratio)); err != api.OK {
			return err
		}
	}
	for _, slot := range x {
		if slot.Site < 0 || slot.Site > 11 {
			return api.ErrSite
		}
		if slot.Stratum < 0 || slot.Stratum > 7 {
			return api.ErrStratum
		}
	}
	return api.OK
}

// designAt returns the design that holds at a place.
func designAt(p []api.Phase, k int) api.Design {
	var d api.Design
	for _, phase := range p {
		if phase.From <= k {
			d = phase.Design
		}
	}
	return d
}

// stateAt returns the state at a place, after the state s.
func stateAt(p []api.Phase, k int, s api.State) api.State {
	for i := 1; i < len(p); i++ {
		if p[i].From == k {
			return design.Carry(p[i-1].Design, s, p[i].Design)
		}
	}
	return s
}

// path is some courses of the first places: the indices of the choices of one of them, their arms, the state after them, and how probable they are.
type path struct {
	choices, arms []int
	state         api.State
	chance        *big.Rat
}

// before is the only path of no places.
func before() path { return path{state: design.Start(), chance: big.NewRat(1, 1)} }

// longer returns the paths that have a choice more than a, at the place k.
func (a path) longer(p []api.Phase, x []api.Slot, k int) []path {
	var l []path
	d, s := designAt(p, k), stateAt(p, k, a.state)
	choices, total := design.Choices(d, s, x[k]), 0
	for _, c := range choices {
		total += c.Weight
	}
	for i, c := range choices {
		after, ok := design.Next(d, s, x[k], c)
		if !ok {
			panic(fmt.Sprint("no state after ", d, s, x[k], c))
		}
		part := big.NewRat(int64(c.Weight), int64(total))
		l = append(l, path{append(slices.Clone(a.choices), i), append(slices.Clone(a.arms), c.Arm), after, part.Mul(part, a.chance)})
	}
	return l
}

// pathsOf returns all paths of the first n places.
func pathsOf(p []api.Phase, x []api.Slot, n int) []path {
	l := []path{before()}
	for k := range n {
		var longer []path
		for _, a := range l {
			longer = append(longer, a.longer(p, x, k)...)
		}
		l = longer
	}
	return l
}

// joinedFor returns the paths with these arms; those with the same state are joined to one. It returns how many there are after each place, too.
func joinedFor(p []api.Phase, x []api.Slot, arms []int) ([]path, []int) {
	l, counts := []path{before()}, []int{}
	for k, arm := range arms {
		var longer []path
		index := map[string]int{}
		for _, a := range l {
			for _, b := range a.longer(p, x, k) {
				key := fmt.Sprint(b.state.Rows)
				at, ok := index[key]
				switch {
				case b.arms[k] != arm:
				case ok:
					longer[at].chance.Add(longer[at].chance, b.chance)
				default:
					index[key] = len(longer)
					longer = append(longer, b)
				}
			}
		}
		l = longer
		counts = append(counts, len(l))
	}
	return l, counts
}

// chanceOf returns the sum of the probabilities of those paths that begin with these arms.
func chanceOf(l []path, arms []int) *big.Rat {
	sum := new(big.Rat)
	for _, a := range l {
		if len(a.arms) >= len(arms) && slices.Equal(a.arms[:len(arms)], arms) {
			sum.Add(sum, a.chance)
		}
	}
	return sum
}

// armsOf returns the different arms of paths, in lexicographic order.
func armsOf(l []path) [][]int {
	var all [][]int
	for _, a := range l {
		all = append(all, a.arms)
	}
	slices.SortFunc(all, slices.Compare[[]int])
	return slices.CompactFunc(all, slices.Equal[[]int])
}

// oddsOf returns the probabilities of the arms at the place after those of paths.
func oddsOf(p []api.Phase, x []api.Slot, l []path) []string {
	k := len(l[0].arms)
	all := new(big.Rat)
	sums := make([]*big.Rat, len(designAt(p, k).Ratio))
	for arm := range sums {
		sums[arm] = new(big.Rat)
	}
	for _, a := range l {
		all.Add(all, a.chance)
		for _, b := range a.longer(p, x, k) {
			sums[b.arms[k]].Add(sums[b.arms[k]], b.chance)
		}
	}
	var odds []string
	for _, sum := range sums {
		odds = append(odds, sum.Quo(sum, all).RatString())
	}
	return odds
}

// texts returns fractions as text.
func texts(l []api.Ratio) []string {
	var s []string
	for _, a := range l {
		s = append(s, ratio.Text(a))
	}
	return s
}

// sumOf returns the sum of fractions as text.
func sumOf(l ...api.Ratio) string {
	sum, _ := ratio.Sum(l)
	return ratio.Text(sum)
}

// isZero reports whether a fraction is the zero value.
func isZero(a api.Ratio) bool {
	return !a.N.Neg && !a.D.Neg && len(a.N.D) == 0 && len(a.D.D) == 0
}

// named returns a call as text.
func named(call string, args ...any) string { return fmt.Sprintf("%s of %+v", call, args) }

// wantCheck checks the error of phases and slots.
func wantCheck(t *testing.T, p []api.Phase, x []api.Slot, want api.Errno) {
	t.Helper()
	if got := run.Check(p, x); got != want {
		t.Errorf("%s: %d; want %d", named("Check", p, x), got, want)
	}
}

// wantInvalid checks that all calls return the error of Check, and nothing else, whatever is wrong with their other arguments.
func wantInvalid(t *testing.T, p []api.Phase, x []api.Slot, want api.Errno) {
	t.Helper()
	wantCheck(t, p, x, want)
	for _, seed := range []string{"x", ""} {
		wantNotDrawn(t, p, x, seed, want)
	}
	for _, l := range [][]int{nil, {0}, {-1}, slices.Repeat([]int{0}, 401)} {
		wantNotFollowed(t, p, x, l, want)
		wantNoChance(t, p, x, l, want)
		wantNoOdds(t, p, x, l, want)
	}
	wantNotAll(t, p, x, want)
}

// wantDrawn checks what a seed draws.
func wantDrawn(t *testing.T, p []api.Phase, x []api.Slot, seed string, choices, arms []int) {
	t.Helper()
	if gotChoices, gotArms, err := run.Drawn(p, x, seed); err != api.OK || !slices.Equal(gotChoices, choices) || !slices.Equal(gotArms, arms) {
		t.Errorf("%s: %v, %v, %d; want %v, %v", named("Drawn", p, x, seed), gotChoices, gotArms, err, choices, arms)
	}
}

// wantNotDrawn checks that nothing is drawn.
func wantNotDrawn(t *testing.T, p []api.Phase, x []api.Slot, seed string, want api.Errno) {
	t.Helper()
	if choices, arms, err := run.Drawn(p, x, seed); err != want || len(choices) != 0 || len(arms) != 0 {
		t.Errorf("%s: %v, %v, %d; want nothing, and %d", named("Drawn", p, x, seed), choices, arms, err, want)
	}
}

// wantFollow checks the arms and the probability of choices.
func wantFollow(t *testing.T, p []api.Phase, x []api.Slot, choices, arms []int, chance string) {
	t.Helper()
	if gotArms, got, err := run.Follow(p, x, choices); err != api.OK || !slices.Equal(gotArms, arms) || ratio.Text(got) != chance {
		t.Errorf("%s: %v, %s, %d; want %v, %s", named("Follow", p, x, choices), gotArms, ratio.Text(got), err, arms, chance)
	}
}

// wantNotFollowed checks that choices are refused.
func wantNotFollowed(t *testing.T, p []api.Phase, x []api.Slot, choices []int, want api.Errno) {
	t.Helper()
	if arms, chance, err := run.Follow(p, x, choices); err != want || len(arms) != 0 || !isZero(chance) {
		t.Errorf("%s: %v, %v, %d; want nothing, and %d", named("Follow", p, x, choices), arms, chance, err, want)
	}
}

// wantChance checks the probability of arms.
func wantChance(t *testing.T, p []api.Phase, x []api.Slot, arms []int, want string) {
	t.Helper()
	if got, err := run.Chance(p, x, arms); err != api.OK || ratio.Text(got) != want {
		t.Errorf("%s: %s, %d; want %s", named("Chance", p, x, arms), ratio.Text(got), err, want)
	}
}

// wantNoChance checks that there is no probability of arms.
func wantNoChance(t *testing.T, p []api.Phase, x []api.Slot, arms []int, want api.Errno) {
	t.Helper()
	if got, err := run.Chance(p, x, arms); err != want || !isZero(got) {
		t.Errorf("%s: %v, %d; want nothing, and %d", named("Chance", p, x, arms), got, err, want)
	}
}

// wantOdds checks the probabilities of the arms at the next place.
func wantOdds(t *testing.T, p []api.Phase, x []api.Slot, arms []int, want ...string) {
	t.Helper()
	if got, err := run.Odds(p, x, arms); err != api.OK || !slices.Equal(texts(got), want) {
		t.Errorf("%s: %v, %d; want %v", named("Odds", p, x, arms), texts(got), err, want)
	}
}

// wantNoOdds checks that there are no probabilities of the arms at the next place.
func wantNoOdds(t *testing.T, p []api.Phase, x []api.Slot, arms []int, want api.Errno) {
	t.Helper()
	if got, err := run.Odds(p, x, arms); err != want || len(got) != 0 {
		t.Errorf("%s: %v, %d; want nothing, and %d", named("Odds", p, x, arms), got, err, want)
	}
}

// course is the arms of all places and their probability, as text.
type course struct {
	arms   []int
	chance string
}

// wantAll checks all courses.
func wantAll(t *testing.T, p []api.Phase, x []api.Slot, want ...course) {
	t.Helper()
	l, err := run.All(p, x)
	var got []course
	for _, c := range l {
		got = append(got, course{slices.Clone(c.Arms), ratio.Text(c.Chance)})
	}
	if err != api.OK || !reflect.DeepEqual(got, want) {
		t.Errorf("%s: %v, %d; want %v", named("All", p, x), got, err, want)
	}
}

// wantNotAll checks that the courses are refused.
func wantNotAll(t *testing.T, p []api.Phase, x []api.Slot, want api.Errno) {
	t.Helper()
	if got, err := run.All(p, x); err != want || len(got) != 0 {
		t.Errorf("%s: %d courses, %d; want nothing, and %d", named("All", p, x), len(got), err, want)
	}
}
