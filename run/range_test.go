package run

import (
	"testing"

	"equipoise/api"
	"equipoise/design"
	"equipoise/num"
	"equipoise/ratio"
)

// In 400 places no probability becomes too long: its denominator has at most 16 bits for each place, and 256 digits are 8192 bits. So these tests begin with entries whose probabilities are long already.

// power returns 1 / n^k.
func power(t *testing.T, n, k int) api.Ratio {
	t.Helper()
	d, ok := num.Pow(num.Of(n), k)
	c, fine := ratio.Of(num.Of(1), d)
	if !ok || !fine {
		t.Fatal("no number", n, k)
	}
	return c
}

// ends returns fractions so long that half of the first one is too long, while that of the second one is not, but their sum is.
func ends(t *testing.T) (first, second api.Ratio) {
	t.Helper()
	return power(t, 2, 8191), power(t, 3, 5167)
}

// coin returns a phase in which two arms have the probability 1/2 each, a third of the three arms the probability 0, and n slots.
func coin(n int) ([]api.Phase, []api.Slot) {
	return []api.Phase{{Design: api.Design{Kind: api.DeSimple, Ratio: []int{1, 1, 0}}}}, make([]api.Slot, n)
}

// wantErr checks an error, with which there is nothing else.
func wantErr(t *testing.T, got, want api.Errno, size int) {
	t.Helper()
	if got != want || size != 0 {
		t.Errorf("%d, with %d elements; want %d", got, size, want)
	}
}

// TestLongProduct has products that are too long: P11.3, P11.4, P11.6.
func TestLongProduct(t *testing.T) {
	long, shorter := ends(t)
	p, x := coin(2)
	for _, chance := range []api.Ratio{long, shorter} {
		start := entry{state: design.Start(), chance: chance}
		e, err := start.followed(p, x, []int{0})
		fits := ratio.Cmp(chance, shorter) == 0
		if fits != (err == api.OK) || !fits && (err != api.ErrRange || e.arms != "" || len(e.state.Rows) != 0) {
			t.Errorf("followed: %d, %v", err, e.arms)
		}
		_, err = start.followed(p, x, []int{2})
		wantErr(t, err, api.ErrArg, 0)
		table := table{index: map[met]int{}}
		err = table.grow(start, reached(p, x, 0, start.state), anyArm)
		if fits != (err == api.OK) || !fits && (err != api.ErrRange || len(table.entries) != 0) {
			t.Errorf("grow: %d, %d entries", err, len(table.entries))
		}
	}
}

// TestFirstLongProduct has products of which a later one is too long: P11.3.
func TestFirstLongProduct(t *testing.T) {
	p, x := coin(3)
	for n, want := range []api.Errno{api.OK, api.OK, api.ErrRange, api.ErrRange} {
		start := entry{state: design.Start(), chance: power(t, 2, 8190)}
		_, err := start.followed(p, x, make([]int, n))
		wantErr(t, err, want, 0)
		_, err = start.followed(p, x, append(make([]int, n), 2)[:min(3, n+1)]) // what is no index is found at its place only
		wantErr(t, err, []api.Errno{api.ErrArg, api.ErrArg, api.ErrRange, api.ErrRange}[n], 0)
	}
}

// TestLongSum has entries whose probabilities cannot be added: P11.4, P11.5, P11.6.
func TestLongSum(t *testing.T) {
	long, shorter := ends(t)
	p, x := coin(1)
	l := []entry{{state: design.Start(), chance: long}, {state: design.Start(), chance: shorter}}
	sum, err := together(l)
	wantErr(t, err, api.ErrRange, len(sum.N.D)+len(sum.D.D))
	chances, err := odds(p, x, l, 0)
	wantErr(t, err, api.ErrRange, len(chances))
	all, err := courses(l)
	wantErr(t, err, api.ErrRange, len(all))
	table := table{index: map[met]int{}}
	wantErr(t, table.add(l[0]), api.OK, 0)
	wantErr(t, table.add(l[1]), api.ErrRange, 0)
	l[1].arms = "\x01"
	all, err = courses(l)
	wantErr(t, err, api.OK, len(all)-2)
	wantErr(t, table.add(l[1]), api.OK, len(table.entries)-2)
}

// TestRangeOrWork has an entry that is one too many, which can still be joined: P11.4, P11.6.
func TestRangeOrWork(t *testing.T) {
	table := table{index: map[met]int{}}
	for i := range api.MaxStates {
		s := design.Start()
		s.Rows[0] = []int{i}
		wantErr(t, table.add(entry{state: s, chance: power(t, 4001, 1)}), api.OK, 0)
	}
	long, _ := ends(t)
	s := design.Start()
	s.Rows[0] = []int{api.MaxStates - 1}
	wantErr(t, table.add(entry{state: s, chance: long}), api.ErrRange, 0)
	wantErr(t, table.add(entry{state: s, chance: power(t, 4001, 2)}), api.OK, 0)
	wantErr(t, table.add(entry{arms: "\x00", state: s, chance: long}), api.ErrWork, 0)
	if last := table.entries[api.MaxStates-1].chance; ratio.Text(last) != "4002/16008001" {
		t.Error("the last entry has", ratio.Text(last))
	}
	p, x := coin(1)
	wantErr(t, table.grow(entry{state: s, chance: long}, reached(p, x, 0, s), anyArm), api.ErrRange, 0)
	wantErr(t, table.grow(entry{state: s, chance: ratio.Int(1)}, reached(p, x, 0, s), anyArm), api.ErrWork, 0)
}

// TestLongOdds has probabilities whose sum fits, while those with a choice, or the quotients, do not: P11.5.
func TestLongOdds(t *testing.T) {
	long, shorter := ends(t)
	p, x := coin(1)
	l, err := odds(p, x, []entry{{state: design.Start(), chance: long}}, 0)
	wantErr(t, err, api.ErrRange, len(l))
	l, err = odds(p, x, []entry{{state: design.Start(), chance: shorter}}, 0)
	if err != api.OK || len(l) != 3 || ratio.Text(l[0]) != "1/2" || ratio.Text(l[1]) != "1/2" || ratio.Text(l[2]) != "0" {
		t.Error("the odds do not depend on how probable the arms before are", err, l)
	}
}

// TestLongQuotient has a quotient that is too long, though what is divided is not: P11.5.
func TestLongQuotient(t *testing.T) {
	p := []api.Phase{{Design: api.Design{Kind: api.DeBlock, Ratio: []int{1, 2}, Sizes: []int{1}}}}
	third, none := design.Start(), design.Start()
	third.Rows[0], none.Rows[0] = []int{1, 2}, []int{0, 1} // a third of the places left are of the arm 0, and none
	for k, want := range map[int]api.Errno{8188: api.OK, 8191: api.ErrRange} {
		great, ok := ratio.Div(ratio.Int(1), power(t, 2, k)) // no probability, so that the divisor is longer than both parts of the dividend
		if !ok {
			t.Fatal("no number", k)
		}
		l, err := odds(p, make([]api.Slot, 1), []entry{{state: third, chance: great}, {state: none, chance: ratio.Int(1)}}, 0)
		if err != want || len(l) != 2 && want == api.OK || len(l) != 0 && want != api.OK {
			t.Errorf("2^%d: %d, %d numbers", k, err, len(l))
		}
	}
}
