package design_test

import (
	"math"
	"math/big"
	"math/rand"
	"testing"

	"equipoise/api"
	"equipoise/design"
	"equipoise/ratio"
)

// wantChance checks a probability, which has to be right.
func wantChance(t *testing.T, l []api.Choice, arm int, want string) {
	t.Helper()
	got := design.Chance(l, arm)
	if text := ratio.Text(got); text != want || !ratio.Right(got) {
		t.Errorf("%s: %s; want %s", named("Chance", l, arm), text, want)
	}
}

// TestChanceExamples has the table of the chapter: P10.5.
func TestChanceExamples(t *testing.T) {
	l := design.Choices(simple(2, 0, 1), design.Start(), api.Slot{})
	wantChance(t, l, 0, "2/3")
	wantChance(t, l, 1, "0")
	wantChance(t, l, 2, "1/3")
}

// TestChanceOfLists has arms with several choices, with one, and with none, weights of 0, negative ones, and sums of 0: P10.5.
func TestChanceOfLists(t *testing.T) {
	for _, x := range []struct {
		l    []triple
		arm  int
		want string
	}{
		{nil, 0, "0"},
		{[]triple{}, 0, "0"},
		{nil, -1, "0"},
		{[]triple{{1, 0, 0}}, 0, "1"},
		{[]triple{{1, 0, 0}}, 1, "0"},
		{[]triple{{0, 0, 0}}, 0, "0"},
		{[]triple{{0, 0, 0}, {0, 0, 1}}, 1, "0"},
		{[]triple{{0, 0, 0}, {5, 0, 1}}, 0, "0"},
		{[]triple{{0, 0, 0}, {5, 0, 1}}, 1, "1"},
		{[]triple{{2, 1, 0}, {1, 1, 2}, {2, 2, 0}, {1, 2, 2}}, 0, "2/3"},
		{[]triple{{2, 1, 0}, {1, 1, 2}, {2, 2, 0}, {1, 2, 2}}, 1, "0"},
		{[]triple{{2, 1, 0}, {1, 1, 2}, {2, 2, 0}, {1, 2, 2}}, 2, "1/3"},
		{[]triple{{3, 0, 1}, {3, 0, 1}, {4, 7, 1}, {5, 0, 0}}, 1, "2/3"},
		{[]triple{{3, 0, 1}, {0, 0, 1}, {9, 0, 0}}, 1, "1/4"},
		{[]triple{{-1, 0, 0}, {2, 0, 1}}, 0, "0"},
		{[]triple{{-1, 0, 0}, {2, 0, 1}}, 1, "0"},
		{[]triple{{2, 0, 1}, {3, 0, 2}, {-1, 0, 0}}, 1, "0"},
		{[]triple{{2, 0, 1}, {3, 0, 2}, {-1, 0, 1}}, 1, "0"},
		{[]triple{{-1, 0, 1}, {1, 0, 1}}, 1, "0"},
		{[]triple{{-2, 0, 1}, {-1, 0, 0}}, 1, "0"},
		{[]triple{{-5, 0, 3}}, 3, "0"},
		{[]triple{{2, 0, -7}, {3, 0, math.MinInt}, {1, 0, math.MaxInt}}, -7, "1/3"},
		{[]triple{{2, 0, -7}, {3, 0, math.MinInt}, {1, 0, math.MaxInt}}, math.MinInt, "1/2"},
		{[]triple{{2, 0, -7}, {3, 0, math.MinInt}, {1, 0, math.MaxInt}}, math.MaxInt, "1/6"},
		{[]triple{{1, -9, 0}, {1, 99, 0}, {2, 0, 1}}, 0, "1/2"},
		{[]triple{{math.MinInt, 0, 0}, {1, 0, 1}}, 1, "0"},
		{[]triple{{math.MaxInt, 0, 0}, {math.MaxInt, 0, 1}}, 1, "1/2"},
		{[]triple{{math.MaxInt, 0, 0}, {math.MaxInt, 0, 0}, {2, 0, 1}}, 0, "9223372036854775807/9223372036854775808"},
		{[]triple{{math.MaxInt, 0, 0}, {1, 0, 1}}, 1, "1/9223372036854775808"},
		{[]triple{{math.MaxInt, 0, 0}, {math.MaxInt, 0, 1}, {2, 0, 2}}, 2, "1/9223372036854775808"},
		{[]triple{{1 << 62, 0, 0}, {1 << 62, 0, 0}, {1 << 62, 0, 0}, {1 << 62, 0, 0}, {1, 0, 1}}, 1, "1/18446744073709551617"},
	} {
		wantChance(t, choices(x.l...), x.arm, x.want)
	}
}

// TestChance compares long and short lists of all sorts of weights with the model: P10.5.
func TestChance(t *testing.T) {
	r := rand.New(rand.NewSource(10))
	for k := range 1000 {
		var l []api.Choice
		sums, all := make([]*big.Int, 7), new(big.Int)
		for arm := range sums {
			sums[arm] = new(big.Int)
		}
		for range r.Intn(30) {
			c := api.Choice{Weight: int(r.Uint64() >> (1 + r.Intn(63))), Size: r.Intn(5), Arm: r.Intn(6)}
			l = append(l, c)
			sums[c.Arm].Add(sums[c.Arm], big.NewInt(int64(c.Weight)))
			all.Add(all, big.NewInt(int64(c.Weight)))
		}
		for arm, sum := range sums {
			want := "0"
			if all.Sign() > 0 {
				want = new(big.Rat).SetFrac(sum, all).RatString()
			}
			wantChance(t, l, arm, want)
		}
		if len(l) > 0 {
			l[k%len(l)].Weight = farNumbers()[k%4]
			wantChance(t, l, l[0].Arm, "0")
		}
	}
}
