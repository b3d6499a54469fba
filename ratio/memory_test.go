package ratio_test

import (
	"math"
	"slices"
	"strings"
	"testing"

	"equipoise/api"
	"equipoise/num"
	"equipoise/ratio"
)

// TestEndsWithoutPanic calls everything with all sorts of arguments: P1.
func TestEndsWithoutPanic(t *testing.T) {
	l := append(wrong(), ofInts(0, 1), ofInts(-3, 4), api.Ratio{N: full(256), D: n(1)}, api.Ratio{N: neg(1), D: full(256)}, api.Ratio{N: zeros(1), D: zeros(1)}, api.Ratio{N: full(70000), D: full(70000)})
	for _, a := range l {
		ratio.Right(a)
		ratio.Small(a)
		ratio.Sign(a)
		ratio.Log(a)
		ratio.Text(a)
		ratio.Of(a.N, a.D)
		ratio.Of(a.D, a.N)
		for _, b := range l {
			ratio.Cmp(a, b)
			ratio.Sum([]api.Ratio{a, b})
			ratio.Of(a.N, b.N)
			for _, f := range operations() {
				f(a, b)
			}
		}
	}
	ratio.Sum(l)
	for _, x := range append(slices.Clone(ints), math.MinInt+1, 1<<20, 1<<20+1) {
		ratio.Int(x)
		for _, y := range ints {
			ratio.Fit(api.Frac{N: x, D: y})
			ratio.Frac(api.Frac{N: x, D: y})
		}
	}
	for c := range 256 {
		s := string([]byte{byte(c)})
		for _, text := range []string{s, s + "/", "/" + s, s + "/" + s, "1/" + s, s + "/2", strings.Repeat(s, 2467), "1/" + strings.Repeat(s, 5000)} {
			ratio.Parse(text)
		}
	}
}

// TestNilAndEmpty has the two forms of 0: R1.
func TestNilAndEmpty(t *testing.T) {
	empty := api.Ratio{N: api.Num{D: []uint32{}}, D: n(1)}
	if !ratio.Right(empty) || ratio.Cmp(empty, ratio.Int(0)) != 0 || ratio.Sign(empty) != 0 || ratio.Log(empty) != -1 {
		t.Error("0 that is not nil")
	}
	for name, f := range operations() {
		for _, a := range []api.Ratio{ofInts(0, 1), ofInts(-3, 4), {N: full(256), D: n(2)}} {
			x, first := f(a, ofInts(0, 1))
			y, second := f(a, empty)
			if first != second || !same(x, y) {
				t.Errorf("%s of %v and 0: %v, %v", name, a, x, y)
			}
			x, first = f(ofInts(0, 1), a)
			y, second = f(empty, a)
			if first != second || !same(x, y) {
				t.Errorf("%s of 0 and %v: %v, %v", name, a, x, y)
			}
		}
	}
	none := api.Num{D: []uint32{}}
	if a, ok := ratio.Of(none, n(7)); !ok || !same(a, ofInts(0, 1)) {
		t.Errorf("Of of 0 and 7: %v, %v", a, ok)
	}
	if a, ok := ratio.Of(n(7), none); ok || !isZero(a) {
		t.Errorf("Of of 7 and 0: %v, %v", a, ok)
	}
	if ratio.Right(api.Ratio{N: none, D: none}) || ratio.Right(api.Ratio{N: n(1), D: none}) {
		t.Error("D that is 0 and not nil")
	}
}

// spare returns a copy of a Num whose digits are followed by memory that is not part of it.
func spare(a api.Num) api.Num {
	all := append(slices.Clone(a.D), 77, 78, 79)
	return api.Num{Neg: a.Neg, D: all[:len(a.D)]}
}

// spared reports whether a copy by spare, and what follows it, is as it was made of a.
func spared(copied, a api.Num) bool {
	return copied.Neg == a.Neg && slices.Equal(copied.D[:len(copied.D)+3], append(slices.Clone(a.D), 77, 78, 79))
}

// maker is a call that returns a Ratio.
type maker func(args []api.Ratio) (api.Ratio, bool)

// makers returns all calls that return a Ratio that is formed of others.
func makers() map[string]maker {
	m := map[string]maker{
		"Of":        func(args []api.Ratio) (api.Ratio, bool) { return ratio.Of(args[0].N, args[1].N) },
		"Of of one": func(args []api.Ratio) (api.Ratio, bool) { return ratio.Of(args[0].N, args[0].D) },
		"Sum":       ratio.Sum,
	}
	for name, f := range operations() {
		m[name] = func(args []api.Ratio) (api.Ratio, bool) { return f(args[0], args[1]) }
	}
	return m
}

// TestMemory has results that share memory with arguments or with each other, arguments that are changed, and results that depend on what is behind an argument: R3, R4.
func TestMemory(t *testing.T) {
	l := []api.Ratio{ofInts(0, 1), ofInts(1, 1), ofInts(-1, 1), ofInts(3, 4), ofInts(-4, 3), ofInts(5, 1), ofInts(-1, 5), {N: full(3), D: n(1)}, {N: neg(1), D: full(3)}, {N: full(128), D: n(0, 1)}, {N: full(256), D: n(2)}}
	for name, f := range makers() {
		for _, a := range l {
			for _, b := range l {
				checkMemory(t, name, f, []api.Ratio{a, b})
			}
		}
	}
	for _, a := range l {
		x := api.Ratio{N: spare(a.N), D: spare(a.D)}
		ratio.Right(x)
		ratio.Small(x)
		ratio.Sign(x)
		ratio.Log(x)
		ratio.Text(x)
		for _, b := range l {
			ratio.Cmp(x, b)
			ratio.Cmp(b, x)
		}
		if !spared(x.N, a.N) || !spared(x.D, a.D) {
			t.Errorf("%v was changed", a)
		}
	}
}

// checkMemory makes a call twice, and overwrites all that the first call returned.
func checkMemory(t *testing.T, name string, f maker, args []api.Ratio) {
	t.Helper()
	copied := make([]api.Ratio, len(args))
	for k, a := range args {
		copied[k] = api.Ratio{N: spare(a.N), D: spare(a.D)}
	}
	first, ok := f(copied)
	want := api.Ratio{N: cloned(first.N), D: cloned(first.D)}
	overwrite(first.N)
	if !sameNum(first.D, want.D) {
		t.Fatalf("%s of %v: N and D share memory", name, args)
	}
	overwrite(first.D)
	for k, a := range args {
		if !spared(copied[k].N, a.N) || !spared(copied[k].D, a.D) {
			t.Fatalf("%s of %v: an argument was changed, or shares memory with the result", name, args)
		}
	}
	second, fine := f(copied)
	if fine != ok || !same(second, want) {
		t.Fatalf("%s of %v: another result of the same call", name, args)
	}
}

// cloned returns a copy of a Num.
func cloned(a api.Num) api.Num { return api.Num{Neg: a.Neg, D: slices.Clone(a.D)} }

// overwrite writes to all of the memory of a Num.
func overwrite(a api.Num) {
	for k := range a.D[:cap(a.D)] {
		a.D[:cap(a.D)][k] = 123
	}
}

// TestMemoryOfSmall has Ratios that are made of ints and texts: each has memory of its own.
func TestMemoryOfSmall(t *testing.T) {
	for name, f := range map[string]func() api.Ratio{
		"Int":   func() api.Ratio { return ratio.Int(5) },
		"One":   func() api.Ratio { return ratio.Int(1) },
		"Frac":  func() api.Ratio { return ratio.Frac(api.Frac{N: 1, D: 1}) },
		"Sum":   func() api.Ratio { a, _ := ratio.Sum(nil); return a },
		"Parse": func() api.Ratio { a, _ := ratio.Parse("1"); return a },
	} {
		first := f()
		want := api.Ratio{N: cloned(first.N), D: cloned(first.D)}
		overwrite(first.N)
		if !sameNum(first.D, want.D) {
			t.Errorf("%s: N and D share memory", name)
		}
		overwrite(first.D)
		if !same(f(), want) {
			t.Errorf("%s: another result of the same call", name)
		}
	}
	if num.Text(num.Of(1)) != "1" {
		t.Error("1 was changed")
	}
}

// TestSameCalls has the same calls again, in another order: R4.
func TestSameCalls(t *testing.T) {
	a, b := ofInts(-3, 4), api.Ratio{N: full(100), D: n(2)}
	calls := []func() string{
		func() string { r, _ := ratio.Add(a, b); return ratio.Text(r) },
		func() string { r, _ := ratio.Mul(a, b); return ratio.Text(r) },
		func() string { r, _ := ratio.Div(a, b); return ratio.Text(r) },
		func() string { r, _ := ratio.Sum([]api.Ratio{a, b, a}); return ratio.Text(r) },
		func() string { return ratio.Text(b) },
	}
	var first []string
	for _, f := range calls {
		first = append(first, f())
	}
	for range 3 {
		for k, f := range slices.Backward(calls) {
			if f() != first[k] {
				t.Errorf("call %d", k)
			}
		}
	}
}
