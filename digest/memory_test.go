package digest_test

import (
	"math"
	"slices"
	"strings"
	"testing"

	"equipoise/digest"
)

// TestEndsWithoutPanic calls everything with all sorts of arguments: P1.
func TestEndsWithoutPanic(t *testing.T) {
	texts := []string{"", "\x00", "a", "1234567", "12345678", "123456789", "\xff\xfe", strings.Repeat("x", 70000), digest.Of("x")}
	proofs := [][]string{nil, {}, {""}, texts, {"12345678"}, elements(20), elements(21), elements(64), elements(100), append(elements(19), ""), make([]string, 20), make([]string, 3000)}
	indices := append(slices.Clone(ints), 0, 1, 2, 3, 7, 8, 9, 63, 64)
	for _, a := range texts {
		digest.Of(a)
		for _, b := range texts {
			digest.Chain(a, b)
			digest.Mark(a, b)
			for _, c := range texts {
				digest.Check(a, b, c)
			}
		}
		for _, proof := range proofs {
			for _, i := range indices {
				digest.Verify(a, a, i, proof)
				digest.Verify(digest.Root(proof), a, i, proof)
			}
		}
	}
	for _, l := range append(lists(), proofs...) {
		digest.Root(l)
		for _, i := range indices {
			digest.Prove(l, i)
		}
	}
}

// TestNilAndEmpty has the two forms of no strings: R1.
func TestNilAndEmpty(t *testing.T) {
	empty := []string{}
	if digest.Root(nil) != digest.Root(empty) {
		t.Error("Root")
	}
	for _, i := range []int{-1, 0, 1, math.MaxInt, math.MinInt} {
		p, a := digest.Prove(nil, i)
		q, b := digest.Prove(empty, i)
		if a || b || len(p) != 0 || len(q) != 0 {
			t.Errorf("Prove of %d", i)
		}
		root := digest.Root([]string{"a"})
		if digest.Verify(root, "a", i, nil) != (i == 0) || digest.Verify(root, "a", i, empty) != (i == 0) {
			t.Errorf("Verify of %d", i)
		}
	}
}

// TestMemory has arguments that are changed, results that share memory, and results that depend on what is behind an argument or on earlier calls: R3, R4.
func TestMemory(t *testing.T) {
	for n := 1; n < 20; n++ {
		all := names("s", n+3)
		l := all[:n]
		root := digest.Root(l)
		for i := range l {
			proof := proved(t, l, i)
			want := slices.Clone(proof)
			if digest.Root(slices.Clone(l)) != root || !digest.Verify(root, l[i], i, proof) || digest.Verify(root, "x", i, proof) || !slices.Equal(proof, want) {
				t.Fatalf("%d of %d: another root, or a proof that was changed", i, n)
			}
			for k := range proof[:cap(proof)] {
				proof[:cap(proof)][k] = "overwritten"
			}
			if !slices.Equal(proved(t, l, i), want) || digest.Root(l) != root {
				t.Fatalf("%d of %d: another result of the same call", i, n)
			}
		}
		if !slices.Equal(all, names("s", n+3)) {
			t.Fatalf("%d strings: an argument was changed", n)
		}
	}
}

// TestSameCalls has the same calls again, in another order: R4.
func TestSameCalls(t *testing.T) {
	calls := []func() string{
		func() string { return digest.Of("s") },
		func() string { return digest.Chain("a", "b") },
		func() string { return digest.Mark("a", "b") },
		func() string { return digest.Root(names("s", 11)) },
		func() string { return strings.Join(proved(t, names("s", 11), 4), "") },
	}
	var first []string
	for _, f := range calls {
		first = append(first, f())
	}
	for range 3 {
		for k, f := range slices.Backward(calls) {
			if f() != first[k] {
				t.Errorf("call %d", k)
			}
		}
	}
}
