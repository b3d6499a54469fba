package digest_test

import (
	"math"
	"math/rand"
	"slices"
	"strings"
	"testing"

	"equipoise/digest"
)

// ints are ints at their limits and elsewhere.
var ints = []int{-1, -2, -3, -8, 1 << 20, 1<<20 - 1, 1 << 21, 1 << 32, 1<<32 + 1, -(1 << 32), 1 << 62, math.MaxInt, math.MaxInt - 1, math.MinInt, math.MinInt + 1}

// zeros is a digest like any other, although it is the zero value of an array of bytes.
const zeros = "\x00\x00\x00\x00\x00\x00\x00\x00"

// P2.5

func TestVerifyExamples(t *testing.T) {
	a, b := digest.Of("\x01a"), digest.Of("\x01b")
	root := digest.Of("\x02" + a + b)
	for _, x := range []struct {
		root, leaf string
		i          int
		proof      []string
		want       bool
	}{
		{digest.Root([]string{"a"}), "a", 0, nil, true},
		{digest.Root([]string{"a"}), "a", 1, nil, false},
		{digest.Root([]string{"a"}), "a", -1, nil, false},
		{digest.Root([]string{"a"}), "b", 0, nil, false},
		{digest.Root(nil), "", 0, nil, false},
		{root, "a", 0, []string{b}, true},
		{root, "b", 1, []string{a}, true},
		{root, "a", 1, []string{b}, false},
		{root, "b", 0, []string{a}, false},
		{root, "a", 0, []string{a}, false},
		{root, "a", 2, []string{b}, false},
		{root, "b", -1, []string{a}, false},
		{root, "a", -2, []string{b}, false},
		{root, "a", 0, nil, false},
		{root, "a", 0, []string{b, b}, false},
		{a, "a", 0, []string{b}, false},
	} {
		if got := digest.Verify(x.root, x.leaf, x.i, x.proof); got != x.want {
			t.Errorf("%x, %q, %d, %x: %v", x.root, x.leaf, x.i, x.proof, got)
		}
	}
}

// TestVerify has proofs of all permitted lengths, which need not come from lists.
func TestVerify(t *testing.T) {
	r := rand.New(rand.NewSource(5))
	for n := range 21 {
		proof := elements(n)
		end := 1 << n
		for _, i := range []int{0, end - 1, end / 2, end / 3, r.Intn(end), r.Intn(end)} {
			i = min(i, end-1)
			leaf := random(r, r.Intn(20))
			root := folded(leaf, i, proof)
			if !digest.Verify(root, leaf, i, proof) {
				t.Fatalf("%d of %d elements", i, n)
			}
			checkWrongProof(t, leaf, i, proof)
			checkWrongIndex(t, leaf, i, proof)
			for _, s := range altered(root) {
				if s != root && digest.Verify(s, leaf, i, proof) {
					t.Fatalf("%d of %d elements: the root %x", i, n, s)
				}
			}
		}
	}
}

// checkWrongProof has proofs with one element that is another one, is missing, or has not 8 bytes.
func checkWrongProof(t *testing.T, leaf string, i int, proof []string) {
	t.Helper()
	root := folded(leaf, i, proof)
	for k, s := range proof {
		for _, other := range []string{digest.Of(s), zeros, s[1:] + s[:1]} {
			if digest.Verify(root, leaf, i, changed(proof, k, other)) {
				t.Fatalf("%d of %d elements: another element %d", i, len(proof), k)
			}
		}
		for _, size := range []string{"", s[:1], s[:7], s + "\x00", s + s, s + strings.Repeat("x", 256), strings.Repeat("\x00", 264)} {
			wrong := changed(proof, k, size)
			for _, end := range []string{root, folded(leaf, i, wrong), folded(leaf, i, wrong[:k]), folded(leaf, i, changed(proof, k, zeros)), "", size, zeros} {
				if digest.Verify(end, leaf, i, wrong) {
					t.Fatalf("%d of %d elements: element %d of %d bytes leads to %x", i, len(proof), k, len(size), end)
				}
			}
		}
		if digest.Verify(root, leaf, i, slices.Delete(slices.Clone(proof), k, k+1)) || digest.Verify(root, leaf, i, slices.Insert(slices.Clone(proof), k, s)) {
			t.Fatalf("%d of %d elements: element %d is missing, or there twice", i, len(proof), k)
		}
	}
}

// checkWrongIndex has other indices: the same way through a tree, but beyond its levels, and another way.
func checkWrongIndex(t *testing.T, leaf string, i int, proof []string) {
	t.Helper()
	root := folded(leaf, i, proof)
	end := 1 << len(proof)
	for _, j := range append(slices.Clone(ints), i+1, i-1, i+end, i+2*end, i-end, i-2*end, end, -i-1, i^1, i^end>>1, i+1<<32, i+1<<21, i-1<<21) {
		if j != i && digest.Verify(root, leaf, j, proof) {
			t.Fatalf("%d of %d elements: the index %d", i, len(proof), j)
		}
		if (j < 0 || j >= end) && digest.Verify(folded(leaf, j, proof), leaf, j, proof) {
			t.Fatalf("%d elements: the index %d", len(proof), j)
		}
	}
}

// TestVerifyLong has proofs with more than 20 elements, which lead to the root.
func TestVerifyLong(t *testing.T) {
	for _, n := range []int{21, 22, 31, 32, 33, 62, 63, 64, 65, 100, 256, 276, 1000} {
		proof := elements(n)
		for _, i := range []int{0, 1, 1 << 19, 1<<20 - 1, 1 << 20, 1<<21 - 1} {
			if digest.Verify(folded("leaf", i, proof), "leaf", i, proof) {
				t.Errorf("%d of %d elements", i, n)
			}
		}
	}
}

// TestVerifyKinds has strings that look like another part of a tree.
func TestVerifyKinds(t *testing.T) {
	a, b := digest.Of("\x01a"), digest.Of("\x01b")
	root := digest.Root([]string{"a", "b"})
	for _, leaf := range []string{a + b, "\x02" + a + b, "\x01a", a, root, ""} {
		if digest.Verify(root, leaf, 0, nil) {
			t.Errorf("%x", leaf)
		}
	}
	if digest.Verify(digest.Root([]string{"a", "b", "c"}), "", 3, proved(t, []string{"a", "b", "c", ""}, 3)) {
		t.Error("a string that fills the tree")
	}
}

// TestZeros has strings that were chosen so that their digests are zeros only: what has not 8 bytes is not equal to them (P2.3, P2.5).
func TestZeros(t *testing.T) {
	text, leaf, msg := hexed(t, "7ec4929c4b4b8e5080"), hexed(t, "7d564298b9a18c879f"), hexed(t, "868b683eb985919388")
	if digest.Of(text) != zeros || digest.Root([]string{leaf}) != zeros || digest.Mark("k", msg) != zeros {
		t.Fatal("other digests")
	}
	if !digest.Check("k", msg, zeros) || !digest.Verify(zeros, leaf, 0, nil) {
		t.Error("zeros")
	}
	for _, s := range []string{"", zeros[:1], zeros[:7], zeros + "\x00", zeros + zeros, "0", "00000000"} {
		if digest.Check("k", msg, s) || digest.Verify(s, leaf, 0, nil) {
			t.Errorf("%q", s)
		}
	}
}
