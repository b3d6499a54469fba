package digest_test

import (
	"math/rand"
	"slices"
	"testing"

	"equipoise/digest"
)

// P2.6

// TestOneByte replaces each byte of strings by each other one.
func TestOneByte(t *testing.T) {
	r := rand.New(rand.NewSource(6))
	for _, s := range []string{"\x00", "\xff", "a", "ab", "\x00\x00\x00", "\xff\xff\xff", random(r, 10), random(r, 33), random(r, 300)} {
		for k := range len(s) {
			seen := map[string]bool{}
			for c := range 256 {
				b := []byte(s)
				b[k] = byte(c)
				seen[digest.Of(string(b))] = true
			}
			if len(seen) != 256 {
				t.Fatalf("%.20q, byte %d: %d digests", s, k, len(seen))
			}
		}
	}
}

// P2.7

func TestProofs(t *testing.T) {
	for _, n := range counts() {
		l := names("s", n)
		root := digest.Root(l)
		step := 1 + n/40
		for i := 0; i < n; i += step {
			checkProof(t, l, root, i)
		}
	}
	for _, l := range lists() {
		root := digest.Root(l)
		for i := 0; i < len(l); i += 1 + len(l)/10 {
			checkProof(t, l, root, i)
		}
	}
}

// checkProof checks that the proof for an index is accepted for its string and its index only.
func checkProof(t *testing.T, l []string, root string, i int) {
	t.Helper()
	proof := proved(t, l, i)
	if !digest.Verify(root, l[i], i, proof) {
		t.Fatalf("%d of %d is refused", i, len(l))
	}
	for _, s := range []string{"", l[i] + "x", "x" + l[i], "\x01" + l[i], digest.Of("\x01" + l[i]), "another"} {
		if s != l[i] && digest.Verify(root, s, i, proof) {
			t.Fatalf("%d of %d: the string %q", i, len(l), s)
		}
	}
	w := widthOf(len(l))
	for j := -3; j <= 2*w+2; j++ {
		there := j >= 0 && j < len(l)
		if (!there || l[j] != l[i]) && digest.Verify(root, l[i], j, proof) {
			t.Fatalf("%d of %d: the index %d", i, len(l), j)
		}
		if there && l[j] != l[i] && digest.Verify(root, l[j], i, proof) {
			t.Fatalf("%d of %d: the string %d", i, len(l), j)
		}
	}
}

// TestProofsOfMost has a list of 2^20 strings, the most for which proofs are accepted.
func TestProofsOfMost(t *testing.T) {
	l := names("", 1<<20)
	root := digest.Root(l)
	for _, i := range []int{0, 1<<20 - 1, 699051} {
		proof := proved(t, l, i)
		if len(proof) != 20 || !digest.Verify(root, l[i], i, proof) {
			t.Errorf("%d: %d elements", i, len(proof))
		}
		if digest.Verify(root, l[i], i^1, proof) || digest.Verify(root, l[i], i^1<<19, proof) || digest.Verify(root, l[i^1], i, proof) || digest.Verify(root, l[i], i+1<<20, proof) {
			t.Errorf("%d: another index or string", i)
		}
	}
}

// TestOtherLists has proofs of lists that differ in one string.
func TestOtherLists(t *testing.T) {
	for _, n := range []int{2, 3, 4, 5, 8, 9, 16, 17} {
		l := names("s", n)
		for k := range l {
			other := changed(l, k, "other")
			if digest.Root(other) == digest.Root(l) {
				t.Fatalf("another string %d of %d: the same root", k, n)
			}
			for i := range l {
				if digest.Verify(digest.Root(l), other[i], i, proved(t, other, i)) || digest.Verify(digest.Root(other), l[i], i, proved(t, l, i)) {
					t.Fatalf("another string %d of %d: the proof for %d", k, n, i)
				}
			}
		}
	}
}

// P2.8

func TestHalves(t *testing.T) {
	r := rand.New(rand.NewSource(7))
	for w := 2; w <= 1024; w *= 2 {
		l := make([]string, w)
		for k := range l {
			l[k] = random(r, r.Intn(9))
		}
		if digest.Root(l) != digest.Of("\x02"+digest.Root(l[:w/2])+digest.Root(l[w/2:])) {
			t.Errorf("%d strings", w)
		}
	}
}

// TestOneMore adds an element to lists whose trees have no more levels by that.
func TestOneMore(t *testing.T) {
	for n := 1; n < 130; n++ {
		if widthOf(n) != widthOf(n+1) {
			continue
		}
		l := names("s", n)
		more := append(slices.Clone(l), "more")
		for i := range l {
			a, b := proved(t, l, i), proved(t, more, i)
			if len(a) != len(b) || differing(a, b) > 1 {
				t.Fatalf("%d of %d: %x, %x", i, n, a, b)
			}
		}
	}
}

// differing returns in how many elements two lists of the same length differ.
func differing(a, b []string) int {
	n := 0
	for k := range a {
		if a[k] != b[k] {
			n++
		}
	}
	return n
}
