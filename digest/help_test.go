package digest_test

import (
	"encoding/hex"
	"math/big"
	"math/rand"
	"slices"
	"strconv"
	"strings"
	"testing"

	"equipoise/digest"
)

// digestOf returns the digest of a string, by another library.
func digestOf(s string) string {
	return part(s, 17, 48271, 2147483629) + part(s, 29, 69621, 2147483587)
}

// part returns four bytes of a digest.
func part(s string, first, factor, divisor int64) string {
	x, f, d := big.NewInt(first), big.NewInt(factor), big.NewInt(divisor)
	for k := range len(s) {
		x.Mul(x, f).Add(x, big.NewInt(int64(s[k])+1)).Mod(x, d)
	}
	return string(x.FillBytes(make([]byte, 4)))
}

// hexed returns the bytes that are written in hexadecimal.
func hexed(t *testing.T, s string) string {
	t.Helper()
	b, err := hex.DecodeString(s)
	if err != nil {
		t.Fatal(err)
	}
	return string(b)
}

// lengthOf returns the number of bytes of s as four bytes, the lowest one first.
func lengthOf(s string) string {
	n := len(s)
	return string([]byte{byte(n % 256), byte(n / 256 % 256), byte(n / 65536 % 256), byte(n / 16777216)})
}

// widthOf returns the number of digests of level 0 for n strings.
func widthOf(n int) int {
	w := 1
	for w < n {
		w += w
	}
	return w
}

// treeOf returns the root of the tree of a list that is filled up to w digests, from its halves.
func treeOf(l []string, w int) string {
	switch {
	case len(l) == 0 && w == 1:
		return digest.Of("\x03")
	case w == 1:
		return digest.Of("\x01" + l[0])
	}
	m := min(w/2, len(l))
	return digest.Of("\x02" + treeOf(l[:m], w/2) + treeOf(l[m:], w/2))
}

// proofOf returns the proof for an index, from the halves of the tree.
func proofOf(l []string, w, i int) []string {
	if w == 1 {
		return nil
	}
	m := min(w/2, len(l))
	if i < w/2 {
		return append(proofOf(l[:m], w/2, i), treeOf(l[m:], w/2))
	}
	return append(proofOf(l[m:], w/2, i-w/2), treeOf(l[:m], w/2))
}

// folded returns the root that a leaf with an index and a proof lead to, whatever is wrong with them.
func folded(leaf string, i int, proof []string) string {
	d := digest.Of("\x01" + leaf)
	for k, s := range proof {
		if k < 63 && i>>k&1 == 1 {
			d = digest.Of("\x02" + s + d)
		} else {
			d = digest.Of("\x02" + d + s)
		}
	}
	return d
}

// names returns n different strings of a kind.
func names(kind string, n int) []string {
	l := make([]string, n)
	for k := range l {
		l[k] = kind + strconv.Itoa(k)
	}
	return l
}

// counts are numbers of strings: few, and those about the powers of two.
func counts() []int {
	l := []int{0, 1, 2, 3, 4, 5, 6, 7, 8, 9, 10, 11, 12, 13}
	for w := 16; w <= 512; w *= 2 {
		l = append(l, w-1, w, w+1, w+w/2)
	}
	return l
}

// lists returns lists of strings: different ones, equal ones, empty ones, and those that look like parts of a tree.
func lists() [][]string {
	l := [][]string{
		nil, {}, {""}, {"", ""}, {"", "", ""}, {"a", "b", "c"}, {"a", "a", "a", "a", "a"}, {"", "", "", "", "", "", "", "", ""},
		{"\x03", "\x01", "\x02", "\x03", ""}, {"\x00", "\xff", "\x80", "é", "\u2028"},
		{digest.Of("\x03"), digest.Of("\x01a"), "\x02" + digest.Of("\x03") + digest.Of("\x03")},
		{strings.Repeat("x", 1000), strings.Repeat("\xff", 999), ""},
	}
	for _, n := range counts() {
		l = append(l, names("s", n))
	}
	return l
}

// random returns a random string of n bytes.
func random(r *rand.Rand, n int) string {
	b := make([]byte, n)
	r.Read(b)
	return string(b)
}

// elements returns n strings of 8 bytes.
func elements(n int) []string {
	l := names("element", n)
	for k := range l {
		l[k] = digest.Of(l[k])
	}
	return l
}

// proved returns a proof that there is.
func proved(t *testing.T, l []string, i int) []string {
	t.Helper()
	proof, ok := digest.Prove(l, i)
	if !ok {
		t.Fatalf("no proof for %d of %d", i, len(l))
	}
	return proof
}

// changed returns a list with another element k.
func changed(l []string, k int, s string) []string {
	l = slices.Clone(l)
	l[k] = s
	return l
}
