package draw_test

import (
	"encoding/hex"
	"math"
	"slices"
	"strings"
	"testing"

	"equipoise/api"
	"equipoise/draw"
)

const most = 1 << 30 // the greatest total, and how many numbers a candidate can be

// The model follows the words of the chapters 2, 4 and 6, and calls no package of the program.

// codeOf returns the bytes of an int that is not negative.
func codeOf(n int) string {
	rest, b := 2*uint64(n), []byte{}
	for rest > 127 {
		b = append(b, byte(128+rest%128))
		rest /= 128
	}
	return string(append(b, byte(rest)))
}

// lengthOf returns the number of bytes of a string that has less than 2^16 of them, as four bytes.
func lengthOf(s string) string { return string([]byte{byte(len(s)), byte(len(s) >> 8), 0, 0}) }

// candidateOf returns the candidate of a seed for k and j.
func candidateOf(seed string, k, j int) int {
	msg := codeOf(2) + codeOf(k) + codeOf(j)
	x := 17
	for _, c := range []byte("\x05" + lengthOf(seed) + seed + lengthOf(msg) + msg + seed) {
		x = (48271*x + int(c) + 1) % 2147483629
	}
	return x % most
}

// multipleOf returns the greatest multiple of a total that is permitted.
func multipleOf(total int) int { return most / total * total }

// firstFit returns the first j of a candidate that is less than the multiple; -1 if there is none.
func firstFit(seed string, k, total int) int {
	for j := range 64 {
		if candidateOf(seed, k, j) < multipleOf(total) {
			return j
		}
	}
	return -1
}

// numberOf returns the number that is drawn.
func numberOf(seed string, k, total int) int {
	j := firstFit(seed, k, total)
	if j < 0 {
		j = 63
	}
	return candidateOf(seed, k, j) % total
}

// indexOf returns the index of the weight on which the number n falls, by taking away one weight after the other.
func indexOf(n int, weights []int) int {
	i := 0
	for n >= weights[i] {
		n -= weights[i]
		i++
	}
	return i
}

// sumOf returns the sum of weights that are permitted.
func sumOf(weights []int) int {
	sum := 0
	for _, w := range weights {
		sum += w
	}
	return sum
}

// choices returns choices with these weights.
func choices(weights ...int) []api.Choice {
	l := make([]api.Choice, len(weights))
	for i, w := range weights {
		l[i] = api.Choice{Weight: w, Size: 7 * i, Arm: i % 2}
	}
	return l
}

// ones returns so many weights of 1.
func ones(n int) []int { return slices.Repeat([]int{1}, n) }

// byteOf returns the seed of one byte.
func byteOf(b byte) string { return string([]byte{b}) }

// allBytes returns all bytes, in order.
func allBytes() string {
	var b []byte
	for k := range 256 {
		b = append(b, byte(k))
	}
	return string(b)
}

// seeds returns seeds of all sorts, of 1 byte to many.
func seeds() []string {
	return []string{
		"x", "\x00", "\xff", "ab", "seed", "\x00\x00", "é\u2028", "commit", strings.Repeat("s", 63), allBytes()[:64], strings.Repeat("\xff", 64),
		strings.Repeat("\x00", 65), allBytes(), strings.Repeat("long ", 1000),
	}
}

// ks returns the numbers of draws, at which their codes get longer among others.
func ks() []int {
	return []int{0, 1, 2, 3, 62, 63, 64, 65, 399, 400, 801, 8191, 8192, 8193, 1<<20 - 1, 1 << 20, 1<<31 - 1, 1 << 31, 1 << 32, 1 << 40, 1 << 62, math.MaxInt - 1, math.MaxInt}
}

// totals returns totals, of which some are no powers of 2, and have multiples that leave out much.
func totals() []int {
	l := []int{1, 2, 3, 5, 6, 7, 10, 100, 251, 400, 401, 1000, 65535, 65536, 65537, 1 << 29, 1<<29 + 1, 3 << 28, 5 << 27, 7 << 27, most/3 + 1, most/5 + 1, most/11 + 1, most - 1, most}
	for d := 2; d < 1000; d += 83 {
		l = append(l, most-d, most/d, most/d+1)
	}
	return l
}

// wantNumber checks an int and whether there is one.
func wantNumber(t *testing.T, call string, got int, ok bool, want int) {
	t.Helper()
	if got != want || !ok {
		t.Errorf("%s: %d, %v; want %d, true", call, got, ok, want)
	}
}

// wantNoNumber checks that there is no int.
func wantNoNumber(t *testing.T, call string, got int, ok bool) {
	t.Helper()
	if got != 0 || ok {
		t.Errorf("%s: %d, %v; want 0, false", call, got, ok)
	}
}

// hexed returns the hexadecimal digits of a string.
func hexed(s string) string { return hex.EncodeToString([]byte(s)) }

// number returns a number that is drawn.
func number(t *testing.T, seed string, k, total int) int {
	t.Helper()
	n, ok := draw.Number(seed, k, total)
	if !ok || n < 0 || n >= total {
		t.Fatalf("Number of %.20q, %d, %d: %d, %v", seed, k, total, n, ok)
	}
	return n
}

// pick returns the index of a choice that is picked.
func pick(t *testing.T, seed string, k int, l []api.Choice) int {
	t.Helper()
	i, ok := draw.Pick(seed, k, l)
	if !ok || i < 0 || i >= len(l) {
		t.Fatalf("Pick of %.20q, %d, %v: %d, %v", seed, k, l, i, ok)
	}
	return i
}

// shuffle returns an order that is drawn.
func shuffle(t *testing.T, seed string, n int) []int {
	t.Helper()
	l, ok := draw.Shuffle(seed, n)
	if !ok || len(l) != n {
		t.Fatalf("Shuffle of %.20q, %d: %v, %v", seed, n, l, ok)
	}
	return l
}
