package draw_test

import (
	"fmt"
	"math"
	"testing"

	"equipoise/draw"
)

// TestNumberExamples has the table of the chapter, and numbers that were drawn by another program: P6.2.
func TestNumberExamples(t *testing.T) {
	for _, x := range []struct {
		seed           string
		k, total, want int
	}{
		{"x", 0, 1, 0},
		{"x", 0, 1 << 30, 532407462},
		{"x", 1, 1 << 30, 897619086},
		{"x", 63, 1 << 30, 992161679},
		{"x", 64, 1 << 30, 1003479240},
		{"x", 8192, 1 << 30, 415438306},
		{"x", math.MaxInt, 1 << 30, 444187623},
		{"x", 0, 2, 0},
		{"x", 0, 251, 67},
		{"x", 1, 251, 165},
		{"x", 0, 1<<29 + 1, 532407462},
		{"x", 3, 1<<29 + 1, 23511762},
		{"x", 5, 1<<29 + 1, 210981953},
		{"x", 0, 1<<30 - 1, 532407462},
		{"seed", 0, 10, 9},
		{allBytes()[:64], 7, 1000, 76},
	} {
		got, ok := draw.Number(x.seed, x.k, x.total)
		wantNumber(t, fmt.Sprintf("Number of %.20q, %d, %d", x.seed, x.k, x.total), got, ok, x.want)
	}
	got, ok := draw.Number("x", -1, 5)
	wantNoNumber(t, "-1 and 5", got, ok)
	got, ok = draw.Number("x", 0, 0)
	wantNoNumber(t, "0 and 0", got, ok)
	got, ok = draw.Number("x", 0, 1<<30+1)
	wantNoNumber(t, "0 and 2^30 + 1", got, ok)
}

// TestNumber has all sorts of seeds, draws and totals; their candidates are found at several j: P6.2.
func TestNumber(t *testing.T) {
	found := map[int]bool{}
	for _, seed := range seeds() {
		for _, k := range ks() {
			for _, total := range totals() {
				if len(seed) > 64 && total%2 == 0 && total < most { // fewer of the long ones, which take time
					continue
				}
				got, ok := draw.Number(seed, k, total)
				wantNumber(t, fmt.Sprintf("Number of %.20q, %d, %d", seed, k, total), got, ok, numberOf(seed, k, total))
				found[firstFit(seed, k, total)] = true
			}
		}
	}
	for j := -1; j < 5; j++ {
		if !found[j] {
			t.Errorf("nothing was drawn at j = %d", j)
		}
	}
}

// TestPassedOver has seeds of one byte, whose candidates for j and j + 1 are near to each other, so that many are passed over: all but the last one, and all of them, too. With the total 2^29 + 1, those from the total on are passed over: P6.2.
func TestPassedOver(t *testing.T) {
	const total = 1<<29 + 1
	for _, x := range []struct{ b, k, first, want int }{
		{0, 1837, 1, 68098},
		{1, 2969, 2, 71328},
		{0, 1536, 31, 11660},
		{2, 2712, 61, 20089},
		{1, 1267, 62, 38755},
		{2, 2399, 63, 41985},
		{1, 954, -1, 536835020},  // the candidate for j = 64 would be the first one
		{2, 2086, -1, 536741708}, // and here that for j = 65
	} {
		seed := byteOf(byte(x.b))
		if first := firstFit(seed, x.k, total); first != x.first {
			t.Errorf("the byte %d, %d: the first candidate that is not passed over is that for j = %d, not %d", x.b, x.k, first, x.first)
		}
		got, ok := draw.Number(seed, x.k, total)
		wantNumber(t, fmt.Sprintf("Number of the byte %d, %d", x.b, x.k), got, ok, x.want)
	}
}

// TestLastCandidate has draws for which no candidate is less than the multiple; then that for j = 63 counts: P6.2.
func TestLastCandidate(t *testing.T) {
	const total = 1<<29 + 1
	found := 0
	for b := range 256 {
		seed := byteOf(byte(b))
		for k := range 20 {
			got, ok := draw.Number(seed, k, total)
			wantNumber(t, fmt.Sprintf("Number of the byte %d, %d", b, k), got, ok, numberOf(seed, k, total))
			if firstFit(seed, k, total) < 0 {
				found++
				wantNumber(t, fmt.Sprintf("Number of the byte %d, %d", b, k), got, ok, candidateOf(seed, k, 63)-total)
			}
		}
	}
	if found < 1000 {
		t.Errorf("%d draws without such a candidate", found)
	}
}

// TestAtTheMultiple has totals whose multiple is a candidate, or just more: P6.2.
func TestAtTheMultiple(t *testing.T) {
	for _, seed := range seeds() {
		for k := range 50 {
			first := candidateOf(seed, k, 0)
			if first <= most/2 {
				continue
			}
			got, ok := draw.Number(seed, k, first)
			wantNumber(t, fmt.Sprintf("Number of %.20q, %d, its candidate", seed, k), got, ok, numberOf(seed, k, first))
			if firstFit(seed, k, first) == 0 {
				t.Errorf("%.20q, %d: the candidate %d is less than its multiple", seed, k, first)
			}
			got, ok = draw.Number(seed, k, first+1)
			wantNumber(t, fmt.Sprintf("Number of %.20q, %d, one more than its candidate", seed, k), got, ok, first)
		}
	}
}

// TestNothingPassedOver has powers of 2, of which each candidate is less than the multiple: P6.2.
func TestNothingPassedOver(t *testing.T) {
	for _, seed := range seeds() {
		for _, k := range ks() {
			for total := 1; total <= most; total *= 2 {
				got, ok := draw.Number(seed, k, total)
				wantNumber(t, fmt.Sprintf("Number of %.20q, %d, %d", seed, k, total), got, ok, candidateOf(seed, k, 0)%total)
			}
		}
	}
}

// TestNumberRefused has an empty seed, and numbers that are not permitted: P6.2, R2.
func TestNumberRefused(t *testing.T) {
	check := func(seed string, k, total int) {
		t.Helper()
		got, ok := draw.Number(seed, k, total)
		wantNoNumber(t, fmt.Sprintf("Number of %.20q, %d, %d", seed, k, total), got, ok)
	}
	for _, k := range append(ks(), noDraws()...) {
		for _, total := range append(totals(), noTotals()...) {
			check("", k, total)
		}
	}
	for _, seed := range seeds() {
		for _, k := range noDraws() {
			for _, total := range totals() {
				check(seed, k, total)
			}
		}
		for _, total := range noTotals() {
			for _, k := range append(ks(), noDraws()...) {
				check(seed, k, total)
			}
		}
	}
}

// noDraws returns numbers of no draw.
func noDraws() []int {
	return []int{-1, -2, -64, -1 << 31, -1 << 32, math.MinInt, math.MinInt + 1}
}

// noTotals returns totals that are not permitted.
func noTotals() []int {
	return []int{0, -1, -2, -251, -most, most + 1, most + 2, 2 * most, 1<<32 + 1, 1<<32 + 251, 1 << 62, math.MaxInt, math.MaxInt - 1, math.MinInt, math.MinInt + 1}
}
