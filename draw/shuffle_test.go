package draw_test

import (
	"math"
	"slices"
	"testing"

	"equipoise/draw"
)

// TestShuffleExamples has the table of the chapter, and orders that were drawn by another program: P6.4.
func TestShuffleExamples(t *testing.T) {
	for _, want := range [][]int{{}, {0}, {1, 0}, {1, 2, 0}, {3, 2, 0, 1}, {4, 2, 0, 1, 3}, {4, 2, 0, 1, 3, 5}, {4, 2, 0, 6, 3, 5, 1}, {10, 8, 0, 6, 3, 5, 7, 1, 2, 4, 9}} {
		if got := shuffle(t, "x", len(want)); !slices.Equal(got, want) {
			t.Errorf("Shuffle of %d: %v; want %v", len(want), got, want)
		}
	}
	want := []int{10, 7, 1, 17, 8, 14, 3, 12, 11, 4, 0, 6, 2, 15, 18, 13, 16, 19, 9, 5}
	if got := shuffle(t, "seed", 20); !slices.Equal(got, want) {
		t.Errorf("Shuffle of 20: %v; want %v", got, want)
	}
	if l, ok := draw.Shuffle("x", 401); len(l) > 0 || ok {
		t.Errorf("Shuffle of 401: %v, %v", l, ok)
	}
}

// TestShuffle undoes the exchanges in the opposite order, for each permitted number: P6.4.
func TestShuffle(t *testing.T) {
	for _, seed := range []string{"x", "seed", "\x00", allBytes()[:64]} {
		for n := range 401 {
			l := shuffle(t, seed, n)
			for i := 1; i < n; i++ {
				k := numberOf(seed, i, i+1)
				l[i], l[k] = l[k], l[i]
			}
			for i, x := range l {
				if i != x {
					t.Fatalf("Shuffle of %.20q, %d: after undoing it, %v", seed, n, l)
				}
			}
		}
	}
}

// TestShuffleSeeds has all sorts of seeds, each of which gives each number once: P6.4.
func TestShuffleSeeds(t *testing.T) {
	for _, seed := range seeds() {
		for _, n := range []int{0, 1, 2, 3, 50} {
			l := shuffle(t, seed, n)
			slices.Sort(l)
			for i, x := range l {
				if i != x {
					t.Fatalf("Shuffle of %.20q, %d: %v, sorted", seed, n, l)
				}
			}
		}
	}
}

// TestShuffleRefused has an empty seed, and numbers that are not permitted: P6.4, R2.
func TestShuffleRefused(t *testing.T) {
	for _, n := range []int{-1, -2, -400, 401, 402, 1000, 1 << 32, 1<<32 + 3, -1 << 32, math.MaxInt, math.MinInt} {
		for _, seed := range append(seeds(), "") {
			if l, ok := draw.Shuffle(seed, n); len(l) > 0 || ok {
				t.Errorf("Shuffle of %.20q, %d: %v, %v", seed, n, l, ok)
			}
		}
	}
	for n := range 401 {
		if l, ok := draw.Shuffle("", n); len(l) > 0 || ok {
			t.Errorf("Shuffle of no seed, %d: %v, %v", n, l, ok)
		}
	}
}
