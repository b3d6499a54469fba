package draw_test

import (
	"fmt"
	"math/rand"
	"slices"
	"strconv"
	"strings"
	"testing"
)

// wantEven checks that numbers differ from their mean by at most one part of it, of so many.
func wantEven(t *testing.T, name string, counts []int, parts int) {
	t.Helper()
	mean := sumOf(counts) / len(counts)
	for _, c := range counts {
		if c < mean-mean/parts || c > mean+mean/parts {
			t.Errorf("%s: %v, not all about %d", name, counts, mean)
			return
		}
	}
}

// TestNumbersAreEven counts the numbers of small totals: P6.5.
func TestNumbersAreEven(t *testing.T) {
	for _, total := range []int{2, 3, 5, 6, 10} {
		counts := make([]int, total)
		for s := range 100 {
			for k := range 100 * total {
				counts[number(t, "the seed "+strconv.Itoa(s), k, total)]++
			}
		}
		wantEven(t, fmt.Sprintf("total %d", total), counts, 20)
	}
}

// TestPartsAreEven counts the numbers of great totals, by their parts. Without the candidates that are passed over, those of the first parts would be twice as many. They are not as even as those of small totals, because the candidates that follow each other differ by the same number for all seeds of one length; so the seeds have many: P6.5.
func TestPartsAreEven(t *testing.T) {
	for _, total := range []int{3 << 28, 5 << 27, 7 << 27, 9 << 26} {
		parts := total >> 26
		counts := make([]int, parts)
		for length := range 400 {
			seed := strings.Repeat("s", 1+length)
			for k := range 10 * parts {
				counts[number(t, seed, k, total)>>26]++
			}
		}
		wantEven(t, fmt.Sprintf("total %d", total), counts, 3)
	}
}

// TestOrdersAreEven counts the orders of three numbers: P6.4, P6.5.
func TestOrdersAreEven(t *testing.T) {
	found := map[[3]int]int{}
	for s := range 12000 {
		found[[3]int(shuffle(t, "the seed "+strconv.Itoa(s), 3))]++
	}
	var counts []int
	for _, c := range found {
		counts = append(counts, c)
	}
	if len(counts) != 6 {
		t.Errorf("%d orders of three numbers", len(counts))
	}
	wantEven(t, "orders of three numbers", counts, 20)
}

// TestPicksFollowWeights counts the choices: P6.5.
func TestPicksFollowWeights(t *testing.T) {
	weights := []int{1, 3, 2, 6}
	counts := make([]int, len(weights))
	for s := range 100 {
		for k := range 1200 {
			counts[pick(t, "the seed "+strconv.Itoa(s), k, choices(weights...))]++
		}
	}
	for i, w := range weights {
		counts[i] /= w
	}
	wantEven(t, "choices by weight", counts, 20)
}

// TestMergedChoices replaces two choices that follow each other by one: P6.6.
func TestMergedChoices(t *testing.T) {
	r := rand.New(rand.NewSource(6))
	lists := weightLists()
	for range 100 {
		weights := make([]int, 2+r.Intn(7))
		for i := range weights {
			weights[i] = 1 + r.Intn(1<<r.Intn(27))
		}
		lists = append(lists, weights)
	}
	for _, weights := range lists {
		for at := 0; at < len(weights)-1; at += 1 + len(weights)/20 {
			merged := slices.Concat(weights[:at], []int{weights[at] + weights[at+1]}, weights[at+2:])
			for k := range 20 {
				before, after := pick(t, "merged", k, choices(weights...)), pick(t, "merged", k, choices(merged...))
				if before > at {
					before--
				}
				if before != after {
					t.Errorf("%v, %d: the choice %d of the merged ones is %d, not %d", weights, k, at, after, before)
				}
			}
		}
	}
}
