package draw

import (
	"equipoise/digest"
	"equipoise/wire"
)

const (
	span  = 1 << 30 // how many numbers a candidate can be, and the greatest total
	tries = 64      // the candidates for one k
)

// candidate returns the candidate of a seed for k and j.
func candidate(seed string, k, j int) int {
	mark := digest.Mark(seed, wire.Ints([]int{k, j}))
	u := 0
	for _, b := range []byte(mark[:4]) {
		u = u<<8 + int(b)
	}
	return u % span
}

// search returns the first candidate of a seed for k that is less than limit, and the last candidate if none is. Those that are not less are passed over because with them, some numbers would be more likely than others.
func search(seed string, k, limit int) int {
	c := 0
	for j := range tries {
		c = candidate(seed, k, j)
		if c < limit {
			goto found
		}
	}
found:
	return c
}
