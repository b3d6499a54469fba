package digest

// leafOf returns the digest of level 0 for a string.
func leafOf(s string) sum { return of(leaf, s) }

// nodeOf returns the digest that is formed of two neighbours.
func nodeOf(a, b sum) sum { return of(node, a.text(), b.text()) }

// levels returns the levels of the tree of l, from level 0 on; the last one has one digest.
func levels(l []string) func(yield func([]sum) bool) {
	return func(yield func([]sum) bool) {
		level := leaves(l)
		for yield(level) && len(level) > 1 {
			level = halved(level)
		}
	}
}

// leaves returns level 0 of the tree of l.
func leaves(l []string) []sum {
	level := make([]sum, width(len(l)))
	for k, s := range l {
		level[k] = leafOf(s)
	}
	rest, empty := level[len(l):], of(nothing)
	for k := range rest {
		rest[k] = empty
	}
	return level
}

// width returns the least power of two that is not less than n.
func width(n int) int {
	w := 1
	for w < n {
		w *= 2
	}
	return w
}

// halved returns the level after one of several digests.
func halved(level []sum) []sum {
	next := make([]sum, len(level)/2)
	for k := range next {
		next[k] = nodeOf(level[2*k], level[2*k+1])
	}
	return next
}
