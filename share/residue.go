package share

// prime is how many residues there are. It is api.Prime, but this layer imports nothing.
const prime = 251

// residue is a number from 0 to prime - 1, in a word of the type W.
type residue[W ~int] struct{ word W }

// What can be done with two residues: indices of what operations returns.
const (
	plus = iota
	minus
	times
	over
)

// operations returns all operations of residues, each at its index.
func operations() [over + 1]func(r, s residue[int]) residue[int] {
	return [over + 1]func(r, s residue[int]) residue[int]{
		plus:  residue[int].plus,
		minus: residue[int].minus,
		times: residue[int].times,
		over:  residue[int].over,
	}
}

// calculate returns what an operation makes of two residues.
func calculate(operation, a, b int) int {
	return operations()[operation](residue[int]{a}, residue[int]{b}).word
}

// isResidue reports whether n is a residue.
func isResidue(n int) bool { return n >= 0 && n < prime }

// plus adds s.
func (r residue[W]) plus(s residue[W]) residue[W] {
	return residue[W]{(r.word + s.word) % prime}
}

// minus subtracts s.
func (r residue[W]) minus(s residue[W]) residue[W] {
	return residue[W]{(r.word + prime - s.word) % prime}
}

// times multiplies by s.
func (r residue[W]) times(s residue[W]) residue[W] {
	return residue[W]{r.word * s.word % prime}
}

// over divides by s, which is not 0: the power prime - 2 of s makes 1 with s, because each residue but 0 has 1 as its power prime - 1.
func (r residue[W]) over(s residue[W]) residue[W] {
	for range prime - 2 {
		r = r.times(s)
	}
	return r
}
