package share

// custodians is how many of them there are; they are numbered from 1, because the share of 0 would be the secret itself.
const custodians = 3

// line is the straight line on which the shares of a secret lie.
type line struct{ secret, blind int }

// isCustodian reports whether k is the number of a custodian.
func isCustodian(k int) bool { return k >= 1 && k <= custodians }

// share returns the share of the custodian k.
func (l line) share(k int) int {
	return calculate(plus, l.secret, calculate(times, k, l.blind))
}

// shares returns the shares of all custodians.
func (l line) shares() [custodians]int {
	var s [custodians]int
	for at := range s {
		s[at] = l.share(at + 1)
	}
	return s
}

// through returns the line on which a is the share of i, and b that of j; false, unless these are residues of two different custodians.
func through(i, a, j, b int) (line, bool) {
	if !isCustodian(i) || !isCustodian(j) || i == j || !isResidue(a) || !isResidue(b) {
		return line{}, false
	}
	blind := calculate(over, calculate(minus, b, a), calculate(minus, j, i))
	return line{calculate(minus, a, calculate(times, i, blind)), blind}, true
}

// lineOf returns the line on which all these shares lie; false if there is none.
func lineOf(s [custodians]int) (line, bool) {
	l, ok := through(1, s[0], 2, s[1])
	if !ok || l.shares() != s {
		return line{}, false
	}
	return l, true
}
