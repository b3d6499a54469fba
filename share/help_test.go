package share_test

import (
	"math"
	"math/big"
	"testing"

	"equipoise/api"
	"equipoise/share"
)

// secretAndBlind is what a model looks for.
type secretAndBlind struct{ secret, blind int }

// The model follows the words of the chapter and knows nothing of the package: it counts residues one by one, and finds secrets and blinds by trying all of them.

// next returns the residue after x.
func next(x int) int {
	if x == api.Prime-1 {
		return 0
	}
	return x + 1
}

// added returns the residue that comes b steps after a.
func added(a, b int) int {
	for range b {
		a = next(a)
	}
	return a
}

// sharesModel returns the shares of all custodians.
func sharesModel(secret, blind int) [3]int {
	var s [3]int
	at := secret
	for k := range s {
		at = added(at, blind)
		s[k] = at
	}
	return s
}

// modulo returns the residue of a number.
func modulo(x *big.Int) int {
	return int(new(big.Int).Mod(x, big.NewInt(api.Prime)).Int64()) // Mod is never negative
}

// table holds the shares of all secrets with all blinds.
type table [api.Prime][api.Prime][3]int

func newTable() *table {
	var t table
	for secret := range api.Prime {
		for blind := range api.Prime {
			t[secret][blind] = sharesModel(secret, blind)
		}
	}
	return &t
}

// lines returns, for all shares of two custodians, the secrets with the blinds of which they are shares.
func (t *table) lines(i, j int) map[[2]int][]secretAndBlind {
	found := map[[2]int][]secretAndBlind{}
	for secret := range api.Prime {
		for blind, s := range t[secret] {
			two := [2]int{s[i-1], s[j-1]}
			found[two] = append(found[two], secretAndBlind{secret, blind})
		}
	}
	return found
}

// pairs returns each pair of custodians in each order.
func pairs() [][2]int {
	return [][2]int{{1, 2}, {2, 1}, {1, 3}, {3, 1}, {2, 3}, {3, 2}}
}

// threes returns the custodians in each order.
func threes() [][3]int {
	return [][3]int{{1, 2, 3}, {2, 1, 3}, {1, 3, 2}, {3, 1, 2}, {2, 3, 1}, {3, 2, 1}}
}

// noResidues returns numbers that are no residues, though some of them are congruent to one, or have the last bits of one.
func noResidues() []int {
	return []int{
		-1, -2, -250, -251, -252, 251, 252, 255, 256, 501, 502, 1000,
		1 << 16, 1<<16 + 5, 1 << 32, 1<<32 + 5, -1 << 32, 1<<40 + 250,
		math.MinInt, math.MinInt + 1, math.MinInt + 250, math.MaxInt, math.MaxInt - 1, math.MaxInt - 250,
	}
}

// noCustodians returns numbers that are no custodians, though some of them are residues, or congruent to a custodian.
func noCustodians() []int {
	return []int{
		0, 4, 5, 7, 248, 249, 250, 251, 252, 253, 254, 257, 258, 259,
		-1, -2, -3, -248, -249, -250, -251, 1<<16 + 1, 1<<32 + 1, 1<<32 + 2, 1<<32 + 3,
		math.MinInt, math.MinInt + 1, math.MinInt + 3, math.MaxInt, math.MaxInt - 1,
	}
}

// someResidues returns the residues at the limits, and some others.
func someResidues() []int { return []int{0, 1, 2, 3, 7, 83, 125, 126, 167, 248, 249, 250} }

// wantInt checks an int and whether there is one.
func wantInt(t *testing.T, name string, args []int, got int, ok bool, want int, wantOK bool) {
	t.Helper()
	if got != want || ok != wantOK {
		t.Errorf("%s of %v: %d, %v; want %d, %v", name, args, got, ok, want, wantOK)
	}
}

// wantShares checks shares and whether there are any.
func wantShares(t *testing.T, name string, args any, got [3]int, ok bool, want [3]int, wantOK bool) {
	t.Helper()
	if got != want || ok != wantOK {
		t.Errorf("%s of %v: %v, %v; want %v, %v", name, args, got, ok, want, wantOK)
	}
}

// split returns shares that there are.
func split(t *testing.T, secret, blind int) [3]int {
	t.Helper()
	s, ok := share.Split(secret, blind)
	if !ok {
		t.Fatalf("Split of %d and %d: false", secret, blind)
	}
	return s
}

// changed returns a list with x at an index.
func changed(l []int, at, x int) []int {
	c := append([]int(nil), l...)
	c[at] = x
	return c
}
