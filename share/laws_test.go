package share_test

import (
	"testing"

	"equipoise/api"
	"equipoise/share"
)

// TestOneShareSaysNothing counts the blinds by which a custodian has a share of a secret: P5.7.
func TestOneShareSaysNothing(t *testing.T) {
	for secret := range api.Prime {
		var blinds [3][api.Prime]int
		for blind := range api.Prime {
			for at, x := range split(t, secret, blind) {
				blinds[at][x]++
			}
		}
		for at := range 3 {
			for x, count := range blinds[at] {
				if count != 1 {
					t.Errorf("the custodian %d has the share %d of the secret %d by %d blinds", at+1, x, secret, count)
				}
			}
		}
	}
}

// TestBlindGivesTheShare has each custodian, each share and each secret: P5.7.
func TestBlindGivesTheShare(t *testing.T) {
	for secret := range api.Prime {
		for i := 1; i <= 3; i++ {
			for x := range api.Prime {
				blind, ok := share.Blind(secret, i, x)
				if s := split(t, secret, blind); !ok || s[i-1] != x {
					t.Errorf("Blind of %d, %d, %d: %d, %v, with the shares %v", secret, i, x, blind, ok, s)
				}
			}
		}
	}
}

// TestTwoSharesAreEnough has any two shares of each secret: P5.8.
func TestTwoSharesAreEnough(t *testing.T) {
	for secret := range api.Prime {
		for blind := range api.Prime {
			s := split(t, secret, blind)
			for _, p := range pairs() {
				got, ok := share.Join(p[0], s[p[0]-1], p[1], s[p[1]-1])
				wantInt(t, "Join", []int{p[0], s[p[0]-1], p[1], s[p[1]-1]}, got, ok, secret, true)
			}
		}
	}
}

// TestOldAndRenewed has an old share and a renewed one of another custodian: P5.8.
func TestOldAndRenewed(t *testing.T) {
	for _, secret := range someResidues() {
		for _, blind := range someResidues() {
			old := split(t, secret, blind)
			for by := range api.Prime {
				fresh, ok := share.Renew(old, by)
				if !ok || !share.Agree(fresh) {
					t.Fatalf("Renew of %v by %d: %v, %v", old, by, fresh, ok)
				}
				for _, p := range pairs() {
					got, ok := share.Join(p[0], old[p[0]-1], p[1], fresh[p[1]-1])
					if !ok || (got == secret) != (by == 0) {
						t.Errorf("Join of the old %v and, by %d, the new %v, for %v: %d, %v", old, by, fresh, p, got, ok)
					}
					got, ok = share.Join(p[0], fresh[p[0]-1], p[1], fresh[p[1]-1])
					wantInt(t, "Join", []int{p[0], fresh[p[0]-1], p[1], fresh[p[1]-1]}, got, ok, secret, true)
				}
			}
		}
	}
}

// TestReplacedShare has two shares of which one is replaced by another residue: P5.8.
func TestReplacedShare(t *testing.T) {
	for _, secret := range someResidues() {
		for _, blind := range someResidues() {
			s := split(t, secret, blind)
			for _, p := range pairs() {
				a, b := s[p[0]-1], s[p[1]-1]
				for x := range api.Prime {
					if got, ok := share.Join(p[0], x, p[1], b); !ok || (got == secret) != (x == a) {
						t.Errorf("Join of %d, %d, %d, %d: %d, %v", p[0], x, p[1], b, got, ok)
					}
					if got, ok := share.Join(p[0], a, p[1], x); !ok || (got == secret) != (x == b) {
						t.Errorf("Join of %d, %d, %d, %d: %d, %v", p[0], a, p[1], x, got, ok)
					}
				}
			}
		}
	}
}

// TestSumsOfShares has the sums, custodian by custodian, of the shares of two secrets: P5.9.
func TestSumsOfShares(t *testing.T) {
	for _, secret := range someResidues() {
		for _, other := range someResidues() {
			for _, blind := range someResidues() {
				for otherBlind := range api.Prime {
					s, o := split(t, secret, blind), split(t, other, otherBlind)
					var sums [3]int
					for at := range sums {
						sums[at] = added(s[at], o[at])
					}
					if sums != split(t, added(secret, other), added(blind, otherBlind)) || !share.Agree(sums) {
						t.Fatalf("the sums of %v and %v are %v", s, o, sums)
					}
					got, ok := share.Join(3, sums[2], 1, sums[0])
					wantInt(t, "Join", []int{3, sums[2], 1, sums[0]}, got, ok, added(secret, other), true)
				}
			}
		}
	}
}
