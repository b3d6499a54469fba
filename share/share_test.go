package share_test

import (
	"math"
	"math/big"
	"testing"

	"equipoise/api"
	"equipoise/share"
)

// TestExamples has the table of the chapter: P5.1 to P5.6.
func TestExamples(t *testing.T) {
	for args, want := range map[[2]int][3]int{{5, 7}: {12, 19, 26}, {250, 250}: {249, 248, 247}} {
		got, ok := share.Split(args[0], args[1])
		wantShares(t, "Split", args, got, ok, want, true)
	}
	for args, want := range map[[4]int]int{{1, 12, 3, 26}: 5, {3, 26, 2, 19}: 5, {1, 0, 3, 1}: 125} {
		got, ok := share.Join(args[0], args[1], args[2], args[3])
		wantInt(t, "Join", args[:], got, ok, want, true)
	}
	got, ok := share.Join(1, 12, 1, 12)
	wantInt(t, "Join", []int{1, 12, 1, 12}, got, ok, 0, false)
	got, ok = share.Third(1, 12, 3, 26, 2)
	wantInt(t, "Third", []int{1, 12, 3, 26, 2}, got, ok, 19, true)
	got, ok = share.Third(1, 12, 2, 19, 2)
	wantInt(t, "Third", []int{1, 12, 2, 19, 2}, got, ok, 0, false)
	for args, want := range map[[3]int]int{{5, 2, 19}: 7, {0, 2, 1}: 126} {
		got, ok = share.Blind(args[0], args[1], args[2])
		wantInt(t, "Blind", args[:], got, ok, want, true)
	}
	for s, want := range map[[3]int]bool{{12, 19, 26}: true, {12, 19, 27}: false, {251, 0, 0}: false} {
		if share.Agree(s) != want {
			t.Errorf("Agree of %v: %v", s, !want)
		}
	}
	s, ok := share.Renew([3]int{12, 19, 26}, 250)
	wantShares(t, "Renew", "12, 19, 26 by 250", s, ok, [3]int{11, 17, 23}, true)
}

// TestSplit has all secrets with all blinds: P5.1.
func TestSplit(t *testing.T) {
	for secret := range api.Prime {
		for blind := range api.Prime {
			got, ok := share.Split(secret, blind)
			wantShares(t, "Split", []int{secret, blind}, got, ok, sharesModel(secret, blind), true)
		}
	}
}

// TestSplitRefused has secrets and blinds that are no residues: P5.1, R2.
func TestSplitRefused(t *testing.T) {
	for _, x := range noResidues() {
		for _, y := range append(noResidues(), someResidues()...) {
			for _, args := range [][2]int{{x, y}, {y, x}} {
				got, ok := share.Split(args[0], args[1])
				wantShares(t, "Split", args, got, ok, [3]int{}, false)
			}
		}
	}
}

// TestJoin has all shares of each pair of custodians, in each order: P5.2.
func TestJoin(t *testing.T) {
	all := newTable()
	for _, p := range pairs() {
		i, j := p[0], p[1]
		lines := all.lines(i, j)
		for a := range api.Prime {
			for b := range api.Prime {
				found := lines[[2]int{a, b}]
				if len(found) != 1 {
					t.Fatalf("%d as the share of %d, %d as that of %d: %d secrets", a, i, b, j, len(found))
				}
				got, ok := share.Join(i, a, j, b)
				wantInt(t, "Join", []int{i, a, j, b}, got, ok, found[0].secret, true)
			}
		}
	}
}

// TestJoinFormula has the formula of the chapter, multiplied by its denominator: P5.2.
func TestJoinFormula(t *testing.T) {
	for _, p := range pairs() {
		for _, a := range someResidues() {
			for b := range api.Prime {
				got, ok := share.Join(p[0], a, p[1], b)
				if left, right := got*(p[1]-p[0]), a*p[1]-b*p[0]; !ok || modulo(big.NewInt(int64(left))) != modulo(big.NewInt(int64(right))) {
					t.Errorf("Join of %d, %d, %d, %d: %d, %v", p[0], a, p[1], b, got, ok)
				}
			}
		}
	}
}

// TestJoinRefused has custodians that are none, one that occurs twice, and shares that are no residues: P5.2, R2.
func TestJoinRefused(t *testing.T) {
	check := func(args []int) {
		t.Helper()
		got, ok := share.Join(args[0], args[1], args[2], args[3])
		wantInt(t, "Join", args, got, ok, 0, false)
	}
	for _, p := range pairs() {
		for _, right := range [][]int{{p[0], 12, p[1], 19}, {p[0], 0, p[1], 250}, {p[0], 0, p[1], 0}} {
			for _, x := range noCustodians() {
				check(changed(right, 0, x))
				check(changed(right, 2, x))
				check(changed(changed(right, 0, x), 2, x))
				check(changed(changed(right, 0, x), 2, x+1))
			}
			for _, x := range noResidues() {
				check(changed(right, 1, x))
				check(changed(right, 3, x))
				check(changed(changed(right, 1, x), 3, x))
			}
			check(changed(right, 0, p[1]))
			check(changed(right, 2, p[0]))
		}
	}
	for i := 1; i <= 3; i++ {
		for _, a := range someResidues() {
			check([]int{i, a, i, a})
			check([]int{i, a, i, next(a)})
		}
	}
}

// TestThird has all shares of each pair of custodians, in each order: P5.3.
func TestThird(t *testing.T) {
	all := newTable()
	for _, three := range threes() {
		i, j, k := three[0], three[1], three[2]
		for two, found := range all.lines(i, j) {
			got, ok := share.Third(i, two[0], j, two[1], k)
			wantInt(t, "Third", []int{i, two[0], j, two[1], k}, got, ok, all[found[0].secret][found[0].blind][k-1], true)
		}
	}
}

// TestThirdRefused has custodians that are none, such that occur twice, and shares that are no residues: P5.3, R2.
func TestThirdRefused(t *testing.T) {
	check := func(args []int) {
		t.Helper()
		got, ok := share.Third(args[0], args[1], args[2], args[3], args[4])
		wantInt(t, "Third", args, got, ok, 0, false)
	}
	for _, p := range threes() {
		for _, right := range [][]int{{p[0], 12, p[1], 19, p[2]}, {p[0], 0, p[1], 250, p[2]}, {p[0], 7, p[1], 7, p[2]}} {
			for _, at := range []int{0, 2, 4} {
				for _, x := range noCustodians() {
					check(changed(right, at, x))
				}
				for _, other := range []int{0, 2, 4} {
					if other != at {
						check(changed(right, at, right[other]))
					}
				}
			}
			for _, x := range noResidues() {
				check(changed(right, 1, x))
				check(changed(right, 3, x))
			}
		}
	}
	for i := 1; i <= 3; i++ {
		check([]int{i, 5, i, 5, i})
		check([]int{i, 5, i, 6, i})
	}
}

// TestBlind has all secrets and all shares of each custodian: P5.4.
func TestBlind(t *testing.T) {
	all := newTable()
	for secret := range api.Prime {
		for i := 1; i <= 3; i++ {
			for blind := range api.Prime {
				a := all[secret][blind][i-1]
				got, ok := share.Blind(secret, i, a)
				wantInt(t, "Blind", []int{secret, i, a}, got, ok, blind, true)
				if modulo(big.NewInt(int64(got*i))) != modulo(big.NewInt(int64(a-secret))) {
					t.Errorf("Blind of %d, %d, %d: %d", secret, i, a, got)
				}
			}
		}
	}
}

// TestBlindRefused has custodians that are none, and secrets and shares that are no residues: P5.4, R2.
func TestBlindRefused(t *testing.T) {
	check := func(args []int) {
		t.Helper()
		got, ok := share.Blind(args[0], args[1], args[2])
		wantInt(t, "Blind", args, got, ok, 0, false)
	}
	for i := 1; i <= 3; i++ {
		for _, y := range someResidues() {
			for _, x := range noResidues() {
				check([]int{x, i, y})
				check([]int{y, i, x})
				check([]int{x, i, x})
			}
		}
	}
	for _, i := range noCustodians() {
		for _, y := range someResidues() {
			check([]int{y, i, y})
			check([]int{0, i, y})
			check([]int{y, i, 0})
			check([]int{-1, i, y})
		}
	}
}

// TestAgree has the shares of all secrets with all blinds: P5.5.
func TestAgree(t *testing.T) {
	all := newTable()
	for secret := range api.Prime {
		for blind := range api.Prime {
			if s := all[secret][blind]; !share.Agree(s) {
				t.Errorf("Agree of %v: false", s)
			}
		}
	}
}

// TestAgreeOnly has shares one of which is replaced by another residue: P5.5.
func TestAgreeOnly(t *testing.T) {
	for _, secret := range someResidues() {
		for _, blind := range someResidues() {
			for at := range 3 {
				s := sharesModel(secret, blind)
				right := s[at]
				for x := range api.Prime {
					s[at] = x
					if got := share.Agree(s); got != (x == right) {
						t.Errorf("Agree of %v: %v", s, got)
					}
				}
			}
		}
	}
}

// wrongShares returns shares with elements that are no residues, though most of them would lie on a line.
func wrongShares() [][3]int {
	l := [][3]int{{251, 251, 251}, {-1, -1, -1}, {249, 250, 251}, {1, 0, -1}, {-1, 0, 1}, {251, 250, 249}, {0, 251, 0}, {math.MaxInt, math.MinInt, math.MaxInt}}
	for _, right := range [][3]int{{12, 19, 26}, {0, 0, 0}, {250, 250, 250}, {249, 248, 247}, {0, 125, 250}, {1, 2, 3}} {
		for at := range 3 {
			for _, x := range append(noResidues(), right[at]+251, right[at]-251, right[at]+1<<8, right[at]+1<<16, right[at]+1<<32) {
				s := right
				s[at] = x
				l = append(l, s)
			}
		}
		for _, by := range []int{251, -251, 1 << 32} {
			l = append(l, [3]int{right[0] + by, right[1] + by, right[2] + by})
		}
	}
	return l
}

// TestAgreeRefused has elements that are no residues: P5.5.
func TestAgreeRefused(t *testing.T) {
	for _, s := range wrongShares() {
		if share.Agree(s) {
			t.Errorf("Agree of %v: true", s)
		}
	}
}

// TestRenew has the shares of all secrets with all blinds: P5.6.
func TestRenew(t *testing.T) {
	all := newTable()
	for secret := range api.Prime {
		for blind, s := range all[secret] {
			for _, by := range []int{0, 1, 125, 250, secret, blind} {
				got, ok := share.Renew(s, by)
				wantShares(t, "Renew", []any{s, by}, got, ok, all[secret][added(blind, by)], true)
			}
		}
	}
	for by := range api.Prime {
		got, ok := share.Renew(all[5][7], by)
		wantShares(t, "Renew", []any{all[5][7], by}, got, ok, all[5][added(7, by)], true)
	}
}

// TestRenewRefused has shares that do not agree, and numbers that are no residues: P5.6, R2.
func TestRenewRefused(t *testing.T) {
	check := func(s [3]int, by int) {
		t.Helper()
		got, ok := share.Renew(s, by)
		wantShares(t, "Renew", []any{s, by}, got, ok, [3]int{}, false)
	}
	for _, s := range append(wrongShares(), [3]int{12, 19, 27}, [3]int{13, 19, 26}, [3]int{12, 18, 26}, [3]int{0, 0, 1}, [3]int{0, 250, 0}) {
		check(s, 0)
		check(s, 250)
		check(s, -1)
	}
	for _, by := range noResidues() {
		check([3]int{12, 19, 26}, by)
		check([3]int{}, by)
		check([3]int{249, 248, 247}, by)
	}
}
