/- Contracts: Number of draw, of both sides. Condition: the seed is shorter than 2^31, the numbers fit ints. -/
import Derived.Test.YtafdjohgoopcmaaXB
namespace Go.Proofs.Ytafdjohgoopcmaa
open Go.RowKit

abbrev I64 (n : Int) : Prop := -9223372036854775808 ≤ n ∧ n ≤ 9223372036854775807

/-- Whether there is a number, and the number. -/
def okN (s : ByteArray) (k total : Int) : Bool := decide (s.size ≠ 0) && (decide (0 ≤ k) && (decide (1 ≤ total) && decide (total ≤ 1073741824)))
def numV (s : ByteArray) (k total : Int) : Nat := if okN s k total = true then srch (fun j => cand s k j) (1073741824 - 1073741824 % total.toNat) 63 0 % total.toNat else 0

theorem okN_iff (s : ByteArray) (k total : Int) : okN s k total = true ↔ s.size ≠ 0 ∧ 0 ≤ k ∧ 1 ≤ total ∧ total ≤ 1073741824 := by simp [okN]
theorem numV_lt {s : ByteArray} {k total : Int} (h : okN s k total = true) : (numV s k total : Int) < total := by
  obtain ⟨_, _, h1, h2⟩ := (okN_iff s k total).1 h
  rw [numV, if_pos h]
  have := Nat.mod_lt (srch (fun j => cand s k j) (1073741824 - 1073741824 % total.toNat) 63 0) (show total.toNat > 0 by omega)
  omega
theorem numV_no {s : ByteArray} {k total : Int} (h : okN s k total = false) : numV s k total = 0 := by
  rw [numV, if_neg (by rw [h]; decide)]

theorem empty_iff (s : ByteArray) : (s.toList = []) ↔ s.size = 0 := by rw [ByteArray.toList_eq, ← by_len]; exact List.length_eq_zero_iff.symm

set_option maxRecDepth 10000 in
set_option maxHeartbeats 2000000 in
theorem number_any (s : ByteArray) (hs : s.size < 2147483648) (k total : Int) (hk : I64 k) (ht : I64 total) (w : World) :
    Calls Try.prog 11 #[.string s, .int .i64 k, .int .i64 total] w fun e w' => e = .returned (.tuple #[.int .i64 (numV s k total : Nat), .bool (okN s k total)]) ∧ Below w.heap.size w w' := by
  by_cases hok : okN s k total = true
  · obtain ⟨h1, h2, h3, h4⟩ := (okN_iff s k total).1 hok
    obtain ⟨T, hT⟩ : ∃ T : Nat, total = (T : Int) := ⟨total.toNat, by omega⟩
    have hnv : numV s k total = srch (fun j => cand s k j) (1073741824 - 1073741824 % T) 63 0 % T := by rw [numV, if_pos hok, hT]; rfl
    rw [hok, hnv]
    subst hT
    have hlim : (1073741824 : Int) - 1073741824 % (T : Int) = ((1073741824 - 1073741824 % T : Nat) : Int) := by
      rw [Int.ofNat_sub (Nat.mod_le _ _)]; rfl
    have HS := Lib.hid (fun W => search_any s hs k hk (1073741824 - 1073741824 % T) (by omega) W)
    obtain ⟨L, hL⟩ : ∃ L : Nat, L = 1073741824 - 1073741824 % T := ⟨_, rfl⟩
    rw [← hL] at HS hlim ⊢
    obtain ⟨R, hR⟩ : ∃ R, R = srch (fun j => cand s k j) L 63 0 := ⟨_, rfl⟩
    have hRl : R < 1073741824 := by
      rw [hR]
      obtain ⟨i, hi⟩ := srch_mem (fun j => cand s k j) L 63 0
      rw [hi]; exact cand_lt _ _ _
    rw [← hR] at HS ⊢
    have h0 : s.toList.isEmpty = false := by
      cases he : s.toList with
      | nil => exact absurd ((empty_iff s).1 he) h1
      | cons a l => rfl
    have hLl : L ≤ 1073741824 := by rw [hL]; omega
    have hw : wrap64 (L : Int) = L := by simp only [wrap64]; omega
    have hr1 : (R : Int).tmod (T : Int) = ((R % T : Nat) : Int) := rfl
    have hr2 : (1073741824 : Int).tmod (T : Int) = 1073741824 % (T : Int) := rfl
    obtain ⟨q, hq⟩ : ∃ q : Nat, q = R % T := ⟨_, rfl⟩
    have HQ := Lib.hid hq
    clear hL hR hnv hok h1 hr1 hq
    go_enter Try.func11, Try.ntmps11
    go_wp2_with (go_at_call 23; refine (HS.out _).mono ?_; rintro e w1 ⟨rfl, hb1⟩)
    go_ret2
    exact ⟨rfl, hb1⟩
  · have hno : okN s k total = false := by simpa using hok
    have hcase : s.size = 0 ∨ k < 0 ∨ total < 1 ∨ 1073741824 < total := by
      have : ¬ (s.size ≠ 0 ∧ 0 ≤ k ∧ 1 ≤ total ∧ total ≤ 1073741824) := fun h => hok ((okN_iff s k total).2 h)
      omega
    rw [hno, numV_no hno]
    clear hno hok
    have he : (s.toList.isEmpty = true) ↔ s.size = 0 := by rw [← empty_iff s]; exact List.isEmpty_iff
    by_cases h0 : s.size = 0
    · have h1 := he.2 h0
      clear he h0 hcase
      go_enter Try.func11, Try.ntmps11
      go_wp2
      go_ret2
      exact ⟨rfl, Below.refl _ _⟩
    · have h1 : s.toList.isEmpty = false := by
        cases hq : s.toList.isEmpty with
        | true => exact absurd (he.1 hq) h0
        | false => rfl
      clear he
      by_cases h2 : k < 0
      · clear h0 hcase
        go_enter Try.func11, Try.ntmps11
        go_wp2
        go_ret2
        exact ⟨rfl, Below.refl _ _⟩
      · by_cases h3 : total < 1
        · clear h0 hcase
          go_enter Try.func11, Try.ntmps11
          go_wp2
          go_ret2
          exact ⟨rfl, Below.refl _ _⟩
        · have h4 : 1073741824 < total := by omega
          clear h0 hcase
          go_enter Try.func11, Try.ntmps11
          go_wp2
          go_ret2
          exact ⟨rfl, Below.refl _ _⟩

end Go.Proofs.Ytafdjohgoopcmaa
