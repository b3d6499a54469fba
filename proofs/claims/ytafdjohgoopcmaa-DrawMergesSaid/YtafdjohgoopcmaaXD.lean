/- Contract: Number of draw's reference. Condition: the seed is shorter than 2^31, the numbers fit ints. -/
import Derived.Test.YtafdjohgoopcmaaXC
namespace Go.Proofs.Ytafdjohgoopcmaa
open Go.RowKit

set_option maxRecDepth 10000 in
set_option maxHeartbeats 2000000 in
theorem rNumber_any (s : ByteArray) (hs : s.size < 2147483648) (k total : Int) (hk : I64 k) (ht : I64 total) (w : World) :
    Calls Try.prog 12 #[.string s, .int .i64 k, .int .i64 total] w fun e w' => e = .returned (.tuple #[.int .i64 (numV s k total : Nat), .bool (okN s k total)]) ∧ Below w.heap.size w w' := by
  by_cases hok : okN s k total = true
  · obtain ⟨h1, h2, h3, h4⟩ := (okN_iff s k total).1 hok
    obtain ⟨T, hT⟩ : ∃ T : Nat, total = (T : Int) := ⟨total.toNat, by omega⟩
    have hnv : numV s k total = srch (fun j => cand s k j) (1073741824 - 1073741824 % T) 63 0 % T := by rw [numV, if_pos hok, hT]; rfl
    rw [hok, hnv]
    subst hT
    have hlim : (1073741824 : Int) - 1073741824 % (T : Int) = ((1073741824 - 1073741824 % T : Nat) : Int) := by
      rw [Int.ofNat_sub (Nat.mod_le _ _)]; rfl
    have HC := Lib.hid (fun (j : Nat) (hj : j < 64) W => rcand_any s hs k j hk ⟨by omega, by omega⟩ W)
    obtain ⟨f, hf⟩ : ∃ f : Nat → Nat, f = fun (j : Nat) => cand s k j := ⟨_, rfl⟩
    have hlt : ∀ j, f j < 1073741824 := fun j => by rw [hf]; exact cand_lt _ _ _
    have HF : Hid (∀ (j : Nat), j < 64 → ∀ W, Calls Try.prog 24 #[.string s, .int .i64 k, .int .i64 j] W fun e w' => e = .returned (.int .i64 (f j : Nat)) ∧ Below W.heap.size W w') := Lib.hid fun j hj W => by rw [hf]; exact HC.out j hj W
    rw [← hf]
    obtain ⟨L, hL⟩ : ∃ L : Nat, L = 1073741824 - 1073741824 % T := ⟨_, rfl⟩
    rw [← hL] at hlim ⊢
    obtain ⟨R, hR⟩ : ∃ R, R = srch f L 63 0 := ⟨_, rfl⟩
    rw [← hR]
    have HR := Lib.hid hR
    have HLT := Lib.hid hlt
    have h0 : s.toList.isEmpty = false := by
      cases he : s.toList with
      | nil => exact absurd ((empty_iff s).1 he) h1
      | cons a l => rfl
    have hLl : L ≤ 1073741824 := by rw [hL]; omega
    have hw : wrap64 (L : Int) = L := by simp only [wrap64]; omega
    have hr1 : (R : Int).tmod (T : Int) = ((R % T : Nat) : Int) := rfl
    have hr2 : (1073741824 : Int).tmod (T : Int) = 1073741824 % (T : Int) := rfl
    clear hL hR hnv hok h1 hr1 hf HC hlt
    go_enter Try.func12, Try.ntmps12
    go_wp2
    go_loopw [8, 9] (fun jv cv wr => ∃ j : Nat, j < 64 ∧ jv = .int .i64 (j : Nat) ∧ Hid (srch f L (63 - j) j = R) ∧ Hid (Below w.heap.size w wr)) (fun jv _ _ => 64 - (intOf jv).toNat)
    case atStart => exact ⟨0, by omega, rfl, Lib.hid HR.out.symm, Lib.hid (Below.refl _ _)⟩
    case round =>
      obtain ⟨j, hj, rfl, h1, hB⟩ := hrel
      have HJ := HF.out j hj
      have h3 := HLT.out j
      have hr := h1.out
      obtain ⟨x, hx⟩ : ∃ x, x = f j := ⟨_, rfl⟩
      rw [← hx] at HJ h3
      have HJJ := Lib.hid HJ
      clear HJ
      by_cases hend : x < L ∨ j = 63
      · have e1 : x = R := by
          rcases hend with h | h
          · rw [hx] at h ⊢; rw [← hr, srch_yes h]
          · rw [hx, ← hr, h]; rfl
        have E1 := Lib.hid e1
        clear hx hr h1 e1
        rcases hend with hlx | rfl
        · go_wp2_with (go_at_call 24; refine (HJJ.out _).mono ?_; rintro e w2 ⟨rfl, hb2⟩; have HB2 := Lib.hid (hB.out.trans (hb2.mono hB.out.size)); clear hb2)
          go_ret2
          exact ⟨by rw [← E1.out]; rfl, HB2.out⟩
        · by_cases hlx : x < L
          all_goals
            go_wp2_with (go_at_call 24; refine (HJJ.out _).mono ?_; rintro e w2 ⟨rfl, hb2⟩; have HB2 := Lib.hid (hB.out.trans (hb2.mono hB.out.size)); clear hb2)
            go_ret2
            exact ⟨by rw [← E1.out]; rfl, HB2.out⟩
      · have hn1 : ¬ x < L := fun h => hend (.inl h)
        have hn2 : j + 1 < 64 := by omega
        have hn3 : ¬ (j : Int) = 63 := by omega
        have HN : Hid (srch f L (63 - (j + 1)) (j + 1) = R) := Lib.hid (by rw [← hr]; exact (srch_no (by omega) (by rw [← hx]; exact hn1)).symm)
        clear hx hr h1 hend
        go_wp2_with (go_at_call 24; refine (HJJ.out _).mono ?_; rintro e w2 ⟨rfl, hb2⟩; have HB2 := Lib.hid (hB.out.trans (hb2.mono hB.out.size)); clear hb2)
        go_roundw
        case rel => exact ⟨j + 1, by omega, by go_num, HN, HB2⟩
        case measure => simp [intOf]; omega
  · have hno : okN s k total = false := by simpa using hok
    have hcase : s.size = 0 ∨ k < 0 ∨ total < 1 ∨ 1073741824 < total := by
      have : ¬ (s.size ≠ 0 ∧ 0 ≤ k ∧ 1 ≤ total ∧ total ≤ 1073741824) := fun h => hok ((okN_iff s k total).2 h)
      omega
    rw [hno, numV_no hno]
    clear hno hok
    have he : (s.toList.isEmpty = true) ↔ s.size = 0 := by rw [← empty_iff s]; exact List.isEmpty_iff
    by_cases h0 : s.size = 0
    · have h1 := he.2 h0
      clear he h0 hcase
      go_enter Try.func12, Try.ntmps12
      go_wp2
      go_ret2
      exact ⟨rfl, Below.refl _ _⟩
    · have h1 : s.toList.isEmpty = false := by
        cases hq : s.toList.isEmpty with
        | true => exact absurd (he.1 hq) h0
        | false => rfl
      clear he
      by_cases h2 : k < 0
      · clear h0 hcase
        go_enter Try.func12, Try.ntmps12
        go_wp2
        go_ret2
        exact ⟨rfl, Below.refl _ _⟩
      · by_cases h3 : total < 1
        · clear h0 hcase
          go_enter Try.func12, Try.ntmps12
          go_wp2
          go_ret2
          exact ⟨rfl, Below.refl _ _⟩
        · have h4 : 1073741824 < total := by omega
          clear h0 hcase
          go_enter Try.func12, Try.ntmps12
          go_wp2
          go_ret2
          exact ⟨rfl, Below.refl _ _⟩

end Go.Proofs.Ytafdjohgoopcmaa
