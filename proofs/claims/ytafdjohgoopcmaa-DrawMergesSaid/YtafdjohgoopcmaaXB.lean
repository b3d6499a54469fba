/- Contracts: search and Number of draw, Number of the reference. Condition: the seed is shorter than 2^31, the numbers fit ints. -/
import Derived.ScopeJumps
import Derived.WalkMore
import Derived.Test.YtafdjohgoopcmaaXA
namespace Go.Proofs.Ytafdjohgoopcmaa
open Go.RowKit

/-- The first candidate below a limit, of those from j on, n more behind it; else the last one. -/
def srch (f : Nat → Nat) (lim : Nat) : Nat → Nat → Nat
  | 0, j => f j
  | n + 1, j => if f j < lim then f j else srch f lim n (j + 1)

theorem srch_mem (f : Nat → Nat) (lim : Nat) : ∀ n j, ∃ i, srch f lim n j = f i
  | 0, j => ⟨j, rfl⟩
  | n + 1, j => by
    unfold srch
    split
    · exact ⟨j, rfl⟩
    · exact srch_mem f lim n (j + 1)

theorem srch_yes {f : Nat → Nat} {lim j : Nat} (h : f j < lim) : ∀ n, srch f lim n j = f j
  | 0 => rfl
  | n + 1 => by unfold srch; rw [if_pos h]

theorem srch_no {f : Nat → Nat} {lim n j m : Nat} (hm : n = m + 1) (h : ¬ f j < lim) : srch f lim n j = srch f lim m (j + 1) := by
  subst hm
  conv => lhs; unfold srch
  rw [if_neg h]

set_option maxRecDepth 10000 in
set_option maxHeartbeats 2000000 in
theorem search_any (s : ByteArray) (hs : s.size < 2147483648) (k : Int) (hk : -9223372036854775808 ≤ k ∧ k ≤ 9223372036854775807) (lim : Nat) (hl : lim ≤ 1073741824) (w : World) :
    Calls Try.prog 23 #[.string s, .int .i64 k, .int .i64 lim] w fun e w' => e = .returned (.int .i64 (srch (fun j => cand s k j) lim 63 0 : Nat)) ∧ Below w.heap.size w w' := by
  have HC := Lib.hid (fun (j : Nat) (hj : j < 64) W => cand_any s hs k j hk ⟨by omega, by omega⟩ W)
  obtain ⟨f, hf⟩ : ∃ f : Nat → Nat, f = fun (j : Nat) => cand s k j := ⟨_, rfl⟩
  have hlt : ∀ j, f j < 1073741824 := fun j => by rw [hf]; exact cand_lt _ _ _
  have HF : Hid (∀ (j : Nat), j < 64 → ∀ W, Calls Try.prog 34 #[.string s, .int .i64 k, .int .i64 j] W fun e w' => e = .returned (.int .i64 (f j : Nat)) ∧ Below W.heap.size W w') := Lib.hid fun j hj W => by rw [hf]; exact HC.out j hj W
  rw [← hf]
  obtain ⟨R, hR⟩ : ∃ R, R = srch f lim 63 0 := ⟨_, rfl⟩
  have HR := Lib.hid hR
  have HLT := Lib.hid hlt
  rw [← hR]
  clear hR hf HC hlt
  go_enter Try.func23, Try.ntmps23
  go_wp2
  refine wp_scope_jumps 0 (fun a' w' => Hid (Below w.heap.size w w') ∧ ∃ u8 u9 u10 u11 u12 u13 u14 u15 u16 u17 u18 u19 : Value, a' = { tmps := #[.string s, .int .i64 k, .int .i64 lim, undef, undef, undef, .int .i64 0, .int .i64 (R : Nat), u8, u9, u10, u11, u12, u13, u14, u15, u16, u17, u18, u19, undef], defers := [] }) (fun _ _ => 0) rfl ?_ ?_
  · go_wp2
    go_loopw [7, 9] (fun cv iv wr => ∃ j c : Nat, j ≤ 64 ∧ iv = .int .i64 (j : Nat) ∧ cv = .int .i64 (c : Nat) ∧ Hid (j < 64 → srch f lim (63 - j) j = R) ∧ Hid (j = 64 → c = R) ∧ Hid (Below w.heap.size w wr)) (fun _ iv _ => 64 - (intOf iv).toNat)
    case atStart => exact ⟨0, 0, by omega, rfl, rfl, Lib.hid (fun _ => HR.out.symm), Lib.hid (fun h => by omega), Lib.hid (Below.refl _ _)⟩
    case round =>
      obtain ⟨j, c, hj, rfl, rfl, h1, h2, hB⟩ := hrel
      by_cases hj64 : j = 64
      · have hc := h2.out hj64
        subst hj64 hc
        clear h1 h2
        go_wp2
        go_step3
        go_wp2
        simp only [Exit.jump]
        go_ret
        exact ⟨rfl, hB.out⟩
      · have hjl : j < 64 := by omega
        have hr := h1.out hjl
        have HJ := HF.out j hjl
        have h3 := HLT.out j
        obtain ⟨x, hx⟩ : ∃ x, x = f j := ⟨_, rfl⟩
        rw [← hx] at HJ h3
        have HJJ := Lib.hid HJ
        clear HJ
        by_cases hlx : x < lim
        · have e1 : x = R := by rw [hx] at hlx ⊢; rw [← hr, srch_yes hlx]
          have E1 := Lib.hid e1
          clear hx hr h1 h2 e1
          go_wp2_with (go_at_call 34; refine (HJJ.out _).mono ?_; rintro e w2 ⟨rfl, hb2⟩; have HB2 := Lib.hid (hB.out.trans (hb2.mono hB.out.size)); clear hb2)
          go_step3
          rw [E1.out]
          exact ⟨rfl, HB2, _, _, _, _, _, _, _, _, _, _, _, _, rfl⟩
        · have HN : Hid (j + 1 < 64 → srch f lim (63 - (j + 1)) (j + 1) = R) := Lib.hid fun h => by rw [← hr]; exact (srch_no (by omega) (by rw [← hx]; exact hlx)).symm
          have HM : Hid (j + 1 = 64 → x = R) := Lib.hid fun h => by rw [← hr, show 63 - j = 0 by omega, hx]; rfl
          clear hx hr h1 h2
          go_wp2_with (go_at_call 34; refine (HJJ.out _).mono ?_; rintro e w2 ⟨rfl, hb2⟩; have HB2 := Lib.hid (hB.out.trans (hb2.mono hB.out.size)); clear hb2)
          go_roundw
          case rel => exact ⟨j + 1, x, by omega, by go_num, rfl, HN, HM, HB2⟩
          case measure => simp [intOf]; omega
  · rintro a' w' ⟨hB, u8, u9, u10, u11, u12, u13, u14, u15, u16, u17, u18, u19, rfl⟩
    go_wp2
    simp only [Exit.jump]
    go_ret
    exact ⟨rfl, hB.out⟩

end Go.Proofs.Ytafdjohgoopcmaa
