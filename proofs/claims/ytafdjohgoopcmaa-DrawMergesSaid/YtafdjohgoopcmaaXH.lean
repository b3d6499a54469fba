/- Contract: Pick of draw's reference. Condition: the seed is shorter than 2^31, the number fits an int, the slice reads as choices. -/
import Derived.Test.YtafdjohgoopcmaaXG
namespace Go.Proofs.Ytafdjohgoopcmaa
open Go.RowKit

set_option maxRecDepth 10000 in
set_option maxHeartbeats 2000000 in
theorem rPick_any {w : World} {v : Value} {l : List Ch} (h : Cx w v l) (s : ByteArray) (hs : s.size < 2147483648) (k : Int) (hk : I64 k) :
    Calls Try.prog 15 #[.string s, .int .i64 k, v] w fun e w' => e = .returned (.tuple #[.int .i64 (pickV s k l : Nat), .bool (okN s k (total l))]) ∧ Below w.heap.size w w' := by
  have hle := total_le l
  have HS := Lib.hid (rSum_any h)
  have HNB := Lib.hid (fun W => rNumber_any s hs k (total l) hk ⟨by omega, by omega⟩ W)
  by_cases hok : okN s k (total l) = true
  · have hlt := numV_lt hok
    have hpos : 0 < total l := by have := ((okN_iff s k (total l)).1 hok).2.2.1; omega
    have hT := total_pos hpos
    have e1 : pickV s k l = above (numV s k (total l)) 0 l := by rw [pickV, if_pos hok]
    rw [hok] at HNB ⊢
    rw [e1]
    obtain ⟨ao, cap, rfl⟩ := h.mk'
    have hlen := h.len
    unfold maxLen at hlen
    obtain ⟨m, hm⟩ : ∃ m, m = l.length := ⟨_, rfl⟩
    have HN := Lib.hid hm
    have HX := Lib.hid h
    rw [← hm] at hlen HX HS ⊢
    rw [show decide (0 < total l) = true by simpa using hpos] at HS
    obtain ⟨N, hN⟩ : ∃ N, N = numV s k (total l) := ⟨_, rfl⟩
    rw [← hN] at HNB hlt ⊢
    obtain ⟨R, hR⟩ : ∃ R, R = above N 0 l := ⟨_, rfl⟩
    rw [← hR]
    have HR := Lib.hid hR
    obtain ⟨T, hTT⟩ : ∃ T, T = total l := ⟨_, rfl⟩
    rw [← hTT] at HNB HS hT hlt
    have HT := Lib.hid hT
    have HLT := Lib.hid hlt
    clear hTT hR hN e1 hpos hlt hok hle h hT hm
    go_enter Try.func15, Try.ntmps15
    go_wp2_with (first | (go_at_call 27; refine HS.out.mono ?_; rintro e w1 ⟨rfl, hb1⟩; have HB1 := Lib.hid hb1; clear hb1) | (go_at_call 12; refine (HNB.out _).mono ?_; rintro e w2 ⟨rfl, hb2⟩; have HB2 := Lib.hid (HB1.out.trans (hb2.mono HB1.out.size)); clear hb2))
    go_loop [12, 13] (fun tv kv => ∃ k S : Nat, k ≤ m ∧ S ≤ 1073741824 ∧ kv = .int .i64 (k : Nat) ∧ tv = .int .i64 (S : Nat) ∧ Hid (above N S (l.drop k) + k = R) ∧ Hid (sumV S (l.drop k) = some T ∧ S ≤ N)) (fun _ kv => m - (intOf kv).toNat)
    case atStart => exact ⟨0, 0, by omega, by omega, rfl, rfl, Lib.hid HR.out.symm, Lib.hid ⟨HT.out, by omega⟩⟩
    case round =>
      obtain ⟨k, S, hk, hS, rfl, rfl, hJ, hK⟩ := hrel
      have hkm : k < m := by
        rcases Nat.lt_or_ge k m with h | h
        · exact h
        · have h1 := hK.out
          have h2 := HLT.out
          rw [show k = m by omega, HN.out, List.drop_length] at h1
          simp [sumV] at h1
          omega
      obtain ⟨b, off, rfl, hcap, hbl, hcl⟩ := HX.out.at (by omega)
      obtain ⟨c0, c1, c2⟩ := hcl k hkm
      have c0 := cell_later HB2.out c0
      have hkl : k < l.length := by rw [← HN.out]; exact hkm
      have hst := sumV_step (S := S) hkl
      have hJo := hJ.out
      have hKo := hK.out
      rw [hst] at hKo
      rw [above_step hkl] at hJo
      clear c1 c2
      revert c0 hJo hKo
      generalize l.getD k (0, 0, 0) = q
      obtain ⟨x, y, z⟩ := q
      intro c0 hJo hKo
      simp only at c0 hJo hKo
      by_cases ha : addW S x
      · rw [if_pos ha] at hKo
        have ha1 : 1 ≤ x := ha.1
        have ha2 : x ≤ 1073741824 - (S : Int) := ha.2
        have e2 : (S : Int) + x = ((S + x.toNat : Nat) : Int) := by omega
        have E2 := Lib.hid e2
        by_cases hlt : N < S + x.toNat
        · have EK : Hid (k = R) := Lib.hid (by rw [if_pos hlt] at hJo; omega)
          have hl2 : (N : Int) < (S : Int) + x := by omega
          clear hJo hKo hst hkl hcl hJ hK ha e2
          go_wp2
          go_ret2
          exact ⟨by rw [← EK.out]; rfl, HB2.out⟩
        · have HJ2 : Hid (above N (S + x.toNat) (l.drop (k + 1)) + (k + 1) = R) := Lib.hid (by rw [if_neg hlt] at hJo; omega)
          have HK2 : Hid (sumV (S + x.toNat) (l.drop (k + 1)) = some T ∧ S + x.toNat ≤ N) := Lib.hid ⟨hKo.1, by omega⟩
          have hl2 : ¬ (N : Int) < (S : Int) + x := by omega
          clear hJo hKo hst hkl hcl hJ hK ha e2
          go_wp2
          go_round
          case rel => exact ⟨k + 1, S + x.toNat, by omega, by omega, by go_num, by first | (rw [← E2.out]; done) | (rw [← E2.out]; rfl), HJ2, HK2⟩
          case measure => simp [intOf]; omega
      · rw [if_neg ha] at hKo
        exact absurd hKo.1 (by simp)
  · have hno : okN s k (total l) = false := by simpa using hok
    have e1 : pickV s k l = 0 := by rw [pickV, if_neg hok]
    rw [hno, numV_no hno] at HNB
    rw [hno, e1]
    by_cases h0 : 0 < total l
    · rw [show decide (0 < total l) = true by simpa using h0] at HS
      obtain ⟨T, hT⟩ : ∃ T, T = total l := ⟨_, rfl⟩
      rw [← hT] at HNB HS
      clear hT e1 hok hno hle h h0
      go_enter Try.func15, Try.ntmps15
      go_wp2_with (first | (go_at_call 27; refine HS.out.mono ?_; rintro e w1 ⟨rfl, hb1⟩; have HB1 := Lib.hid hb1; clear hb1) | (go_at_call 12; refine (HNB.out _).mono ?_; rintro e w2 ⟨rfl, hb2⟩; have HB2 := Lib.hid (HB1.out.trans (hb2.mono HB1.out.size)); clear hb2))
      go_ret2
      exact ⟨rfl, HB2.out⟩
    · rw [show decide (0 < total l) = false by simpa using h0] at HS
      obtain ⟨T, hT⟩ : ∃ T, T = total l := ⟨_, rfl⟩
      rw [← hT] at HNB HS
      clear hT e1 hok hno hle h h0 HNB
      go_enter Try.func15, Try.ntmps15
      go_wp2_with (go_at_call 27; refine HS.out.mono ?_; rintro e w1 ⟨rfl, hb1⟩; have HB1 := Lib.hid hb1; clear hb1)
      go_ret2
      exact ⟨rfl, HB1.out⟩

end Go.Proofs.Ytafdjohgoopcmaa
