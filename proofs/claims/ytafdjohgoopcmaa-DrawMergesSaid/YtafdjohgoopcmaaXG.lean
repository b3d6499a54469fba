/- Contracts: Pick of draw, Sum and Pick of the reference. Condition: the seed is shorter than 2^31, the number fits an int, the slice reads as choices. -/
import Derived.Test.YtafdjohgoopcmaaXF
namespace Go.Proofs.Ytafdjohgoopcmaa
open Go.RowKit

theorem total_le (l : List Ch) : total l ≤ 1073741824 := by
  unfold total
  cases h : sumV 0 l with
  | none => simp
  | some T => exact sumV_le l 0 T (by omega) h

theorem total_pos {l : List Ch} (h : 0 < total l) : sumV 0 l = some (total l) := by
  unfold total at h ⊢
  cases h1 : sumV 0 l with
  | none => rw [h1] at h; simp at h
  | some T => rfl

def pickV (s : ByteArray) (k : Int) (l : List Ch) : Nat := if okN s k (total l) = true then above (numV s k (total l)) 0 l else 0

set_option maxRecDepth 10000 in
set_option maxHeartbeats 2000000 in
theorem pick_any {w : World} {v : Value} {l : List Ch} (h : Cx w v l) (s : ByteArray) (hs : s.size < 2147483648) (k : Int) (hk : I64 k) :
    Calls Try.prog 14 #[.string s, .int .i64 k, v] w fun e w' => e = .returned (.tuple #[.int .i64 (pickV s k l : Nat), .bool (okN s k (total l))]) ∧ Below w.heap.size w w' := by
  have hle := total_le l
  have HS := Lib.hid (sum_any h)
  have HNB := Lib.hid (fun W => number_any s hs k (total l) hk ⟨by omega, by omega⟩ W)
  by_cases hok : okN s k (total l) = true
  · have hlt := numV_lt hok
    have hpos : 0 < total l := by have := ((okN_iff s k (total l)).1 hok).2.2.1; omega
    have HF := Lib.hid (fun W (hb : Below w.heap.size w W) => firstAbove_any (h.below hb) (n := numV s k (total l)) (total_pos hpos) (by omega) (by omega))
    have e1 : pickV s k l = above (numV s k (total l)) 0 l := by rw [pickV, if_pos hok]
    rw [hok] at HNB ⊢
    rw [e1]
    obtain ⟨N, hN⟩ : ∃ N, N = numV s k (total l) := ⟨_, rfl⟩
    rw [← hN] at HNB HF ⊢
    obtain ⟨R, hR⟩ : ∃ R, R = above N 0 l := ⟨_, rfl⟩
    rw [← hR] at HF ⊢
    obtain ⟨T, hT⟩ : ∃ T, T = total l := ⟨_, rfl⟩
    rw [← hT] at HNB HS
    clear hT hR hN e1 hpos hlt hok hle h
    go_enter Try.func14, Try.ntmps14
    go_wp2_with (first | (go_at_call 25; refine HS.out.mono ?_; rintro e w1 ⟨rfl, hb1⟩; have HB1 := Lib.hid hb1; clear hb1) | (go_at_call 11; refine (HNB.out _).mono ?_; rintro e w2 ⟨rfl, hb2⟩; have HB2 := Lib.hid (HB1.out.trans (hb2.mono HB1.out.size)); clear hb2) | (go_at_call 26; refine (HF.out _ HB2.out).mono ?_; rintro e w3 ⟨rfl, hb3⟩; have HB3 := Lib.hid (HB2.out.trans (hb3.mono HB2.out.size)); clear hb3))
    go_ret2
    exact ⟨rfl, HB3.out⟩
  · have hno : okN s k (total l) = false := by simpa using hok
    have e1 : pickV s k l = 0 := by rw [pickV, if_neg hok]
    rw [hno, numV_no hno] at HNB
    rw [hno, e1]
    obtain ⟨T, hT⟩ : ∃ T, T = total l := ⟨_, rfl⟩
    rw [← hT] at HNB HS
    clear hT e1 hok hno hle h
    go_enter Try.func14, Try.ntmps14
    go_wp2_with (first | (go_at_call 25; refine HS.out.mono ?_; rintro e w1 ⟨rfl, hb1⟩; have HB1 := Lib.hid hb1; clear hb1) | (go_at_call 11; refine (HNB.out _).mono ?_; rintro e w2 ⟨rfl, hb2⟩; have HB2 := Lib.hid (HB1.out.trans (hb2.mono HB1.out.size)); clear hb2))
    go_ret2
    exact ⟨rfl, HB2.out⟩

set_option maxRecDepth 10000 in
set_option maxHeartbeats 2000000 in
theorem rSum_any {w : World} {v : Value} {l : List Ch} (h : Cx w v l) : Calls Try.prog 27 #[v] w fun e w' => e = .returned (.tuple #[.int .i64 (total l : Nat), .bool (decide (0 < total l))]) ∧ Below w.heap.size w w' := by
  obtain ⟨ao, cap, rfl⟩ := h.mk'
  have hlen := h.len
  unfold maxLen at hlen
  obtain ⟨n, hn⟩ : ∃ n, n = l.length := ⟨_, rfl⟩
  have HN := Lib.hid hn
  have HX := Lib.hid h
  rw [← hn] at hlen HX ⊢
  obtain ⟨R, hR⟩ : ∃ R, R = total l := ⟨_, rfl⟩
  have HR := Lib.hid hR
  rw [← hR]
  clear h hn hR
  go_enter Try.func27, Try.ntmps27
  go_wp2
  go_loop [4, 5] (fun tv kv => ∃ k S : Nat, k ≤ n ∧ S ≤ 1073741824 ∧ kv = .int .i64 (k : Nat) ∧ tv = .int .i64 (S : Nat) ∧ Hid ((sumV S (l.drop k)).getD 0 = R)) (fun _ kv => n - (intOf kv).toNat)
  case atStart => exact ⟨0, 0, by omega, by omega, rfl, rfl, Lib.hid HR.out.symm⟩
  case round =>
    obtain ⟨k, S, hk, hS, rfl, rfl, hJ⟩ := hrel
    by_cases hkn : k = n
    · have e1 : S = R := by
        have := hJ.out
        rw [hkn, HN.out, List.drop_length] at this
        exact this
      subst hkn e1
      have hd : decide (0 < (S : Int)) = decide (0 < S) := by rw [decide_eq_decide]; omega
      have HD := Lib.hid hd
      clear hJ hd
      go_wp2
      go_ret2
      exact ⟨by first | rfl | (rw [← HD.out]; rfl) | (simp; done), Below.refl _ _⟩
    · have hlt : k < n := by omega
      obtain ⟨b, off, rfl, hcap, hbl, hcl⟩ := HX.out.at (by omega)
      obtain ⟨c0, c1, c2⟩ := hcl k hlt
      have hfit := HX.out.fit k
      have hst := sumV_step (S := S) (show k < l.length by rw [← HN.out]; exact hlt)
      have hJo := hJ.out
      rw [hst] at hJo
      revert c0 c1 c2 hfit hJo
      generalize l.getD k (0, 0, 0) = q
      obtain ⟨x, y, z⟩ := q
      intro c0 c1 c2 hfit hJo
      simp only at c0 c1 c2 hfit hJo
      clear hst hcl hJ hbl
      by_cases ha : addW S x
      · rw [if_pos ha] at hJo
        have HJ := Lib.hid hJo
        have ha1 : 1 ≤ x := ha.1
        have ha2 : x ≤ 1073741824 - (S : Int) := ha.2
        have e2 : (S : Int) + x = ((S + x.toNat : Nat) : Int) := by omega
        have E2 := Lib.hid e2
        clear hJo ha e2
        go_wp2
        go_round
        case rel => exact ⟨k + 1, S + x.toNat, by omega, by omega, by go_num, by first | (rw [← E2.out]; done) | (rw [← E2.out]; rfl), HJ⟩
        case measure => simp [intOf]; omega
      · rw [if_neg ha] at hJo
        have HJ := Lib.hid hJo
        have hR0 : Hid (R = 0) := Lib.hid (by rw [← HJ.out]; rfl)
        have h3 : x < 1 ∨ 1073741824 - (S : Int) < x := by unfold addW at ha; omega
        clear hJo ha
        by_cases h1 : x < 1
        · clear h3
          go_wp2
          go_ret2
          exact ⟨by rw [hR0.out]; rfl, Below.refl _ _⟩
        · have h4 : 1073741824 - (S : Int) < x := by omega
          clear h3
          go_wp2
          go_ret2
          exact ⟨by rw [hR0.out]; rfl, Below.refl _ _⟩

end Go.Proofs.Ytafdjohgoopcmaa
