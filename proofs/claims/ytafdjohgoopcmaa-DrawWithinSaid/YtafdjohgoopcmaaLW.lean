/- The law DrawWithin, walked. Condition: the arguments fit their types. -/
import Derived.Test.YtafdjohgoopcmaaLV
namespace Go.Proofs.Ytafdjohgoopcmaa
open Go.RowKit

attribute [local go_sem ↓] appC_rw

set_option maxRecDepth 100000 in
set_option maxHeartbeats 8000000 in
theorem drawWithin_any {w : World} {v : Value} {l : List Int} (hX : Ux w v l) (s : ByteArray) (hs : s.size ≤ 9223372036854775807) (k : Int) (hk : I64 k) :
    Calls Try.prog 6 #[.string s, .int .i64 k, v] w fun e w' => e = .returned (.bool true) ∧ Below w.heap.size w w' := by
  have HS := Lib.hid (fun W => sanity_any W)
  have hcut := cutS_eq s
  have hz : (cutS s 70).size ≤ 70 := by rw [cutS_size]; omega
  obtain ⟨s2, hs2⟩ : ∃ s2, s2 = cutS s 70 := ⟨_, rfl⟩
  rw [← hs2] at hcut hz
  have HX := Lib.hid hX
  obtain ⟨ao0, cap0, rfl⟩ := hX.mk'
  obtain ⟨n, hn⟩ : ∃ n, n = l.length := ⟨_, rfl⟩
  have hn63 := hX.len
  unfold maxLen at hn63
  rw [← hn] at HX hn63 ⊢
  obtain ⟨m, hm⟩ : ∃ m, m = min n 20 := ⟨_, rfl⟩
  have hm20 : m ≤ 20 := by omega
  have hmn : m ≤ n := by omega
  have HM := Lib.hid hm
  clear hs2 hn hX hm
  go_enter Try.func6, Try.ntmps6
  go_wp2_with (go_at_call 9; refine (HS.out _).mono ?_; rintro e w1 ⟨rfl, hb1⟩; have HB1 := Lib.hid hb1; clear hb1)
  go_loopw [8, 9, 10] (fun cv sv kv wr => ∃ (j S : Nat) (ao2 : Option Addr) (cap2 : Nat), j ≤ m ∧ S ≤ 600 ∧ kv = .int .i64 (j : Nat) ∧ sv = .int .i64 (S : Nat) ∧ cv = .slice ao2 j cap2 ∧ Hid (S = pre (wl l m) j) ∧ Hid (OwC wr w1.heap.size (.slice ao2 j cap2) j (wl l j)) ∧ Hid (Below w1.heap.size w1 wr)) (fun _ _ kv _ => m - (intOf kv).toNat)
  case atStart => exact ⟨0, 0, none, 0, by omega, by omega, rfl, rfl, rfl, Lib.hid rfl, Lib.hid (World.ownsRow_nil _ _ _ _), Lib.hid (Below.refl _ _)⟩
  case round =>
    obtain ⟨j, S, ao2, cap2, hj, hS6, rfl, rfl, rfl, hS, hO, hB⟩ := hrel
    by_cases hjm : j = m
    · have hend : ¬ j < n ∨ ¬ j < 20 := by have := HM.out; omega
      subst hjm
      have hco := OwC.cx hO.out (by omega) (wl_fit l j)
      have HCX := Lib.hid hco
      have htot : total (wl l j) = S := by rw [total_wl l j hm20, hS.out]
      have HNU := Lib.hid (fun W => number_any s2 (by omega) k (S : Int) hk ⟨by omega, by omega⟩ W)
      have HPI := Lib.hid (fun W (hb : Below wr.heap.size wr W) => pick_any (hco.below hb) s2 (by omega) k hk)
      rw [htot] at HPI
      have HBW : Hid (Below w.heap.size w wr) := Lib.hid (HB1.out.trans (hB.out.mono HB1.out.size))
      clear hO hB hco
      by_cases hok : okN s2 k S = true
      · obtain ⟨g1, g2, g3, g4⟩ := (okN_iff s2 k S).1 hok
        have h0 : s2.toList.isEmpty = false := by
          cases hq : s2.toList with
          | nil => exact absurd ((empty_iff s2).1 hq) g1
          | cons a l => rfl
        have hNS := numV_lt hok
        have hpk : pickV s2 k (wl l j) = above (numV s2 k S) 0 (wl l j) := by rw [pickV, htot, if_pos hok]
        rw [hok] at HNU HPI
        rw [hpk] at HPI
        obtain ⟨N, hN⟩ : ∃ N, N = numV s2 k S := ⟨_, rfl⟩
        rw [← hN] at HNU HPI hNS
        have hap := above_pre (wl l j) N (by rw [wl_len, ← hS.out]; omega) j 0 (by rw [wl_len]; omega) (Nat.zero_le _)
        rw [wl_len] at hap
        have e0 : (wl l j).drop 0 = wl l j := rfl
        rw [e0] at hap
        simp only [Nat.zero_add] at hap
        obtain ⟨I, hI⟩ : ∃ I, I = above N 0 (wl l j) := ⟨_, rfl⟩
        have hap2 : I < j ∧ pre (wl l j) I ≤ N ∧ N < pre (wl l j) (I + 1) := by rw [hI]; exact hap
        rw [← hI] at HPI
        obtain ⟨hIj, hp1, hp2⟩ := hap2
        rw [pre, wl_get l hIj] at hp2
        have HP1 := Lib.hid hp1
        have HP2 := Lib.hid hp2
        have hj0 : j ≠ 0 := by omega
        obtain ⟨b2, off2, rfl, hcap2, hb2, hcl2⟩ := HCX.out.at hj0
        have HCL : Hid (∀ i, i < j → wr.cell? ⟨b2, off2 + i * 3, none⟩ = some (.int .i64 (1 + l.getD i 0 % 30))) := Lib.hid fun i hi => by
          have := (hcl2 i hi).1
          rw [wl_get l hi] at this
          exact this
        have hIc : I ≤ cap2 := by omega
        clear hap hI hN hpk hok g1 g4 hcl2 hb2 hp1 hp2 htot e0
        rcases Nat.lt_or_ge j n with h1 | h1
        all_goals
          go_wp2_with (first | (go_at_call 11; refine (HNU.out _).mono ?_; rintro e w2 ⟨rfl, hb⟩; have HB2 := Lib.hid hb; clear hb) | (go_at_call 14; refine (HPI.out _ HB2.out).mono ?_; rintro e w3 ⟨rfl, hb⟩; have HB3 := Lib.hid (HB2.out.trans (hb.mono HB2.out.size)); clear hb))
          go_loopw [16, 17, 114] (fun bv _ kv wq => ∃ q P : Nat, q ≤ I ∧ P ≤ 600 ∧ kv = .int .i64 (q : Nat) ∧ bv = .int .i64 (P : Nat) ∧ Hid (P = pre (wl l j) q) ∧ Hid (Below wr.heap.size wr wq)) (fun _ _ kv _ => I - (intOf kv).toNat)
          case atStart => exact ⟨0, 0, by omega, by omega, rfl, rfl, Lib.hid rfl, HB3⟩
          case round =>
            obtain ⟨q, P, hq, hP6, rfl, rfl, hP, hQ⟩ := hrel
            by_cases hqI : q = I
            · have hc := cell_later hQ.out (HCL.out I hIj)
              have hx0 : (0 : Int) ≤ l.getD I 0 % 30 := by omega
              have hx1 : l.getD I 0 % 30 < 30 := by omega
              have hP1 := HP1.out
              have hP2 := HP2.out
              rw [← hqI, ← hP.out] at hP1
              rw [← hqI, ← hP.out, hqI] at hP2
              revert hc hx0 hx1 hP2
              generalize l.getD I 0 % 30 = x
              intro hc hx0 hx1 hP2
              have hP3 : (P : Int) ≤ (N : Int) := by omega
              have hP4 : (N : Int) < (P : Int) + (1 + x) := by omega
              clear hP1 hP2
              subst hqI
              go_wp2
              go_ret
              exact ⟨rfl, HBW.out.trans (hQ.out.mono HBW.out.size)⟩
            · have hqI2 : q < I := by omega
              have hqj : q < j := by omega
              have hc := cell_later hQ.out (HCL.out q hqj)
              have hx0 : (0 : Int) ≤ l.getD q 0 % 30 := by omega
              have hx1 : l.getD q 0 % 30 < 30 := by omega
              have hP2 : P + (1 + l.getD q 0 % 30).toNat = pre (wl l j) (q + 1) := by rw [pre, ← hP.out, wl_get l hqj]
              have hle : P + (1 + l.getD q 0 % 30).toNat ≤ 600 := by
                have := pre_wl_le l j (q + 1) (by omega)
                omega
              revert hc hx0 hx1 hP2 hle
              generalize l.getD q 0 % 30 = x
              intro hc hx0 hx1 hP2 hle
              obtain ⟨P2, hP2e⟩ : ∃ P2, P2 = P + (1 + x).toNat := ⟨_, rfl⟩
              rw [← hP2e] at hP2 hle
              have hPP : Hid ((P : Int) + (1 + x) = (P2 : Int)) := Lib.hid (by omega)
              have HP3 := Lib.hid hP2
              clear hP2 hP2e
              go_wp2
              go_roundw
              case rel => exact ⟨q + 1, P2, by omega, hle, by go_num, by rw [hPP.out], HP3, hQ⟩
              case measure => simp [intOf]; omega
      · have hno : okN s2 k S = false := by simpa using hok
        have hcase : s2.size = 0 ∨ k < 0 ∨ S = 0 := by
          have : ¬ (s2.size ≠ 0 ∧ 0 ≤ k ∧ 1 ≤ (S : Int) ∧ (S : Int) ≤ 1073741824) := fun h => hok ((okN_iff s2 k S).2 h)
          omega
        have hpk : pickV s2 k (wl l j) = 0 := by rw [pickV, htot, if_neg hok]
        rw [hno, numV_no hno] at HNU
        rw [hno, hpk] at HPI
        have he : (s2.toList.isEmpty = true) ↔ s2.size = 0 := by rw [← empty_iff s2]; exact List.isEmpty_iff
        have hne : s2.size ≠ 0 → s2.toList.isEmpty = false := fun h => by
          cases hq : s2.toList.isEmpty with
          | true => exact absurd (he.1 hq) h
          | false => rfl
        clear hno hpk hok htot
        have hc3 : s2.toList.isEmpty = true ∨ (s2.toList.isEmpty = false ∧ k < 0) ∨ (s2.toList.isEmpty = false ∧ 0 ≤ k ∧ S = 0) := by
          by_cases h1 : s2.size = 0
          · exact .inl (he.2 h1)
          · by_cases h2 : k < 0
            · exact .inr (.inl ⟨hne h1, h2⟩)
            · exact .inr (.inr ⟨hne h1, by omega, by omega⟩)
        clear hcase he hne
        rcases Nat.lt_or_ge j n with h1 | h1
        all_goals
          rcases hc3 with h0 | ⟨h0, h2⟩ | ⟨h0, h2, rfl⟩
          all_goals
            go_wp2_with (first | (go_at_call 11; refine (HNU.out _).mono ?_; rintro e w2 ⟨rfl, hb⟩; have HB2 := Lib.hid hb; clear hb) | (go_at_call 14; refine (HPI.out _ HB2.out).mono ?_; rintro e w3 ⟨rfl, hb⟩; have HB3 := Lib.hid (HB2.out.trans (hb.mono HB2.out.size)); clear hb))
            go_ret
            exact ⟨rfl, HBW.out.trans (HB3.out.mono HBW.out.size)⟩
    · have hlt : j < m := by omega
      have hjn : j < n := by omega
      have hj20 : (j : Int) < 20 := by omega
      obtain ⟨b, off, rfl, hcap, hbl, hcl⟩ := HX.out.at (by omega)
      have c0 := cell_later (HB1.out.trans (hB.out.mono HB1.out.size)) (hcl j hjn)
      have hfit := HX.out.fit j
      obtain ⟨ao3, cap3, w3, hrun, hown, hb3⟩ := push_choice hO.out (by omega) hB.out.size (1 + l.getD j 0 % 30) 0 ((j : Int) % 6)
      rw [← wl_succ] at hown
      have hS2 : S + (1 + l.getD j 0 % 30).toNat = pre (wl l m) (j + 1) := by rw [pre, ← hS.out, wl_get l hlt]
      have hle : S + (1 + l.getD j 0 % 30).toNat ≤ 600 := by
        have := pre_wl_le l m (j + 1) (by omega)
        omega
      revert c0 hfit hrun hS2 hle
      generalize l.getD j 0 = x
      intro c0 hfit hrun hS2 hle
      have hx0 : 0 ≤ x := hfit.1
      have hx1 : x ≤ 255 := hfit.2
      have HO3 := Lib.hid hown
      have HB3 : Hid (Below w1.heap.size w1 w3) := Lib.hid (hB.out.trans hb3)
      have HS2 := Lib.hid hS2
      obtain ⟨S2, hS2e⟩ : ∃ S2, S2 = S + (1 + x % 30).toNat := ⟨_, rfl⟩
      rw [← hS2e] at HS2 hle
      have hSS : (S : Int) + (1 + x % 30) = (S2 : Int) := by omega
      have HSS := Lib.hid hSS
      clear hfit hS2 hown hb3 hcl hbl hS2e hSS
      go_wp2
      go_roundw
      case rel => exact ⟨j + 1, S2, ao3, cap3, by omega, hle, by go_num, by rw [HSS.out], rfl, HS2, HO3, HB3⟩
      case measure => simp [intOf]; omega

end Go.Proofs.Ytafdjohgoopcmaa
