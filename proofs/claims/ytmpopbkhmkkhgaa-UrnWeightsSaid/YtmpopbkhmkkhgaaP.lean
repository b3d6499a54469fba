/- The law UrnWeights, walked. Condition: the arguments fit their types. -/
import Derived.Test.YtmpopbkhmkkhgaaP0
import Derived.Deep.CutRange
namespace Go.Proofs.Ytmpopbkhmkkhgaa
open Go.RowKit

attribute [local go_sem ↓] equal29

set_option maxRecDepth 100000 in
set_option maxHeartbeats 8000000 in
theorem urnWeights_any {W : World} (l0 l1 l2 l3 l4 l5 : Int) {an : Option Addr} {nl cn : Nat} {l : List Int} (hn : Ix W (.slice an nl cn) l) :
    Calls Try.prog 5 #[.agg #[.int .i64 l0, .int .i64 l1, .int .i64 l2, .int .i64 l3, .int .i64 l4, .int .i64 l5], .slice an nl cn] W fun e w' => e = .returned (.bool true) ∧ Below W.heap.size W w' := by
  have HSA := Lib.hid (fun W' => sanity_any W')
  obtain ⟨P0, hP0⟩ : ∃ P0, P0 = lW W l0 l1 l2 l3 l4 l5 := ⟨_, rfl⟩
  have HB : Hid (Below P0.heap.size P0 (lW W l0 l1 l2 l3 l4 l5)) := Lib.hid (by rw [hP0]; exact Below.refl _ _)
  have HBX := Lib.hid (fun W' (h : Below P0.heap.size P0 W') => l_box (W' := W') (W := W) (l0 := l0) (l1 := l1) (l2 := l2) (l3 := l3) (l4 := l4) (l5 := l5) (by rw [← hP0]; exact h))
  have hup : Below W.heap.size W P0 := by rw [hP0]; exact l_up W l0 l1 l2 l3 l4 l5
  have HUP := Lib.hid (fun W' (h : Below P0.heap.size P0 W') => hup.trans (h.mono hup.size))
  have HMA := Lib.hid (fun W' => made_any (W := W') l0 l1 l2 l3 l4 l5)
  have HN := Lib.hid hn
  have HNL := Lib.hid hn.size
  have hnl := hn.len
  have HCN := Lib.hid hn.le
  rw [← hn.size] at hnl
  unfold maxLen at hnl
  clear hn hup hP0
  go_enter Try.func5, Try.ntmps5
  go_upto_region 3 with (first
    | (go_at_call 8; (with_reducible refine (HSA.out _).mono ?_); rintro e w1 ⟨rfl, hb⟩; have HB := Lib.hid (HB.out.trans (hb.mono HB.out.size)); obtain ⟨b0, b1, b2, b3, b4, b5⟩ := HBX.out _ HB.out; clear hb)
    | (go_at_call 10; (with_reducible refine (HMA.out _).mono ?_); rintro e w2 ⟨ar, nr, cr, r, a, rfl, hr, hmk, hb⟩; have HR := Lib.hid (hmk.ix hr); have HMK := Lib.hid hmk; have HB2 := Lib.hid (HB.out.trans (hb.mono HB.out.size)); clear hb hr hmk b0 b1 b2 b3 b4 b5))
  change Code.wp _ _ _ _ (dbox w2 3 (.slice ar nr cr) a)
  have hD := dbox_is w2 3 (.slice ar nr cr) a
  have hR := HR.out.below (dbox_below w2 3 (.slice ar nr cr) a)
  have hB3 := HB2.out.trans ((dbox_below w2 3 (.slice ar nr cr) a).mono HB2.out.size)
  have hg6 : P0.heap.size ≤ w2.heap.size := HB2.out.size
  generalize dbox w2 3 (.slice ar nr cr) a = W3 at hD hR hB3 ⊢
  generalize w2.heap.size = g6 at hD hg6 ⊢
  have HD := Lib.hid (fun W' (h : Below W3.heap.size W3 W') => (hD.below h).cells)
  have HD3 := Lib.hid hD
  have HR3 := Lib.hid hR
  have HB3 := Lib.hid hB3
  have HG6 := Lib.hid hg6
  have hl8 : r.length ≤ 8 := by have := HMK.out.l4; omega
  have HL8 := Lib.hid hl8
  have HNR := Lib.hid hR.size
  have hg6l := (Array.getElem?_eq_some_iff.1 hD).1
  have HG6L := Lib.hid hg6l
  have HRW := Lib.hid (fun W' (h : Below W3.heap.size W3 W') m (hm : m ≤ nl) => row_any (hR.below h) ((HN.out.take m hm).below (HUP.out _ (hB3.trans (h.mono hB3.size)))) hl8 3 a)
  have hbr := Below.refl W3.heap.size W3
  have HBR := Lib.hid hbr
  clear hD hR hB3 HB2 HR HB HSA HMA hbr hl8 hg6 hg6l
  go_cut [7] from 16 to 75 (fun v wx => ∃ ao n cap row, v = .slice ao n cap ∧ Hid (Ix wx (.slice ao n cap) row) ∧ Hid (RowOk r row) ∧ Hid (Below W3.heap.size W3 wx) ∧ Hid (OwI wx W3.heap.size (.slice ao n cap) n row))
  case first =>
    obtain ⟨k0, k1, k2, k3, k4, k5⟩ := HD.out _ HBR.out
    rcases Nat.lt_or_ge 5 nl with h5 | h5
    · have e4 : (5 : Int) < (nl : Int) := by omega
      have e5 : (5 : Int) ≤ (cn : Int) := by have := HCN.out; omega
      have HRX := Lib.hid (fun W' (h : Below W3.heap.size W3 W') => HRW.out W' h 5 (by omega))
      go_region_held3 (fun W' => W'.cell? ⟨g6, 0, none⟩ = some (.int .i64 3) ∧ W'.cell? ⟨g6, 1, none⟩ = some (.slice ar nr cr) ∧ W'.cell? ⟨g6, 2, none⟩ = some (.slice none 0 0) ∧ W'.cell? ⟨g6, 3, none⟩ = some (.int .i64 a) ∧ W'.cell? ⟨g6, 4, none⟩ = some (.int .i64 0) ∧ W'.cell? ⟨g6, 5, none⟩ = some (.int .i64 0))
        (first | (with_reducible exact HD.out _ HBQ.out) | (with_reducible exact HD.out _ HBR.out) | (exact HD.out _ HBR.out.drew))
        ((go_at_call 11; (refine (HRX.out _ HBR.out.drew).mono ?_); rintro e w3 ⟨ao, n, cap, row, rfl, ho, hok, hb⟩; have HO := Lib.hid ho; have HOK := Lib.hid hok; have HBQ := Lib.hid (HBR.out.drew.trans (hb.mono HBR.out.drew.size)); clear ho hok hb))
      all_goals (go_wp2_with fail; go_meet; exact ⟨ao, n, cap, row, rfl, HOK.out.ix HO.out HL8.out, HOK.out, HBQ.out, HO.out⟩)
    · have e4 : ¬ (5 : Int) < (nl : Int) := by omega
      have e5 : (nl : Int) ≤ (cn : Int) := by have := HCN.out; omega
      have HRX := Lib.hid (fun W' (h : Below W3.heap.size W3 W') => HRW.out W' h nl (by omega))
      go_region_held3 (fun W' => W'.cell? ⟨g6, 0, none⟩ = some (.int .i64 3) ∧ W'.cell? ⟨g6, 1, none⟩ = some (.slice ar nr cr) ∧ W'.cell? ⟨g6, 2, none⟩ = some (.slice none 0 0) ∧ W'.cell? ⟨g6, 3, none⟩ = some (.int .i64 a) ∧ W'.cell? ⟨g6, 4, none⟩ = some (.int .i64 0) ∧ W'.cell? ⟨g6, 5, none⟩ = some (.int .i64 0))
        (first | (with_reducible exact HD.out _ HBQ.out) | (with_reducible exact HD.out _ HBR.out) | (exact HD.out _ HBR.out.drew))
        ((go_at_call 11; (refine (HRX.out _ HBR.out.drew).mono ?_); rintro e w3 ⟨ao, n, cap, row, rfl, ho, hok, hb⟩; have HO := Lib.hid ho; have HOK := Lib.hid hok; have HBQ := Lib.hid (HBR.out.drew.trans (hb.mono HBR.out.drew.size)); clear ho hok hb))
      all_goals (go_wp2_with fail; go_meet; exact ⟨ao, n, cap, row, rfl, HOK.out.ix HO.out HL8.out, HOK.out, HBQ.out, HO.out⟩)
  case' rest =>
    obtain ⟨ao, n, cap, row, rfl, HW, HOK, HBC, -⟩ := hcut
    have HBL := Lib.hid (fun W' (h : Below wc.heap.size wc W') => balls_any (HR3.out.below (HBC.out.trans (h.mono HBC.out.size))) (HW.out.below h) HL8.out (by have := HOK.out.in8.2; have := HL8.out; omega) 3 a)
    have HCH := Lib.hid (fun W' (h : Below wc.heap.size wc W') => choices_any (HR3.out.below (HBC.out.trans (h.mono HBC.out.size))) (HW.out.below h) HL8.out (by have := HOK.out.in8.2; have := HL8.out; omega) 3 a)
    have HCI := Lib.hid (fun W' (v : Value) (B n : Nat) (h : OwC W' B v n (chV r a row)) => h.chx HL8.out)
    have HBI := Lib.hid (fun W' (v : Value) (B n : Nat) (h : OwI W' B v n (balV r a row)) => h.bx HL8.out)
    have HI := Lib.hid (bal_of HMK.out HOK.out)
    unfold chV at HCH HCI
    revert HBL HCH HCI HBI HI
    generalize balV r a row = b
    intro HBL HCH HCI HBI HI
    have HB := Lib.hid (Below.refl wc.heap.size wc)
    obtain ⟨k0, k1, k2, k3, k4, k5⟩ := HD.out _ HBC.out
    clear HBR HRW HW
    go_upto_region 5 with (go_at_call 13; (with_reducible refine (HBL.out _ HB.out).mono ?_); rintro e w4 ⟨ab, nb, cb, rfl, ho, hb⟩; have HO := Lib.hid (HBI.out _ _ _ _ ho); have HNB := Lib.hid (owI_len ho); have HB := Lib.hid (HB.out.trans (hb.mono HB.out.size)); clear k0 k1 k2 k3 k4 k5; obtain ⟨k0, k1, k2, k3, k4, k5⟩ := HD.out _ (HBC.out.trans (HB.out.mono HBC.out.size)); clear ho hb)
    have hnbr : nb = nr := by have := HI.out.l; have := HNR.out; have := HNB.out; omega
    subst hnbr
    go_upto_region 8 with (go_at_call 17; (with_reducible refine (HCH.out _ HB.out).mono ?_); rintro e w5 ⟨ac, nc, cc, rfl, ho, hb⟩; have HC := Lib.hid (HCI.out _ _ _ _ ho); have HNC := Lib.hid (owC_len ho); have HO := Lib.hid (HO.out.below hb); have HB := Lib.hid (HB.out.trans (hb.mono HB.out.size)); clear k0 k1 k2 k3 k4 k5; obtain ⟨k0, k1, k2, k3, k4, k5⟩ := HD.out _ (HBC.out.trans (HB.out.mono HBC.out.size)); clear ho hb)
    have HRX := Lib.hid (HR3.out.below (HBC.out.trans (HB.out.mono HBC.out.size)))
    have hnb8 : nb ≤ 4 := by have := HNR.out; have := HI.out.m.l4; omega
    have hnc8 : nc ≤ nb := by have := HNC.out; have := cho_len r b b.length; have := HNB.out; omega
    go_wp2
    go_loop [10, 11, 12, 37] (fun av _ _ kv => ∃ k : Nat, k ≤ nb ∧ kv = .int .i64 (k : Nat) ∧ av = .int .i64 ((cho r b k).length : Nat)) (fun _ _ _ kv => nb - (intOf kv).toNat)
    case atStart => exact ⟨0, by omega, rfl, rfl⟩
    case round =>
      obtain ⟨k, hk, rfl, rfl⟩ := hrel
      by_cases hkn : k = nb
      · have E : Hid ((cho r b k).length = nc) := Lib.hid (by rw [HNC.out, hkn, HNB.out])
        obtain ⟨q, hq⟩ : ∃ q, q = (cho r b k).length := ⟨_, rfl⟩
        rw [← hq] at E ⊢
        have hE := E.out
        subst hkn hE
        clear hq
        go_wp2
        go_ret
        exact ⟨by first | rfl | (simp; done), HUP.out _ (HB3.out.trans ((HBC.out.trans (HB.out.mono HBC.out.size)).mono HB3.out.size))⟩
      · have hlt : k < nb := by omega
        obtain ⟨bb, ofb, rfl, hqb, hcapb, hblb, hclb⟩ := HO.out.at (by omega)
        obtain ⟨br, ofr, rfl, hqr, hcapr, hblr, hclr⟩ := HRX.out.at (by omega)
        have cb := hclb k hlt
        have c_r := hclr k hlt
        have hbi := HI.out.i k (by rw [← HNB.out]; exact hlt)
        have hri := HI.out.m.rr k (by rw [← HNR.out]; exact hlt)
        have hcl := cho_len r b k
        have hat := cho_at (r := r) (b := b) (k := k) (n := b.length) (by rw [← HNB.out]; exact hlt)
        have hus := cho_used (r := r) (b := b) (k := k)
        have hsk := cho_skip (r := r) (b := b) (k := k)
        obtain ⟨x, hx⟩ : ∃ x, x = r.getD k 0 := ⟨_, rfl⟩
        obtain ⟨u, hu⟩ : ∃ u, u = b.getD k 0 := ⟨_, rfl⟩
        rw [← hx] at c_r hri hat hus hsk
        rw [← hu] at cb hbi hat hus hsk
        by_cases hx0 : x = 0
        · have e := hsk (by omega)
          have HE := Lib.hid e
          subst hx0
          clear hx hu hat hus hsk e hri hqb hqr hclb hclr hcl
          go_wp2
          go_round
          case rel => exact ⟨k + 1, by omega, by go_num, by rw [HE.out]⟩
          case measure => simp [intOf]; omega
        · by_cases hu0 : u = 0
          · have e := hsk (by omega)
            have HE := Lib.hid e
            subst hu0
            clear hx hu hat hus hsk e hri hqb hqr hclb hclr hcl
            go_wp2
            go_round
            case rel => exact ⟨k + 1, by omega, by go_num, by rw [HE.out]⟩
            case measure => simp [intOf]; omega
          · obtain ⟨h1, h2⟩ := hat (by omega) (by omega)
            have h3 := hus (by omega) (by omega)
            have HE := Lib.hid h3
            have hnc := HNC.out
            rw [← HNC.out] at h1
            obtain ⟨q, hq⟩ : ∃ q, q = (cho r b k).length := ⟨_, rfl⟩
            rw [← hq] at h1 h2 HE hcl ⊢
            obtain ⟨bc, ofc, rfl, hcapc, hblc, hclc⟩ := HC.out.at (by omega)
            obtain ⟨d0, d1, d2⟩ := hclc q h1
            have hq0 := eqC_iff ((cho r b b.length).getD q (0, 0, 0)) (u, 0, (k : Int))
            rw [h2] at d0 d1 d2 hq0
            simp only [decide_true] at d0 d1 d2 hq0
            have hqi : (q : Int) < (nc : Int) := by omega
            have hx1 : (x == 0) = false := by simp [hx0]
            have hu1 : (u == 0) = false := by simp [hu0]
            have hd2 : ((x == 0) = true ∨ (u == 0) = true) = False := by simp [hx0, hu0]
            have hwq : IntKind.i64.wrap ((q : Int) + 1) = (q + 1 : Nat) := by rw [IntWalk.i64_in _ (by omega)]; omega
            clear hx hu hat hus hsk hri hqb hqr hclb hclr hclc hq h2 h3 hnc
            go_wp2
            all_goals try (exfalso; rename_i hq _ _; rcases hq with hq | hq <;> (first | omega | (simp at hq; omega)); done)
            all_goals try (exfalso; rename_i hq; rcases hq with hq | hq <;> (first | omega | (simp at hq; omega)); done)
            go_round
            case rel => exact ⟨k + 1, by omega, by go_num, by rw [HE.out, Int.natCast_add]; rfl⟩
            case measure => simp [intOf]; omega

end Go.Proofs.Ytmpopbkhmkkhgaa
