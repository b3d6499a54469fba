/- The law UrnGrows, walked. Condition: the arguments fit their types. -/
import Derived.Test.YtmpopbkhmkkhgaaP1
import Derived.Deep.CutRange
import Derived.BigQuiet
namespace Go.Proofs.Ytmpopbkhmkkhgaa
open Go.RowKit

attribute [local go_sem ↓] equal29

set_option maxRecDepth 100000 in
set_option maxHeartbeats 8000000 in
theorem urnGrows_any {W : World} (l0 l1 l2 l3 l4 l5 : Int) {an : Option Addr} {nl cn : Nat} {l : List Int} (hn : Ix W (.slice an nl cn) l) :
    Calls Try.prog 4 #[.agg #[.int .i64 l0, .int .i64 l1, .int .i64 l2, .int .i64 l3, .int .i64 l4, .int .i64 l5], .slice an nl cn] W fun e w' => e = .returned (.bool true) ∧ Below W.heap.size W w' := by
  have HSA := Lib.hid (fun W' => sanity_any W')
  obtain ⟨P0, hP0⟩ : ∃ P0, P0 = lW W l0 l1 l2 l3 l4 l5 := ⟨_, rfl⟩
  have HB : Hid (Below P0.heap.size P0 (lW W l0 l1 l2 l3 l4 l5)) := Lib.hid (by rw [hP0]; exact Below.refl _ _)
  have HBX := Lib.hid (fun W' (h : Below P0.heap.size P0 W') => l_box (W' := W') (W := W) (l0 := l0) (l1 := l1) (l2 := l2) (l3 := l3) (l4 := l4) (l5 := l5) (by rw [← hP0]; exact h))
  have hup : Below W.heap.size W P0 := by rw [hP0]; exact l_up W l0 l1 l2 l3 l4 l5
  have HUP := Lib.hid (fun W' (h : Below P0.heap.size P0 W') => hup.trans (h.mono hup.size))
  have HMA := Lib.hid (fun W' => made_any (W := W') l0 l1 l2 l3 l4 l5)
  have HN := Lib.hid hn
  have HNL := Lib.hid hn.size
  have hnl := hn.len
  have HCN := Lib.hid hn.le
  rw [← hn.size] at hnl
  unfold maxLen at hnl
  clear hn hup hP0
  go_enter Try.func4, Try.ntmps4
  go_upto_region 3 with (first
    | (go_at_call 8; (with_reducible refine (HSA.out _).mono ?_); rintro e w1 ⟨rfl, hb⟩; have HB := Lib.hid (HB.out.trans (hb.mono HB.out.size)); obtain ⟨b0, b1, b2, b3, b4, b5⟩ := HBX.out _ HB.out; clear hb)
    | (go_at_call 10; (with_reducible refine (HMA.out _).mono ?_); rintro e w2 ⟨ar, nr, cr, r, a, rfl, hr, hmk, hb⟩; have HR := Lib.hid (hmk.ix hr); have HMK := Lib.hid hmk; have HB2 := Lib.hid (HB.out.trans (hb.mono HB.out.size)); clear hb hr hmk b0 b1 b2 b3 b4 b5))
  change Code.wp _ _ _ _ (dbox w2 3 (.slice ar nr cr) a)
  have hD := dbox_is w2 3 (.slice ar nr cr) a
  have hR := HR.out.below (dbox_below w2 3 (.slice ar nr cr) a)
  have hB3 := HB2.out.trans ((dbox_below w2 3 (.slice ar nr cr) a).mono HB2.out.size)
  have hg6 : P0.heap.size ≤ w2.heap.size := HB2.out.size
  generalize dbox w2 3 (.slice ar nr cr) a = W3 at hD hR hB3 ⊢
  generalize w2.heap.size = g6 at hD hg6 ⊢
  have HD := Lib.hid (fun W' (h : Below W3.heap.size W3 W') => (hD.below h).cells)
  have HD3 := Lib.hid hD
  have HR3 := Lib.hid hR
  have HB3 := Lib.hid hB3
  have HG6 := Lib.hid hg6
  have hl8 : r.length ≤ 8 := by have := HMK.out.l4; omega
  have HL8 := Lib.hid hl8
  have HNR := Lib.hid hR.size
  have hg6l := (Array.getElem?_eq_some_iff.1 hD).1
  have HG6L := Lib.hid hg6l
  have HRW := Lib.hid (fun W' (h : Below W3.heap.size W3 W') m (hm : m ≤ nl) => row_any (hR.below h) ((HN.out.take m hm).below (HUP.out _ (hB3.trans (h.mono hB3.size)))) hl8 3 a)
  have hbr := Below.refl W3.heap.size W3
  have HBR := Lib.hid hbr
  clear hD hR hB3 HB2 HR HB HSA HMA hbr hl8 hg6 hg6l
  go_cut [7] from 17 to 153 (fun v wx => ∃ ao n cap row, v = .slice ao n cap ∧ Hid (Ix wx (.slice ao n cap) row) ∧ Hid (RowOk r row) ∧ Hid (Below W3.heap.size W3 wx) ∧ Hid (OwI wx W3.heap.size (.slice ao n cap) n row))
  case first =>
    obtain ⟨k0, k1, k2, k3, k4, k5⟩ := HD.out _ HBR.out
    rcases Nat.lt_or_ge 5 nl with h5 | h5
    · have e4 : (5 : Int) < (nl : Int) := by omega
      have e5 : (5 : Int) ≤ (cn : Int) := by have := HCN.out; omega
      have HRX := Lib.hid (fun W' (h : Below W3.heap.size W3 W') => HRW.out W' h 5 (by omega))
      go_region_held3 (fun W' => W'.cell? ⟨g6, 0, none⟩ = some (.int .i64 3) ∧ W'.cell? ⟨g6, 1, none⟩ = some (.slice ar nr cr) ∧ W'.cell? ⟨g6, 2, none⟩ = some (.slice none 0 0) ∧ W'.cell? ⟨g6, 3, none⟩ = some (.int .i64 a) ∧ W'.cell? ⟨g6, 4, none⟩ = some (.int .i64 0) ∧ W'.cell? ⟨g6, 5, none⟩ = some (.int .i64 0))
        (first | (with_reducible exact HD.out _ HBQ.out) | (with_reducible exact HD.out _ HBR.out) | (exact HD.out _ HBR.out.drew))
        ((go_at_call 11; (refine (HRX.out _ HBR.out.drew).mono ?_); rintro e w3 ⟨ao, n, cap, row, rfl, ho, hok, hb⟩; have HO := Lib.hid ho; have HOK := Lib.hid hok; have HBQ := Lib.hid (HBR.out.drew.trans (hb.mono HBR.out.drew.size)); clear ho hok hb))
      all_goals (go_wp2_with fail; go_meet; exact ⟨ao, n, cap, row, rfl, HOK.out.ix HO.out HL8.out, HOK.out, HBQ.out, HO.out⟩)
    · have e4 : ¬ (5 : Int) < (nl : Int) := by omega
      have e5 : (nl : Int) ≤ (cn : Int) := by have := HCN.out; omega
      have HRX := Lib.hid (fun W' (h : Below W3.heap.size W3 W') => HRW.out W' h nl (by omega))
      go_region_held3 (fun W' => W'.cell? ⟨g6, 0, none⟩ = some (.int .i64 3) ∧ W'.cell? ⟨g6, 1, none⟩ = some (.slice ar nr cr) ∧ W'.cell? ⟨g6, 2, none⟩ = some (.slice none 0 0) ∧ W'.cell? ⟨g6, 3, none⟩ = some (.int .i64 a) ∧ W'.cell? ⟨g6, 4, none⟩ = some (.int .i64 0) ∧ W'.cell? ⟨g6, 5, none⟩ = some (.int .i64 0))
        (first | (with_reducible exact HD.out _ HBQ.out) | (with_reducible exact HD.out _ HBR.out) | (exact HD.out _ HBR.out.drew))
        ((go_at_call 11; (refine (HRX.out _ HBR.out.drew).mono ?_); rintro e w3 ⟨ao, n, cap, row, rfl, ho, hok, hb⟩; have HO := Lib.hid ho; have HOK := Lib.hid hok; have HBQ := Lib.hid (HBR.out.drew.trans (hb.mono HBR.out.drew.size)); clear ho hok hb))
      all_goals (go_wp2_with fail; go_meet; exact ⟨ao, n, cap, row, rfl, HOK.out.ix HO.out HL8.out, HOK.out, HBQ.out, HO.out⟩)
  case' rest =>
    obtain ⟨ao, n, cap, row, rfl, HW, HOK, HBC, -⟩ := hcut
    have HBL := Lib.hid (fun W' (h : Below wc.heap.size wc W') => balls_any (HR3.out.below (HBC.out.trans (h.mono HBC.out.size))) (HW.out.below h) HL8.out (by have := HOK.out.in8.2; have := HL8.out; omega) 3 a)
    have HCH := Lib.hid (fun W' (h : Below wc.heap.size wc W') => choices_any (HR3.out.below (HBC.out.trans (h.mono HBC.out.size))) (HW.out.below h) HL8.out (by have := HOK.out.in8.2; have := HL8.out; omega) 3 a)
    have HCI := Lib.hid (fun W' (v : Value) (B n : Nat) (h : OwC W' B v n (chV r a row)) => h.chx HL8.out)
    have HBI := Lib.hid (fun W' (v : Value) (B n : Nat) (h : OwI W' B v n (balV r a row)) => h.bx HL8.out)
    have HI := Lib.hid (bal_of HMK.out HOK.out)
    have HNX := Lib.hid (fun W' (h : Below wc.heap.size wc W') (x y z : Int) (hc : (x, y, z) ∈ chV r a row) => next_made (HR3.out.below (HBC.out.trans (h.mono HBC.out.size))) (HW.out.below h) HL8.out (by have := HOK.out.in8.2; have := HL8.out; omega) 3 HI.out hc)
    unfold chV at HCH HCI HNX
    revert HBL HCH HCI HBI HI HNX
    generalize balV r a row = b
    intro HBL HCH HCI HBI HI HNX
    have HB := Lib.hid (Below.refl wc.heap.size wc)
    obtain ⟨k0, k1, k2, k3, k4, k5⟩ := HD.out _ HBC.out
    clear HBR HRW HW
    go_upto_region 5 with (go_at_call 13; (with_reducible refine (HBL.out _ HB.out).mono ?_); rintro e w4 ⟨ab, nb, cb, rfl, ho, hb⟩; have HO := Lib.hid (HBI.out _ _ _ _ ho); have HNB := Lib.hid (owI_len ho); have HB := Lib.hid (HB.out.trans (hb.mono HB.out.size)); clear k0 k1 k2 k3 k4 k5; obtain ⟨k0, k1, k2, k3, k4, k5⟩ := HD.out _ (HBC.out.trans (HB.out.mono HBC.out.size)); clear ho hb)
    have hnbr : nb = nr := by have := HI.out.l; have := HNR.out; have := HNB.out; omega
    subst hnbr
    go_wp2_with (go_at_call 17; (with_reducible refine (HCH.out _ HB.out).mono ?_); rintro e w5 ⟨ac, nc, cc, rfl, ho, hb⟩; have HC := Lib.hid (HCI.out _ _ _ _ ho); have HNC := Lib.hid (owC_len ho); have HO := Lib.hid (HO.out.below hb); have HB := Lib.hid (HB.out.trans (hb.mono HB.out.size)); clear k0 k1 k2 k3 k4 k5; obtain ⟨k0, k1, k2, k3, k4, k5⟩ := HD.out _ (HBC.out.trans (HB.out.mono HBC.out.size)); clear ho hb)
    clear k0 k1 k2 k3 k4 k5
    have HRX := Lib.hid (HR3.out.below (HBC.out.trans (HB.out.mono HBC.out.size)))
    have hnb8 : nb ≤ 4 := by have := HNR.out; have := HI.out.m.l4; omega
    have hnc8 : nc ≤ nb := by have := HNC.out; have := cho_len r b b.length; have := HNB.out; omega
    have HBD : Hid (Below W3.heap.size W3 w5) := Lib.hid (HBC.out.trans (HB.out.mono HBC.out.size))
    have HUP2 : Hid (∀ W', Below w5.heap.size w5 W' → Below W.heap.size W W') := Lib.hid (fun W' h => HUP.out _ (HB3.out.trans ((HBD.out.trans (h.mono HBD.out.size)).mono HB3.out.size)))
    have HG5 : Hid (g6 < w5.heap.size) := Lib.hid (Nat.lt_of_lt_of_le HG6L.out HBD.out.size)
    clear HBL HCH HCI HBI
    go_loopw [40] (fun kv wr => ∃ i : Nat, i ≤ nc ∧ kv = .int .i64 (i : Nat) ∧ Hid (Below w5.heap.size w5 wr)) (fun kv _ => nc - (intOf kv).toNat)
    case atStart => exact ⟨0, by omega, rfl, Lib.hid (Below.refl _ _)⟩
    case round =>
      obtain ⟨i, hi, rfl, hB⟩ := hrel
      by_cases hin : i = nc
      · subst hin
        go_wp2
        go_ret
        exact ⟨by first | rfl | (simp; done), HUP2.out _ hB.out⟩
      · have hlt : i < nc := by omega
        obtain ⟨bc, ofc, rfl, hcapc, hblc, hclc⟩ := HC.out.at (by omega)
        obtain ⟨d0, d1, d2⟩ := hclc i hlt
        have d0 := cell_later hB.out d0
        have d1 := cell_later hB.out d1
        have d2 := cell_later hB.out d2
        have hmem := getD_mem (l := cho r b b.length) (k := i) (by rw [← HNC.out]; exact hlt)
        revert d0 d1 d2 hmem
        generalize (cho r b b.length).getD i (0, 0, 0) = q
        obtain ⟨x, y, z⟩ := q
        intro d0 d1 d2 hmem
        simp only at d0 d1 d2
        obtain ⟨j, hj1, hj2, hj3, hj4⟩ := mem_cho.1 hmem
        injection hj4 with e1 e2
        injection e2 with e2 e3
        subst e2 e3
        have HNX2 := Lib.hid (fun W' (h : Below wc.heap.size wc W') => HNX.out W' h x 0 j hmem)
        have HJ := Lib.hid (And.intro hj1 (And.intro hj2 (And.intro hj3 e1)))
        have hbcx := HB.out.trans (hB.out.mono HB.out.size)
        have HBX5 : Hid (Below wc.heap.size wc (cbox wr (x, 0, (j : Int)))) := Lib.hid (hbcx.trans ((cbox_below wr (x, 0, (j : Int))).mono hbcx.size))
        have HCB := Lib.hid (cbox_is wr (x, 0, (j : Int)))
        obtain ⟨k0, k1, k2, k3, k4, k5⟩ := HD.out _ (HBD.out.trans (hB.out.mono HBD.out.size))
        have hg5 : g6 < wr.heap.size := Nat.lt_of_lt_of_le HG5.out hB.out.size
        clear hmem hj1 hj2 hj3 e1 hclc hbcx
        go_upto_region 11 with (go_at_call 18; (refine (HNX2.out _ HBX5.out).mono ?_); rintro e w6 ⟨aa, na, ca, rfl, ho, hb⟩; have HA := Lib.hid (OwI.ax ho HI.out); have HNA := Lib.hid (owI_len ho); have HB6 := Lib.hid ((hB.out.trans ((cbox_below wr (x, 0, (j : Int))).mono hB.out.size)).trans (hb.mono (Nat.le_trans hB.out.size (cbox_below wr (x, 0, (j : Int))).size))); have HCB6 := Lib.hid (HCB.out.below hb); clear ho hb k0 k1 k2 k3 k4 k5)
        have hna : na = nb := by have := HNA.out; rw [addV_len] at this; have := HNB.out; omega
        subst hna
        obtain ⟨c0, c1, c2⟩ := HCB6.out.cells
        simp only at c0 c1 c2
        have hO6 := HO.out.below HB6.out
        obtain ⟨bb, ofb, e, hqb, hcapb, hblb, hclb⟩ := hO6.at (by have := HJ.out.1; have := HNB.out; omega)
        subst e
        have cj := hclb j (by have := HJ.out.1; have := HNB.out; omega)
        rw [← HJ.out.2.2.2] at cj
        have hjn : (j : Int) < (na : Int) := by have := HJ.out.1; have := HNB.out; omega
        have hj0 : ¬ (j : Int) < 0 := by omega
        have hj9 : (0 : Int) ≤ (j : Int) := by omega
        have HCLB := Lib.hid hclb
        clear hO6 hqb hclb
        have g1 : decide ((j : Int) < 0) = false := decide_eq_false (by omega)
        have g2 : decide ((na : Int) ≤ (j : Int)) = false := decide_eq_false (by omega)
        have g3 : decide ((j : Int) ≥ (na : Int)) = false := decide_eq_false (by omega)
        have g4 : decide (na ≤ j) = false := decide_eq_false (by omega)
        go_quiet (fail)
        clear g1 g2 g3 g4
        go_wp2_with fail
        obtain ⟨br, ofr, e, hqr, hcapr, hblr, hclr⟩ := (HRX.out.below HB6.out).at (by have := HJ.out.1; have := HNB.out; omega)
        subst e
        obtain ⟨ba, ofa, e, hqa, hcapa, hbla, hcla⟩ := HA.out.at (by have := HJ.out.1; have := HNB.out; omega)
        subst e
        have HCR := Lib.hid hclr
        have HCA := Lib.hid hcla
        have hD6 := HBD.out.trans (HB6.out.mono HBD.out.size)
        obtain ⟨k0, k1, k2, k3, k4, k5⟩ := HD.out _ hD6
        have hxb : 1 ≤ x ∧ x ≤ 8 := by have h1 := HI.out.i j HJ.out.1; have h2 := HJ.out.2.2; omega
        have cja := hcla j (by have := HJ.out.1; have := HNB.out; omega)
        have hja := addV_get (r := r) (a := a) (arm := (j : Int)) (b := b) (k := b.length) HJ.out.1
        have hjj : addN r a (j : Int) b b.length j = b.getD j 0 := by unfold addN; rw [if_neg (fun h => h.2.2 rfl)]
        rw [hja, hjj, ← HJ.out.2.2.2] at cja
        clear hclr hcla hqr hqa hja hjj hD6 d0 d1 d2
        go_loop [13, 14, 89] (fun uv wv kv => ∃ (k : Nat) (p q : Int), k ≤ na ∧ 0 ≤ q ∧ q ≤ p ∧ p ≤ 11 * (k : Int) ∧ kv = .int .i64 (k : Nat) ∧ uv = .int .i64 p ∧ wv = .int .i64 q) (fun _ _ kv => na - (intOf kv).toNat)
        case atStart => exact ⟨0, 0, 0, by omega, by omega, by omega, by omega, rfl, rfl, rfl⟩
        case round =>
          obtain ⟨k, p, q, hk, hq0, hqp, hp11, rfl, rfl, rfl⟩ := hrel
          by_cases hkn : k = na
          · have hxp : 0 ≤ x * q ∧ x * q ≤ x * p ∧ x * p ≤ 8 * 44 := ⟨Int.mul_nonneg (by omega) hq0, Int.mul_le_mul_of_nonneg_left hqp (by omega), Int.mul_le_mul (by omega) (by omega) (by omega) (by omega)⟩
            have hw1 : IntKind.i64.wrap (x * q) = x * q := IntWalk.i64_in _ (by omega)
            have hw2 : IntKind.i64.wrap (x * p) = x * p := IntWalk.i64_in _ (by omega)
            have hw3 : wrap64 (x * q) = x * q := by simp only [wrap64]; omega
            have hw4 : wrap64 (x * p) = x * p := by simp only [wrap64]; omega
            have hgt : ¬ x * p < x * q := by omega
            have hgt2 : decide (x * p < x * q) = false := decide_eq_false hgt
            have HBE : Hid (∀ n, Hid (Below w5.heap.size w5 (w6.drewN n))) := Lib.hid (fun n => Lib.hid (HB6.out.trans ⟨rfl, rfl, rfl, Nat.le_refl _, fun _ _ => rfl⟩))
            subst hkn
            clear hxp
            go_wp2
            go_region
            go_wp2
            go_roundw
            case rel => exact ⟨i + 1, by omega, by go_num, HBE.out _⟩
            case measure => simp [intOf]; omega
          · have hkl : k < na := by omega
            have hki : (k : Int) < (na : Int) := by omega
            have cr := HCR.out k hkl
            have cb := HCLB.out k hkl
            have ca := HCA.out k hkl
            have hkb : k < b.length := by have := HNB.out; omega
            rw [addV_get hkb] at ca
            have hbi := HI.out.i k hkb
            have hri := HI.out.m.rr k (by have := HI.out.l; omega)
            have ha3 := HI.out.m.a0
            have had : addN r a (j : Int) b b.length k = if k < b.length ∧ 0 < r.getD k 0 ∧ ¬ (k : Int) = (j : Int) then b.getD k 0 + a else b.getD k 0 := rfl
            have hrj := HJ.out.2.1
            obtain ⟨s, hs⟩ : ∃ s, s = r.getD k 0 := ⟨_, rfl⟩
            obtain ⟨u, hu⟩ : ∃ u, u = b.getD k 0 := ⟨_, rfl⟩
            obtain ⟨v, hv⟩ : ∃ v, v = addN r a (j : Int) b b.length k := ⟨_, rfl⟩
            rw [← hs] at cr hri had
            rw [← hu] at cb hbi had
            rw [← hv] at ca had
            by_cases hkj : k = j
            · have hvu : v = u := by rw [had, if_neg (fun h => h.2.2 (by rw [hkj]))]
              have hs0 : 0 < s := by rw [hs, hkj]; exact hrj
              have hux : u = x := by rw [hu, hkj, HJ.out.2.2.2]
              rw [hvu, hux] at ca
              rw [hux] at cb hbi
              clear had hs hu hrj hkb hv hvu hux
              rw [hkj] at cr cb ca
              clear cb ca
              have hw1 : IntKind.i64.wrap (p + x) = p + x := IntWalk.i64_in _ (by omega)
              have hw2 : IntKind.i64.wrap (q + x) = q + x := IntWalk.i64_in _ (by omega)
              subst hkj
              go_wp2
              go_round
              case rel => exact ⟨k + 1, p + x, q + x, by omega, by omega, by omega, by omega, by go_num, rfl, rfl⟩
              case measure => simp [intOf]; omega
            · have hkj2 : ¬ (k : Int) = (j : Int) := by omega
              have hkj3 : ((k : Int) == (j : Int)) = false := by simp; omega
              by_cases hs0 : 0 < s
              · have hvu : v = u + a := by rw [had, if_pos ⟨hkb, hs0, hkj2⟩]
                rw [hvu] at ca
                clear had hs hu hrj hkb hv hvu
                have hw0 : IntKind.i64.wrap (u + a) = u + a := IntWalk.i64_in _ (by omega)
                have hw1 : IntKind.i64.wrap (p + (u + a)) = p + (u + a) := IntWalk.i64_in _ (by omega)
                have hw2 : IntKind.i64.wrap (q + u) = q + u := IntWalk.i64_in _ (by omega)
                go_wp2
                go_round
                case rel => exact ⟨k + 1, p + (u + a), q + u, by omega, by omega, by omega, by omega, by go_num, rfl, rfl⟩
                case measure => simp [intOf]; omega
              · have hvu : v = u := by rw [had, if_neg (fun h => hs0 h.2.1)]
                rw [hvu] at ca
                clear had hs hu hrj hkb hv hvu
                go_wp2
                go_round
                case rel => exact ⟨k + 1, p, q, by omega, by omega, by omega, by omega, by go_num, rfl, rfl⟩
                case measure => simp [intOf]; omega

end Go.Proofs.Ytmpopbkhmkkhgaa
