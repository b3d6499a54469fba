/- The law UrnForms, walked. Condition: the arguments fit their types. -/
import Derived.Test.YtmpopbkhmkkhgaaQ1
import Derived.Deep.CutRange
import Derived.BigQuiet
namespace Go.Proofs.Ytmpopbkhmkkhgaa
open Go.RowKit

attribute [local go_sem ↓] appI_rw
attribute [local go_sem ↓] appC_rw

set_option maxRecDepth 100000 in
set_option maxHeartbeats 16000000 in
theorem urnForms_any {W : World} (l0 l1 l2 l3 l4 l5 : Int) {an a2 aw : Option Addr} {nl cn n2 c2 nw cw : Nat} {l rr rw' : List Int} {kd ad x y z q0 q1 : Int} {vs p0 p1 : Value} (hn : Ix W (.slice an nl cn) l) (hkd : I64 kd) (had : I64 ad) (hr2 : Ix W (.slice a2 n2 c2) rr) (hw : Ix W (.slice aw nw cw) rw') (hx : I64 x) (hy : I64 y) (hz : I64 z) (hq0 : I64 q0) (hq1 : I64 q1) :
    Calls Try.prog 3 #[.agg #[.int .i64 l0, .int .i64 l1, .int .i64 l2, .int .i64 l3, .int .i64 l4, .int .i64 l5], .slice an nl cn, .agg #[.int .i64 kd, .slice a2 n2 c2, vs, .int .i64 ad, p0, p1], .slice aw nw cw, .agg #[.int .i64 x, .int .i64 y, .int .i64 z], .agg #[.int .i64 q0, .int .i64 q1]] W fun e w' => e = .returned (.bool true) ∧ Below W.heap.size W w' := by
  have HSA := Lib.hid (fun W' => sanity_any W')
  obtain ⟨P0, hP0⟩ : ∃ P0, P0 = foW W #[.int .i64 l0, .int .i64 l1, .int .i64 l2, .int .i64 l3, .int .i64 l4, .int .i64 l5] kd (.slice a2 n2 c2) vs ad p0 p1 (x, y, z) q0 q1 := ⟨_, rfl⟩
  have HB : Hid (Below P0.heap.size P0 (foW W #[.int .i64 l0, .int .i64 l1, .int .i64 l2, .int .i64 l3, .int .i64 l4, .int .i64 l5] kd (.slice a2 n2 c2) vs ad p0 p1 (x, y, z) q0 q1)) := Lib.hid (by rw [hP0]; exact Below.refl _ _)
  have HST := Lib.hid (fun w (h : Below P0.heap.size P0 w) => fo_start (W := W) (w := w) (ls := #[.int .i64 l0, .int .i64 l1, .int .i64 l2, .int .i64 l3, .int .i64 l4, .int .i64 l5]) (kd := kd) (vr := .slice a2 n2 c2) (vs := vs) (a := ad) (p0 := p0) (p1 := p1) (c := (x, y, z)) (q0 := q0) (q1 := q1) (by rw [← hP0]; exact h))
  have HSM := Lib.hid (fun w (h : Below P0.heap.size P0 w) => small_any (vs := vs) (c0 := p0) (c1 := p1) (hr2.below (HST.out w h).2.2.2.2.1) kd ad)
  have HMA := Lib.hid (fun W' => made_any (W := W') l0 l1 l2 l3 l4 l5)
  have HN := Lib.hid hn
  have HCN := Lib.hid hn.le
  have HR2 := Lib.hid (hr2.take (min n2 8) (Nat.min_le_left _ _))
  have HR2L : Hid ((rr.take (min n2 8)).length ≤ 8) := Lib.hid (by rw [List.length_take]; omega)
  have HWX := Lib.hid (hw.take (min nw 8) (Nat.min_le_left _ _))
  have HWL : Hid ((rw'.take (min nw 8)).length ≤ 8) := Lib.hid (by rw [List.length_take]; omega)
  have HCW := Lib.hid hw.le
  have HFIT := Lib.hid (And.intro hkd (And.intro had (And.intro hx (And.intro hy (And.intro hz (And.intro hq0 hq1))))))
  have hnl := hn.len
  rw [← hn.size] at hnl
  unfold maxLen at hnl
  have hnwl := hw.len
  rw [← hw.size] at hnwl
  unfold maxLen at hnwl
  have HR2W := Lib.hid hr2
  clear hn hkd had hr2 hw hx hy hz hq0 hq1 hP0
  go_enter Try.func3, Try.ntmps3
  go_upto_region 2 with ((go_at_call 8; (with_reducible refine (HSA.out _).mono ?_); rintro e w1 ⟨rfl, hb⟩; have HB := Lib.hid (HB.out.trans (hb.mono HB.out.size)); clear hb))
  go_cut [3] from 29 to 145 (fun v wx => v = .slice aw (min nw 8) cw ∧ Hid (FoI W wx #[.int .i64 l0, .int .i64 l1, .int .i64 l2, .int .i64 l3, .int .i64 l4, .int .i64 l5] kd (.slice a2 (min n2 8) c2) ad (x, y, z) q0 q1))
  case first =>
    obtain ⟨-, h2, -, -, -, hs4⟩ := HST.out _ HB.out
    have j0 := cell_of_row _ _ 0 _ _ _ h2
    have j1 := cell_of_row _ _ 1 _ _ _ h2
    have j2 := cell_of_row _ _ 2 _ _ _ h2
    have j3 := cell_of_row _ _ 3 _ _ _ h2
    have j4 := cell_of_row _ _ 4 _ _ _ h2
    have j5 := cell_of_row _ _ 5 _ _ _ h2
    have j0 : w1.cell? ⟨W.heap.size + 1, 0, none⟩ = some (.int .i64 kd) := j0
    have j1 : w1.cell? ⟨W.heap.size + 1, 1, none⟩ = some (.slice a2 n2 c2) := j1
    have j2 : w1.cell? ⟨W.heap.size + 1, 2, none⟩ = some vs := j2
    have j3 : w1.cell? ⟨W.heap.size + 1, 3, none⟩ = some (.int .i64 ad) := j3
    have j4 : w1.cell? ⟨W.heap.size + 1, 4, none⟩ = some p0 := j4
    have j5 : w1.cell? ⟨W.heap.size + 1, 5, none⟩ = some p1 := j5
    have HSM2 := Lib.hid (HSM.out _ HB.out.drew)
    clear h2 hs4
    rcases Nat.lt_or_ge 8 nw with h8 | h8
    · have e4 : (8 : Int) < (nw : Int) := by omega
      have e5 : (8 : Int) ≤ (cw : Int) := by have := HCW.out; omega
      have e6 : min nw 8 = 8 := by omega
      go_region_law (go_simp; (go_at_call 9; (refine HSM2.out.mono ?_); rintro e w2 ⟨rfl, hb⟩; have HBx := Lib.hid (HB.out.drew.trans (hb.mono HB.out.drew.size)); have h2 := (HST.out _ HBx.out).2.1; have f0 := frozen_of_row _ _ 0 _ _ h2; have f1 := frozen_of_row _ _ 1 _ _ h2; have f2 := frozen_of_row _ _ 2 _ _ h2; have f3 := frozen_of_row _ _ 3 _ _ h2; have f4 := frozen_of_row _ _ 4 _ _ h2; have f5 := frozen_of_row _ _ 5 _ _ h2; have g0 : w2.cell? ⟨W.heap.size + 1, 0, none⟩ = some (.int .i64 kd) := cell_of_row _ _ 0 _ _ _ h2; have g1 : w2.cell? ⟨W.heap.size + 1, 1, none⟩ = some (.slice a2 n2 c2) := cell_of_row _ _ 1 _ _ _ h2; have g2 : w2.cell? ⟨W.heap.size + 1, 2, none⟩ = some vs := cell_of_row _ _ 2 _ _ _ h2; have g3 : w2.cell? ⟨W.heap.size + 1, 3, none⟩ = some (.int .i64 ad) := cell_of_row _ _ 3 _ _ _ h2; have g4 : w2.cell? ⟨W.heap.size + 1, 4, none⟩ = some p0 := cell_of_row _ _ 4 _ _ _ h2; have g5 : w2.cell? ⟨W.heap.size + 1, 5, none⟩ = some p1 := cell_of_row _ _ 5 _ _ _ h2; clear h2 hb))
      all_goals (go_wp2_with fail; go_meet; exact ⟨by rw [e6], Lib.hid (fo_store (HST.out _ HBx.out) rfl)⟩)
    · have e4 : ¬ (8 : Int) < (nw : Int) := by omega
      have e5 : (nw : Int) ≤ (cw : Int) := by have := HCW.out; omega
      have e6 : min nw 8 = nw := by omega
      go_region_law (go_simp; (go_at_call 9; (refine HSM2.out.mono ?_); rintro e w2 ⟨rfl, hb⟩; have HBx := Lib.hid (HB.out.drew.trans (hb.mono HB.out.drew.size)); have h2 := (HST.out _ HBx.out).2.1; have f0 := frozen_of_row _ _ 0 _ _ h2; have f1 := frozen_of_row _ _ 1 _ _ h2; have f2 := frozen_of_row _ _ 2 _ _ h2; have f3 := frozen_of_row _ _ 3 _ _ h2; have f4 := frozen_of_row _ _ 4 _ _ h2; have f5 := frozen_of_row _ _ 5 _ _ h2; have g0 : w2.cell? ⟨W.heap.size + 1, 0, none⟩ = some (.int .i64 kd) := cell_of_row _ _ 0 _ _ _ h2; have g1 : w2.cell? ⟨W.heap.size + 1, 1, none⟩ = some (.slice a2 n2 c2) := cell_of_row _ _ 1 _ _ _ h2; have g2 : w2.cell? ⟨W.heap.size + 1, 2, none⟩ = some vs := cell_of_row _ _ 2 _ _ _ h2; have g3 : w2.cell? ⟨W.heap.size + 1, 3, none⟩ = some (.int .i64 ad) := cell_of_row _ _ 3 _ _ _ h2; have g4 : w2.cell? ⟨W.heap.size + 1, 4, none⟩ = some p0 := cell_of_row _ _ 4 _ _ _ h2; have g5 : w2.cell? ⟨W.heap.size + 1, 5, none⟩ = some p1 := cell_of_row _ _ 5 _ _ _ h2; clear h2 hb))
      all_goals (go_wp2_with fail; go_meet; exact ⟨by rw [e6], Lib.hid (fo_store (HST.out _ HBx.out) rfl)⟩)
  case' rest =>
    obtain ⟨rfl, HF⟩ := hcut
    clear HST HSM HSA HB
    have b0 : wc.cell? ⟨W.heap.size, 0, none⟩ = some (.int .i64 l0) := cell_of_row _ _ _ _ _ _ HF.out.l
    have b1 : wc.cell? ⟨W.heap.size, 1, none⟩ = some (.int .i64 l1) := cell_of_row _ _ _ _ _ _ HF.out.l
    have b2 : wc.cell? ⟨W.heap.size, 2, none⟩ = some (.int .i64 l2) := cell_of_row _ _ _ _ _ _ HF.out.l
    have b3 : wc.cell? ⟨W.heap.size, 3, none⟩ = some (.int .i64 l3) := cell_of_row _ _ _ _ _ _ HF.out.l
    have b4 : wc.cell? ⟨W.heap.size, 4, none⟩ = some (.int .i64 l4) := cell_of_row _ _ _ _ _ _ HF.out.l
    have b5 : wc.cell? ⟨W.heap.size, 5, none⟩ = some (.int .i64 l5) := cell_of_row _ _ _ _ _ _ HF.out.l
    go_upto_region 4 with (go_at_call 10; (with_reducible refine (HMA.out _).mono ?_); rintro e w2 ⟨ar, nr, cr, r, a, rfl, hr, hmk, hb⟩; have HR := Lib.hid (hmk.ix hr); have HMK := Lib.hid hmk; have HF2 := Lib.hid (HF.out.below hb); clear hb hr hmk b0 b1 b2 b3 b4 b5)
    change Code.wp _ _ _ _ (dbox w2 3 (.slice ar nr cr) a)
    have hD := dbox_is w2 3 (.slice ar nr cr) a
    have hR := HR.out.below (dbox_below w2 3 (.slice ar nr cr) a)
    have hF3 := HF2.out.below (dbox_below w2 3 (.slice ar nr cr) a)
    generalize dbox w2 3 (.slice ar nr cr) a = W3 at hD hR hF3 ⊢
    generalize w2.heap.size = g6 at hD ⊢
    have HD := Lib.hid (fun W' (h : Below W3.heap.size W3 W') => (hD.below h).cells)
    have HR3 := Lib.hid hR
    have HF3 := Lib.hid hF3
    have hl8 : r.length ≤ 8 := by have := HMK.out.l4; omega
    have HL8 := Lib.hid hl8
    have HG6L := Lib.hid (Array.getElem?_eq_some_iff.1 hD).1
    have HRW := Lib.hid (fun W' (h : Below W3.heap.size W3 W') m (hm : m ≤ nl) => row_any (hR.below h) ((HN.out.take m hm).below (hF3.b.trans (h.mono hF3.b.size))) hl8 3 a)
    have HBR := Lib.hid (Below.refl W3.heap.size W3)
    clear hD hR hF3 HF HF2 HR hl8 HMA
    go_cut [15] from 38 to 145 (fun v wx => ∃ ao n cap row, v = .slice ao n cap ∧ Hid (Ix wx (.slice ao n cap) row) ∧ Hid (RowOk r row) ∧ Hid (Below W3.heap.size W3 wx))
    case first =>
      obtain ⟨k0, k1, k2, k3, k4, k5⟩ := HD.out _ HBR.out
      rcases Nat.lt_or_ge 5 nl with h5 | h5
      · have e4 : (5 : Int) < (nl : Int) := by omega
        have e5 : (5 : Int) ≤ (cn : Int) := by have := HCN.out; omega
        have HRX := Lib.hid (fun W' (h : Below W3.heap.size W3 W') => HRW.out W' h 5 (by omega))
        go_region_held3 (fun W' => W'.cell? ⟨g6, 0, none⟩ = some (.int .i64 3) ∧ W'.cell? ⟨g6, 1, none⟩ = some (.slice ar nr cr) ∧ W'.cell? ⟨g6, 2, none⟩ = some (.slice none 0 0) ∧ W'.cell? ⟨g6, 3, none⟩ = some (.int .i64 a) ∧ W'.cell? ⟨g6, 4, none⟩ = some (.int .i64 0) ∧ W'.cell? ⟨g6, 5, none⟩ = some (.int .i64 0))
          (first | (with_reducible exact HD.out _ HBQ.out) | (with_reducible exact HD.out _ HBR.out) | (exact HD.out _ HBR.out.drew))
          ((go_at_call 11; (refine (HRX.out _ HBR.out.drew).mono ?_); rintro e w3 ⟨ao, n, cap, row, rfl, ho, hok, hb⟩; have HO := Lib.hid ho; have HOK := Lib.hid hok; have HBQ := Lib.hid (HBR.out.drew.trans (hb.mono HBR.out.drew.size)); clear ho hok hb))
        all_goals (go_wp2_with fail; go_meet; exact ⟨ao, n, cap, row, rfl, HOK.out.ix HO.out HL8.out, HOK.out, HBQ.out⟩)
      · have e4 : ¬ (5 : Int) < (nl : Int) := by omega
        have e5 : (nl : Int) ≤ (cn : Int) := by have := HCN.out; omega
        have HRX := Lib.hid (fun W' (h : Below W3.heap.size W3 W') => HRW.out W' h nl (by omega))
        go_region_held3 (fun W' => W'.cell? ⟨g6, 0, none⟩ = some (.int .i64 3) ∧ W'.cell? ⟨g6, 1, none⟩ = some (.slice ar nr cr) ∧ W'.cell? ⟨g6, 2, none⟩ = some (.slice none 0 0) ∧ W'.cell? ⟨g6, 3, none⟩ = some (.int .i64 a) ∧ W'.cell? ⟨g6, 4, none⟩ = some (.int .i64 0) ∧ W'.cell? ⟨g6, 5, none⟩ = some (.int .i64 0))
          (first | (with_reducible exact HD.out _ HBQ.out) | (with_reducible exact HD.out _ HBR.out) | (exact HD.out _ HBR.out.drew))
          ((go_at_call 11; (refine (HRX.out _ HBR.out.drew).mono ?_); rintro e w3 ⟨ao, n, cap, row, rfl, ho, hok, hb⟩; have HO := Lib.hid ho; have HOK := Lib.hid hok; have HBQ := Lib.hid (HBR.out.drew.trans (hb.mono HBR.out.drew.size)); clear ho hok hb))
        all_goals (go_wp2_with fail; go_meet; exact ⟨ao, n, cap, row, rfl, HOK.out.ix HO.out HL8.out, HOK.out, HBQ.out⟩)
    case' rest =>
      obtain ⟨ao, n, cap, row, rfl, HW4, HOK, HBC⟩ := hcut
      have hn8 : n ≤ 8 := by have := HW4.out.size; have := HOK.out.in8.2; have := HL8.out; omega
      have HRL : Hid (row.length ≤ 8) := Lib.hid (by have := HW4.out.size; omega)
      obtain ⟨af, cf, w4, hrun, hof, hbf⟩ := clone_run HW4.out (by omega)
      have HOF := Lib.hid hof
      have HB4 := Lib.hid hbf
      clear hof hbf HRW HBR
      go_upto_if 50 with fail
      go_cut [] from 48 to 145 (fun wx => ∃ bl : List Int, Hid (Ix wx (.slice af n cf) bl) ∧ Hid (bl.length ≤ 8) ∧ Hid (Ix wx (.slice ao n cap) row) ∧ Hid (Below W3.heap.size W3 wx))
      case first =>
        by_cases hn0 : n = 0
        · subst hn0
          go_wp2_with fail
          go_meet
          exact ⟨row, Lib.hid (HOK.out.ix HOF.out HL8.out), HRL, Lib.hid (HW4.out.below HB4.out), Lib.hid (HBC.out.trans (HB4.out.mono HBC.out.size))⟩
        · obtain ⟨t, ht, htm⟩ : ∃ t : Nat, (q0 % 1024).tmod (n : Int) = (t : Int) ∧ t < n := ⟨(q0 % 1024 % (n : Int)).toNat, by
            rw [Int.tmod_eq_emod_of_nonneg (by omega)]
            have := Int.emod_nonneg (q0 % 1024) (show (n : Int) ≠ 0 by omega)
            omega, by
            have := Int.emod_nonneg (q0 % 1024) (show (n : Int) ≠ 0 by omega)
            have := Int.emod_lt_of_pos (q0 % 1024) (show (0 : Int) < n by omega)
            omega⟩
          obtain ⟨gb, cb2, eb, -, hgb1, hgb2, hgc, hfr, hset⟩ := HOF.out.parts hn0
          injection eb with eb1 _ eb3
          subst eb1 eb3
          have ct := hgc t htm
          have ft := hfr t
          have HQ := Lib.hid (HF3.out.below (HBC.out.trans (HB4.out.mono HBC.out.size)))
          have cq0 : w4.cell? ⟨W.heap.size + 3, 0, none⟩ = some (.int .i64 q0) := cell_of_row _ _ _ _ _ _ HQ.out.q
          have cq1 : w4.cell? ⟨W.heap.size + 3, 1, none⟩ = some (.int .i64 q1) := cell_of_row _ _ _ _ _ _ HQ.out.q
          have hand := and1023 q0
          have hnp : (0 : Int) < (n : Int) := by omega
          have hnp0 : ((n : Int) == 0) = false := by simp; omega
          have htn : (t : Int) < (n : Int) := by omega
          have ht0 : (0 : Int) ≤ (t : Int) := by omega
          have hwt : IntKind.i64.wrap (t : Int) = (t : Int) := IntWalk.i64_in _ (by omega)
          have HSE : Hid (∀ q, Hid (Ix ((w4.drewN q).setCell ⟨gb, t, none⟩ (.int .i64 q1)) (.slice (some ⟨gb, 0, none⟩) n cf) (row.set t q1)) ∧ Hid (Ix ((w4.drewN q).setCell ⟨gb, t, none⟩ (.int .i64 q1)) (.slice ao n cap) row) ∧ Hid (Below W3.heap.size W3 ((w4.drewN q).setCell ⟨gb, t, none⟩ (.int .i64 q1)))) := Lib.hid (fun q => by
            have h1 : OwI ((w4.drewN q).setCell ⟨gb, t, none⟩ (.int .i64 q1)) wc.heap.size (.slice (some ⟨gb, 0, none⟩) n cf) n (row.set t q1) := hset t q1 htm
            have h2 : Below wc.heap.size wc ((w4.drewN q).setCell ⟨gb, t, none⟩ (.int .i64 q1)) := (HB4.out.trans (show Below wc.heap.size w4 (w4.drewN q) from ⟨rfl, rfl, rfl, Nat.le_refl _, fun _ _ => rfl⟩)).setCell (p := ⟨gb, t, none⟩) hgb1 _
            refine ⟨Lib.hid (h1.ix (by omega) fun k => ?_), Lib.hid (HW4.out.below h2), Lib.hid (HBC.out.trans (h2.mono HBC.out.size))⟩
            by_cases hk : t = k
            · subst hk
              have htl : t < row.length := by have := HW4.out.size; omega
              rw [show (row.set t q1).getD t 0 = q1 by simp [List.getD, htl]]
              exact HFIT.out.2.2.2.2.2.2
            · rw [show (row.set t q1).getD k 0 = row.getD k 0 by simp [List.getD, List.getElem?_set, hk]]
              exact HW4.out.fit k)
          clear hgc hfr hset hgb1
          go_upto_region 7 with fail
          go_region
          all_goals (go_wp2_with fail; go_meet; exact ⟨row.set t q1, (HSE.out _).1, Lib.hid (by rw [List.length_set]; exact HRL.out), (HSE.out _).2.1, (HSE.out _).2.2⟩)
      case' rest =>
        obtain ⟨bl, HBN, HBNL, HRW5, HB5⟩ := hcut
        have HF5 := Lib.hid (HF3.out.below HB5.out)
        obtain ⟨k0, k1, k2, k3, k4, k5⟩ := HD.out _ HB5.out
        obtain ⟨j0, j1, j2, j3, j4, j5⟩ := HF5.out.d.cells
        have hg1 := Nat.lt_of_lt_of_le HG6L.out HB5.out.size
        have hds := ds_new (w := wc) (k1 := 3) (k2 := kd) (b1 := a) (b2 := ad) (HR3.out.below HB5.out) (HR2.out.below HF5.out.b) HL8.out HR2L.out
        have hb8 : Below wc.heap.size wc (wc.alloc (.cells #[.int .i64 3, .slice ar nr cr, .slice none 0 0, .int .i64 a, .int .i64 0, .int .i64 0, .int .i64 kd, .slice a2 (min n2 8) c2, .slice none 0 0, .int .i64 ad, .int .i64 0, .int .i64 0, .int .i64 0, .slice ar nr cr, .slice none 0 0, .int .i64 ad, .int .i64 0, .int .i64 0, .int .i64 0, .slice a2 (min n2 8) c2, .slice none 0 0, .int .i64 a, .int .i64 0, .int .i64 0] 27)) := (Below.refl _ _).alloc (Nat.le_refl _) _
        have HDS0 := Lib.hid hds
        have HB80 := Lib.hid hb8
        clear hds hb8
        go_wp2
        change Code.wp _ _ _ _ (wc.alloc (.cells #[.int .i64 3, .slice ar nr cr, .slice none 0 0, .int .i64 a, .int .i64 0, .int .i64 0, .int .i64 kd, .slice a2 (min n2 8) c2, .slice none 0 0, .int .i64 ad, .int .i64 0, .int .i64 0, .int .i64 0, .slice ar nr cr, .slice none 0 0, .int .i64 ad, .int .i64 0, .int .i64 0, .int .i64 0, .slice a2 (min n2 8) c2, .slice none 0 0, .int .i64 a, .int .i64 0, .int .i64 0] 27))
        have hds := HDS0.out
        have hb8 := HB80.out
        clear HDS0 HB80 k0 k1 k2 k3 k4 k5 j0 j1 j2 j3 j4 j5
        generalize wc.alloc (.cells #[.int .i64 3, .slice ar nr cr, .slice none 0 0, .int .i64 a, .int .i64 0, .int .i64 0, .int .i64 kd, .slice a2 (min n2 8) c2, .slice none 0 0, .int .i64 ad, .int .i64 0, .int .i64 0, .int .i64 0, .slice ar nr cr, .slice none 0 0, .int .i64 ad, .int .i64 0, .int .i64 0, .int .i64 0, .slice a2 (min n2 8) c2, .slice none 0 0, .int .i64 a, .int .i64 0, .int .i64 0] 27) = W8 at hds hb8 ⊢
        have HF8 := Lib.hid (HF5.out.below hb8)
        have HL15 : Hid (row.length ≤ 8) := Lib.hid HRL.out
        have HL16 : Hid (bl.length ≤ 8) := Lib.hid HBNL.out
        have HX15 := Lib.hid (HRW5.out.below hb8)
        have HX16 := Lib.hid (HBN.out.below hb8)
        have HX3 := Lib.hid (HWX.out.below HF8.out.b)
        have HDS := Lib.hid hds
        revert HDS
        generalize wc.heap.size = bD
        intro HDS
        clear hds hb8 HF5 HBN HRW5 HB5 hg1
        have HOUT := Lib.hid (fun W' (h : Below W8.heap.size W8 W') => HF8.out.b.trans (h.mono HF8.out.b.size))
        clear HRL HOK HOF HW4 HBC HBNL HF3 HR2W
        go_loopw [75] (fun kv wr => ∃ i : Nat, i ≤ 4 ∧ kv = .int .i64 (i : Nat) ∧ Hid (Below W8.heap.size W8 wr)) (fun kv _ => 4 - (intOf kv).toNat)
        case atStart => exact ⟨0, by omega, rfl, Lib.hid (Below.refl _ _)⟩
        case round =>
          obtain ⟨i, hi, rfl, hB⟩ := hrel
          by_cases hin : i = 4
          · have HEE := Lib.hid (HOUT.out _ hB.out)
            subst hin
            go_wp2
            go_ret
            exact ⟨by first | rfl | (simp; done), HEE.out⟩
          · have hlt : i < 4 := by omega
            have hii : (i : Int) < 4 := by omega
            have hi0 : (0 : Int) ≤ (i : Int) := by omega
            obtain ⟨kdi, aoi, ni, ci, ri, ai, ⟨d0, d1, d2, d3, d4, d5⟩, hxi, hli⟩ := HDS.out.at hB.out hlt
            have hrs := rs_new (w := dbox wr kdi (.slice aoi ni ci) ai) ((HX15.out.below hB.out).below (dbox_below _ _ _ _)) ((HX16.out.below hB.out).below (dbox_below _ _ _ _)) ((HX3.out.below hB.out).below (dbox_below _ _ _ _)) HL15.out HL16.out HWL.out
            rw [dbox_size] at hrs
            have hbq : Below W8.heap.size W8 ((dbox wr kdi (.slice aoi ni ci) ai).alloc (.cells #[.slice ao n cap, .slice af n cf, .slice aw (min nw 8) cw, .slice none 0 0] 23)) := (hB.out.trans ((dbox_below wr kdi (.slice aoi ni ci) ai).mono hB.out.size)).alloc (by have := hB.out.size; rw [dbox_size]; omega) _
            have hbr : Below (dbox wr kdi (.slice aoi ni ci) ai).heap.size (dbox wr kdi (.slice aoi ni ci) ai) ((dbox wr kdi (.slice aoi ni ci) ai).alloc (.cells #[.slice ao n cap, .slice af n cf, .slice aw (min nw 8) cw, .slice none 0 0] 23)) := (Below.refl _ _).alloc (Nat.le_refl _) _
            have hdd : DBox ((dbox wr kdi (.slice aoi ni ci) ai).alloc (.cells #[.slice ao n cap, .slice af n cf, .slice aw (min nw 8) cw, .slice none 0 0] 23)) wr.heap.size kdi (.slice aoi ni ci) ai := (dbox_is wr kdi (.slice aoi ni ci) ai).below hbr
            have hxx := (hxi.below (dbox_below wr kdi (.slice aoi ni ci) ai)).below hbr
            have HRS0 := Lib.hid (And.intro hrs (And.intro hbq (And.intro hdd hxx)))
            have HLI := Lib.hid hli
            clear hrs hbq hbr hdd hxx hxi hli
            go_wp2
            change Code.wp _ _ _ _ ((dbox wr kdi (.slice aoi ni ci) ai).alloc (.cells #[.slice ao n cap, .slice af n cf, .slice aw (min nw 8) cw, .slice none 0 0] 23))
            obtain ⟨hrs, hbq, hdd, hxx⟩ := HRS0.out
            clear HRS0 d0 d1 d2 d3 d4 d5
            generalize (dbox wr kdi (.slice aoi ni ci) ai).alloc (.cells #[.slice ao n cap, .slice af n cf, .slice aw (min nw 8) cw, .slice none 0 0] 23) = W9 at hrs hbq hdd hxx ⊢
            have HB9 := Lib.hid hbq
            have HD9 := Lib.hid (fun W' (h : Below W9.heap.size W9 W') => (hdd.below h).cells)
            have HX9 := Lib.hid hxx
            have HG9 := Lib.hid (Array.getElem?_eq_some_iff.1 hdd).1
            have HRS := Lib.hid hrs
            revert HRS
            revert HD9
            revert HG9
            generalize wr.heap.size = gx
            intro HG9 HD9 HRS
            clear hrs hbq hdd hxx
            go_loopw [20, 84] (fun _ kv wr => ∃ j : Nat, j ≤ 4 ∧ kv = .int .i64 (j : Nat) ∧ Hid (Below W9.heap.size W9 wr)) (fun _ kv _ => 4 - (intOf kv).toNat)
            case atStart => exact ⟨0, by omega, rfl, Lib.hid (Below.refl _ _)⟩
            case round =>
              obtain ⟨j, hj, rfl, hB⟩ := hrel
              by_cases hjn : j = 4
              · have HBE := Lib.hid (HB9.out.trans (hB.out.mono HB9.out.size))
                subst hjn
                go_wp2
                go_roundw
                case rel => exact ⟨i + 1, by omega, by go_num, HBE⟩
                case measure => simp [intOf]; omega
              · have hjlt : j < 4 := by omega
                have hjj : (j : Int) < 4 := by omega
                have hj0 : (0 : Int) ≤ (j : Int) := by omega
                obtain ⟨aoj, nj, cj, rowj, c0, hxj, hlj⟩ := HRS.out.at hB.out hjlt
                have hri := HX9.out.below hB.out
                have HB13 := Lib.hid (fun W' (h : Below wr.heap.size wr W') => balls_any (hri.below h) (hxj.below h) HLI.out hlj kdi ai)
                have HB14 := Lib.hid (fun W' (h : Below wr.heap.size wr W') => rBalls_any (hri.below h) (hxj.below h) HLI.out hlj kdi ai)
                have HC15 := Lib.hid (fun W' (h : Below wr.heap.size wr W') => rChoices_any (hri.below h) (hxj.below h) HLI.out hlj kdi ai)
                have HC17 := Lib.hid (fun W' (h : Below wr.heap.size wr W') => choices_any (hri.below h) (hxj.below h) HLI.out hlj kdi ai)
                have HN18 := Lib.hid (fun W' (h : Below wr.heap.size wr W') p q s => next_any (hri.below h) (hxj.below h) HLI.out hlj kdi ai p q s)
                have HN19 := Lib.hid (fun W' (h : Below wr.heap.size wr W') p q s => rNext_any (hri.below h) (hxj.below h) HLI.out hlj kdi ai p q s)
                have HBX := Lib.hid (fun (W' : World) (v : Value) (B n : Nat) (h : OwI W' B v n (balV ri ai rowj)) => h.bx HLI.out)
                have HCX := Lib.hid (fun (W' : World) (v : Value) (B n : Nat) (h : OwC W' B v n (chV ri ai rowj)) => h.chx HLI.out)
                have HCF := Lib.hid (chV_fit (row := rowj) (a := ai) HLI.out)
                have HCN := Lib.hid (chV_len (row := rowj) (a := ai) HLI.out)
                have HNXX := Lib.hid (fun (W' : World) (v : Value) (B n : Nat) (c : Ch) (h : OwI W' B v n (nxV ri ai rowj c)) => h.nx HLI.out)
                have HDW := Lib.hid (fun W' (h : Below wr.heap.size wr W') => HD9.out W' (hB.out.trans (h.mono hB.out.size)))
                have HRR := Lib.hid (Below.refl wr.heap.size wr)
                have HGW := Lib.hid (Nat.lt_of_lt_of_le HG9.out hB.out.size)
                have HFW := Lib.hid (fun W' (h : Below wr.heap.size wr W') => HF8.out.below (HB9.out.trans ((hB.out.trans (h.mono hB.out.size)).mono HB9.out.size)))
                have HBW := Lib.hid (fun W' (h : Below wr.heap.size wr W') => hB.out.trans (h.mono hB.out.size))
                clear hri hxj hlj
                go_upto_region 14 with fail
                clear c0
                go_cut [95] from 88 to 143 (fun v wx => v = .bool false ∧ Hid (Below wr.heap.size wr wx))
                case first =>
                  obtain ⟨k0, k1, k2, k3, k4, k5⟩ := HDW.out _ HRR.out
                  go_region_held3 (fun W' => W'.cell? ⟨gx, 0, none⟩ = some (.int .i64 kdi) ∧ W'.cell? ⟨gx, 1, none⟩ = some (.slice aoi ni ci) ∧ W'.cell? ⟨gx, 2, none⟩ = some (.slice none 0 0) ∧ W'.cell? ⟨gx, 3, none⟩ = some (.int .i64 ai) ∧ W'.cell? ⟨gx, 4, none⟩ = some (.int .i64 0) ∧ W'.cell? ⟨gx, 5, none⟩ = some (.int .i64 0))
                    (first | (with_reducible exact HDW.out _ HQ12.out) | (with_reducible exact HDW.out _ HQ13.out) | (with_reducible exact HDW.out _ HQ14.out) | (with_reducible exact HDW.out _ HRR.out) | (with_reducible exact HDW.out _ HRR.out.drew) | (exact HDW.out _ HRR.out.drew))
                    ((first
                    | (go_at_call 13; (with_reducible refine (HB13.out _ ?_).mono ?_); (focus (first | with_reducible exact HQ14.out | with_reducible exact HRR.out.drew)); rintro e w13 ⟨a13, n13, c13, rfl, ho, hb⟩; have HX13 := Lib.hid (HBX.out _ _ _ _ ho); (try have HX14 := Lib.hid (HX14.out.below hb)); have HQ13 : Hid (Below wr.heap.size wr w13) := (by first | exact Lib.hid (HQ14.out.trans (hb.mono HQ14.out.size)) | exact Lib.hid (HRR.out.drew.trans (hb.mono HRR.out.drew.size))); clear ho hb)
                    | (go_at_call 14; (with_reducible refine (HB14.out _ ?_).mono ?_); (focus (first | with_reducible exact HQ13.out | with_reducible exact HRR.out.drew)); rintro e w14 ⟨a14, n14, c14, rfl, ho, hb⟩; have HX14 := Lib.hid (HBX.out _ _ _ _ ho); (try have HX13 := Lib.hid (HX13.out.below hb)); have HQ14 : Hid (Below wr.heap.size wr w14) := (by first | exact Lib.hid (HQ13.out.trans (hb.mono HQ13.out.size)) | exact Lib.hid (HRR.out.drew.trans (hb.mono HRR.out.drew.size))); clear ho hb)
                    | (go_at_call 12; (with_reducible refine (sameInts_yes HX13.out HX14.out).mono ?_); rintro e w12 ⟨rfl, hb⟩; have HQ12 : Hid (Below wr.heap.size wr w12) := (by first | exact Lib.hid (HQ14.out.trans (hb.mono HQ14.out.size)) | exact Lib.hid (HQ13.out.trans (hb.mono HQ13.out.size))); clear hb)))
                  all_goals (go_wp2_with fail; go_meet; exact ⟨rfl, HQ12⟩)
                case' rest =>
                  obtain ⟨rfl, HB2⟩ := hcut
                  obtain ⟨k0, k1, k2, k3, k4, k5⟩ := HDW.out _ HB2.out
                  go_upto_region 19 with (first
                    | (go_at_call 15; (with_reducible refine (HC15.out _ HB2.out).mono ?_); rintro e w15 ⟨az, mz, cz, rfl, ho, hb⟩; have HOZ := Lib.hid ho; have HZX := Lib.hid (HCX.out _ _ _ _ ho); have HMZ := Lib.hid (owC_len ho); have HB3 := Lib.hid (HB2.out.trans (hb.mono HB2.out.size)); clear k0 k1 k2 k3 k4 k5; obtain ⟨k0, k1, k2, k3, k4, k5⟩ := HDW.out _ HB3.out; clear ho hb)
                    | (go_at_call 17; (with_reducible refine (HC17.out _ HB3.out).mono ?_); rintro e w17 ⟨ay, my, cy, rfl, ho, hb⟩; have HYX := Lib.hid (HCX.out _ _ _ _ ho); have HZX := Lib.hid (HZX.out.below hb); have HOZ := Lib.hid (owns_later HOZ.out hb); have HB4 := Lib.hid (HB3.out.trans (hb.mono HB3.out.size)); clear k0 k1 k2 k3 k4 k5; obtain ⟨k0, k1, k2, k3, k4, k5⟩ := HDW.out _ HB4.out; clear ho hb)
                    | (go_at_call 16; (with_reducible refine (same_yes HYX.out HZX.out).mono ?_); rintro e w16 ⟨rfl, hb⟩; have HOZ := Lib.hid (owns_later HOZ.out hb); have HB5 := Lib.hid (HB4.out.trans (hb.mono HB4.out.size)); clear k0 k1 k2 k3 k4 k5; obtain ⟨k0, k1, k2, k3, k4, k5⟩ := HDW.out _ HB5.out; clear hb))
                  have HFC := Lib.hid (HFW.out _ HB5.out)
                  have hmz : mz ≤ 8 := by have := HMZ.out; have := HCN.out; omega
                  obtain ⟨c0, c1, c2⟩ := HFC.out.c.cells
                  simp only at c0 c1 c2
                  have hcl : W.heap.size + 2 < w16.heap.size := by have := HFC.out.s; omega
                  go_cut [113, 114, 115] from 88 to 143 (fun v vm vk wx => ∃ (ao : Option Addr) (cap M : Nat), v = .slice ao M cap ∧ vm = .int .i64 (M : Int) ∧ vk = .int .i64 0 ∧ M ≤ 10 ∧ Hid (OwC wx w16.heap.size (.slice ao M cap) M (chV ri ai rowj ++ [(x, y, z), (1, 0, z)])) ∧ Hid (Below wr.heap.size wr wx))
                  case first =>
                    obtain ⟨⟨aA, cA, wA, aA2, cA2, wA2, hrA, hrA2, hoA, hbA1, hbA⟩, ⟨aB, cB, wB, aB2, cB2, wB2, hrB, hrB2, hoB, hbB⟩, ⟨aC, cC, wC, aC2, cC2, wC2, hrC, hrC2, hoC, hbC⟩⟩ := fo_join HOZ.out (by omega) x y z
                    have cA0 := cell_later hbA1 c0
                    have cA1 := cell_later hbA1 c1
                    have cA2' := cell_later hbA1 c2
                    have hclA := Nat.lt_of_lt_of_le hcl hbA1.size
                    have HoA := Lib.hid hoA
                    have HoB := Lib.hid hoB
                    have HoC := Lib.hid hoC
                    have HbA := Lib.hid (HB5.out.trans (hbA.mono HB5.out.size))
                    have HbB := Lib.hid (HB5.out.trans (hbB.mono HB5.out.size))
                    have HbC := Lib.hid (HB5.out.trans (hbC.mono HB5.out.size))
                    clear hoA hoB hoC hbA hbB hbC hbA1 k0 k1 k2 k3 k4 k5
                    go_region_law (fail)
                    all_goals (go_wp2_with fail; go_meet; first | exact ⟨aA2, cA2, mz + 2, rfl, rfl, rfl, by omega, HoA, HbA⟩ | exact ⟨aB2, cB2, mz + 2, rfl, rfl, rfl, by omega, HoB, HbB⟩ | exact ⟨aC2, cC2, mz + 2, rfl, rfl, rfl, by omega, HoC, HbC⟩)
                  case' rest =>
                    obtain ⟨ac, cc, M, rfl, rfl, rfl, hM10, HOC, HB6⟩ := hcut
                    have HZL := Lib.hid (forms_cx HOC.out (by omega) HCF.out ⟨HFIT.out.2.2.1, HFIT.out.2.2.2.1, HFIT.out.2.2.2.2.1⟩)
                    clear k0 k1 k2 k3 k4 k5 c0 c1 c2 hcl
                    revert HZL
                    generalize chV ri ai rowj ++ [(x, y, z), (1, 0, z)] = zl
                    intro HZL
                    clear HOC HOZ HZX HYX HC15 HC17 HB13 HB14
                    go_wp2
                    go_loopw [24, 25, 26, 27, 115] (fun _ _ _ _ kv wr => ∃ k : Nat, k ≤ M ∧ kv = .int .i64 (k : Nat) ∧ Hid (Below wc.heap.size wc wr)) (fun _ _ _ _ kv _ => M - (intOf kv).toNat)
                    case atStart => exact ⟨0, by omega, rfl, Lib.hid (Below.refl _ _)⟩
                    case round =>
                      obtain ⟨k, hk, rfl, hQ⟩ := hrel
                      have hch := HB6.out.trans (hQ.out.mono HB6.out.size)
                      by_cases hkn : k = M
                      · have HBE := Lib.hid (HBW.out _ hch)
                        have hkn3 : ¬ (k : Int) < (M : Int) := by omega
                        subst hkn
                        clear hch hkn3
                        go_wp2
                        go_roundw
                        case rel => exact ⟨j + 1, by omega, by go_num, HBE⟩
                        case measure => simp [intOf]; omega
                      · have hkl : k < M := by omega
                        have hkn3 : (k : Int) < (M : Int) := by omega
                        have hk0 : (0 : Int) ≤ (k : Int) := by omega
                        obtain ⟨bz, ofz, rfl, hcapz, hblz, hclz⟩ := HZL.out.at (by omega)
                        obtain ⟨d0, d1, d2⟩ := hclz k hkl
                        have d0 := cell_later hQ.out d0
                        have d1 := cell_later hQ.out d1
                        have d2 := cell_later hQ.out d2
                        revert d0 d1 d2
                        generalize zl.getD k (0, 0, 0) = qc
                        obtain ⟨p, q, s⟩ := qc
                        intro d0 d1 d2
                        simp only at d0 d1 d2
                        have HM18 := Lib.hid (fun W' h => HN18.out W' h p q s)
                        have HM19 := Lib.hid (fun W' h => HN19.out W' h p q s)
                        obtain ⟨bv, hbv⟩ : ∃ bv, bv = nxB ri ai rowj (p, q, s) := ⟨_, rfl⟩
                        rw [← hbv] at HM18 HM19
                        have HBC := Lib.hid (hch.trans ((cbox_below wr (p, q, s)).mono hch.size))
                        obtain ⟨k0, k1, k2, k3, k4, k5⟩ := HDW.out _ hch
                        have hgw := Nat.lt_of_lt_of_le HGW.out hch.size
                        have HQC := Lib.hid (hQ.out.trans ((cbox_below wr (p, q, s)).mono hQ.out.size))
                        have HCB := Lib.hid (cbox_is wr (p, q, s))
                        clear hbv hclz hch
                        cases bv with
                        | false =>
                          clear HN18 HN19 HCN HCF HBX HCX HFW HDS HRS HZL HFIT
                          go_upto_region 23 with ((go_at_call 18; (with_reducible refine (HM18.out _ HBC.out).mono ?_); rintro e w18 ⟨a18, n18, c18, rfl, ho, hb⟩; have HX18 := Lib.hid (HNXX.out _ _ _ _ _ ho); have HB18 := Lib.hid (HBC.out.trans (hb.mono HBC.out.size)); have HQ18 := Lib.hid (HQC.out.trans (hb.mono HQC.out.size)); have HC18 := Lib.hid (HCB.out.below hb); clear k0 k1 k2 k3 k4 k5; obtain ⟨k0, k1, k2, k3, k4, k5⟩ := HDW.out _ HB18.out; obtain ⟨e0, e1, e2⟩ := HC18.out.cells; simp only at e0 e1 e2; have hgw := Nat.lt_of_lt_of_le HGW.out HB18.out.size; clear ho hb))
                          clear HM18
                          go_upto_region 24 with ((go_at_call 19; (with_reducible refine (HM19.out _ HB18.out).mono ?_); rintro e w19 ⟨a19, n19, c19, rfl, ho, hb⟩; have HX19 := Lib.hid (HNXX.out _ _ _ _ _ ho); have HX18 := Lib.hid (HX18.out.below hb); have HQ19 := Lib.hid (HQ18.out.trans (hb.mono HQ18.out.size)); clear ho hb))
                          clear HM19 k0 k1 k2 k3 k4 k5 e0 e1 e2
                          have HSS := Lib.hid (sameInts_yes HX18.out HX19.out)
                          clear HX18 HX19
                          go_upto_region 26 with (go_at_call 12; (with_reducible refine HSS.out.mono ?_); rintro e w20 ⟨rfl, hb⟩; have HQ20 := Lib.hid (HQ19.out.trans (hb.mono HQ19.out.size)); clear hb)
                          clear HSS HDW HNXX HBW HB18 HC18 HCB HQC HBC
                          go_wp2
                          go_roundw
                          case rel => exact ⟨k + 1, by omega, by go_num, HQ20⟩
                          case measure => simp [intOf]; omega
                        | true =>
                          clear HN18 HN19 HCN HCF HBX HCX HFW HDS HRS HZL HFIT
                          go_upto_region 23 with ((go_at_call 18; (with_reducible refine (HM18.out _ HBC.out).mono ?_); rintro e w18 ⟨a18, n18, c18, rfl, ho, hb⟩; have HX18 := Lib.hid (HNXX.out _ _ _ _ _ ho); have HB18 := Lib.hid (HBC.out.trans (hb.mono HBC.out.size)); have HQ18 := Lib.hid (HQC.out.trans (hb.mono HQC.out.size)); have HC18 := Lib.hid (HCB.out.below hb); clear k0 k1 k2 k3 k4 k5; obtain ⟨k0, k1, k2, k3, k4, k5⟩ := HDW.out _ HB18.out; obtain ⟨e0, e1, e2⟩ := HC18.out.cells; simp only at e0 e1 e2; have hgw := Nat.lt_of_lt_of_le HGW.out HB18.out.size; clear ho hb))
                          clear HM18
                          go_upto_region 24 with ((go_at_call 19; (with_reducible refine (HM19.out _ HB18.out).mono ?_); rintro e w19 ⟨a19, n19, c19, rfl, ho, hb⟩; have HX19 := Lib.hid (HNXX.out _ _ _ _ _ ho); have HX18 := Lib.hid (HX18.out.below hb); have HQ19 := Lib.hid (HQ18.out.trans (hb.mono HQ18.out.size)); clear ho hb))
                          clear HM19 k0 k1 k2 k3 k4 k5 e0 e1 e2
                          have HSS := Lib.hid (sameInts_yes HX18.out HX19.out)
                          clear HX18 HX19
                          go_upto_region 26 with (go_at_call 12; (with_reducible refine HSS.out.mono ?_); rintro e w20 ⟨rfl, hb⟩; have HQ20 := Lib.hid (HQ19.out.trans (hb.mono HQ19.out.size)); clear hb)
                          clear HSS HDW HNXX HBW HB18 HC18 HCB HQC HBC
                          go_wp2
                          go_roundw
                          case rel => exact ⟨k + 1, by omega, by go_num, HQ20⟩
                          case measure => simp [intOf]; omega

end Go.Proofs.Ytmpopbkhmkkhgaa
