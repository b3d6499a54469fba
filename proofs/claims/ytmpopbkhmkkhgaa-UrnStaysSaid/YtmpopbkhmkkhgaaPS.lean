/- The law UrnStays, walked. Condition: the arguments fit their types. -/
import Derived.Test.YtmpopbkhmkkhgaaP2
import Derived.Deep.CutRange
import Derived.BigQuiet
namespace Go.Proofs.Ytmpopbkhmkkhgaa
open Go.RowKit

attribute [local go_sem ↓] equal29
attribute [local go_sem ↓] appI_rw

/-- What lies there when Add is made 0. -/
theorem stays_store {W w : World} {g6 : Nat} {kd a : Int} {ar : Option Addr} {nr cr : Nat} {r : List Int} (hd : DBox w g6 kd (.slice ar nr cr) a) (hr : Ix w (.slice ar nr cr) r) (hrb : ∀ b off, ar = some (Addr.mk b off none) → nr ≠ 0 → b < g6) (hb : Below W.heap.size W w) (hg : W.heap.size ≤ g6) :
    DBox (w.setCell ⟨g6, 3, none⟩ (.int .i64 0)) g6 kd (.slice ar nr cr) 0 ∧ Ix (w.setCell ⟨g6, 3, none⟩ (.int .i64 0)) (.slice ar nr cr) r ∧ Below W.heap.size W (w.setCell ⟨g6, 3, none⟩ (.int .i64 0)) := by
  refine ⟨heap_setCell_same _ _ _ _ _ _ hd, ⟨hr.len, hr.fit, ?_⟩, hb.setCell hg _⟩
  by_cases hn : nr = 0
  · rcases hr.is with h | ⟨b, off, cap, e, h1, h2, h3⟩
    · exact .inl h
    · injection e with e1 e2 e3
      have hl : r = [] := List.length_eq_zero_iff.1 (by omega)
      subst hn
      exact .inl ⟨hl, _, _, rfl, fun h => by rw [e1] at h; cases h⟩
  · obtain ⟨b, off, e, hq, hc, hbl, hcl⟩ := hr.at hn
    have hne := hrb b off e hn
    refine .inr ⟨b, off, cr, by rw [e, hq], by omega, by simp only [World.setCell, Array.size_modify]; exact hbl, fun j hj => ?_⟩
    exact (World.cell?_of_block (Below.heap_setCell _ _ _ _ (by simp only; omega))).trans (hcl j (by omega))

theorem stays_cx {W : World} {B n : Nat} {v : Value} {r : List Int} {a : Int} (h : OwC W B v n (cho r r r.length)) (hm : MadeOk r a) : Cx W v (cho r r r.length) :=
  h.cx (by have := owC_len h; have := (cho_two hm).2; omega) (fit_of fun c hc => by
    obtain ⟨j, h1, h2, h3, rfl⟩ := mem_cho.1 hc
    have := hm.rr j h1
    have := hm.l4
    exact ⟨⟨by simp only; omega, by simp only; omega⟩, ⟨by simp only; omega, by simp only; omega⟩, ⟨by simp only; omega, by simp only; omega⟩⟩)

theorem stays_ix {W : World} {B n : Nat} {v : Value} {r : List Int} {a : Int} (h : OwI W B v n r) (hm : MadeOk r a) : Ix W v r := hm.ix h

theorem now_len {r now : List Int} {a : Int} (hm : MadeOk r a) (hn : now = [] ∨ now = r) : now.length ≤ 8 := by
  have := hm.l4
  rcases hn with h | h
  · rw [h]; simp
  · rw [h]; omega

theorem stays_choices {V W' : World} {ar vn : Option Addr} {nr cr nn cn2 : Nat} {r now : List Int} {a : Int} (hr : Ix V (.slice ar nr cr) r) (h : Below V.heap.size V W') (hx : Ix W' (.slice vn nn cn2) now) (hn : now = [] ∨ now = r) (hm : MadeOk r a) :
    Calls Try.prog 17 #[DV 3 (.slice ar nr cr) 0, .slice vn nn cn2] W' fun e w' => ∃ ao n cap, e = .returned (.slice ao n cap) ∧ OwC w' W'.heap.size (.slice ao n cap) n (cho r r r.length) ∧ Below W'.heap.size W' w' := by
  have hc := choices_any (hr.below h) hx (by have := hm.l4; omega) (now_len hm hn) 3 0
  unfold chV at hc
  rw [bal_zero hm hn] at hc
  exact hc
theorem stays_next {V W' : World} {ar vn : Option Addr} {nr cr nn cn2 : Nat} {r now : List Int} {a : Int} (hr : Ix V (.slice ar nr cr) r) (h : Below V.heap.size V W') (hx : Ix W' (.slice vn nn cn2) now) (hn : now = [] ∨ now = r) (hm : MadeOk r a) (x y z : Int) (hc : (x, y, z) ∈ cho r r r.length) :
    Calls Try.prog 18 #[DV 3 (.slice ar nr cr) 0, .slice vn nn cn2, .agg #[.int .i64 x, .int .i64 y, .int .i64 z]] W' fun e w' => ∃ ao n cap, e = .returned (.tuple #[.slice ao n cap, .bool true]) ∧ OwI w' W'.heap.size (.slice ao n cap) n r ∧ Below W'.heap.size W' w' := by
  have hb := bal_zero hm hn
  have hI : BalI r 0 (balV r 0 now) := by
    rw [hb]
    exact ⟨hm.zero, rfl, fun k hk => by have := hm.rr k hk; omega⟩
  have h2 := next_made (hr.below h) hx (by have := hm.l4; omega) (now_len hm hn) 3 (x := x) (y := y) (z := z) hI (by unfold chV; rw [hb]; exact hc)
  rw [hb, addV_none] at h2
  exact h2

set_option maxRecDepth 100000 in
set_option maxHeartbeats 8000000 in
theorem urnStays_any {W : World} (l0 l1 l2 l3 l4 l5 : Int) {an : Option Addr} {nl cn : Nat} {l lu : List Int} {vu : Value} (hn : Ix W (.slice an nl cn) l) (hu : Ux W vu lu) :
    Calls Try.prog 7 #[.agg #[.int .i64 l0, .int .i64 l1, .int .i64 l2, .int .i64 l3, .int .i64 l4, .int .i64 l5], .slice an nl cn, vu] W fun e w' => e = .returned (.bool true) ∧ Below W.heap.size W w' := by
  obtain ⟨au, cu, rfl⟩ := hu.mk'
  obtain ⟨nu, hnu⟩ : ∃ nu, nu = lu.length := ⟨_, rfl⟩
  have hul := hu.len
  unfold maxLen at hul
  rw [← hnu] at hu hul ⊢
  have HU := Lib.hid hu
  have HNU := Lib.hid hnu
  have HSA := Lib.hid (fun W' => sanity_any W')
  obtain ⟨P0, hP0⟩ : ∃ P0, P0 = lW W l0 l1 l2 l3 l4 l5 := ⟨_, rfl⟩
  have HB : Hid (Below P0.heap.size P0 (lW W l0 l1 l2 l3 l4 l5)) := Lib.hid (by rw [hP0]; exact Below.refl _ _)
  have HBX := Lib.hid (fun W' (h : Below P0.heap.size P0 W') => l_box (W' := W') (W := W) (l0 := l0) (l1 := l1) (l2 := l2) (l3 := l3) (l4 := l4) (l5 := l5) (by rw [← hP0]; exact h))
  have hup : Below W.heap.size W P0 := by rw [hP0]; exact l_up W l0 l1 l2 l3 l4 l5
  have HUP := Lib.hid (fun W' (h : Below P0.heap.size P0 W') => hup.trans (h.mono hup.size))
  have HMA := Lib.hid (fun W' => made_any (W := W') l0 l1 l2 l3 l4 l5)
  have HN := Lib.hid hn
  have HNL := Lib.hid hn.size
  have hnl := hn.len
  have HCN := Lib.hid hn.le
  rw [← hn.size] at hnl
  unfold maxLen at hnl
  clear hu hnu
  clear hn hup hP0
  go_enter Try.func7, Try.ntmps7
  go_upto_region 3 with (first
    | (go_at_call 8; (with_reducible refine (HSA.out _).mono ?_); rintro e w1 ⟨rfl, hb⟩; have HB := Lib.hid (HB.out.trans (hb.mono HB.out.size)); obtain ⟨b0, b1, b2, b3, b4, b5⟩ := HBX.out _ HB.out; clear hb)
    | (go_at_call 10; (with_reducible refine (HMA.out _).mono ?_); rintro e w2 ⟨ar, nr, cr, r, a, rfl, hr, hmk, hb⟩; have HR := Lib.hid (hmk.ix hr); have HMK := Lib.hid hmk; have HB2 := Lib.hid (HB.out.trans (hb.mono HB.out.size)); clear hb hr hmk b0 b1 b2 b3 b4 b5))
  change Code.wp _ _ _ _ (dbox w2 3 (.slice ar nr cr) a)
  have hD := dbox_is w2 3 (.slice ar nr cr) a
  have hR := HR.out.below (dbox_below w2 3 (.slice ar nr cr) a)
  have hB3 := HB2.out.trans ((dbox_below w2 3 (.slice ar nr cr) a).mono HB2.out.size)
  have hg6 : P0.heap.size ≤ w2.heap.size := HB2.out.size
  have hrb : ∀ b off, ar = some (Addr.mk b off none) → nr ≠ 0 → b < w2.heap.size := fun b off e h => by
    obtain ⟨b', off', e', -, -, hbl, -⟩ := HR.out.at h
    rw [e] at e'
    injection e' with e'
    injection e' with e1
    rw [e1]; exact hbl
  generalize dbox w2 3 (.slice ar nr cr) a = W3 at hD hR hB3 ⊢
  generalize w2.heap.size = g6 at hD hg6 hrb ⊢
  have HRB := Lib.hid hrb
  clear hrb
  have HD := Lib.hid (fun W' (h : Below W3.heap.size W3 W') => (hD.below h).cells)
  have HD3 := Lib.hid hD
  have HR3 := Lib.hid hR
  have HB3 := Lib.hid hB3
  have HG6 := Lib.hid hg6
  have hl8 : r.length ≤ 8 := by have := HMK.out.l4; omega
  have HL8 := Lib.hid hl8
  have HNR := Lib.hid hR.size
  have hg6l := (Array.getElem?_eq_some_iff.1 hD).1
  have HG6L := Lib.hid hg6l
  have HRW := Lib.hid (fun W' (h : Below W3.heap.size W3 W') m (hm : m ≤ nl) => row_any (hR.below h) ((HN.out.take m hm).below (HUP.out _ (hB3.trans (h.mono hB3.size)))) hl8 3 a)
  have hbr := Below.refl W3.heap.size W3
  have HBR := Lib.hid hbr
  clear hD hR hB3 HB2 HR HB HSA HMA hbr hl8 hg6 hg6l
  go_cut [9] from 18 to 107 (fun v wx => ∃ ao n cap row, v = .slice ao n cap ∧ Hid (Ix wx (.slice ao n cap) row) ∧ Hid (RowOk r row) ∧ Hid (Below W3.heap.size W3 wx) ∧ Hid (OwI wx W3.heap.size (.slice ao n cap) n row))
  case first =>
    obtain ⟨k0, k1, k2, k3, k4, k5⟩ := HD.out _ HBR.out
    rcases Nat.lt_or_ge 5 nl with h5 | h5
    · have e4 : (5 : Int) < (nl : Int) := by omega
      have e5 : (5 : Int) ≤ (cn : Int) := by have := HCN.out; omega
      have HRX := Lib.hid (fun W' (h : Below W3.heap.size W3 W') => HRW.out W' h 5 (by omega))
      go_region_held3 (fun W' => W'.cell? ⟨g6, 0, none⟩ = some (.int .i64 3) ∧ W'.cell? ⟨g6, 1, none⟩ = some (.slice ar nr cr) ∧ W'.cell? ⟨g6, 2, none⟩ = some (.slice none 0 0) ∧ W'.cell? ⟨g6, 3, none⟩ = some (.int .i64 a) ∧ W'.cell? ⟨g6, 4, none⟩ = some (.int .i64 0) ∧ W'.cell? ⟨g6, 5, none⟩ = some (.int .i64 0))
        (first | (with_reducible exact HD.out _ HBQ.out) | (with_reducible exact HD.out _ HBR.out) | (exact HD.out _ HBR.out.drew))
        ((go_at_call 11; (refine (HRX.out _ HBR.out.drew).mono ?_); rintro e w3 ⟨ao, n, cap, row, rfl, ho, hok, hb⟩; have HO := Lib.hid ho; have HOK := Lib.hid hok; have HBQ := Lib.hid (HBR.out.drew.trans (hb.mono HBR.out.drew.size)); clear ho hok hb))
      all_goals (go_wp2_with fail; go_meet; exact ⟨ao, n, cap, row, rfl, HOK.out.ix HO.out HL8.out, HOK.out, HBQ.out, HO.out⟩)
    · have e4 : ¬ (5 : Int) < (nl : Int) := by omega
      have e5 : (nl : Int) ≤ (cn : Int) := by have := HCN.out; omega
      have HRX := Lib.hid (fun W' (h : Below W3.heap.size W3 W') => HRW.out W' h nl (by omega))
      go_region_held3 (fun W' => W'.cell? ⟨g6, 0, none⟩ = some (.int .i64 3) ∧ W'.cell? ⟨g6, 1, none⟩ = some (.slice ar nr cr) ∧ W'.cell? ⟨g6, 2, none⟩ = some (.slice none 0 0) ∧ W'.cell? ⟨g6, 3, none⟩ = some (.int .i64 a) ∧ W'.cell? ⟨g6, 4, none⟩ = some (.int .i64 0) ∧ W'.cell? ⟨g6, 5, none⟩ = some (.int .i64 0))
        (first | (with_reducible exact HD.out _ HBQ.out) | (with_reducible exact HD.out _ HBR.out) | (exact HD.out _ HBR.out.drew))
        ((go_at_call 11; (refine (HRX.out _ HBR.out.drew).mono ?_); rintro e w3 ⟨ao, n, cap, row, rfl, ho, hok, hb⟩; have HO := Lib.hid ho; have HOK := Lib.hid hok; have HBQ := Lib.hid (HBR.out.drew.trans (hb.mono HBR.out.drew.size)); clear ho hok hb))
      all_goals (go_wp2_with fail; go_meet; exact ⟨ao, n, cap, row, rfl, HOK.out.ix HO.out HL8.out, HOK.out, HBQ.out, HO.out⟩)
  case' rest =>
    obtain ⟨ao, n, cap, row, rfl, HW, HOK, HBC, -⟩ := hcut
    have hn8 : n ≤ 8 := by have := HW.out.size; have := HOK.out.in8.2; have := HL8.out; omega
    have HCH := Lib.hid (fun W' (h : Below wc.heap.size wc W') => choices_any (HR3.out.below (HBC.out.trans (h.mono HBC.out.size))) (HW.out.below h) HL8.out (by have := HOK.out.in8.2; have := HL8.out; omega) 3 a)
    have HCI := Lib.hid (fun W' (v : Value) (B n : Nat) (h : OwC W' B v n (chV r a row)) => h.chx HL8.out)
    have HCN := Lib.hid (chV_len (r := r) (row := row) (a := a) HL8.out)
    have HNX := Lib.hid (fun W' (h : Below wc.heap.size wc W') (x y z : Int) => next_any (HR3.out.below (HBC.out.trans (h.mono HBC.out.size))) (HW.out.below h) HL8.out (by have := HOK.out.in8.2; have := HL8.out; omega) 3 a x y z)
    obtain ⟨af, cf, w4, hrun, hof, hbf⟩ := clone_run HW.out (by omega)
    have HF := Lib.hid (HOK.out.ix hof HL8.out)
    have HB4 := Lib.hid hbf
    have hlt4 : g6 < wc.heap.size := Nat.lt_of_lt_of_le HG6L.out HBC.out.size
    obtain ⟨k0, k1, k2, k3, k4, k5⟩ := HD.out _ (HBC.out.trans (HB4.out.mono HBC.out.size))
    clear HBR HRW hof hbf
    go_wp2_with (go_at_call 17; (with_reducible refine (HCH.out _ HB4.out).mono ?_); rintro e w5 ⟨ac, nc, cc, rfl, ho, hb⟩; have HC := Lib.hid (HCI.out _ _ _ _ ho); have HNC := Lib.hid (owC_len ho); have HF := Lib.hid (HF.out.below hb); have HB5 := Lib.hid (HB4.out.trans (hb.mono HB4.out.size)); clear ho hb)
    clear k0 k1 k2 k3 k4 k5
    have hnc8 : nc ≤ 8 := by have := HNC.out; have := HCN.out; omega
    have HBD : Hid (Below W3.heap.size W3 w5) := Lib.hid (HBC.out.trans (HB5.out.mono HBC.out.size))
    go_loopw [35] (fun kv wr => ∃ i : Nat, i ≤ nc ∧ kv = .int .i64 (i : Nat) ∧ Hid (Below w5.heap.size w5 wr)) (fun kv _ => nc - (intOf kv).toNat)
    case atStart => exact ⟨0, by omega, rfl, Lib.hid (Below.refl _ _)⟩
    case round =>
      obtain ⟨i, hi, rfl, hB⟩ := hrel
      have hd := HBD.out.trans (hB.out.mono HBD.out.size)
      obtain ⟨k0, k1, k2, k3, k4, k5⟩ := HD.out _ hd
      by_cases hin : i = nc
      · have HS := Lib.hid (sameInts_yes (HW.out.below (HB5.out.trans (hB.out.mono HB5.out.size))) (HF.out.below hB.out))
        have HRr := Lib.hid (HR3.out.below hd)
        have HUr := Lib.hid (HU.out.below (HUP.out _ (HB3.out.trans (hd.mono HB3.out.size))))
        have HDr := Lib.hid (HD3.out.below hd)
        have HBr := Lib.hid (HUP.out _ (HB3.out.trans (hd.mono HB3.out.size)))
        have HG6r : Hid (W.heap.size ≤ g6 ∧ g6 < wr.heap.size) := Lib.hid ⟨by
          have := (HUP.out _ (Below.refl _ _)).size
          have := HG6.out
          omega, Nat.lt_of_lt_of_le HG6L.out hd.size⟩
        subst hin
        clear hd HCH HCI HNX
        go_upto_region 12 with (go_at_call 12; (with_reducible refine HS.out.mono ?_); rintro e w6 ⟨rfl, hb⟩; have HR6 := Lib.hid (HRr.out.below hb); have HU6 := Lib.hid (HUr.out.below hb); have HD6 := Lib.hid (HDr.out.below hb); have HB6 := Lib.hid (HBr.out.trans (hb.mono HBr.out.size)); have HG66 := Lib.hid (And.intro HG6r.out.1 (Nat.lt_of_lt_of_le HG6r.out.2 hb.size)); clear hb k0 k1 k2 k3 k4 k5)
        clear HRr HUr HDr HBr HG6r HS
        have hst := stays_store HD6.out HR6.out HRB.out HB6.out HG66.out.1
        obtain ⟨-, -, -, k3, -, -⟩ := HD6.out.cells
        have f3 := frozen_of_row _ _ 3 _ _ HD6.out
        have HST := Lib.hid hst
        clear hst
        go_upto_region 13 with fail
        change Code.wp _ _ _ _ (w6.setCell ⟨g6, 3, none⟩ (.int .i64 0))
        revert HST
        generalize w6.setCell ⟨g6, 3, none⟩ (.int .i64 0) = V
        intro HST
        have HCV := Lib.hid (fun W' (h : Below V.heap.size V W') vn (nn : Nat) (cn2 : Nat) now (hx : Ix W' (.slice vn nn cn2) now) (hnow : now = [] ∨ now = r) => stays_choices HST.out.2.1 h hx hnow HMK.out)
        have HNV := Lib.hid (fun W' (h : Below V.heap.size V W') vn (nn : Nat) (cn2 : Nat) now (hx : Ix W' (.slice vn nn cn2) now) (hnow : now = [] ∨ now = r) x y z (hc : (x, y, z) ∈ cho r r r.length) => stays_next HST.out.2.1 h hx hnow HMK.out x y z hc)
        have HTO := Lib.hid (fun W' v (hx : Ix W' v r) => total_any hx (by have := HL8.out; omega) (in20 HMK.out.in8))
        have HDV := Lib.hid (fun W' (h : Below V.heap.size V W') => (HST.out.1.below h).cells)
        have HRV := Lib.hid (fun W' (h : Below V.heap.size V W') => HST.out.2.1.below h)
        have HBV := Lib.hid (Below.refl V.heap.size V)
        obtain ⟨k0, k1, k2, k3, k4, k5⟩ := HDV.out _ HBV.out
        obtain ⟨m2, m4⟩ := cho_two HMK.out
        have HCF := Lib.hid (fun (W' : World) (v : Value) (B n : Nat) (h : OwC W' B v n (cho r r r.length)) => stays_cx h HMK.out)
        obtain ⟨M, hM⟩ : ∃ M, M = (cho r r r.length).length := ⟨_, rfl⟩
        rw [← hM] at m2 m4
        have HM := Lib.hid hM
        clear hM
        go_wp2_with (go_at_call 17; (with_reducible refine (HCV.out _ HBV.out _ _ _ _ (Ix.nil V) (.inl rfl)).mono ?_); rintro e w7 ⟨ag, ng, cg, rfl, ho, hb⟩; have HG := Lib.hid (HCF.out _ _ _ _ ho); have HNG := Lib.hid ((owC_len ho).trans HM.out.symm); have HB7 := Lib.hid hb; clear ho hb k0 k1 k2 k3 k4 k5)
        have hng := HNG.out
        subst hng
        have hm0 : ¬ (ng : Int) ≤ 0 := by omega
        go_loopw [14, 15, 16, 17] (fun nv kv _ _ wr => ∃ (k : Nat) (an2 : Option Addr) (nn cn2 : Nat) (now : List Int), k ≤ nu ∧ k ≤ 10 ∧ kv = .int .i64 (k : Nat) ∧ nv = .slice an2 nn cn2 ∧ Hid (Ix wr (.slice an2 nn cn2) now) ∧ Hid (now = [] ∨ now = r) ∧ Hid (Below w7.heap.size w7 wr)) (fun _ kv _ _ _ => nu - (intOf kv).toNat)
        case atStart => exact ⟨0, none, 0, 0, [], by omega, by omega, rfl, rfl, Lib.hid (Ix.nil _), Lib.hid (.inl rfl), Lib.hid (Below.refl _ _)⟩
        case round =>
          obtain ⟨k, an2, nn, cn2, now, hk, hk10, rfl, rfl, hX, hN, hBB⟩ := hrel
          have hv := HB7.out.trans (hBB.out.mono HB7.out.size)
          have HV := Lib.hid hv
          by_cases hkn : k = nu ∨ k = 10
          · have HE := Lib.hid (HST.out.2.2.trans (hv.mono HST.out.2.2.size))
            have hge : (2 : Int) ≤ (ng : Int) := by omega
            clear hv
            rcases Nat.lt_or_ge k nu with h1 | h1
            · have hkt : ¬ (k : Int) < 10 := by omega
              have hki : (k : Int) < (nu : Int) := by omega
              go_wp2
              go_ret
              exact ⟨by first | rfl | (simp [hge]; done), HE.out⟩
            · have hki : ¬ (k : Int) < (nu : Int) := by omega
              go_wp2
              go_ret
              exact ⟨by first | rfl | (simp [hge]; done), HE.out⟩
          · have hki : (k : Int) < (nu : Int) := by omega
            have hkt : (k : Int) < 10 := by omega
            obtain ⟨bu, ofu, rfl, hcapu, hblu, hclu⟩ := HU.out.at (by omega)
            have cu0 := cell_later (HST.out.2.2.trans (hv.mono HST.out.2.2.size)) (hclu k (by omega))
            have hxb := HU.out.fit k
            obtain ⟨u, huu⟩ : ∃ u, u = lu.getD k 0 := ⟨_, rfl⟩
            rw [← huu] at cu0 hxb
            obtain ⟨t, ht, htm⟩ : ∃ t : Nat, u.tmod (ng : Int) = (t : Int) ∧ t < ng := ⟨(u % (ng : Int)).toNat, by
              rw [Int.tmod_eq_emod_of_nonneg hxb.1]
              have := Int.emod_nonneg u (show (ng : Int) ≠ 0 by omega)
              omega, by
              have := Int.emod_nonneg u (show (ng : Int) ≠ 0 by omega)
              have := Int.emod_lt_of_pos u (show (0 : Int) < ng by omega)
              omega⟩
            obtain ⟨bg, ofg, rfl, hcapg, hblg, hclg⟩ := HG.out.at (by omega)
            obtain ⟨d0, d1, d2⟩ := hclg t htm
            have hmem := getD_mem (l := cho r r r.length) (k := t) (by rw [← HM.out]; exact htm)
            revert d0 d1 d2 hmem
            generalize (cho r r r.length).getD t (0, 0, 0) = q
            obtain ⟨x, y, z⟩ := q
            intro d0 d1 d2 hmem
            simp only at d0 d1 d2
            have HNX2 := Lib.hid (fun W' (h : Below V.heap.size V W') vn (nn : Nat) (cn2 : Nat) now (hx : Ix W' (.slice vn nn cn2) now) (hnow : now = [] ∨ now = r) => HNV.out W' h vn nn cn2 now hx hnow x y z hmem)
            have HKS := Lib.hid (fun W' (h : Below wr.heap.size wr W') => And.intro (HDV.out W' (hv.trans (h.mono hv.size))) (And.intro (cell_later (hBB.out.trans (h.mono hBB.out.size)) d0) (And.intro (cell_later (hBB.out.trans (h.mono hBB.out.size)) d1) (And.intro (cell_later (hBB.out.trans (h.mono hBB.out.size)) d2) (cell_later h cu0)))))
            have hrw := Below.refl wr.heap.size wr
            have HRW2 := Lib.hid hrw
            obtain ⟨⟨k0, k1, k2, k3, k4, k5⟩, d0, d1, d2, cu0⟩ := HKS.out _ hrw
            have ht0 : (0 : Int) ≤ (t : Int) := by omega
            have htn : (t : Int) < (ng : Int) := by omega
            have hwu : IntKind.i64.wrap u = u := IntWalk.i64_in _ (by omega)
            have hwt : IntKind.i64.wrap (t : Int) = (t : Int) := IntWalk.i64_in _ (by omega)
            have hng0 : ¬ (ng : Int) = 0 := by omega
            have hng1 : ((ng : Int) == 0) = false := by simp; omega
            have hng2 : decide ((ng : Int) = 0) = false := decide_eq_false hng0
            have hng3 : ¬ ng = 0 := by omega
            have hgt : (0 : Int) < (ng : Int) := by omega
            have hk0 : (0 : Int) ≤ (k : Int) := by omega
            clear hmem hclg hclu huu hv hrw
            go_upto_region 18 with fail
            go_region_held3 (fun W' => (W'.cell? ⟨g6, 0, none⟩ = some (.int .i64 3) ∧ W'.cell? ⟨g6, 1, none⟩ = some (.slice ar nr cr) ∧ W'.cell? ⟨g6, 2, none⟩ = some (.slice none 0 0) ∧ W'.cell? ⟨g6, 3, none⟩ = some (.int .i64 0) ∧ W'.cell? ⟨g6, 4, none⟩ = some (.int .i64 0) ∧ W'.cell? ⟨g6, 5, none⟩ = some (.int .i64 0)) ∧ W'.cell? ⟨bg, ofg + t * 3, none⟩ = some (.int .i64 x) ∧ W'.cell? ⟨bg, ofg + t * 3 + 1, none⟩ = some (.int .i64 y) ∧ W'.cell? ⟨bg, ofg + t * 3 + 2, none⟩ = some (.int .i64 z) ∧ W'.cell? ⟨bu, ofu + k, none⟩ = some (.int .u8 u))
              (first | (with_reducible exact HKS.out _ HB8.out) | (with_reducible exact HKS.out _ HRW2.out) | (with_reducible exact HKS.out _ HRW2.out.drew) | (exact HKS.out _ HRW2.out.drew))
              ((go_at_call 18; (refine (HNX2.out _ (HV.out.trans (HRW2.out.drew.mono HV.out.size)) _ _ _ _ (hX.out.below HRW2.out.drew) hN.out).mono ?_); rintro e w8 ⟨a8, n8, c8, rfl, ho, hb⟩; have HX8 := Lib.hid (stays_ix ho HMK.out); have HB8 := Lib.hid (HRW2.out.drew.trans (hb.mono HRW2.out.drew.size)); clear ho hb))
            clear k0 k1 k2 k3 k4 k5 d0 d1 d2 cu0
            obtain ⟨⟨k0, k1, k2, k3, k4, k5⟩, d0, d1, d2, cu0⟩ := HKS.out _ HB8.out
            have HV8 := Lib.hid (HV.out.trans (HB8.out.mono HV.out.size))
            have HR8 := Lib.hid (HRV.out _ HV8.out)
            have HG8 := Lib.hid (HG.out.below (hBB.out.trans (HB8.out.mono hBB.out.size)))
            go_upto_region 19 with fail
            obtain ⟨R, hRR⟩ : ∃ R, R = r.sum := ⟨_, rfl⟩
            rw [← hRR] at HTO
            have hRe : (R != R) = false := by simp
            clear hRR
            go_region_held3 (fun W' => W'.cell? ⟨g6, 0, none⟩ = some (.int .i64 3) ∧ W'.cell? ⟨g6, 1, none⟩ = some (.slice ar nr cr) ∧ W'.cell? ⟨g6, 2, none⟩ = some (.slice none 0 0) ∧ W'.cell? ⟨g6, 3, none⟩ = some (.int .i64 0) ∧ W'.cell? ⟨g6, 4, none⟩ = some (.int .i64 0) ∧ W'.cell? ⟨g6, 5, none⟩ = some (.int .i64 0))
              (first | (with_reducible exact (HKS.out _ HB10.out).1) | (with_reducible exact (HKS.out _ HB9.out).1) | (with_reducible exact (HKS.out _ HB8.out).1) | (with_reducible exact (HKS.out _ HB8.out.drew).1) | (exact (HKS.out _ HB8.out.drew).1))
              ((first
              | (go_at_call 21; (with_reducible refine (HTO.out _ _ (HX8.out.below (Below.refl _ _).drew)).mono ?_); rintro e w ⟨rfl, rfl⟩)
              | (go_at_call 21; (with_reducible refine (HTO.out _ _ (HR8.out.below (Below.refl _ _).drew)).mono ?_); rintro e w ⟨rfl, rfl⟩)
              | (go_at_call 17; (with_reducible refine (HCV.out _ HV8.out.drew _ _ _ _ (HX8.out.below (Below.refl _ _).drew) (.inr rfl)).mono ?_); rintro e w9 ⟨a9, n9, c9, rfl, ho, hb⟩; have HX9 := Lib.hid (HCF.out _ _ _ _ ho); have HG9 := Lib.hid (HG8.out.below ((Below.refl _ _).drew.trans hb)); have HX89 := Lib.hid (HX8.out.below ((Below.refl _ _).drew.trans hb)); have HB9 := Lib.hid (HB8.out.drew.trans (hb.mono HB8.out.drew.size)); clear ho hb)
              | (go_at_call 16; (with_reducible refine (same_yes HX9.out HG9.out).mono ?_); rintro e w10 ⟨rfl, hb⟩; have HX10 := Lib.hid (HX89.out.below hb); have HB10 := Lib.hid (HB9.out.trans (hb.mono HB9.out.size)); clear hb)))
            have HBE := Lib.hid (hBB.out.trans (HB10.out.mono hBB.out.size))
            clear k0 k1 k2 k3 k4 k5 d0 d1 d2 cu0
            go_wp2
            go_roundw
            case rel => exact ⟨k + 1, a8, n8, c8, r, by omega, by omega, by go_num, rfl, HX10, Lib.hid (.inr rfl), HBE⟩
            case measure => simp [intOf]; omega
      · have hlt : i < nc := by omega
        obtain ⟨bc, ofc, rfl, hcapc, hblc, hclc⟩ := HC.out.at (by omega)
        obtain ⟨d0, d1, d2⟩ := hclc i hlt
        have d0 := cell_later hB.out d0
        have d1 := cell_later hB.out d1
        have d2 := cell_later hB.out d2
        have hg5 : g6 < wr.heap.size := Nat.lt_of_lt_of_le HG6L.out hd.size
        have hbcx := HB5.out.trans (hB.out.mono HB5.out.size)
        have hbs := hB.out.size
        revert d0 d1 d2
        generalize (chV r a row).getD i (0, 0, 0) = q
        obtain ⟨x, y, z⟩ := q
        intro d0 d1 d2
        simp only at d0 d1 d2
        have HBX5 : Hid (Below wc.heap.size wc (cbox wr (x, y, z))) := Lib.hid (hbcx.trans ((cbox_below wr (x, y, z)).mono hbcx.size))
        clear hclc hbcx hd
        go_wp2_with (go_at_call 18; (refine (HNX.out _ HBX5.out x y z).mono ?_); rintro e w6 ⟨aa, na, ca, rfl, ho, hb⟩; have HB6 := Lib.hid ((hB.out.trans ((cbox_below wr (x, y, z)).mono hbs)).trans (hb.mono (Nat.le_trans hbs (cbox_below wr (x, y, z)).size))); clear ho hb k0 k1 k2 k3 k4 k5)
        go_roundw
        case rel => exact ⟨i + 1, by omega, by go_num, HB6⟩
        case measure => simp [intOf]; omega

end Go.Proofs.Ytmpopbkhmkkhgaa
