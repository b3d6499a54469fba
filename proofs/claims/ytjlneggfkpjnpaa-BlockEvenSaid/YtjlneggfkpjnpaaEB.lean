/- The law BlockEven, walked. Condition: the arguments fit their types. -/
import Derived.Test.YtjlneggfkpjnpaaE1
import Derived.Test.YtjlneggfkpjnpaaN
import Derived.BigQuiet
namespace Go.Proofs.Ytjlneggfkpjnpaa
open Go.RowKit

/-- The box of the bytes. -/
abbrev eW (W : World) (va vb : Value) : World := W.alloc (.cells #[va, vb] 24)
theorem e_box {W W' : World} {va vb : Value} (h : Below (eW W va vb).heap.size (eW W va vb) W') : W'.cell? ⟨W.heap.size, 0, none⟩ = some va ∧ W'.cell? ⟨W.heap.size, 1, none⟩ = some vb := by
  have h1 : W'.heap[W.heap.size]? = some (.cells #[va, vb] 24 (0, 0)) := (h.block W.heap.size (by simp)).trans (heap_alloc_new _ _)
  exact ⟨cell_of_row _ _ _ _ _ _ h1, cell_of_row _ _ _ _ _ _ h1⟩
theorem e_up (W : World) (va vb : Value) : Below W.heap.size W (eW W va vb) := (Below.refl _ W).alloc (Nat.le_refl _) _

/-- The greatest of the first sizes. -/
def gmV (s : List Int) : Nat → Int
  | 0 => 0
  | k + 1 => max (gmV s k) (s.getD k 0)
theorem gmV_ge (s : List Int) : ∀ k, 0 ≤ gmV s k ∧ ∀ j, j < k → s.getD j 0 ≤ gmV s k
  | 0 => ⟨by simp [gmV], fun j h => by omega⟩
  | k + 1 => by
    obtain ⟨h1, h2⟩ := gmV_ge s k
    rw [gmV]
    refine ⟨by omega, fun j hj => ?_⟩
    by_cases h : j = k
    · rw [h]; omega
    · have := h2 j (by omega); omega
theorem gmV_le {s : List Int} (h : inB 1 4 s = true) : ∀ k, k ≤ s.length → gmV s k ≤ 4
  | 0, _ => by simp [gmV]
  | k + 1, hk => by
    have := gmV_le h k (by omega)
    have := (inB_iff.1 h) k (by omega)
    rw [gmV]; omega

set_option maxRecDepth 100000 in
set_option maxHeartbeats 8000000 in
theorem blockEven_any {W : World} {va vb vl : Value} {la lb l : List Int} (ha : Ux W va la) (hb : Ux W vb lb) (hl : Hx W vl l) :
    Calls Try.prog 5 #[.agg #[va, vb], vl] W fun e w' => e = .returned (.bool true) ∧ Below W.heap.size W w' := by
  have HSA := Lib.hid (fun W' => sanity_any W')
  obtain ⟨P0, hP0⟩ : ∃ P0, P0 = eW W va vb := ⟨_, rfl⟩
  have HB : Hid (Below P0.heap.size P0 (eW W va vb)) := Lib.hid (by rw [hP0]; exact Below.refl _ _)
  have HBX := Lib.hid (fun W' (h : Below P0.heap.size P0 W') => e_box (W' := W') (W := W) (va := va) (vb := vb) (by rw [← hP0]; exact h))
  have hup : Below W.heap.size W P0 := by rw [hP0]; exact e_up W va vb
  have HUP := Lib.hid (fun W' (h : Below P0.heap.size P0 W') => hup.trans (h.mono hup.size))
  have HMA := Lib.hid (fun W' (h : Below P0.heap.size P0 W') => made_ix (ha.below (HUP.out _ h)) (hb.below (HUP.out _ h)))
  have HLX := Lib.hid (fun W' (h : Below P0.heap.size P0 W') => hl.below (HUP.out _ h))
  have HFIT := Lib.hid (fun k => (hl.fit k).1)
  clear ha hb hl hup hP0
  go_enter Try.func5, Try.ntmps5
  go_upto_region 3 with (first
    | (go_at_call 8; (with_reducible refine (HSA.out _).mono ?_); rintro e w1 ⟨rfl, hb⟩; have HB := Lib.hid (HB.out.trans (hb.mono HB.out.size)); obtain ⟨b0, b1⟩ := HBX.out _ HB.out; clear hb)
    | (go_at_call 9; (with_reducible refine (HMA.out _ HB.out).mono ?_); rintro e w2 ⟨ar, nr, cr, az, ns, cs, rfl, hr, hs, hb⟩; have HR := Lib.hid hr; have HS := Lib.hid hs; have HB2 := Lib.hid (HB.out.trans (hb.mono HB.out.size)); clear hb hr hs))
  change Code.wp _ _ _ _ (dbox w2 (.slice ar nr cr) (.slice az ns cs))
  have hD := dbox_is w2 (.slice ar nr cr) (.slice az ns cs)
  have hR := HR.out.below (dbox_below w2 (.slice ar nr cr) (.slice az ns cs))
  have hS := HS.out.below (dbox_below w2 (.slice ar nr cr) (.slice az ns cs))
  have hB3 := HB2.out.trans ((dbox_below w2 (.slice ar nr cr) (.slice az ns cs)).mono HB2.out.size)
  generalize dbox w2 (.slice ar nr cr) (.slice az ns cs) = W3 at hD hR hS hB3 ⊢
  generalize w2.heap.size = g6 at hD ⊢
  have hnr : nr ≤ 5 := by have := hR.size; have := ratV_len la; omega
  have hlr : (ratV la 4).length ≤ 8 := by have := ratV_len la; omega
  have hls : (sizD lb).length ≤ 8 := by have := sizD_len lb; omega
  have hnr2 := hR.size
  have HWK := Lib.hid (walk_ix hR hS hlr hls (has_made la lb) (HLX.out _ hB3))
  have HF := Lib.hid (fun k => w_facts (has_made la lb) HFIT.out k)
  have HEV := Lib.hid (fun g hg hg0 k x y hx hy => even_le (has_made la lb) HFIT.out g hg hg0 k (x := x) (y := y) hx hy)
  have HUI := Lib.hid (fun g hg hg0 k => used_inv (has_made la lb) HFIT.out g hg hg0 k)
  have hsl := hS.size
  have hri := ratV_in la
  have hsi := sizD_in lb
  obtain ⟨k0, k1, k2, k3, k4, k5⟩ := hD.cells
  have HD := Lib.hid hD
  have HR3 := Lib.hid hR
  have HB3 := Lib.hid hB3
  have HS3 := Lib.hid hS
  have HRI := Lib.hid hri
  have HSI2 := Lib.hid hsi
  have hs3 : (sizD lb).length ≤ 3 := (sizD_len lb).2
  revert HWK HF HEV HUI HR3 HS3 hlr hls hnr2 hsl HRI HSI2 hs3
  generalize ratV la 4 = r
  generalize sizD lb = s
  intro hlr hls hnr2 HWK HF HEV HUI hsl HR3 HS3 HRI HSI2 hs3
  have HNR := Lib.hid hnr2
  have HNS := Lib.hid hsl
  clear hri hsi
  clear hD hR hS hB3 HB2 HR HS HB HSA HMA HLX HFIT hnr2 hsl
  go_upto_region 8 with ((go_at_call 21; (with_reducible refine HWK.out.mono ?_); rintro e w4 ⟨aT, cT, aR, cR, m, rfl, hm, hT, -, hb⟩; have HT := Lib.hid hT; have HB4 := Lib.hid hb; clear hT hb; clear k0 k1 k2 k3 k4 k5; obtain ⟨k0, k1, k2, k3, k4, k5⟩ := (HD.out.below HB4.out).cells))
  have HB5 := Lib.hid (HB3.out.trans (HB4.out.mono HB3.out.size))
  have HD5 := Lib.hid (HD.out.below HB4.out)
  have HR5 := Lib.hid (HR3.out.below HB4.out)
  have HS5 := Lib.hid (HS3.out.below HB4.out)
  have HTL := Lib.hid (takeC_len r s l m)
  have hns8 : ns ≤ 8 := by have := HNS.out; omega
  go_loop [10, 33] (fun gv kv => ∃ i : Nat, i ≤ ns ∧ kv = .int .i64 (i : Nat) ∧ gv = .int .i64 (gmV s i)) (fun _ kv => ns - (intOf kv).toNat)
  case atStart => exact ⟨0, by omega, rfl, rfl⟩
  case round =>
    obtain ⟨i, hi, rfl, rfl⟩ := hrel
    by_cases hin : i = ns
    · subst hin
      have hgm := gmV_ge s i
      have hg4 := gmV_le HSI2.out i (by rw [← HNS.out]; exact Nat.le_refl _)
      have HG := Lib.hid (show ∀ j, j < s.length → s.getD j 0 ≤ gmV s i from fun j hj => hgm.2 j (by rw [HNS.out]; exact hj))
      have hg0 := hgm.1
      revert HG hg0 hg4
      generalize gmV s i = G
      intro hg4 HG hg0
      clear hgm
      have hmk := make_run nr (by omega) w4
      have hown := made_own nr (by omega) w4
      have hbl : Below w4.heap.size w4 _ := (Below.refl _ _).alloc (Nat.le_refl _) (.cells (ints (List.replicate nr 0)).toArray 3)
      have e0 : List.replicate nr (0 : Int) = usedV r s l r.length 0 := by rw [usedV, HNR.out]
      obtain ⟨W5, hW5⟩ : ∃ W5, W5 = w4.alloc (.cells (ints (List.replicate nr 0)).toArray 3) := ⟨_, rfl⟩
      rw [← hW5] at hmk hown hbl
      rw [e0] at hown
      have HO5 := Lib.hid hown
      have HB6 := Lib.hid hbl
      clear hown hbl e0 hW5
      go_upto_region 14 with fail
      clear k0 k1 k2 k3 k4 k5
      have HB7 := Lib.hid (HB5.out.trans (HB6.out.mono HB5.out.size))
      have HD6 := Lib.hid (HD5.out.below HB6.out)
      have HR6 := Lib.hid (HR5.out.below HB6.out)
      have HT6 := Lib.hid (HT.out.below HB6.out)
      have HUI2 := Lib.hid (fun k => HUI.out G HG.out hg0 k)
      have HEV2 := Lib.hid (fun k x y (hx : x < nr) (hy : y < nr) => HEV.out G HG.out hg0 k x y (by rw [← HNR.out]; exact hx) (by rw [← HNR.out]; exact hy))
      rw [← HNR.out] at HUI2 HEV2 HO5
      clear HUI HEV
      revert HO5
      generalize hgu : w4.heap.size = gU at *
      intro HO5
      have HGU := Lib.hid hgu
      clear hgu
      go_loopw [47] (fun kv wr => ∃ k : Nat, k ≤ m ∧ kv = .int .i64 (k : Nat) ∧ Hid (OwI wr gU (.slice (some ⟨gU, 0, none⟩) nr nr) nr (usedV r s l nr k)) ∧ Hid (Below gU w4 wr)) (fun kv _ => m - (intOf kv).toNat)
      case atStart => exact ⟨0, by omega, rfl, HO5, HB6⟩
      case round =>
        obtain ⟨k, hk, rfl, hO, hB⟩ := hrel
        have hB4 : Below w4.heap.size w4 wr := by rw [HGU.out]; exact hB.out
        have hBw := HB5.out.trans (hB4.mono HB5.out.size)
        by_cases hkm : k = m
        · subst hkm
          go_wp2
          go_ret
          exact ⟨rfl, HUP.out _ hBw⟩
        · have hlt : k < m := by omega
          obtain ⟨-, ⟨a, ha, hz, -⟩, -, -, -⟩ := HF.out k
          obtain ⟨bT, oT, rfl, hcapT, hbT, hclT⟩ := HT.out.at (by omega)
          obtain ⟨f0, f1, f2⟩ := hclT k hlt
          rw [takeC_get hlt] at f0 f1 f2
          have f0 := cell_later hB4 f0
          have f1 := cell_later hB4 f1
          have f2 := cell_later hB4 f2
          have husd : usedV r s l nr (k + 1) = (usedV r s l nr k).set (wCh r s l k).2.2.toNat ((usedV r s l nr k).getD (wCh r s l k).2.2.toNat 0 + 1) := rfl
          have hanr : a < nr := by have := HNR.out; omega
          obtain ⟨Q0, z0, -, -, hbnd⟩ := HUI2.out k
          have hbda := (hbnd a hanr).2.2.2
          have hulen := usedV_len r s l nr k
          rw [hz, Int.toNat_natCast] at husd
          revert hz f0 f1 f2
          generalize wCh r s l k = c
          obtain ⟨cx, cy, cz⟩ := c
          intro hz f0 f1 f2
          simp only at hz f0 f1 f2
          subst hz
          obtain ⟨g, cap, e, -, hg, hgl, hgc, hfr, hset⟩ := OwI.parts hO.out (by omega)
          have eg : gU = g := by injection e with e; injection e with e; injection e
          subst eg
          clear e
          have hca := cell_later (cbox_below wr (cx, cy, (a : Int))) (hgc a hanr)
          have hst : OwI ((cbox wr (cx, cy, (a : Int))).setCell ⟨gU, a, none⟩ (.int .i64 ((usedV r s l nr k).getD a 0 + 1))) gU (.slice (some ⟨gU, 0, none⟩) nr nr) nr (usedV r s l nr (k + 1)) := by
            rw [husd]
            obtain ⟨g', cap', e', -, -, -, -, -, hset'⟩ := OwI.parts (owns_later hO.out (cbox_below wr (cx, cy, (a : Int)))) (by omega)
            have eg : gU = g' := by injection e' with e'; injection e' with e'; injection e'
            subst eg
            exact hset' a _ hanr
          have hfa : (cbox wr (cx, cy, (a : Int))).frozen? ⟨gU, a, none⟩ = false := by
            have h1 := owns_later hO.out (cbox_below wr (cx, cy, (a : Int)))
            obtain ⟨g', cap', e', -, -, -, -, hfr', -⟩ := OwI.parts h1 (by omega)
            have eg : gU = g' := by injection e' with e'; injection e' with e'; injection e'
            subst eg
            exact hfr' a
          have hb8 := ((hB.out.trans ((cbox_below wr (cx, cy, (a : Int))).mono (Nat.le_trans (by rw [HGU.out]; exact Nat.le_refl _) hB4.size))).setCell (p := ⟨gU, a, none⟩) (Nat.le_refl _) (.int .i64 ((usedV r s l nr k).getD a 0 + 1)))
          have hub : Hid (∀ j, j < nr → 0 ≤ (usedV r s l nr (k + 1)).getD j 0 ∧ (usedV r s l nr (k + 1)).getD j 0 ≤ 401) := Lib.hid fun j hj => by
            obtain ⟨Q1, z1, -, -, hb1⟩ := HUI2.out (k + 1)
            have := (hb1 j hj).2.2.2
            omega
          have HEV3 := Lib.hid (fun x y hx hy => HEV2.out (k + 1) x y hx hy)
          have hbT2 : bT < wr.heap.size := Nat.lt_of_lt_of_le hbT hB4.size
          revert hca hst hb8 hbda hub HEV3
          clear husd hset hgc hfr hbnd hulen hgl
          generalize hU : usedV r s l nr (k + 1) = U
          generalize (usedV r s l nr k).getD a 0 = q
          intro hbda hca hst hb8 hub HEV3
          have HUE := Lib.hid hU
          clear hU
          have HST := Lib.hid hst
          have HB8 := Lib.hid hb8
          clear hst hb8
          obtain ⟨k0, k1, k2, k3, k4, k5⟩ := (HD5.out.below hB4).cells
          have hq1 : 0 ≤ q := hbda.1
          have hq2 : q ≤ 400 := by omega
          clear hbda
          go_upto_region 20 with fail
          change Code.wp _ _ _ _ ((cbox wr (cx, cy, (a : Int))).setCell ⟨gU, a, none⟩ (.int .i64 (q + 1)))
          clear k0 k1 k2 k3 k4 k5 hca hfa f0 f1 f2
          revert HST HB8
          generalize (cbox wr (cx, cy, (a : Int))).setCell ⟨gU, a, none⟩ (.int .i64 (q + 1)) = W7
          generalize wr.heap.size = g15
          intro HST HB8
          have hB7 : Below w4.heap.size w4 W7 := by rw [HGU.out]; exact HB8.out
          have HD7 := Lib.hid (HD5.out.below hB7)
          have HR7 := Lib.hid (HR5.out.below hB7)
          have HGW : Hid (gU ≤ W7.heap.size) := Lib.hid (by have h9 := hB7.size; rw [HGU.out] at h9; exact h9)
          clear hB7 hB4 hBw
          go_loopw [70] (fun kv wr => ∃ x : Nat, x ≤ nr ∧ kv = .int .i64 (x : Nat) ∧ Hid (Below W7.heap.size W7 wr)) (fun kv _ => nr - (intOf kv).toNat)
          case atStart => exact ⟨0, by omega, rfl, Lib.hid (Below.refl _ _)⟩
          case round =>
            obtain ⟨x, hx, rfl, hBx⟩ := hrel
            by_cases hxn : x = nr
            · have hxn2 : ¬ x < nr := by omega
              clear hxn
              go_wp2
              go_roundw
              case rel => exact ⟨k + 1, by omega, by go_num, Lib.hid (by rw [HUE.out]; exact owns_later HST.out hBx.out), Lib.hid (HB8.out.trans (hBx.out.mono HGW.out))⟩
              case measure => simp [intOf]; omega
            · have hxlt : x < nr := by omega
              have hxlt2 : (x : Int) < (nr : Int) := by omega
              go_upto_region 23 with fail
              go_loopw [75] (fun kv wr => ∃ y : Nat, y ≤ nr ∧ kv = .int .i64 (y : Nat) ∧ Hid (Below W7.heap.size W7 wr)) (fun kv _ => nr - (intOf kv).toNat)
              case atStart => exact ⟨0, by omega, rfl, hBx⟩
              case round =>
                obtain ⟨y, hy, rfl, hBy⟩ := hrel
                by_cases hyn : y = nr
                · have hyn2 : ¬ y < nr := by omega
                  clear hyn
                  go_wp2
                  go_roundw
                  case rel => exact ⟨x + 1, by omega, by go_num, hBy⟩
                  case measure => simp [intOf]; omega
                · have hylt : y < nr := by omega
                  have hylt2 : (y : Int) < (nr : Int) := by omega
                  obtain ⟨k0, k1, k2, k3, k4, k5⟩ := (HD7.out.below hBy.out).cells
                  obtain ⟨br, ofr, rfl, hqr, hcapr, hblr, hclr⟩ := HR7.out.at (by omega)
                  have hrx := cell_later hBy.out (hclr x hxlt)
                  have hry := cell_later hBy.out (hclr y hylt)
                  obtain ⟨gg, capp, ee, -, -, -, hgc2, -, -⟩ := OwI.parts HST.out (by omega)
                  have eg : gU = gg := by injection ee with ee; injection ee with ee; injection ee
                  subst eg
                  have hux := cell_later hBy.out (hgc2 x hxlt)
                  have huy := cell_later hBy.out (hgc2 y hylt)
                  have hbx := hub.out x hxlt
                  have hby := hub.out y hylt
                  have hrx8 := (inB_iff.1 HRI.out) x (by rw [← HNR.out]; exact hxlt)
                  have hry8 := (inB_iff.1 HRI.out) y (by rw [← HNR.out]; exact hylt)
                  have hev := HEV3.out x y hxlt hylt
                  have HBY := Lib.hid hBy.out
                  clear ee hgc2 hclr hqr
                  revert hrx hry hux huy hbx hby hrx8 hry8 hev
                  generalize r.getD x 0 = X
                  generalize r.getD y 0 = Y
                  generalize U.getD x 0 = A
                  generalize U.getD y 0 = B
                  intro hrx hry hux huy hbx hby hrx8 hry8 hev
                  have m1 : 0 ≤ A * Y := Int.mul_nonneg hbx.1 hry8.1
                  have m2 : A * Y ≤ 401 * 8 := Int.le_trans (Int.mul_le_mul_of_nonneg_right hbx.2 hry8.1) (by omega)
                  have m3 : 0 ≤ B * X := Int.mul_nonneg hby.1 hrx8.1
                  have m4 : B * X ≤ 401 * 8 := Int.le_trans (Int.mul_le_mul_of_nonneg_right hby.2 hrx8.1) (by omega)
                  have m5 : 0 ≤ G * X := Int.mul_nonneg hg0 hrx8.1
                  have m6 : G * X ≤ 4 * 8 := Int.le_trans (Int.mul_le_mul_of_nonneg_right hg4 hrx8.1) (by omega)
                  have m7 : 0 ≤ G * X * Y := Int.mul_nonneg m5 hry8.1
                  have m8 : G * X * Y ≤ 4 * 8 * 8 := Int.le_trans (Int.mul_le_mul_of_nonneg_right m6 hry8.1) (by omega)
                  have w1 : IntKind.i64.wrap (A * Y) = A * Y := IntWalk.i64_in _ (by omega)
                  have w2' : IntKind.i64.wrap (B * X) = B * X := IntWalk.i64_in _ (by omega)
                  have w3 : IntKind.i64.wrap (A * Y - B * X) = A * Y - B * X := IntWalk.i64_in _ (by omega)
                  have w5 : IntKind.i64.wrap (G * X) = G * X := IntWalk.i64_in _ (by omega)
                  have w6 : IntKind.i64.wrap (G * X * Y) = G * X * Y := IntWalk.i64_in _ (by omega)
                  have hnl : ¬ G * X * Y < A * Y - B * X := by omega
                  clear m1 m2 m3 m4 m5 m6 m7 m8 hev hbx hby hrx8 hry8 hBy
                  go_upto_region 25 with fail
                  go_quiet (fail)
                  go_wp2
                  exact ⟨⟨y + 1, by omega, by go_num, Lib.hid (HBY.out.trans ⟨rfl, rfl, rfl, Nat.le_refl _, fun _ _ => rfl⟩)⟩, by simp [intOf]; omega⟩
    · have hlt : i < ns := by omega
      obtain ⟨b, off, rfl, hq, hcap, hbl, hcl⟩ := HS5.out.at (by omega)
      have hc := hcl i hlt
      obtain ⟨x, hx⟩ : ∃ x, x = s.getD i 0 := ⟨_, rfl⟩
      have hg1 : gmV s (i + 1) = max (gmV s i) x := by rw [hx]; rfl
      have HG1 := Lib.hid hg1
      rw [← hx] at hc
      revert HG1
      generalize gmV s i = G0
      intro HG1
      clear hx hq hcl hg1
      go_wp2
      go_round
      case rel => exact ⟨i + 1, by omega, by go_num, by rw [HG1.out]; congr 1; split <;> omega⟩
      case measure => simp [intOf]; omega

end Go.Proofs.Ytjlneggfkpjnpaa
