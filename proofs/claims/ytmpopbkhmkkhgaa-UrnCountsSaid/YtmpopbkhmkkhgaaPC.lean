/- The law UrnCounts, walked. Condition: the arguments fit their types. -/
import Derived.Test.YtmpopbkhmkkhgaaPC1
import Derived.Deep.CutRange
import Derived.BigQuiet
namespace Go.Proofs.Ytmpopbkhmkkhgaa
open Go.RowKit

attribute [local go_sem ↓] appI_rw

theorem CtI.drewN {B : Nat} {wr : World} {vO vB vC : Value} {k n q : Nat} {O : List Int} (h : CtI B wr vO vB vC k n O) : CtI B (wr.drewN q) vO vB vC k n O := ⟨h.o, h.b, h.c, h.ob, h.oc, h.bc, h.fit, h.sz⟩
theorem counts_cell {B : Nat} {wr : World} {vO vB : Value} {k n gC cC m : Nat} {O : List Int} (h : CtI B wr vO vB (.slice (some ⟨gC, 0, none⟩) n cC) k n O) (hm : m < n) : wr.cell? ⟨gC, m, none⟩ = some (.int .i64 (O.count (m : Int) : Int)) := by
  obtain ⟨gC', cC', e, -, -, -, hgc, -, -⟩ := h.c.parts (by omega)
  injection e with e _ _; injection e with e; injection e with e _; subst e
  rw [hgc m hm, cntV_get hm]
theorem counts_le {B : Nat} {wr : World} {vO vB vC : Value} {k n m : Nat} {O : List Int} (h : CtI B wr vO vB vC k n O) (hm : m < n) : 0 ≤ (cntV O n).getD m 0 ∧ (cntV O n).getD m 0 ≤ (k : Int) := by
  rw [cntV_get hm]
  have h1 := owI_len h.o
  have h2 : O.count (m : Int) ≤ O.length := List.count_le_length
  omega
theorem inUse_push {r O : List Int} {m : Nat} (h : ∀ i, i < O.length → InUse r (O.getD i 0)) (h1 : m < r.length) (h2 : 0 < r.getD m 0) : ∀ i, i < (O ++ [(m : Int)]).length → InUse r ((O ++ [(m : Int)]).getD i 0) := fun i hi => by
  rw [List.length_append, List.length_singleton] at hi
  by_cases he : i < O.length
  · have e : (O ++ [(m : Int)]).getD i 0 = O.getD i 0 := by rw [List.getD, List.getD, List.getElem?_append_left he]
    rw [e]; exact h i he
  · have e : (O ++ [(m : Int)]).getD i 0 = (m : Int) := by
      have : i = O.length := by omega
      subst this
      simp [List.getD]
    rw [e]; exact ⟨m, rfl, h1, h2⟩
theorem counts_rev {r O : List Int} (h : ∀ i, i < O.length → InUse r (O.getD i 0)) : ∀ i, i < O.reverse.length → InUse r (O.reverse.getD i 0) := fun i hi => by
  rw [List.length_reverse] at hi
  have e : O.reverse.getD i 0 = O.getD (O.length - 1 - i) 0 := by
    have h1 : O.length - 1 - i < O.length := by omega
    simp [List.getD, hi, h1]
  rw [e]
  exact h _ (by omega)

set_option maxRecDepth 100000 in
set_option maxHeartbeats 8000000 in
theorem urnCounts_any {W : World} (l0 l1 l2 l3 l4 l5 : Int) {lu : List Int} {vu : Value} (hu : Ux W vu lu) :
    Calls Try.prog 6 #[.agg #[.int .i64 l0, .int .i64 l1, .int .i64 l2, .int .i64 l3, .int .i64 l4, .int .i64 l5], vu] W fun e w' => e = .returned (.bool true) ∧ Below W.heap.size W w' := by
  obtain ⟨au, cu, rfl⟩ := hu.mk'
  obtain ⟨nu, hnu⟩ : ∃ nu, nu = lu.length := ⟨_, rfl⟩
  have hul := hu.len
  unfold maxLen at hul
  rw [← hnu] at hu hul ⊢
  have HU := Lib.hid hu
  have HNU := Lib.hid hnu
  clear hu hnu
  have HSA := Lib.hid (fun W' => sanity_any W')
  obtain ⟨P0, hP0⟩ : ∃ P0, P0 = lW W l0 l1 l2 l3 l4 l5 := ⟨_, rfl⟩
  have HB : Hid (Below P0.heap.size P0 (lW W l0 l1 l2 l3 l4 l5)) := Lib.hid (by rw [hP0]; exact Below.refl _ _)
  have HBX := Lib.hid (fun W' (h : Below P0.heap.size P0 W') => l_box (W' := W') (W := W) (l0 := l0) (l1 := l1) (l2 := l2) (l3 := l3) (l4 := l4) (l5 := l5) (by rw [← hP0]; exact h))
  have hup : Below W.heap.size W P0 := by rw [hP0]; exact l_up W l0 l1 l2 l3 l4 l5
  have HUP := Lib.hid (fun W' (h : Below P0.heap.size P0 W') => hup.trans (h.mono hup.size))
  have HMA := Lib.hid (fun W' => made_any (W := W') l0 l1 l2 l3 l4 l5)
  clear hup hP0
  go_enter Try.func6, Try.ntmps6
  go_upto_region 3 with (first
    | (go_at_call 8; (with_reducible refine (HSA.out _).mono ?_); rintro e w1 ⟨rfl, hb⟩; have HB := Lib.hid (HB.out.trans (hb.mono HB.out.size)); obtain ⟨b0, b1, b2, b3, b4, b5⟩ := HBX.out _ HB.out; clear hb)
    | (go_at_call 10; (with_reducible refine (HMA.out _).mono ?_); rintro e w2 ⟨ar, nr, cr, r, a, rfl, hr, hmk, hb⟩; have HR := Lib.hid (hmk.ix hr); have HMK := Lib.hid hmk; have HB2 := Lib.hid (HB.out.trans (hb.mono HB.out.size)); clear hb hr hmk b0 b1 b2 b3 b4 b5))
  change Code.wp _ _ _ _ (dbox w2 3 (.slice ar nr cr) a)
  have hD := dbox_is w2 3 (.slice ar nr cr) a
  have hR := HR.out.below (dbox_below w2 3 (.slice ar nr cr) a)
  have hB3 := HB2.out.trans ((dbox_below w2 3 (.slice ar nr cr) a).mono HB2.out.size)
  have hg6 : P0.heap.size ≤ w2.heap.size := HB2.out.size
  have hrb : ∀ b off, ar = some (Addr.mk b off none) → nr ≠ 0 → b < w2.heap.size := fun b off e h => by
    obtain ⟨b', off', e', -, -, hbl, -⟩ := HR.out.at h
    rw [e] at e'
    injection e' with e'
    injection e' with e1
    rw [e1]; exact hbl
  generalize dbox w2 3 (.slice ar nr cr) a = W3 at hD hR hB3 ⊢
  generalize w2.heap.size = g6 at hD hg6 hrb ⊢
  have HRB := Lib.hid hrb
  clear hrb
  have HD := Lib.hid (fun W' (h : Below W3.heap.size W3 W') => (hD.below h).cells)
  have HD3 := Lib.hid hD
  have HR3 := Lib.hid hR
  have HB3 := Lib.hid hB3
  have HG6 := Lib.hid hg6
  have hl8 : r.length ≤ 8 := by have := HMK.out.l4; omega
  have HL8 := Lib.hid hl8
  have HNR := Lib.hid hR.size
  have hg6l := (Array.getElem?_eq_some_iff.1 hD).1
  have HG6L := Lib.hid hg6l
  have hbr := Below.refl W3.heap.size W3
  have HB0 := Lib.hid (HUP.out _ hB3)
  have hnr4 : nr ≤ 4 := by have := HNR.out; have := HMK.out.l4; omega
  have hnr2 : 2 ≤ nr := by have := HNR.out; have := HMK.out.l2; omega
  have hmk := make_run nr (by omega) W3
  have HMO := Lib.hid (made_own nr (by omega) W3)
  obtain ⟨k0, k1, k2, k3, k4, k5⟩ := HD.out _ hbr
  clear hD hR hB3 HB2 HR HB HSA HMA hbr hg6 hg6l hl8
  go_upto_region 5 with fail
  change Code.wp _ _ _ _ (W3.alloc (.cells (ints (List.replicate nr 0)).toArray 3))
  clear hmk k0 k1 k2 k3 k4 k5
  have hb4 : Below W3.heap.size W3 (W3.alloc (.cells (ints (List.replicate nr 0)).toArray 3)) := (Below.refl _ _).alloc (Nat.le_refl _) _
  have hC0 : CtI W3.heap.size (W3.alloc (.cells (ints (List.replicate nr 0)).toArray 3)) (.slice none 0 0) (.slice none 0 0) (.slice (some ⟨W3.heap.size, 0, none⟩) nr nr) 0 nr [] := ⟨World.ownsRow_nil _ _ _ _, World.ownsRow_nil _ _ _ _, by rw [cntV_nil]; exact HMO.out, fun g hg => by simp [Value.ownBlock] at hg, fun g hg => by simp [Value.ownBlock] at hg, fun g hg => by simp [Value.ownBlock] at hg, fun x hx => by simp at hx, hb4.size⟩
  generalize W3.alloc (.cells (ints (List.replicate nr 0)).toArray 3) = W4 at hb4 hC0 ⊢
  have HB4 := Lib.hid hb4
  have HC0 := Lib.hid hC0
  clear hb4 hC0
  go_wp2
  go_loopw [7, 8, 10, 11] (fun ov bv kv _ wr => ∃ (k : Nat) (aO aB : Option Addr) (cO cB : Nat) (O : List Int), k ≤ nu ∧ k ≤ 30 ∧ kv = .int .i64 (k : Nat) ∧ ov = .slice aO k cO ∧ bv = .slice aB k cB ∧ Hid (CtI W3.heap.size wr (.slice aO k cO) (.slice aB k cB) (.slice (some ⟨W3.heap.size, 0, none⟩) nr nr) k nr O) ∧ Hid (∀ i, i < O.length → InUse r (O.getD i 0)) ∧ Hid (Below W3.heap.size W3 wr)) (fun _ _ kv _ _ => nu - (intOf kv).toNat)
  case atStart => exact ⟨0, none, none, 0, 0, [], by omega, by omega, rfl, rfl, rfl, HC0, Lib.hid (fun i h => by simp at h), HB4⟩
  case round =>
    obtain ⟨k, aO, aB, cO, cB, O, hk, hk30, rfl, rfl, rfl, hC, hIU, hB⟩ := hrel
    have HWB := Lib.hid (HB0.out.trans (hB.out.mono HB0.out.size))
    obtain ⟨k0, k1, k2, k3, k4, k5⟩ := HD.out _ hB.out
    have hgl := Nat.lt_of_lt_of_le HG6L.out hB.out.size
    by_cases hkn : k = nu ∨ k = 30
    · have hend : ¬ ((k : Int) < (nu : Int)) ∨ ¬ ((k : Int) < 30) := by omega
      have HDR := Lib.hid (fun W' (h : Below wr.heap.size wr W') => draw_any (HR3.out.below (hB.out.trans (h.mono hB.out.size))) (((hC.out.o.ix (by omega) (fit_small hC.out.fit))).below h) HMK.out hIU.out (by have := owI_len hC.out.o; omega))
      have HDB := Lib.hid (fun W' (h : Below wr.heap.size wr W') => draw_any (HR3.out.below (hB.out.trans (h.mono hB.out.size))) (((hC.out.b.ix (by omega) (fit_small fun x hx => hC.out.fit x (by simpa using hx)))).below h) HMK.out (fun i hi => counts_rev hIU.out i hi) (by have := owI_len hC.out.b; omega))
      by_cases hk0 : k = 0
      · subst hk0
        rcases Nat.lt_or_ge 0 nu with h1 | h1
        all_goals
          go_wp2
          all_goals first | (go_ret; exact ⟨by first | rfl | (simp; done), HWB.out⟩) | (exfalso; omega)
      · have hkp : ¬ (k : Int) = 0 := by omega
        have hrr := Below.refl wr.heap.size wr
        have HRR := Lib.hid hrr
        have HLO := Lib.hid (owI_len hC.out.o)
        have HNV : Hid (nowV r a O = rowV r a O ∧ nowV r a O.reverse = rowV r a O) := Lib.hid (by
          have := HLO.out
          constructor
          · unfold nowV; rw [if_neg (by omega)]
          · unfold nowV; rw [if_neg (by rw [List.length_reverse]; omega), rowV_rev])
        rw [HNV.out.1] at HDR
        rw [HNV.out.2] at HDB
        obtain ⟨L, hL⟩ : ∃ L, L = rowV r a O := ⟨_, rfl⟩
        have HL := Lib.hid hL
        have HLL : Hid (L.length = nr) := Lib.hid (by rw [hL, rowV_len]; exact HNR.out.symm)
        rw [← hL] at HDR HDB
        clear hL hrr HNV
        rcases Nat.lt_or_ge k nu with h1 | h1
        all_goals
          have hki9 : (k : Int) < (nu : Int) ∨ ¬ (k : Int) < (nu : Int) := by omega
          have hkt9 : (nu : Int) ≤ (k : Int) ∨ ¬ (k : Int) < 30 := by omega
          clear hend hki9 hkt9
          go_upto_region 20 with (first
            | (go_at_call 20; (with_reducible refine (HDR.out _ HRR.out).mono ?_); rintro e w5 ⟨ax, nx, cx, rfl, hx, hb⟩; have HX5 := Lib.hid hx; have HB5 := Lib.hid hb; clear hx hb k0 k1 k2 k3 k4 k5; obtain ⟨k0, k1, k2, k3, k4, k5⟩ := HD.out _ (hB.out.trans (HB5.out.mono hB.out.size)); have hgl := Nat.lt_of_lt_of_le hgl HB5.out.size)
            | (go_at_call 20; (with_reducible refine (HDB.out _ HB5.out).mono ?_); rintro e w6 ⟨ay, ny, cy, rfl, hy, hb⟩; have HY6 := Lib.hid hy; have HX6 := Lib.hid (HX5.out.below hb); have HB6 := Lib.hid (HB5.out.trans (hb.mono HB5.out.size)); clear hy hb k0 k1 k2 k3 k4 k5; obtain ⟨k0, k1, k2, k3, k4, k5⟩ := HD.out _ (hB.out.trans (HB6.out.mono hB.out.size)); have hnx : nx = nr := by have := HX5.out.size; have := HLL.out; omega))
          subst hnx
          have HCC := Lib.hid (fun (m : Nat) (hm : m < nx) => counts_cell hC.out hm)
          have HBE : Hid (Below wr.heap.size wr w6) := HB6
          have HA3 := Lib.hid HMK.out.a0
          clear k0 k1 k2 k3 k4 k5 HDR HDB
          go_wp2
          go_loopw [16, 17, 96] (fun _ _ kv wq => ∃ i : Nat, i ≤ nx ∧ kv = .int .i64 (i : Nat) ∧ Hid (Below w6.heap.size w6 wq)) (fun _ _ kv _ => nx - (intOf kv).toNat)
          case atStart => exact ⟨0, by omega, rfl, Lib.hid (Below.refl _ _)⟩
          case round =>
            obtain ⟨i, hi, rfl, hQ⟩ := hrel
            have hq := HBE.out.trans (hQ.out.mono HBE.out.size)
            by_cases hin : i = nx
            · have HSY := Lib.hid (sameInts_yes (HX6.out.below hQ.out) (HY6.out.below hQ.out))
              have HEE := Lib.hid (HWB.out.trans (hq.mono HWB.out.size))
              subst hin
              clear hq
              go_wp2_with (go_at_call 12; (with_reducible refine HSY.out.mono ?_); rintro e w7 ⟨rfl, hb⟩; have HBZ := Lib.hid (HEE.out.trans (hb.mono HEE.out.size)); clear hb)
              go_ret
              exact ⟨by first | rfl | (simp; done), HBZ.out⟩
            · have hlt : i < nx := by omega
              have hii : (i : Int) < (nx : Int) := by omega
              obtain ⟨bx, ofx, rfl, hqx, hcapx, hblx, hclx⟩ := HX6.out.at (by omega)
              have cx0 := cell_later hQ.out (hclx i hlt)
              have hir : i < r.length := by have := HNR.out; omega
              rw [HL.out, rowV_get hir] at cx0
              obtain ⟨br, ofr, rfl, hqr, hcapr, hblr, hclr⟩ := (HR3.out.below hB.out).at (by omega)
              have cr0 := cell_later hq (hclr i hlt)
              have cc0 := cell_later hq (HCC.out i hlt)
              have hri := HMK.out.rr i hir
              have ha3 := HA3.out
              have hcl : O.count (i : Int) ≤ O.length := List.count_le_length
              have hok := HLO.out
              have hrow : rowA r a O i = if 0 < r.getD i 0 then r.getD i 0 + a * ((O.length : Int) - (O.count (i : Int) : Int)) else r.getD i 0 := rfl
              rw [← hok] at hcl hrow
              obtain ⟨s, hs⟩ : ∃ s, s = r.getD i 0 := ⟨_, rfl⟩
              obtain ⟨c, hc⟩ : ∃ c, c = O.count (i : Int) := ⟨_, rfl⟩
              rw [← hs] at cr0 hri hrow
              rw [← hc] at cc0 hcl hrow
              obtain ⟨k0, k1, k2, k3, k4, k5⟩ := HD.out _ (hB.out.trans (hq.mono hB.out.size))
              have hgq := Nat.lt_of_lt_of_le hgl (Nat.le_refl _)
              have HQE : Hid (∀ n, Hid (Below w6.heap.size w6 (wr.drewN n))) := Lib.hid (fun n => Lib.hid (hQ.out.trans ⟨rfl, rfl, rfl, Nat.le_refl _, fun _ _ => rfl⟩))
              by_cases hs0 : 0 < s
              · rw [if_pos hs0] at hrow
                have h4 : 0 ≤ a * ((k : Int) - (c : Int)) := Int.mul_nonneg ha3.1 (by omega)
                have h5 : a * ((k : Int) - (c : Int)) ≤ 3 * 30 := Int.mul_le_mul (by omega) (by omega) (by omega) (by omega)
                have hw1 : IntKind.i64.wrap ((k : Int) - (c : Int)) = (k : Int) - (c : Int) := IntWalk.i64_in _ (by omega)
                have hw2 : IntKind.i64.wrap (a * ((k : Int) - (c : Int))) = a * ((k : Int) - (c : Int)) := IntWalk.i64_in _ (by omega)
                have hw3 : IntKind.i64.wrap (s + a * ((k : Int) - (c : Int))) = s + a * ((k : Int) - (c : Int)) := IntWalk.i64_in _ (by omega)
                rw [hrow] at cx0
                clear hrow hs hc hclx hclr hqx hqr hok h4 h5 hq
                go_wp2
                go_region
                go_wp2
                go_roundw
                case rel => exact ⟨i + 1, by omega, by go_num, HQE.out _⟩
                case measure => simp [intOf]; omega
              · rw [if_neg hs0] at hrow
                rw [hrow] at cx0
                clear hrow hs hc hclx hclr hqx hqr hok hq
                go_wp2
                go_roundw
                case rel => exact ⟨i + 1, by omega, by go_num, hQ⟩
                case measure => simp [intOf]; omega
    · have hki : (k : Int) < (nu : Int) := by omega
      have hkt : (k : Int) < 30 := by omega
      have hk3 : k < 30 := by omega
      have hkn2 : k < nu := by omega
      obtain ⟨bu, ofu, rfl, hcapu, hblu, hclu⟩ := HU.out.at (by omega)
      have cu0 := cell_later HWB.out (hclu k hkn2)
      have hxb := HU.out.fit k
      obtain ⟨u, huu⟩ : ∃ u, u = lu.getD k 0 := ⟨_, rfl⟩
      rw [← huu] at cu0 hxb
      obtain ⟨t, ht, htm⟩ : ∃ t : Nat, u.tmod (nr : Int) = (t : Int) ∧ t < nr := ⟨(u % (nr : Int)).toNat, by
        rw [Int.tmod_eq_emod_of_nonneg hxb.1]
        have := Int.emod_nonneg u (show (nr : Int) ≠ 0 by omega)
        omega, by
        have := Int.emod_nonneg u (show (nr : Int) ≠ 0 by omega)
        have := Int.emod_lt_of_pos u (show (0 : Int) < nr by omega)
        omega⟩
      obtain ⟨br, ofr, rfl, hqr, hcapr, hblr, hclr⟩ := (HR3.out.below hB.out).at (by omega)
      have cr0 := hclr t htm
      have hrt := HMK.out.rr t (by have := HNR.out; omega)
      have hr0 := HMK.out.r2.1
      obtain ⟨x, hx⟩ : ∃ x, x = r.getD t 0 := ⟨_, rfl⟩
      rw [← hx] at cr0 hrt
      have ht0 : (0 : Int) ≤ (t : Int) := by omega
      have htn : (t : Int) < (nr : Int) := by omega
      have hwu : IntKind.i64.wrap u = u := IntWalk.i64_in _ (by omega)
      have hwt : IntKind.i64.wrap (t : Int) = (t : Int) := IntWalk.i64_in _ (by omega)
      have hnr0 : ¬ (nr : Int) = 0 := by omega
      have hnr1 : ((nr : Int) == 0) = false := by simp; omega
      have hk00 : (0 : Int) ≤ (k : Int) := by omega
      have HX := Lib.hid hx
      have HCN : Hid (∀ n, Hid (CtI W3.heap.size (wr.drewN n) (.slice aO k cO) (.slice aB k cB) (.slice (some ⟨W3.heap.size, 0, none⟩) nr nr) k nr O)) := Lib.hid (fun n => Lib.hid hC.out.drewN)
      have HBN : Hid (∀ n, Hid (Below W3.heap.size W3 (wr.drewN n))) := Lib.hid (fun n => Lib.hid (hB.out.trans ⟨rfl, rfl, rfl, Nat.le_refl _, fun _ _ => rfl⟩))
      have HTM := Lib.hid htm
      clear hclu hclr huu hqr hx hC hkn
      go_upto_region 8 with fail
      go_cut [11] from 25 to 63 (fun v wx => v = .int .i64 (t : Int) ∧ Hid (CtI W3.heap.size wx (.slice aO k cO) (.slice aB k cB) (.slice (some ⟨W3.heap.size, 0, none⟩) nr nr) k nr O) ∧ Hid (Below W3.heap.size W3 wx))
      case first =>
        go_region
        all_goals (go_wp2_with fail; go_meet; exact ⟨rfl, HCN.out _, HBN.out _⟩)
      case' rest =>
        obtain ⟨rfl, HC, HBw⟩ := hcut
        clear k0 k1 k2 k3 k4 k5 cu0 cr0 ht
        obtain ⟨k0, k1, k2, k3, k4, k5⟩ := HD.out _ HBw.out
        have hgw := Nat.lt_of_lt_of_le HG6L.out HBw.out.size
        obtain ⟨br2, ofr2, e, hqr, hcapr2, hblr2, hclr⟩ := (HR3.out.below HBw.out).at (by omega)
        injection e with e; injection e with e1 e2; subst e1 e2
        have cr0 := hclr t HTM.out
        rw [← HX.out] at cr0
        clear hclr hqr
        by_cases hx0 : x = 0
        · have hx1 : (x == 0) = true := by simp [hx0]
          obtain ⟨g1, c1, w1, a2, c2, w2, hrun1, hrun2, hcc, hff, hC2, hB2⟩ := HC.out.step (m := 0) (by omega) (by omega) (by omega)
          rw [show ((0 : Nat) : Int) = 0 from rfl] at hrun1 hrun2 hC2
          have HC2 := Lib.hid hC2
          have HBE := Lib.hid (HBw.out.trans hB2)
          have HIU2 := Lib.hid (inUse_push hIU.out (m := 0) (by have := HNR.out; omega) (by omega))
          have hcb := counts_le HC.out (m := 0) (by omega)
          obtain ⟨q, hq⟩ : ∃ q, q = (cntV O nr).getD 0 0 := ⟨_, rfl⟩
          rw [← hq] at hcc HC2 HBE hcb
          have hwq : IntKind.i64.wrap (q + 1) = q + 1 := IntWalk.i64_in _ (by omega)
          subst hx0
          clear hC2 hB2 hq
          go_wp2
          go_roundw
          case rel => exact ⟨k + 1, some ⟨g1, 0, none⟩, a2, c1, c2, O ++ [0], by omega, by omega, by go_num, rfl, rfl, HC2, HIU2, HBE⟩
          case measure => simp [intOf]; omega
        · have hx1 : (x == 0) = false := by simp [hx0]
          obtain ⟨g1, c1, w1, a2, c2, w2, hrun1, hrun2, hcc, hff, hC2, hB2⟩ := HC.out.step (m := t) (by omega) HTM.out (by omega)
          have HC2 := Lib.hid hC2
          have HBE := Lib.hid (HBw.out.trans hB2)
          have HIU2 := Lib.hid (inUse_push hIU.out (m := t) (by have := HNR.out; have := HTM.out; omega) (by rw [← HX.out]; omega))
          have hcb := counts_le HC.out (m := t) HTM.out
          obtain ⟨q, hq⟩ : ∃ q, q = (cntV O nr).getD t 0 := ⟨_, rfl⟩
          rw [← hq] at hcc HC2 HBE hcb
          have hwq : IntKind.i64.wrap (q + 1) = q + 1 := IntWalk.i64_in _ (by omega)
          clear hC2 hB2 hq
          go_wp2
          go_roundw
          case rel => exact ⟨k + 1, some ⟨g1, 0, none⟩, a2, c1, c2, O ++ [(t : Int)], by omega, by omega, by go_num, rfl, rfl, HC2, HIU2, HBE⟩
          case measure => simp [intOf]; omega

end Go.Proofs.Ytmpopbkhmkkhgaa
