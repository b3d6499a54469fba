/- Contracts of num: Add. Contracts of num: Sub, Of, Int, Cmp, Bits. Contracts of num: Of, Int, Cmp. Contracts of num: Int. Contracts of Go's library, laid over this dump's numbers. No condition beyond those that each states. slices.Clone, Cmp, Bits. Contracts of num: Cmp, Bits. Contract of num: Pow. -/
import Derived.Test.YtdgmjmckeeeljaaGreatDoorGd1
import Derived.Shelf.Strings.Builder1
import Derived.Shelf.Strings.Builder2
import Derived.Shelf.Small.Bits
import Derived.Shelf.Small.Wraps
import Derived.Shelf.Strings.BuilderF
import Derived.Shelf.Strings.BuilderK
import Derived.Shelf.Strings.Builder2Cap
import Derived.Shelf.Strconv.Itoa0
import Derived.Shelf.Strconv.Itoa1
import Derived.Shelf.LaysM
import Derived.Shelf.Strconv.Itoa2
import Derived.Shelf.Strconv.Itoa3
import Derived.Ground.MpProg
import Derived.Shelf.Pu.ParseUintPublic10
import Derived.Shelf.Strings.Prefix
import Derived.Shelf.Bits.Mul64
import Derived.Shelf.Strings.Repeat
import Derived.Shelf.Strings.BuilderCap
import Derived.Ground.SlgnProg
import Derived.Shelf.SlicesE.Clone
import Derived.Test.YtdgmjmckeeeljaaGreatDoorProg
import Derived.Lib.ItoaNum
namespace Go.Proofs.YtdgmjmckeeeljaaGreatDoor
open Go.RowKit

theorem plus_at {w : World} {va vb : Value} {x y n : Nat} (ha : Sl w va (digs x)) (hb : Sl w vb (digs y)) (hla : (digs x).length ≤ 256) (hlb : (digs y).length ≤ 256) (hn : (digs (x + y)).length = n) :
    Calls Tryz.prog 45 #[va, vb] w fun e w' => ∃ ao cap, e = .returned (.slice ao n cap) ∧ Sw w.heap.size w' (.slice ao n cap) (digs (x + y)) ∧ Below w.heap.size w w' := by
  have h := plus_any ha hb (by omega) (by omega)
  rw [val_digs, val_digs] at h
  refine h.mono ?_
  rintro e w' ⟨v, rfl, hs, hbl⟩
  obtain ⟨ao, cap, rfl⟩ := hs.sl.mk'
  subst hn
  exact ⟨ao, cap, rfl, hs, hbl⟩

theorem minus_at {w : World} {va vb : Value} {x y n : Nat} (ha : Sl w va (digs x)) (hb : Sl w vb (digs y)) (hla : (digs x).length ≤ 256) (hle : y ≤ x) (hn : (digs (x - y)).length = n) :
    Calls Tryz.prog 46 #[va, vb] w fun e w' => ∃ ao cap, e = .returned (.slice ao n cap) ∧ Sw w.heap.size w' (.slice ao n cap) (digs (x - y)) ∧ Below w.heap.size w w' := by
  have h := minus_any ha hb (by omega) (by rw [val_digs, val_digs]; exact hle)
  rw [val_digs, val_digs] at h
  refine h.mono ?_
  rintro e w' ⟨v, rfl, hs, hbl⟩
  obtain ⟨ao, cap, rfl⟩ := hs.sl.mk'
  subst hn
  exact ⟨ao, cap, rfl, hs, hbl⟩

set_option maxRecDepth 10000 in
set_option maxHeartbeats 1000000 in
theorem add_same {w : World} {x y : Value} {a b : Int} (hx : Nu w x a) (hy : Nu w y b) (hs : decide (a < 0) = decide (b < 0)) :
    Calls Tryz.prog 28 #[x, y] w (NumRes w (a + b)) := by
  obtain ⟨sa, rfl, ha, la⟩ := hx
  obtain ⟨sb, rfl, hb, lb⟩ := hy
  have ra := rightB_digs a la
  have rb := rightB_digs b lb
  obtain ⟨na, hna⟩ : ∃ na, na = decide (a < 0) := ⟨_, rfl⟩
  obtain ⟨nb, hnb⟩ : ∃ nb, nb = decide (b < 0) := ⟨_, rfl⟩
  rw [← hna] at ra ⊢
  rw [← hnb] at rb ⊢
  have HNA := Lib.hid hna
  have HNB := Lib.hid hnb
  clear hna hnb
  have R1 : ∀ W, Sl W sa (digs a.natAbs) → Calls Tryz.prog 32 #[.agg #[.bool na, sa]] W fun e w' => e = .returned (.bool true) ∧ w' = W.alloc (.cells #[.bool na, sa] 27) := fun W h => by have := right_any na h (by omega); rwa [ra] at this
  have R2 : ∀ W, Sl W sb (digs b.natAbs) → Calls Tryz.prog 32 #[.agg #[.bool nb, sb]] W fun e w' => e = .returned (.bool true) ∧ w' = W.alloc (.cells #[.bool nb, sb] 27) := fun W h => by have := right_any nb h (by omega); rwa [rb] at this
  have HR1 := Lib.hid R1
  have HR2 := Lib.hid R2
  clear R1 R2 ra rb
  have hab : (a + b).natAbs = a.natAbs + b.natAbs := by
    by_cases h : a < 0 <;> by_cases h2 : b < 0 <;> simp [h, h2] at hs <;> omega
  have hsg : a + b ≠ 0 → decide (a < 0) = decide (a + b < 0) := by
    by_cases h : a < 0 <;> by_cases h2 : b < 0 <;> simp [h, h2] at hs ⊢ <;> omega
  have HAB := Lib.hid hab
  have HSG := Lib.hid hsg
  obtain rfl : nb = na := by rw [HNA.out, HNB.out, hs]
  clear hs hab hsg
  go_enter Tryz.func28, Tryz.ntmps28
  go_wp2_with (first | (go_at_call_of 32 (Value.agg #[.bool nb, sa]); refine (HR1.out _ (ha.below (by go_grown))).mono ?_; rintro e w' ⟨rfl, rfl⟩) | (go_at_call_of 32 (Value.agg #[.bool nb, sb]); refine (HR2.out _ (hb.below (by go_grown))).mono ?_; rintro e w' ⟨rfl, rfl⟩))
  have HB : Box3 ((((w.alloc (.cells #[.bool nb, sa] 27)).alloc (.cells #[.bool nb, sb] 27)).alloc (.cells #[.bool false, .slice none 0 0] 27)).alloc (.cells #[.bool nb, sa] 27) |>.alloc (.cells #[.bool nb, sb] 27)) w.heap.size nb nb sa sb a.natAbs b.natAbs :=
    box3_new ha hb (by go_grown)
  have HBL : Below w.heap.size w ((((w.alloc (.cells #[.bool nb, sa] 27)).alloc (.cells #[.bool nb, sb] 27)).alloc (.cells #[.bool false, .slice none 0 0] 27)).alloc (.cells #[.bool nb, sa] 27) |>.alloc (.cells #[.bool nb, sb] 27)) := by go_grown
  revert HB HBL
  generalize ((((w.alloc (.cells #[.bool nb, sa] 27)).alloc (.cells #[.bool nb, sb] 27)).alloc (.cells #[.bool false, .slice none 0 0] 27)).alloc (.cells #[.bool nb, sa] 27) |>.alloc (.cells #[.bool nb, sb] 27)) = W
  intro HB HBL
  have a0 := HB.a0
  have a1 := HB.a1
  have b0 := HB.b0
  have b1 := HB.b1
  obtain ⟨n, hn⟩ : ∃ n, n = (digs (a.natAbs + b.natAbs)).length := ⟨_, rfl⟩
  have HN := Lib.hid hn
  clear hn
  go_region_held3 (fun w' => w'.cell? ⟨w.heap.size, 0, none⟩ = some (.bool nb) ∧ w'.cell? ⟨w.heap.size, 1, none⟩ = some sa ∧ w'.cell? ⟨w.heap.size + 1, 0, none⟩ = some (.bool nb) ∧ w'.cell? ⟨w.heap.size + 1, 1, none⟩ = some sb)
      (first | (exact HB.keep (by go_grown)) | (exact HB.keep (hbw.alloc hbw0 _)) | (exact HB.keep ((hbw.alloc hbw0 _).setCell (by simp) _)))
      ((first | (go_at_call 45; refine (plus_at (HB.below (by go_grown)).sa (HB.below (by go_grown)).sb la lb HN.out.symm).mono ?_; rintro e w1 ⟨ao, cap, rfl, hs1, hb1⟩; have hb1' : Below W.heap.size W w1 := Below.trans (by go_grown) hb1; have HB1 := HB.below hb1'; obtain ⟨r0, r1, f0, f1⟩ := HB1.cells; have hz := HB1.lt; have hbw := hb1'.mono (Nat.le_of_lt HB.lt); have hbw0 := Nat.le_of_lt hz) | (go_at_call 47; refine (made_any _ _ _ _ _).mono ?_; rintro e w2 ⟨rfl, rfl⟩)))
  have HHs := Lib.hid hs1
  clear hs1
  have hfin : Below w.heap.size w (((w1.setCell ⟨w.heap.size + 1 + 1, 0, none⟩ (.bool (mkN nb n))).setCell ⟨w.heap.size + 1 + 1, 1, none⟩ (.slice (mkA ao n) (mkL n) (mkC n cap))).alloc (.cells #[.bool (mkN nb n), .slice (mkA ao n) (mkL n) (mkC n cap)] 27)) :=
    (((HBL.trans (hb1'.mono (by have := HB.lt; omega))).setCell (by simp; omega) _).setCell (by simp; omega) _).alloc (by simp; omega) _
  obtain ⟨q0, q1⟩ := res_cells HB1.r (.bool (mkN nb n)) (.slice (mkA ao n) (mkL n) (mkC n cap)) (.cells #[.bool (mkN nb n), .slice (mkA ao n) (mkL n) (mkC n cap)] 27)
  have hsw := HHs.out.after (g := w.heap.size + 1 + 1) HB.lt (.bool (mkN nb n)) (.slice (mkA ao n) (mkL n) (mkC n cap)) (.cells #[.bool (mkN nb n), .slice (mkA ao n) (mkL n) (mkC n cap)] 27)
  revert q0 q1 hfin hsw
  generalize (((w1.setCell ⟨w.heap.size + 1 + 1, 0, none⟩ (.bool (mkN nb n))).setCell ⟨w.heap.size + 1 + 1, 1, none⟩ (.slice (mkA ao n) (mkL n) (mkC n cap))).alloc (.cells #[.bool (mkN nb n), .slice (mkA ao n) (mkL n) (mkC n cap)] 27)) = W3
  intro hfin q0 q1 hsw
  have HSW := Lib.hid hsw
  clear hsw
  go_wp2
  refine bodyPost_ret (v := .tuple #[.agg #[.bool (mkN nb n), .slice (mkA ao n) (mkL n) (mkC n cap)], .bool (mkK n)]) (by simp [results, Tryz.results28, go_sem, q0, q1]) rfl ?_
  exact numRes_made hfin (by rw [HAB.out]; exact HN.out) (fun hz => by rw [HNA.out]; exact HSG.out hz) (fun _ => by rw [HAB.out]; exact HSW.out.mono (by simp; exact HBL.size))

set_option maxRecDepth 10000 in
set_option maxHeartbeats 1000000 in
theorem add_lt {w : World} {x y : Value} {a b : Int} (hx : Nu w x a) (hy : Nu w y b) (hs : decide (a < 0) ≠ decide (b < 0)) (hc : a.natAbs < b.natAbs) :
    Calls Tryz.prog 28 #[x, y] w (NumRes w (a + b)) := by
  obtain ⟨sa, rfl, ha, la⟩ := hx
  obtain ⟨sb, rfl, hb, lb⟩ := hy
  have ra := rightB_digs a la
  have rb := rightB_digs b lb
  obtain ⟨na, hna⟩ : ∃ na, na = decide (a < 0) := ⟨_, rfl⟩
  obtain ⟨nb, hnb⟩ : ∃ nb, nb = decide (b < 0) := ⟨_, rfl⟩
  rw [← hna] at ra ⊢
  rw [← hnb] at rb ⊢
  have HNA := Lib.hid hna
  have HNB := Lib.hid hnb
  clear hna hnb
  have R1 : ∀ W, Sl W sa (digs a.natAbs) → Calls Tryz.prog 32 #[.agg #[.bool na, sa]] W fun e w' => e = .returned (.bool true) ∧ w' = W.alloc (.cells #[.bool na, sa] 27) := fun W h => by have := right_any na h (by omega); rwa [ra] at this
  have R2 : ∀ W, Sl W sb (digs b.natAbs) → Calls Tryz.prog 32 #[.agg #[.bool nb, sb]] W fun e w' => e = .returned (.bool true) ∧ w' = W.alloc (.cells #[.bool nb, sb] 27) := fun W h => by have := right_any nb h (by omega); rwa [rb] at this
  have HR1 := Lib.hid R1
  have HR2 := Lib.hid R2
  clear R1 R2 ra rb
  have hab : (a + b).natAbs = b.natAbs - a.natAbs := by
    by_cases h : a < 0 <;> by_cases h2 : b < 0 <;> simp [h, h2] at hs <;> omega
  have hsg : a + b ≠ 0 → decide (b < 0) = decide (a + b < 0) := by
    by_cases h : a < 0 <;> by_cases h2 : b < 0 <;> simp [h, h2] at hs ⊢ <;> omega
  have HAB := Lib.hid hab
  have HSG := Lib.hid hsg
  have hne : (na == nb) = false := by rw [HNA.out, HNB.out]; simpa using hs
  have hcm : cmpN a.natAbs b.natAbs < 0 := by rw [cmpN_lt hc]; decide
  clear hs hab hsg
  go_enter Tryz.func28, Tryz.ntmps28
  go_wp2_with (first | (go_at_call_of 32 (Value.agg #[.bool na, sa]); refine (HR1.out _ (ha.below (by go_grown))).mono ?_; rintro e w' ⟨rfl, rfl⟩) | (go_at_call_of 32 (Value.agg #[.bool nb, sb]); refine (HR2.out _ (hb.below (by go_grown))).mono ?_; rintro e w' ⟨rfl, rfl⟩))
  have HB : Box3 ((((w.alloc (.cells #[.bool na, sa] 27)).alloc (.cells #[.bool nb, sb] 27)).alloc (.cells #[.bool false, .slice none 0 0] 27)).alloc (.cells #[.bool na, sa] 27) |>.alloc (.cells #[.bool nb, sb] 27)) w.heap.size na nb sa sb a.natAbs b.natAbs :=
    box3_new ha hb (by go_grown)
  have HBL : Below w.heap.size w ((((w.alloc (.cells #[.bool na, sa] 27)).alloc (.cells #[.bool nb, sb] 27)).alloc (.cells #[.bool false, .slice none 0 0] 27)).alloc (.cells #[.bool na, sa] 27) |>.alloc (.cells #[.bool nb, sb] 27)) := by go_grown
  revert HB HBL
  generalize ((((w.alloc (.cells #[.bool na, sa] 27)).alloc (.cells #[.bool nb, sb] 27)).alloc (.cells #[.bool false, .slice none 0 0] 27)).alloc (.cells #[.bool na, sa] 27) |>.alloc (.cells #[.bool nb, sb] 27)) = W
  intro HB HBL
  go_wp2_with (go_at_call 68; refine (compare_any HB.sa HB.sb (by omega) (by omega)).mono ?_; rintro e W5 ⟨rfl, hbW⟩)
  replace HBL := HBL.trans (hbW.mono HBL.size)
  replace HB := HB.below hbW
  clear hbW
  obtain ⟨W, rfl⟩ : ∃ W, W = W5 := ⟨_, rfl⟩
  have a0 := HB.a0
  have a1 := HB.a1
  have b0 := HB.b0
  have b1 := HB.b1
  obtain ⟨n, hn⟩ : ∃ n, n = (digs (b.natAbs - a.natAbs)).length := ⟨_, rfl⟩
  have HN := Lib.hid hn
  clear hn
  go_region_held3 (fun w' => w'.cell? ⟨w.heap.size, 0, none⟩ = some (.bool na) ∧ w'.cell? ⟨w.heap.size, 1, none⟩ = some sa ∧ w'.cell? ⟨w.heap.size + 1, 0, none⟩ = some (.bool nb) ∧ w'.cell? ⟨w.heap.size + 1, 1, none⟩ = some sb)
      (first | (exact HB.keep (by go_grown)) | (exact HB.keep (hbw.alloc hbw0 _)) | (exact HB.keep ((hbw.alloc hbw0 _).setCell (by simp) _)))
      ((first | (go_at_call 46; refine (minus_at (HB.below (by go_grown)).sb (HB.below (by go_grown)).sa lb (by omega) HN.out.symm).mono ?_; rintro e w1 ⟨ao, cap, rfl, hs1, hb1⟩; have hb1' : Below W.heap.size W w1 := Below.trans (by go_grown) hb1; have HB1 := HB.below hb1'; obtain ⟨r0, r1, f0, f1⟩ := HB1.cells; have hz := HB1.lt; have hbw := hb1'.mono (Nat.le_of_lt HB.lt); have hbw0 := Nat.le_of_lt hz) | (go_at_call 47; refine (made_any _ _ _ _ _).mono ?_; rintro e w2 ⟨rfl, rfl⟩)))
  have HHs := Lib.hid hs1
  clear hs1
  have hfin : Below w.heap.size w (((w1.setCell ⟨w.heap.size + 1 + 1, 0, none⟩ (.bool (mkN nb n))).setCell ⟨w.heap.size + 1 + 1, 1, none⟩ (.slice (mkA ao n) (mkL n) (mkC n cap))).alloc (.cells #[.bool (mkN nb n), .slice (mkA ao n) (mkL n) (mkC n cap)] 27)) :=
    (((HBL.trans (hb1'.mono (by have := HB.lt; omega))).setCell (by simp; omega) _).setCell (by simp; omega) _).alloc (by simp; omega) _
  obtain ⟨q0, q1⟩ := res_cells HB1.r (.bool (mkN nb n)) (.slice (mkA ao n) (mkL n) (mkC n cap)) (.cells #[.bool (mkN nb n), .slice (mkA ao n) (mkL n) (mkC n cap)] 27)
  have hsw := HHs.out.after (g := w.heap.size + 1 + 1) HB.lt (.bool (mkN nb n)) (.slice (mkA ao n) (mkL n) (mkC n cap)) (.cells #[.bool (mkN nb n), .slice (mkA ao n) (mkL n) (mkC n cap)] 27)
  revert q0 q1 hfin hsw
  generalize (((w1.setCell ⟨w.heap.size + 1 + 1, 0, none⟩ (.bool (mkN nb n))).setCell ⟨w.heap.size + 1 + 1, 1, none⟩ (.slice (mkA ao n) (mkL n) (mkC n cap))).alloc (.cells #[.bool (mkN nb n), .slice (mkA ao n) (mkL n) (mkC n cap)] 27)) = W3
  intro hfin q0 q1 hsw
  have HSW := Lib.hid hsw
  clear hsw
  go_wp2
  refine bodyPost_ret (v := .tuple #[.agg #[.bool (mkN nb n), .slice (mkA ao n) (mkL n) (mkC n cap)], .bool (mkK n)]) (by simp [results, Tryz.results28, go_sem, q0, q1]) rfl ?_
  exact numRes_made hfin (by rw [HAB.out]; exact HN.out) (fun hz => by rw [HNB.out]; exact HSG.out hz) (fun _ => by rw [HAB.out]; exact HSW.out.mono (by simp; exact HBL.size))

set_option maxRecDepth 10000 in
set_option maxHeartbeats 1000000 in
theorem add_ge {w : World} {x y : Value} {a b : Int} (hx : Nu w x a) (hy : Nu w y b) (hs : decide (a < 0) ≠ decide (b < 0)) (hc : b.natAbs ≤ a.natAbs) :
    Calls Tryz.prog 28 #[x, y] w (NumRes w (a + b)) := by
  obtain ⟨sa, rfl, ha, la⟩ := hx
  obtain ⟨sb, rfl, hb, lb⟩ := hy
  have ra := rightB_digs a la
  have rb := rightB_digs b lb
  obtain ⟨na, hna⟩ : ∃ na, na = decide (a < 0) := ⟨_, rfl⟩
  obtain ⟨nb, hnb⟩ : ∃ nb, nb = decide (b < 0) := ⟨_, rfl⟩
  rw [← hna] at ra ⊢
  rw [← hnb] at rb ⊢
  have HNA := Lib.hid hna
  have HNB := Lib.hid hnb
  clear hna hnb
  have R1 : ∀ W, Sl W sa (digs a.natAbs) → Calls Tryz.prog 32 #[.agg #[.bool na, sa]] W fun e w' => e = .returned (.bool true) ∧ w' = W.alloc (.cells #[.bool na, sa] 27) := fun W h => by have := right_any na h (by omega); rwa [ra] at this
  have R2 : ∀ W, Sl W sb (digs b.natAbs) → Calls Tryz.prog 32 #[.agg #[.bool nb, sb]] W fun e w' => e = .returned (.bool true) ∧ w' = W.alloc (.cells #[.bool nb, sb] 27) := fun W h => by have := right_any nb h (by omega); rwa [rb] at this
  have HR1 := Lib.hid R1
  have HR2 := Lib.hid R2
  clear R1 R2 ra rb
  have hab : (a + b).natAbs = a.natAbs - b.natAbs := by
    by_cases h : a < 0 <;> by_cases h2 : b < 0 <;> simp [h, h2] at hs <;> omega
  have hsg : a + b ≠ 0 → decide (a < 0) = decide (a + b < 0) := by
    by_cases h : a < 0 <;> by_cases h2 : b < 0 <;> simp [h, h2] at hs ⊢ <;> omega
  have HAB := Lib.hid hab
  have HSG := Lib.hid hsg
  have hne : (na == nb) = false := by rw [HNA.out, HNB.out]; simpa using hs
  have hcm : 0 ≤ cmpN a.natAbs b.natAbs := by unfold cmpN; rw [if_neg (by omega)]; split <;> decide
  clear hs hab hsg
  go_enter Tryz.func28, Tryz.ntmps28
  go_wp2_with (first | (go_at_call_of 32 (Value.agg #[.bool na, sa]); refine (HR1.out _ (ha.below (by go_grown))).mono ?_; rintro e w' ⟨rfl, rfl⟩) | (go_at_call_of 32 (Value.agg #[.bool nb, sb]); refine (HR2.out _ (hb.below (by go_grown))).mono ?_; rintro e w' ⟨rfl, rfl⟩))
  have HB : Box3 ((((w.alloc (.cells #[.bool na, sa] 27)).alloc (.cells #[.bool nb, sb] 27)).alloc (.cells #[.bool false, .slice none 0 0] 27)).alloc (.cells #[.bool na, sa] 27) |>.alloc (.cells #[.bool nb, sb] 27)) w.heap.size na nb sa sb a.natAbs b.natAbs :=
    box3_new ha hb (by go_grown)
  have HBL : Below w.heap.size w ((((w.alloc (.cells #[.bool na, sa] 27)).alloc (.cells #[.bool nb, sb] 27)).alloc (.cells #[.bool false, .slice none 0 0] 27)).alloc (.cells #[.bool na, sa] 27) |>.alloc (.cells #[.bool nb, sb] 27)) := by go_grown
  revert HB HBL
  generalize ((((w.alloc (.cells #[.bool na, sa] 27)).alloc (.cells #[.bool nb, sb] 27)).alloc (.cells #[.bool false, .slice none 0 0] 27)).alloc (.cells #[.bool na, sa] 27) |>.alloc (.cells #[.bool nb, sb] 27)) = W
  intro HB HBL
  go_wp2_with (go_at_call 68; refine (compare_any HB.sa HB.sb (by omega) (by omega)).mono ?_; rintro e W5 ⟨rfl, hbW⟩)
  replace HBL := HBL.trans (hbW.mono HBL.size)
  replace HB := HB.below hbW
  clear hbW
  obtain ⟨W, rfl⟩ : ∃ W, W = W5 := ⟨_, rfl⟩
  have a0 := HB.a0
  have a1 := HB.a1
  have b0 := HB.b0
  have b1 := HB.b1
  obtain ⟨n, hn⟩ : ∃ n, n = (digs (a.natAbs - b.natAbs)).length := ⟨_, rfl⟩
  have HN := Lib.hid hn
  clear hn
  go_region_held3 (fun w' => w'.cell? ⟨w.heap.size, 0, none⟩ = some (.bool na) ∧ w'.cell? ⟨w.heap.size, 1, none⟩ = some sa ∧ w'.cell? ⟨w.heap.size + 1, 0, none⟩ = some (.bool nb) ∧ w'.cell? ⟨w.heap.size + 1, 1, none⟩ = some sb)
      (first | (exact HB.keep (by go_grown)) | (exact HB.keep (hbw.alloc hbw0 _)) | (exact HB.keep ((hbw.alloc hbw0 _).setCell (by simp) _)))
      ((first | (go_at_call 46; refine (minus_at (HB.below (by go_grown)).sa (HB.below (by go_grown)).sb la (by omega) HN.out.symm).mono ?_; rintro e w1 ⟨ao, cap, rfl, hs1, hb1⟩; have hb1' : Below W.heap.size W w1 := Below.trans (by go_grown) hb1; have HB1 := HB.below hb1'; obtain ⟨r0, r1, f0, f1⟩ := HB1.cells; have hz := HB1.lt; have hbw := hb1'.mono (Nat.le_of_lt HB.lt); have hbw0 := Nat.le_of_lt hz) | (go_at_call 47; refine (made_any _ _ _ _ _).mono ?_; rintro e w2 ⟨rfl, rfl⟩)))
  have HHs := Lib.hid hs1
  clear hs1
  have hfin : Below w.heap.size w (((w1.setCell ⟨w.heap.size + 1 + 1, 0, none⟩ (.bool (mkN na n))).setCell ⟨w.heap.size + 1 + 1, 1, none⟩ (.slice (mkA ao n) (mkL n) (mkC n cap))).alloc (.cells #[.bool (mkN na n), .slice (mkA ao n) (mkL n) (mkC n cap)] 27)) :=
    (((HBL.trans (hb1'.mono (by have := HB.lt; omega))).setCell (by simp; omega) _).setCell (by simp; omega) _).alloc (by simp; omega) _
  obtain ⟨q0, q1⟩ := res_cells HB1.r (.bool (mkN na n)) (.slice (mkA ao n) (mkL n) (mkC n cap)) (.cells #[.bool (mkN na n), .slice (mkA ao n) (mkL n) (mkC n cap)] 27)
  have hsw := HHs.out.after (g := w.heap.size + 1 + 1) HB.lt (.bool (mkN na n)) (.slice (mkA ao n) (mkL n) (mkC n cap)) (.cells #[.bool (mkN na n), .slice (mkA ao n) (mkL n) (mkC n cap)] 27)
  revert q0 q1 hfin hsw
  generalize (((w1.setCell ⟨w.heap.size + 1 + 1, 0, none⟩ (.bool (mkN na n))).setCell ⟨w.heap.size + 1 + 1, 1, none⟩ (.slice (mkA ao n) (mkL n) (mkC n cap))).alloc (.cells #[.bool (mkN na n), .slice (mkA ao n) (mkL n) (mkC n cap)] 27)) = W3
  intro hfin q0 q1 hsw
  have HSW := Lib.hid hsw
  clear hsw
  go_wp2
  refine bodyPost_ret (v := .tuple #[.agg #[.bool (mkN na n), .slice (mkA ao n) (mkL n) (mkC n cap)], .bool (mkK n)]) (by simp [results, Tryz.results28, go_sem, q0, q1]) rfl ?_
  exact numRes_made hfin (by rw [HAB.out]; exact HN.out) (fun hz => by rw [HNA.out]; exact HSG.out hz) (fun _ => by rw [HAB.out]; exact HSW.out.mono (by simp; exact HBL.size))


/-- num.Add of right numbers. -/
theorem add_any {w : World} {x y : Value} {a b : Int} (hx : Nu w x a) (hy : Nu w y b) : Calls Tryz.prog 28 #[x, y] w (NumRes w (a + b)) := by
  by_cases hs : decide (a < 0) = decide (b < 0)
  · exact add_same hx hy hs
  · rcases Nat.lt_or_ge a.natAbs b.natAbs with h | h
    · exact add_lt hx hy hs h
    · exact add_ge hx hy hs h

end Go.Proofs.YtdgmjmckeeeljaaGreatDoor

namespace Go.Proofs.YtdgmjmckeeeljaaGreatDoor
open Go.RowKit

theorem Nu.below {w w' : World} {x : Value} {z : Int} (h : Nu w x z) (hb : Below w.heap.size w w') : Nu w' x z := by
  obtain ⟨s, e, h1, h2⟩ := h
  exact ⟨s, e, h1.below hb, h2⟩

theorem Nu.neg {w : World} {s : Value} {z : Int} (h : Sl w s (digs z.natAbs)) (hl : (digs z.natAbs).length ≤ 256) (hz : z ≠ 0) : Nu w (.agg #[.bool (!(decide (z < 0))), s]) (-z) := by
  refine ⟨s, ?_, by rw [Int.natAbs_neg]; exact h, by rw [Int.natAbs_neg]; exact hl⟩
  congr 3
  by_cases h : z < 0
  · simp [h]; omega
  · simp [h]; omega

/-- A box for a result. -/
def ResBox (W : World) (g : Nat) : Prop := W.heap[g]? = some (.cells #[.bool false, .slice none 0 0] 27 (0, 0))
theorem ResBox.lt {W : World} {g : Nat} (h : ResBox W g) : g < W.heap.size := (Array.getElem?_eq_some_iff.1 h).1
theorem ResBox.below {W W' : World} {g : Nat} (h : ResBox W g) (hb : Below W.heap.size W W') : ResBox W' g := (hb.block _ h.lt).trans h
theorem ResBox.cells {W : World} {g : Nat} (h : ResBox W g) :
    W.cell? ⟨g, 0, none⟩ = some (.bool false) ∧ W.cell? ⟨g, 1, none⟩ = some (.slice none 0 0) ∧ W.frozen? ⟨g, 0, none⟩ = false ∧ W.frozen? ⟨g, 1, none⟩ = false := by
  refine ⟨?_, ?_, frozen_of_row W _ _ _ _ h, frozen_of_row W _ _ _ _ h⟩ <;> rw [cell_of_row W _ _ _ _ _ h] <;> rfl
theorem ResBox.stored {w1 : World} {g : Nat} (h : ResBox w1 g) (u0 u1 : Value) :
    ((w1.setCell ⟨g, 0, none⟩ u0).setCell ⟨g, 1, none⟩ u1).cell? ⟨g, 0, none⟩ = some u0 ∧ ((w1.setCell ⟨g, 0, none⟩ u0).setCell ⟨g, 1, none⟩ u1).cell? ⟨g, 1, none⟩ = some u1 := by
  have h1 := heap_setCell_same w1 g 0 _ 27 u0 h
  have h2 := heap_setCell_same _ g 1 _ 27 u1 h1
  constructor <;> rw [cell_of_row _ _ _ _ _ _ h2] <;> rfl

/-- What a call returned, handed on through a box of an older number. -/
theorem NumRes.handed {w W W1 : World} {z : Int} {neg : Bool} {ao : Option Addr} {n cap g : Nat} (hB : Below w.heap.size w W) (hb : Below W.heap.size W W1) (hg : w.heap.size ≤ g) (hgW : g < W.heap.size)
    (h1 : fitsB z.natAbs = true → neg = decide (z < 0) ∧ Sw W.heap.size W1 (.slice ao n cap) (digs z.natAbs)) (h2 : fitsB z.natAbs = false → neg = false ∧ ao = none ∧ n = 0 ∧ cap = 0) (u0 u1 : Value) :
    NumRes w z (.returned (.tuple #[.agg #[.bool neg, .slice ao n cap], .bool (fitsB z.natAbs)])) ((W1.setCell ⟨g, 0, none⟩ u0).setCell ⟨g, 1, none⟩ u1) := by
  refine ⟨_, _, _, _, rfl, ((hB.trans (hb.mono hB.size)).setCell (by simpa using hg) _).setCell (by simpa using hg) _, fun hf => ?_, h2⟩
  obtain ⟨e1, e2⟩ := h1 hf
  refine ⟨e1, ?_⟩
  have := (e2.after2 hgW u0 u1).mono hB.size
  exact this

set_option maxRecDepth 10000 in
set_option maxHeartbeats 1000000 in
theorem sub_any {w : World} {x y : Value} {a b : Int} (hx : Nu w x a) (hy : Nu w y b) : Calls Tryz.prog 29 #[x, y] w (NumRes w (a - b)) := by
  have hx' := hx
  have hy' := hy
  obtain ⟨sa, rfl, ha, la⟩ := hx
  obtain ⟨sb, rfl, hb, lb⟩ := hy
  obtain ⟨ab, cb, rfl⟩ := hb.mk'
  have hyn : b ≠ 0 → Nu w (.agg #[.bool (!(decide (b < 0))), .slice ab (digs b.natAbs).length cb]) (-b) := Nu.neg hb lb
  obtain ⟨na, hna⟩ : ∃ na, na = decide (a < 0) := ⟨_, rfl⟩
  obtain ⟨nb, hnb⟩ : ∃ nb, nb = decide (b < 0) := ⟨_, rfl⟩
  obtain ⟨m, hm⟩ : ∃ m, m = (digs b.natAbs).length := ⟨_, rfl⟩
  rw [← hna] at hx'
  rw [← hnb, ← hm] at hyn hy'
  rw [← hna, ← hnb, ← hm]
  by_cases h0 : m = 0
  · subst h0
    have hb0 : b = 0 := by
      have : digs b.natAbs = [] := List.eq_nil_of_length_eq_zero hm.symm
      have : b.natAbs = 0 := digs_inj (by rw [this, digs_zero])
      omega
    have e1 : a + b = a - b := by omega
    have E1 := Lib.hid e1
    clear hyn hna hnb hm hb0 ha la hb lb e1
    go_enter Tryz.func29, Tryz.ntmps29
    go_wp2_with fail
    have hr : ResBox (((w.alloc (.cells #[.bool na, sa] 27)).alloc (.cells #[.bool nb, .slice ab 0 cb] 27)).alloc (.cells #[.bool false, .slice none 0 0] 27)) (w.heap.size + 1 + 1) := (heap_three w _ _ _).2.2
    have hbl : Below w.heap.size w (((w.alloc (.cells #[.bool na, sa] 27)).alloc (.cells #[.bool nb, .slice ab 0 cb] 27)).alloc (.cells #[.bool false, .slice none 0 0] 27)) := by go_grown
    have hadd := add_any (hx'.below hbl) (hy'.below hbl)
    rw [E1.out] at hadd
    revert hr hbl hadd
    generalize ((w.alloc (.cells #[.bool na, sa] 27)).alloc (.cells #[.bool nb, .slice ab 0 cb] 27)).alloc (.cells #[.bool false, .slice none 0 0] 27) = W0
    intro hr hbl hadd
    refine hadd.mono ?_
    rintro e W1 ⟨neg, ao, n, cap, rfl, hb1, h1, h2⟩
    have hr1 := hr.below hb1
    obtain ⟨r0, r1, f0, f1⟩ := hr1.cells
    obtain ⟨q0, q1⟩ := hr1.stored (.bool neg) (.slice ao n cap)
    have hfin := NumRes.handed hbl hb1 (show w.heap.size ≤ w.heap.size + 1 + 1 by omega) hr.lt h1 h2 (.bool neg) (.slice ao n cap)
    have HF := Lib.hid hfin
    have H1 := Lib.hid h1
    have H2 := Lib.hid h2
    clear hfin h1 h2 hr hr1 hbl hb1
    go_wp2
    refine bodyPost_ret (v := .tuple #[.agg #[.bool neg, .slice ao n cap], .bool (fitsB (a - b).natAbs)]) (by simp [results, Tryz.results29, go_sem, q0, q1]) rfl ?_
    exact HF.out
  · have hb0 : b ≠ 0 := by
      intro h; apply h0; rw [hm, h]; show (digs 0).length = 0; rw [digs_zero]; rfl
    have hyn' := hyn hb0
    have hpos : 0 < (m : Int) := by omega
    have e1 : a + -b = a - b := by omega
    have E1 := Lib.hid e1
    clear hyn hna hnb hm hb0 ha la hb lb e1
    go_enter Tryz.func29, Tryz.ntmps29
    go_wp2_with fail
    have hr : ResBox (((w.alloc (.cells #[.bool na, sa] 27)).alloc (.cells #[.bool !nb, .slice ab m cb] 27)).alloc (.cells #[.bool false, .slice none 0 0] 27)) (w.heap.size + 1 + 1) := (heap_three w _ _ _).2.2
    have hbl : Below w.heap.size w (((w.alloc (.cells #[.bool na, sa] 27)).alloc (.cells #[.bool !nb, .slice ab m cb] 27)).alloc (.cells #[.bool false, .slice none 0 0] 27)) := by go_grown
    have hadd := add_any (hx'.below hbl) (hyn'.below hbl)
    rw [E1.out] at hadd
    revert hr hbl hadd
    generalize ((w.alloc (.cells #[.bool na, sa] 27)).alloc (.cells #[.bool !nb, .slice ab m cb] 27)).alloc (.cells #[.bool false, .slice none 0 0] 27) = W0
    intro hr hbl hadd
    refine hadd.mono ?_
    rintro e W1 ⟨neg, ao, n, cap, rfl, hb1, h1, h2⟩
    have hr1 := hr.below hb1
    obtain ⟨r0, r1, f0, f1⟩ := hr1.cells
    obtain ⟨q0, q1⟩ := hr1.stored (.bool neg) (.slice ao n cap)
    have hfin := NumRes.handed hbl hb1 (show w.heap.size ≤ w.heap.size + 1 + 1 by omega) hr.lt h1 h2 (.bool neg) (.slice ao n cap)
    have HF := Lib.hid hfin
    have H1 := Lib.hid h1
    have H2 := Lib.hid h2
    clear hfin h1 h2 hr hr1 hbl hb1
    go_wp2
    refine bodyPost_ret (v := .tuple #[.agg #[.bool neg, .slice ao n cap], .bool (fitsB (a - b).natAbs)]) (by simp [results, Tryz.results29, go_sem, q0, q1]) rfl ?_
    exact HF.out

end Go.Proofs.YtdgmjmckeeeljaaGreatDoor

namespace Go.Proofs.YtdgmjmckeeeljaaGreatDoor
open Go.RowKit

/-- A Num of the integer z in new memory. -/
def NewNum (w : World) (z : Int) (e : Ending) (w' : World) : Prop :=
  ∃ neg ao n cap, e = .returned (.agg #[.bool neg, .slice ao n cap]) ∧ Below w.heap.size w w' ∧ neg = decide (z < 0) ∧ Sw w.heap.size w' (.slice ao n cap) (digs z.natAbs)

theorem digitsOf_at {x n : Nat} (w : World) (hx : x / 4294967296 < 4294967296) (hn : (digs x).length = n) :
    Calls Tryz.prog 67 #[.int .u64 x] w fun e w' => ∃ ao cap, e = .returned (.slice ao n cap) ∧ Sw w.heap.size w' (.slice ao n cap) (digs x) ∧ Below w.heap.size w w' := by
  refine (digitsOf_any x w hx).mono ?_
  rintro e w' ⟨v, rfl, hs, hbl⟩
  obtain ⟨ao, cap, rfl⟩ := hs.sl.mk'
  subst hn
  exact ⟨ao, cap, rfl, hs, hbl⟩

theorem digs_word {x : Nat} (hx : x / 4294967296 < 4294967296) : (digs x).length ≤ 2 := digs_length_le.2 (by rw [show (4294967296 : Nat) ^ 2 = 4294967296 * 4294967296 from rfl]; omega)

theorem mk_ok {B : Nat} {W : World} {z : Int} {neg : Bool} {ao : Option Addr} {n cap : Nat} (hn : n = (digs z.natAbs).length) (hle : n ≤ 256) (hneg : z ≠ 0 → neg = decide (z < 0)) (hs : n ≠ 0 → Sw B W (.slice ao n cap) (digs z.natAbs)) :
    mkN neg n = decide (z < 0) ∧ Sw B W (.slice (mkA ao n) (mkL n) (mkC n cap)) (digs z.natAbs) := by
  by_cases h0 : n = 0
  · have hz : z = 0 := by
      have : digs z.natAbs = [] := List.eq_nil_of_length_eq_zero (by omega)
      have : z.natAbs = 0 := digs_inj (by rw [this, digs_zero])
      omega
    subst hz
    have hn' : ¬ (n ≤ 256 ∧ n ≠ 0) := by omega
    unfold mkN mkA mkL mkC
    rw [if_neg hn', if_neg hn', if_neg hn', if_neg hn']
    exact ⟨rfl, by rw [show digs (Int.natAbs 0) = [] from digs_zero]; exact Sw.nil _ _ _ _⟩
  · have hn' : n ≤ 256 ∧ n ≠ 0 := ⟨hle, h0⟩
    unfold mkN mkA mkL mkC
    rw [if_pos hn', if_pos hn', if_pos hn', if_pos hn']
    refine ⟨hneg ?_, hs h0⟩
    intro hz
    subst hz
    apply h0
    rw [hn]
    show (digs 0).length = 0
    rw [digs_zero]; rfl

theorem resbox_new (w : World) : ResBox (w.alloc (.cells #[.bool false, .slice none 0 0] 27)) w.heap.size := heap_alloc_new w _

set_option maxRecDepth 10000 in
set_option maxHeartbeats 1000000 in
theorem of_nonneg (m : Nat) (w : World) (hm : m / 4294967296 < 2147483648) : Calls Tryz.prog 27 #[.int .i64 (m)] w (NewNum w (m)) := by
  have hl := digs_word (x := m) (by omega)
  have hd := fun W => digitsOf_at (x := m) W (by omega) rfl
  obtain ⟨n, hn⟩ : ∃ n, n = (digs m).length := ⟨_, rfl⟩
  rw [← hn] at hl hd
  have HD := Lib.hid hd
  have HN := Lib.hid hn
  clear hd hn
  go_enter Tryz.func27, Tryz.ntmps27
  go_wp2_with (first | (go_at_call 67; refine (HD.out _).mono ?_; rintro e w1 ⟨ao, cap, rfl, hs1, hb1⟩; have hr1 := (resbox_new w).below hb1; obtain ⟨r0, r1, f0, f1⟩ := hr1.cells; have hz := hr1.lt; have HHs := Lib.hid hs1; clear hs1) | (go_at_call 47; refine (made_any _ _ _ _ _).mono ?_; rintro e w2 ⟨rfl, rfl⟩))
  have hst : Below ((w1.setCell ⟨w.heap.size, 0, none⟩ (.bool (mkN (decide ((m : Int) < 0)) n))).setCell ⟨w.heap.size, 1, none⟩ (.slice (mkA ao n) (mkL n) (mkC n cap))).heap.size ((w1.setCell ⟨w.heap.size, 0, none⟩ (.bool (mkN (decide ((m : Int) < 0)) n))).setCell ⟨w.heap.size, 1, none⟩ (.slice (mkA ao n) (mkL n) (mkC n cap))) ((((w1.setCell ⟨w.heap.size, 0, none⟩ (.bool (mkN (decide ((m : Int) < 0)) n))).setCell ⟨w.heap.size, 1, none⟩ (.slice (mkA ao n) (mkL n) (mkC n cap))).alloc (.cells #[.bool (mkN (decide ((m : Int) < 0)) n), .slice (mkA ao n) (mkL n) (mkC n cap)] 27)).alloc (.cells #[.bool (mkN (decide ((m : Int) < 0)) n), .slice (mkA ao n) (mkL n) (mkC n cap)] 27)) := ((Below.refl _ _).alloc (Nat.le_refl _) _).alloc (by simp) _
  obtain ⟨q0, q1⟩ := hr1.stored (.bool (mkN (decide ((m : Int) < 0)) n)) (.slice (mkA ao n) (mkL n) (mkC n cap))
  replace q0 := cell_later hst q0
  replace q1 := cell_later hst q1
  have hb2 : Below w.heap.size w ((((w1.setCell ⟨w.heap.size, 0, none⟩ (.bool (mkN (decide ((m : Int) < 0)) n))).setCell ⟨w.heap.size, 1, none⟩ (.slice (mkA ao n) (mkL n) (mkC n cap))).alloc (.cells #[.bool (mkN (decide ((m : Int) < 0)) n), .slice (mkA ao n) (mkL n) (mkC n cap)] 27)).alloc (.cells #[.bool (mkN (decide ((m : Int) < 0)) n), .slice (mkA ao n) (mkL n) (mkC n cap)] 27)) := (((((Below.refl w.heap.size w).alloc (Nat.le_refl _) _).trans (hb1.mono (by simp))).setCell (by simp) _).setCell (by simp) _).trans (hst.mono (by simp; omega))
  have hsw : Sw w.heap.size ((((w1.setCell ⟨w.heap.size, 0, none⟩ (.bool (mkN (decide ((m : Int) < 0)) n))).setCell ⟨w.heap.size, 1, none⟩ (.slice (mkA ao n) (mkL n) (mkC n cap))).alloc (.cells #[.bool (mkN (decide ((m : Int) < 0)) n), .slice (mkA ao n) (mkL n) (mkC n cap)] 27)).alloc (.cells #[.bool (mkN (decide ((m : Int) < 0)) n), .slice (mkA ao n) (mkL n) (mkC n cap)] 27)) (.slice ao n cap) (digs m) := ((HHs.out.after2 (g := w.heap.size) (by simp) (.bool (mkN (decide ((m : Int) < 0)) n)) (.slice (mkA ao n) (mkL n) (mkC n cap))).below hst).mono (by simp)
  revert q0 q1 hb2 hsw
  clear hst
  generalize (((w1.setCell ⟨w.heap.size, 0, none⟩ (.bool (mkN (decide ((m : Int) < 0)) n))).setCell ⟨w.heap.size, 1, none⟩ (.slice (mkA ao n) (mkL n) (mkC n cap))).alloc (.cells #[.bool (mkN (decide ((m : Int) < 0)) n), .slice (mkA ao n) (mkL n) (mkC n cap)] 27)).alloc (.cells #[.bool (mkN (decide ((m : Int) < 0)) n), .slice (mkA ao n) (mkL n) (mkC n cap)] 27) = W3
  intro q0 q1 hb2 hsw
  have hmk := mk_ok (B := w.heap.size) (W := W3) (n := n) (ao := ao) (cap := cap) (z := m) (neg := (decide ((m : Int) < 0))) (by rw [Int.natAbs_natCast]; exact HN.out) (by omega) (by simp) (fun _ => by rw [Int.natAbs_natCast]; exact hsw)
  refine bodyPost_ret (v := .agg #[.bool (mkN (decide ((m : Int) < 0)) n), .slice (mkA ao n) (mkL n) (mkC n cap)]) (by simp [results, Tryz.results27, go_sem, q0, q1]) rfl ?_
  exact ⟨_, _, _, _, rfl, hb2, hmk.1, hmk.2⟩

set_option maxRecDepth 10000 in
set_option maxHeartbeats 1000000 in
theorem of_neg (m : Nat) (w : World) (hm : m / 4294967296 < 2147483648 ∨ m = 9223372036854775808) (h0 : m ≠ 0) : Calls Tryz.prog 27 #[.int .i64 (-(m : Int))] w (NewNum w (-(m : Int))) := by
  have hl := digs_word (x := m) (by omega)
  have hd := fun W => digitsOf_at (x := m) W (by omega) rfl
  obtain ⟨n, hn⟩ : ∃ n, n = (digs m).length := ⟨_, rfl⟩
  rw [← hn] at hl hd
  have HD := Lib.hid hd
  have HN := Lib.hid hn
  clear hd hn
  obtain ⟨U, hU⟩ : ∃ U, U = IntKind.u64.wrap (-(m : Int)) := ⟨_, rfl⟩
  have hU2 : IntKind.u64.wrap (-U) = m := by rw [hU]; simp only [IntKind.wrap_u64]; omega
  have hlt : -(m : Int) < 0 := by omega
  replace hU := hU.symm
  have HM := Lib.hid hm
  clear hm
  go_enter Tryz.func27, Tryz.ntmps27
  go_wp2_with (first | (go_at_call 67; refine (HD.out _).mono ?_; rintro e w1 ⟨ao, cap, rfl, hs1, hb1⟩; have hr1 := (resbox_new w).below hb1; obtain ⟨r0, r1, f0, f1⟩ := hr1.cells; have hz := hr1.lt; have HHs := Lib.hid hs1; clear hs1) | (go_at_call 47; refine (made_any _ _ _ _ _).mono ?_; rintro e w2 ⟨rfl, rfl⟩))
  have hst : Below ((w1.setCell ⟨w.heap.size, 0, none⟩ (.bool (mkN true n))).setCell ⟨w.heap.size, 1, none⟩ (.slice (mkA ao n) (mkL n) (mkC n cap))).heap.size ((w1.setCell ⟨w.heap.size, 0, none⟩ (.bool (mkN true n))).setCell ⟨w.heap.size, 1, none⟩ (.slice (mkA ao n) (mkL n) (mkC n cap))) ((((w1.setCell ⟨w.heap.size, 0, none⟩ (.bool (mkN true n))).setCell ⟨w.heap.size, 1, none⟩ (.slice (mkA ao n) (mkL n) (mkC n cap))).alloc (.cells #[.bool (mkN true n), .slice (mkA ao n) (mkL n) (mkC n cap)] 27)).alloc (.cells #[.bool (mkN true n), .slice (mkA ao n) (mkL n) (mkC n cap)] 27)) := ((Below.refl _ _).alloc (Nat.le_refl _) _).alloc (by simp) _
  obtain ⟨q0, q1⟩ := hr1.stored (.bool (mkN true n)) (.slice (mkA ao n) (mkL n) (mkC n cap))
  replace q0 := cell_later hst q0
  replace q1 := cell_later hst q1
  have hb2 : Below w.heap.size w ((((w1.setCell ⟨w.heap.size, 0, none⟩ (.bool (mkN true n))).setCell ⟨w.heap.size, 1, none⟩ (.slice (mkA ao n) (mkL n) (mkC n cap))).alloc (.cells #[.bool (mkN true n), .slice (mkA ao n) (mkL n) (mkC n cap)] 27)).alloc (.cells #[.bool (mkN true n), .slice (mkA ao n) (mkL n) (mkC n cap)] 27)) := (((((Below.refl w.heap.size w).alloc (Nat.le_refl _) _).trans (hb1.mono (by simp))).setCell (by simp) _).setCell (by simp) _).trans (hst.mono (by simp; omega))
  have hsw : Sw w.heap.size ((((w1.setCell ⟨w.heap.size, 0, none⟩ (.bool (mkN true n))).setCell ⟨w.heap.size, 1, none⟩ (.slice (mkA ao n) (mkL n) (mkC n cap))).alloc (.cells #[.bool (mkN true n), .slice (mkA ao n) (mkL n) (mkC n cap)] 27)).alloc (.cells #[.bool (mkN true n), .slice (mkA ao n) (mkL n) (mkC n cap)] 27)) (.slice ao n cap) (digs m) := ((HHs.out.after2 (g := w.heap.size) (by simp) (.bool (mkN true n)) (.slice (mkA ao n) (mkL n) (mkC n cap))).below hst).mono (by simp)
  revert q0 q1 hb2 hsw
  clear hst
  generalize (((w1.setCell ⟨w.heap.size, 0, none⟩ (.bool (mkN true n))).setCell ⟨w.heap.size, 1, none⟩ (.slice (mkA ao n) (mkL n) (mkC n cap))).alloc (.cells #[.bool (mkN true n), .slice (mkA ao n) (mkL n) (mkC n cap)] 27)).alloc (.cells #[.bool (mkN true n), .slice (mkA ao n) (mkL n) (mkC n cap)] 27) = W3
  intro q0 q1 hb2 hsw
  have hmk := mk_ok (B := w.heap.size) (W := W3) (n := n) (ao := ao) (cap := cap) (z := -(m : Int)) (neg := true) (by rw [Int.natAbs_neg, Int.natAbs_natCast]; exact HN.out) (by omega) (by intro _; simp; omega) (fun _ => by rw [Int.natAbs_neg, Int.natAbs_natCast]; exact hsw)
  refine bodyPost_ret (v := .agg #[.bool (mkN true n), .slice (mkA ao n) (mkL n) (mkC n cap)]) (by simp [results, Tryz.results27, go_sem, q0, q1]) rfl ?_
  exact ⟨_, _, _, _, rfl, hb2, hmk.1, hmk.2⟩

end Go.Proofs.YtdgmjmckeeeljaaGreatDoor

namespace Go.Proofs.YtdgmjmckeeeljaaGreatDoor
open Go.RowKit

theorem of_any (n : Int) (w : World) (h1 : -9223372036854775808 ≤ n) (h2 : n ≤ 9223372036854775807) : Calls Tryz.prog 27 #[.int .i64 n] w (NewNum w n) := by
  by_cases h : 0 ≤ n
  · obtain ⟨m, rfl⟩ : ∃ m : Nat, n = m := ⟨n.toNat, by omega⟩
    exact of_nonneg m w (by omega)
  · obtain ⟨m, rfl⟩ : ∃ m : Nat, n = -(m : Int) := ⟨(-n).toNat, by omega⟩
    exact of_neg m w (by omega) (by omega)

theorem NewNum.nu {w w' : World} {z : Int} {e : Ending} (h : NewNum w z e w') (hl : (digs z.natAbs).length ≤ 256) : ∃ x, e = .returned x ∧ Nu w' x z ∧ Below w.heap.size w w' := by
  obtain ⟨neg, ao, n, cap, rfl, hb, rfl, hs⟩ := h
  exact ⟨_, rfl, ⟨_, rfl, hs.sl, hl⟩, hb⟩

theorem rightB_of (neg : Bool) (x : Nat) (h : neg = true → x ≠ 0) (hl : (digs x).length ≤ 256) : rightB neg (digs x) = true := by
  cases neg with
  | false =>
    have := rightB_digs (x : Int) (by simpa using hl)
    have e : decide ((x : Int) < 0) = false := decide_eq_false (by omega)
    rw [e] at this
    simpa using this
  | true =>
    have := rightB_digs (-(x : Int)) (by simpa using hl)
    have e : decide (-(x : Int) < 0) = true := by have := h rfl; simp; omega
    rw [e] at this
    simpa using this

theorem lss_big (x : Nat) (h : x < 9223372036854775808) : binOp BinOp.lss 69 (.int .u64 (x : Int)) (.int .u64 9223372036854775808) = (pure (.bool true) : Sem Value) := by
  have h' : decide ((x : Int) < 9223372036854775808) = true := decide_eq_true (by omega)
  have e : binOp BinOp.lss 69 (.int .u64 (x : Int)) (.int .u64 9223372036854775808) = (pure (.bool (decide ((x : Int) < 9223372036854775808))) : Sem Value) := rfl
  rw [e, h']
theorem lss_big' (x : Nat) (h : 9223372036854775808 ≤ x) : binOp BinOp.lss 69 (.int .u64 (x : Int)) (.int .u64 9223372036854775808) = (pure (.bool false) : Sem Value) := by
  have h' : decide ((x : Int) < 9223372036854775808) = false := decide_eq_false (by omega)
  have e : binOp BinOp.lss 69 (.int .u64 (x : Int)) (.int .u64 9223372036854775808) = (pure (.bool (decide ((x : Int) < 9223372036854775808))) : Sem Value) := rfl
  rw [e, h']

def IntRes (w : World) (z : Int) (ok : Bool) (e : Ending) (w' : World) : Prop := e = .returned (.tuple #[.int .i64 z, .bool ok]) ∧ Below w.heap.size w w'

set_option maxRecDepth 10000 in
set_option maxHeartbeats 1000000 in
theorem int_pos {w : World} {sa : Value} (x : Nat) (ha : Sl w sa (digs x)) (la : (digs x).length ≤ 256) (h : x < 9223372036854775808) :
    Calls Tryz.prog 26 #[.agg #[.bool false, sa]] w (IntRes w (x) true) := by
  have ra : ∀ W, Sl W sa (digs x) → Calls Tryz.prog 32 #[.agg #[.bool false, sa]] W fun e w' => e = .returned (.bool true) ∧ w' = W.alloc (.cells #[.bool false, sa] 27) := fun W h => by
    have := right_any false h (by omega)
    have e : rightB false (digs x) = true := rightB_of _ _ (fun h => by cases h) la
    rwa [e] at this
  have HR := Lib.hid ra
  clear ra
  obtain ⟨aa, ca, rfl⟩ := ha.mk'
  obtain ⟨n, hn⟩ : ∃ n, n = (digs x).length := ⟨_, rfl⟩
  have hv := val_digs x
  rw [← hn] at ha ⊢
  rw [← hn] at HR
  have h2 : n ≤ 2 := by rw [hn]; exact digs_word (by omega)
  have WD : Hid (∀ W, Sl W (.slice aa n ca) (digs x) → Calls Tryz.prog 66 #[.slice aa n ca] W fun e w' => e = .returned (.int .u64 (x : Nat)) ∧ w' = W) := fun W h => by
    have := word_any h (by omega)
    rwa [hv] at this
  have HL := Lib.hid la
  have HN := Lib.hid hn
  have hb := lss_big x h
  have HW := Lib.hid (IntWalk.wrap64_in (x : Int) (by omega))
  clear hn la hv h
  go_enter Tryz.func26, Tryz.ntmps26
  go_wp2_with (first | (go_at_call 32; refine (HR.out _ (ha.below (by go_grown))).mono ?_; rintro e w' ⟨rfl, rfl⟩) | (go_at_call 66; refine (WD.out _ (ha.below (by go_grown))).mono ?_; rintro e w' ⟨rfl, rfl⟩))
  go_returns
  refine ⟨?_, by go_grown⟩
  show Ending.returned (.tuple #[.int .i64 (wrap64 (x : Int)), .bool true]) = _
  rw [HW.out]

set_option maxRecDepth 10000 in
set_option maxHeartbeats 1000000 in
theorem int_neg {w : World} {sa : Value} (x : Nat) (ha : Sl w sa (digs x)) (la : (digs x).length ≤ 256) (h : x ≤ 9223372036854775808) (h0 : x ≠ 0) :
    Calls Tryz.prog 26 #[.agg #[.bool true, sa]] w (IntRes w (-(x : Int)) true) := by
  have ra : ∀ W, Sl W sa (digs x) → Calls Tryz.prog 32 #[.agg #[.bool true, sa]] W fun e w' => e = .returned (.bool true) ∧ w' = W.alloc (.cells #[.bool true, sa] 27) := fun W h => by
    have := right_any true h (by omega)
    have e : rightB true (digs x) = true := rightB_of _ _ (fun _ => h0) la
    rwa [e] at this
  have HR := Lib.hid ra
  clear ra
  obtain ⟨aa, ca, rfl⟩ := ha.mk'
  obtain ⟨n, hn⟩ : ∃ n, n = (digs x).length := ⟨_, rfl⟩
  have hv := val_digs x
  rw [← hn] at ha ⊢
  rw [← hn] at HR
  have h2 : n ≤ 2 := by rw [hn]; exact digs_word (by omega)
  have WD : Hid (∀ W, Sl W (.slice aa n ca) (digs x) → Calls Tryz.prog 66 #[.slice aa n ca] W fun e w' => e = .returned (.int .u64 (x : Nat)) ∧ w' = W) := fun W h => by
    have := word_any h (by omega)
    rwa [hv] at this
  have HL := Lib.hid la
  have HN := Lib.hid hn
  obtain ⟨U, hU⟩ : ∃ U, U = IntKind.u64.wrap (-(x : Int)) := ⟨_, rfl⟩
  have hU2 : IntKind.i64.wrap U = -(x : Int) := by rw [hU]; simp only [IntKind.wrap_u64, IntKind.wrap_i64]; omega
  replace hU := hU.symm
  have hle : (x : Int) ≤ 9223372036854775808 := by omega
  clear hn la hv h h0
  go_enter Tryz.func26, Tryz.ntmps26
  go_wp2_with (first | (go_at_call 32; refine (HR.out _ (ha.below (by go_grown))).mono ?_; rintro e w' ⟨rfl, rfl⟩) | (go_at_call 66; refine (WD.out _ (ha.below (by go_grown))).mono ?_; rintro e w' ⟨rfl, rfl⟩))
  go_returns
  exact ⟨rfl, by go_grown⟩

set_option maxRecDepth 10000 in
set_option maxHeartbeats 1000000 in
theorem int_long {w : World} {sa : Value} (x : Nat) (ha : Sl w sa (digs x)) (la : (digs x).length ≤ 256) (neg : Bool) (h0 : neg = true → x ≠ 0) (h : 2 < (digs x).length) :
    Calls Tryz.prog 26 #[.agg #[.bool neg, sa]] w (IntRes w (0) false) := by
  have ra : ∀ W, Sl W sa (digs x) → Calls Tryz.prog 32 #[.agg #[.bool neg, sa]] W fun e w' => e = .returned (.bool true) ∧ w' = W.alloc (.cells #[.bool neg, sa] 27) := fun W h => by
    have := right_any neg h (by omega)
    have e : rightB neg (digs x) = true := rightB_of _ _ h0 la
    rwa [e] at this
  have HR := Lib.hid ra
  clear ra
  obtain ⟨aa, ca, rfl⟩ := ha.mk'
  obtain ⟨n, hn⟩ : ∃ n, n = (digs x).length := ⟨_, rfl⟩
  have hv := val_digs x
  rw [← hn] at ha ⊢
  rw [← hn] at HR
  have h2 : 2 < n := by rw [hn]; exact h
  clear hn la hv h
  go_enter Tryz.func26, Tryz.ntmps26
  go_wp2_with (first | (go_at_call 32; refine (HR.out _ (ha.below (by go_grown))).mono ?_; rintro e w' ⟨rfl, rfl⟩))
  go_returns
  exact ⟨rfl, by go_grown⟩

set_option maxRecDepth 10000 in
set_option maxHeartbeats 1000000 in
theorem int_over {w : World} {sa : Value} (x : Nat) (ha : Sl w sa (digs x)) (la : (digs x).length ≤ 256) (h : 9223372036854775808 ≤ x) (h2' : (digs x).length ≤ 2) :
    Calls Tryz.prog 26 #[.agg #[.bool false, sa]] w (IntRes w (0) false) := by
  have ra : ∀ W, Sl W sa (digs x) → Calls Tryz.prog 32 #[.agg #[.bool false, sa]] W fun e w' => e = .returned (.bool true) ∧ w' = W.alloc (.cells #[.bool false, sa] 27) := fun W h => by
    have := right_any false h (by omega)
    have e : rightB false (digs x) = true := rightB_of _ _ (fun h => by cases h) la
    rwa [e] at this
  have HR := Lib.hid ra
  clear ra
  obtain ⟨aa, ca, rfl⟩ := ha.mk'
  obtain ⟨n, hn⟩ : ∃ n, n = (digs x).length := ⟨_, rfl⟩
  have hv := val_digs x
  rw [← hn] at ha ⊢
  rw [← hn] at HR
  have h2 : n ≤ 2 := by rw [hn]; exact h2'
  have WD : Hid (∀ W, Sl W (.slice aa n ca) (digs x) → Calls Tryz.prog 66 #[.slice aa n ca] W fun e w' => e = .returned (.int .u64 (x : Nat)) ∧ w' = W) := fun W h => by
    have := word_any h (by omega)
    rwa [hv] at this
  have HL := Lib.hid la
  have HN := Lib.hid hn
  have hb := lss_big' x h
  clear hn la hv h h2'
  go_enter Tryz.func26, Tryz.ntmps26
  go_wp2_with (first | (go_at_call 32; refine (HR.out _ (ha.below (by go_grown))).mono ?_; rintro e w' ⟨rfl, rfl⟩) | (go_at_call 66; refine (WD.out _ (ha.below (by go_grown))).mono ?_; rintro e w' ⟨rfl, rfl⟩))
  go_returns
  exact ⟨rfl, by go_grown⟩

set_option maxRecDepth 10000 in
set_option maxHeartbeats 1000000 in
theorem int_under {w : World} {sa : Value} (x : Nat) (ha : Sl w sa (digs x)) (la : (digs x).length ≤ 256) (h : 9223372036854775808 < x) (h2' : (digs x).length ≤ 2) (h0 : x ≠ 0) :
    Calls Tryz.prog 26 #[.agg #[.bool true, sa]] w (IntRes w (0) false) := by
  have ra : ∀ W, Sl W sa (digs x) → Calls Tryz.prog 32 #[.agg #[.bool true, sa]] W fun e w' => e = .returned (.bool true) ∧ w' = W.alloc (.cells #[.bool true, sa] 27) := fun W h => by
    have := right_any true h (by omega)
    have e : rightB true (digs x) = true := rightB_of _ _ (fun _ => h0) la
    rwa [e] at this
  have HR := Lib.hid ra
  clear ra
  obtain ⟨aa, ca, rfl⟩ := ha.mk'
  obtain ⟨n, hn⟩ : ∃ n, n = (digs x).length := ⟨_, rfl⟩
  have hv := val_digs x
  rw [← hn] at ha ⊢
  rw [← hn] at HR
  have h2 : n ≤ 2 := by rw [hn]; exact h2'
  have WD : Hid (∀ W, Sl W (.slice aa n ca) (digs x) → Calls Tryz.prog 66 #[.slice aa n ca] W fun e w' => e = .returned (.int .u64 (x : Nat)) ∧ w' = W) := fun W h => by
    have := word_any h (by omega)
    rwa [hv] at this
  have HL := Lib.hid la
  have HN := Lib.hid hn
  have hle : ¬ (x : Int) ≤ 9223372036854775808 := by omega
  clear hn la hv h h2' h0
  go_enter Tryz.func26, Tryz.ntmps26
  go_wp2_with (first | (go_at_call 32; refine (HR.out _ (ha.below (by go_grown))).mono ?_; rintro e w' ⟨rfl, rfl⟩) | (go_at_call 66; refine (WD.out _ (ha.below (by go_grown))).mono ?_; rintro e w' ⟨rfl, rfl⟩))
  go_returns
  exact ⟨rfl, by go_grown⟩

/-- num.Int of a right number whose int there is. -/
theorem int_yes {w : World} {x : Value} {z : Int} (hx : Nu w x z) (h1 : -9223372036854775808 ≤ z) (h2 : z ≤ 9223372036854775807) : Calls Tryz.prog 26 #[x] w (IntRes w z true) := by
  obtain ⟨sa, rfl, ha, la⟩ := hx
  by_cases h : 0 ≤ z
  · have e1 : decide (z < 0) = false := decide_eq_false (by omega)
    have e2 : ((z.natAbs : Nat) : Int) = z := by omega
    have := int_pos z.natAbs ha la (by omega)
    rw [e2] at this
    rw [e1]
    exact this
  · have e1 : decide (z < 0) = true := decide_eq_true (by omega)
    have e2 : -((z.natAbs : Nat) : Int) = z := by omega
    have := int_neg z.natAbs ha la (by omega) (by omega)
    rw [e2] at this
    rw [e1]
    exact this

/-- num.Int of a right number whose int there is none. -/
theorem int_no {w : World} {x : Value} {z : Int} (hx : Nu w x z) (h : z < -9223372036854775808 ∨ 9223372036854775807 < z) : Calls Tryz.prog 26 #[x] w (IntRes w 0 false) := by
  obtain ⟨sa, rfl, ha, la⟩ := hx
  by_cases hl : 2 < (digs z.natAbs).length
  · exact int_long z.natAbs ha la _ (fun h => by have := of_decide_eq_true h; omega) hl
  · by_cases h0 : 0 ≤ z
    · have e1 : decide (z < 0) = false := decide_eq_false (by omega)
      rw [e1]
      exact int_over z.natAbs ha la (by omega) (by omega)
    · have e1 : decide (z < 0) = true := decide_eq_true (by omega)
      rw [e1]
      exact int_under z.natAbs ha la (by omega) (by omega) (by omega)

end Go.Proofs.YtdgmjmckeeeljaaGreatDoor

namespace Go.Proofs
open Go.Shelf
def Tryz.lays169_ren : Go.Shelf.Ren := ⟨fun | 169 => 62 | n => n, fun | 70 => 71 | 9 => 9 | 0 => 0 | 72 => 73 | 37 => 56 | 127 => 112 | 3 => 3 | 5 => 5 | n => n, fun | n => n⟩
theorem Tryz.lays169 : Go.Proofs.Lays.n169 Tryz.prog Tryz.lays169_ren := {
  mixed := by kernel_rfl
  f169 := Tryz.func62.trans (congrArg some (by kernel_rfl))
  t0 := Tryz.underlying0
  a0 := Tryz.isAgg0
  z0 := Tryz.sizeOf0
  v0 := Tryz.zeroValue0
  t3 := Tryz.underlying3
  a3 := Tryz.isAgg3
  z3 := Tryz.sizeOf3
  v3 := Tryz.zeroValue3
  t9 := Tryz.underlying9
  a9 := Tryz.isAgg9
  z9 := Tryz.sizeOf9
  v9 := Tryz.zeroValue9
  t37 := Tryz.underlying56
  a37 := Tryz.isAgg56
  z37 := Tryz.sizeOf56
  v37 := Tryz.zeroValue56
  t70 := Tryz.underlying71
  a70 := Tryz.isAgg71
  z70 := Tryz.sizeOf71
  v70 := Tryz.zeroValue71
  t72 := Tryz.underlying73
  a72 := Tryz.isAgg73
  z72 := Tryz.sizeOf73
  v72 := Tryz.zeroValue73
  t127 := Tryz.underlying112
  a127 := Tryz.isAgg112
  z127 := Tryz.sizeOf112
  v127 := Tryz.zeroValue112 }
theorem Tryz.Builder_Extra_169 : Builder.Extra Tryz.prog Tryz.lays169_ren := {
  sizeBuilder := by kernel_rfl
  liesBuilder := by kernel_rfl
  t5 := Tryz.underlying5
  a5 := Tryz.isAgg5
  z5 := Tryz.sizeOf5
  v5 := Tryz.zeroValue5
  infoByte := by kernel_rfl
  cellsByte := by kernel_rfl
  sizeByte := by kernel_rfl
  neB5 := by decide }
open Go.RowKit in
theorem Tryz.Builder_String_any (B b : Nat) (l : List UInt8) (w : World) (h : Lib.IsBuilder 73 5 B b (Lib.byteCells l) w) (hBw : B ≤ w.heap.size) :
    Calls Tryz.prog 62 #[.pointer (some ⟨b, 0, none⟩)] w fun e w' => e = .returned (.string ⟨l.toArray⟩) ∧ Below B w w' := Any.Builder_String_any Tryz.lays169 Tryz.Builder_Extra_169 B b l w h hBw
def Tryz.lays128_ren : Go.Shelf.Ren := ⟨fun | 128 => 70 | n => n, fun | 51 => 59 | 3 => 3 | 4 => 4 | 46 => 67 | 5 => 5 | 9 => 9 | n => n, fun | n => n⟩
theorem Tryz.lays128 : Go.Proofs.Lays.n128 Tryz.prog Tryz.lays128_ren := {
  mixed := by kernel_rfl
  f128 := Tryz.func70.trans (congrArg some (by kernel_rfl))
  t3 := Tryz.underlying3
  a3 := Tryz.isAgg3
  z3 := Tryz.sizeOf3
  v3 := Tryz.zeroValue3
  t4 := Tryz.underlying4
  a4 := Tryz.isAgg4
  z4 := Tryz.sizeOf4
  v4 := Tryz.zeroValue4
  t5 := Tryz.underlying5
  a5 := Tryz.isAgg5
  z5 := Tryz.sizeOf5
  v5 := Tryz.zeroValue5
  t9 := Tryz.underlying9
  a9 := Tryz.isAgg9
  z9 := Tryz.sizeOf9
  v9 := Tryz.zeroValue9
  t46 := Tryz.underlying67
  a46 := Tryz.isAgg67
  z46 := Tryz.sizeOf67
  v46 := Tryz.zeroValue67
  t51 := Tryz.underlying59
  a51 := Tryz.isAgg59
  z51 := Tryz.sizeOf59
  v51 := Tryz.zeroValue59 }
theorem Tryz.bits_Len32 (x : Int) (w : World) (h0 : 0 ≤ x) (h1 : x ≤ 4294967295) :
    Calls Tryz.prog 70 #[.int .u32 x] w fun e w' => e = .returned (.int .i64 (Lib.bitLen x.toNat)) ∧ w' = w := Any.bits_Len32 Tryz.lays128 x w h0 h1
def Tryz.lays125_ren : Go.Shelf.Ren := ⟨fun | 125 => 52 | 128 => 70 | 129 => 88 | n => n, fun | 46 => 67 | 3 => 3 | 51 => 59 | 53 => 69 | 4 => 4 | 5 => 5 | 9 => 9 | n => n, fun | n => n⟩
theorem Tryz.lays125 : Go.Proofs.Lays.n125 Tryz.prog Tryz.lays125_ren := {
  mixed := by kernel_rfl
  f125 := Tryz.func52.trans (congrArg some (by kernel_rfl))
  f128 := Tryz.func70.trans (congrArg some (by kernel_rfl))
  f129 := Tryz.func88.trans (congrArg some (by kernel_rfl))
  t3 := Tryz.underlying3
  a3 := Tryz.isAgg3
  z3 := Tryz.sizeOf3
  v3 := Tryz.zeroValue3
  t4 := Tryz.underlying4
  a4 := Tryz.isAgg4
  z4 := Tryz.sizeOf4
  v4 := Tryz.zeroValue4
  t5 := Tryz.underlying5
  a5 := Tryz.isAgg5
  z5 := Tryz.sizeOf5
  v5 := Tryz.zeroValue5
  t9 := Tryz.underlying9
  a9 := Tryz.isAgg9
  z9 := Tryz.sizeOf9
  v9 := Tryz.zeroValue9
  t46 := Tryz.underlying67
  a46 := Tryz.isAgg67
  z46 := Tryz.sizeOf67
  v46 := Tryz.zeroValue67
  t51 := Tryz.underlying59
  a51 := Tryz.isAgg59
  z51 := Tryz.sizeOf59
  v51 := Tryz.zeroValue59
  t53 := Tryz.underlying69
  a53 := Tryz.isAgg69
  z53 := Tryz.sizeOf69
  v53 := Tryz.zeroValue69 }
theorem Tryz.bits_Len (x : Int) (w : World) (h0 : 0 ≤ x) (h1 : x ≤ 18446744073709551615) :
    Calls Tryz.prog 52 #[.int .u64 x] w fun e w' => e = .returned (.int .i64 (Lib.bitLen x.toNat)) ∧ w' = w := Any.bits_Len Tryz.lays125 x w h0 h1
def Tryz.lays133_ren : Go.Shelf.Ren := ⟨fun | 133 => 101 | 128 => 70 | n => n, fun | 51 => 59 | 3 => 3 | 4 => 4 | 46 => 67 | 5 => 5 | 9 => 9 | n => n, fun | n => n⟩
theorem Tryz.lays133 : Go.Proofs.Lays.n133 Tryz.prog Tryz.lays133_ren := {
  mixed := by kernel_rfl
  f128 := Tryz.func70.trans (congrArg some (by kernel_rfl))
  f133 := Tryz.func101.trans (congrArg some (by kernel_rfl))
  t3 := Tryz.underlying3
  a3 := Tryz.isAgg3
  z3 := Tryz.sizeOf3
  v3 := Tryz.zeroValue3
  t4 := Tryz.underlying4
  a4 := Tryz.isAgg4
  z4 := Tryz.sizeOf4
  v4 := Tryz.zeroValue4
  t5 := Tryz.underlying5
  a5 := Tryz.isAgg5
  z5 := Tryz.sizeOf5
  v5 := Tryz.zeroValue5
  t9 := Tryz.underlying9
  a9 := Tryz.isAgg9
  z9 := Tryz.sizeOf9
  v9 := Tryz.zeroValue9
  t46 := Tryz.underlying67
  a46 := Tryz.isAgg67
  z46 := Tryz.sizeOf67
  v46 := Tryz.zeroValue67
  t51 := Tryz.underlying59
  a51 := Tryz.isAgg59
  z51 := Tryz.sizeOf59
  v51 := Tryz.zeroValue59 }
theorem Tryz.bits_LeadingZeros32 (x : Int) (w : World) (h0 : 0 ≤ x) (h1 : x ≤ 4294967295) :
    Calls Tryz.prog 101 #[.int .u32 x] w fun e w' => e = .returned (.int .i64 (32 - (Lib.bitLen x.toNat : Int))) ∧ w' = w := Any.bits_LeadingZeros32 Tryz.lays133 x w h0 h1
def Tryz.lays103_ren : Go.Shelf.Ren := ⟨fun | 103 => 63 | 210 => 96 | 206 => 116 | n => n, fun | 9 => 9 | 4 => 4 | 24 => 85 | 3 => 3 | n => n, fun | n => n⟩
theorem Tryz.lays103 : Go.Proofs.Lays.n103 Tryz.prog Tryz.lays103_ren := {
  mixed := by kernel_rfl
  f103 := Tryz.func63.trans (congrArg some (by kernel_rfl))
  f206 := Tryz.func116.trans (congrArg some (by kernel_rfl))
  f210 := Tryz.func96.trans (congrArg some (by kernel_rfl))
  t3 := Tryz.underlying3
  a3 := Tryz.isAgg3
  z3 := Tryz.sizeOf3
  v3 := Tryz.zeroValue3
  t4 := Tryz.underlying4
  a4 := Tryz.isAgg4
  z4 := Tryz.sizeOf4
  v4 := Tryz.zeroValue4
  t9 := Tryz.underlying9
  a9 := Tryz.isAgg9
  z9 := Tryz.sizeOf9
  v9 := Tryz.zeroValue9
  t24 := Tryz.underlying85
  a24 := Tryz.isAgg85
  z24 := Tryz.sizeOf85
  v24 := Tryz.zeroValue85 }
open Go.RowKit in
theorem Tryz.strings_CutPrefix (s p : ByteArray) (w : World) :
    Calls Tryz.prog 63 #[.string s, .string p] w fun e w' => e = .returned (.tuple #[.string ⟨(Lib.trimPrefix s.data.toList p.data.toList).toArray⟩, .bool (Lib.hasPrefix s.data.toList p.data.toList)]) ∧ w' = w := Any.strings_CutPrefix Tryz.lays103 s p w
def Tryz.lays283_ren : Go.Shelf.Ren := ⟨fun | 283 => 110 | n => n, fun | 3 => 3 | 9 => 9 | 4 => 4 | n => n, fun | n => n⟩
theorem Tryz.lays283 : Go.Proofs.Lays.n283 Tryz.prog Tryz.lays283_ren := {
  mixed := by kernel_rfl
  f283 := Tryz.func110.trans (congrArg some (by kernel_rfl))
  t3 := Tryz.underlying3
  a3 := Tryz.isAgg3
  z3 := Tryz.sizeOf3
  v3 := Tryz.zeroValue3
  t4 := Tryz.underlying4
  a4 := Tryz.isAgg4
  z4 := Tryz.sizeOf4
  v4 := Tryz.zeroValue4
  t9 := Tryz.underlying9
  a9 := Tryz.isAgg9
  z9 := Tryz.sizeOf9
  v9 := Tryz.zeroValue9 }
open Go.Lib in
theorem Tryz.internal_strconv_small (i : Nat) (h : i < 100) (w : World) :
    Calls Tryz.prog 110 #[.int .i64 i] w fun e w' => e = .returned (.string ⟨(Lib.decDigits i).toArray⟩) ∧ w' = w := Any.internal_strconv_small Tryz.lays283 i h w
def Tryz.laysM284_ren : Go.Shelf.Ren := ⟨fun | 284 => 111 | 129 => 88 | 317 => 123 | 318 => 124 | n => n, fun | 53 => 69 | 3 => 3 | 212 => 137 | 0 => 0 | 4 => 4 | 46 => 67 | 5 => 5 | 9 => 9 | n => n, fun | 17 => 1 | n => n⟩
theorem Tryz.laysM284 : Go.Proofs.LaysM.n284 Tryz.prog Tryz.laysM284_ren := {
  mixed := by kernel_rfl
  f129 := Tryz.func88.trans (congrArg some (by kernel_rfl))
  f284 := Tryz.func111.trans (congrArg some (by kernel_rfl))
  f317 := Tryz.func123.trans (congrArg some (by kernel_rfl))
  f318 := Tryz.func124.trans (congrArg some (by kernel_rfl))
  t0 := Tryz.underlying0
  a0 := Tryz.isAgg0
  z0 := Tryz.sizeOf0
  v0 := Tryz.zeroValue0
  t3 := Tryz.underlying3
  a3 := Tryz.isAgg3
  z3 := Tryz.sizeOf3
  v3 := Tryz.zeroValue3
  t4 := Tryz.underlying4
  a4 := Tryz.isAgg4
  z4 := Tryz.sizeOf4
  v4 := Tryz.zeroValue4
  t5 := Tryz.underlying5
  a5 := Tryz.isAgg5
  z5 := Tryz.sizeOf5
  v5 := Tryz.zeroValue5
  t9 := Tryz.underlying9
  a9 := Tryz.isAgg9
  z9 := Tryz.sizeOf9
  v9 := Tryz.zeroValue9
  t46 := Tryz.underlying67
  a46 := Tryz.isAgg67
  z46 := Tryz.sizeOf67
  v46 := Tryz.zeroValue67
  t53 := Tryz.underlying69
  a53 := Tryz.isAgg69
  z53 := Tryz.sizeOf69
  v53 := Tryz.zeroValue69
  t212 := Tryz.underlying137
  a212 := Tryz.isAgg137
  z212 := Tryz.sizeOf137
  v212 := Tryz.zeroValue137
  g17 := by kernel_rfl
  i0 := by kernel_rfl
  i3 := by kernel_rfl
  i4 := by kernel_rfl
  i5 := by kernel_rfl
  i9 := by kernel_rfl
  i46 := by kernel_rfl
  i53 := by kernel_rfl
  i212 := by kernel_rfl
  m17 := by kernel_rfl }
open Go.Lib in
theorem Tryz.internal_strconv_numDigits (u : Nat) (h1 : 1 ≤ u) (h2 : u < 18446744073709551616) (w : World) (htab : Lib.TabIs Tryz.prog w "internal/strconv.uint64pow10" .u64 Lib.pow10Tab) :
    Calls Tryz.prog 111 #[.int .u64 u] w fun e w' => e = .returned (.int .i64 (Lib.nDigits u)) ∧ w' = w := Any.internal_strconv_numDigits Tryz.laysM284 u h1 h2 w htab
def Tryz.lays285_ren : Go.Shelf.Ren := ⟨fun | 285 => 112 | n => n, fun | 37 => 56 | 53 => 69 | 3 => 3 | 4 => 4 | 51 => 59 | 9 => 9 | 5 => 5 | 0 => 0 | n => n, fun | n => n⟩
theorem Tryz.lays285 : Go.Proofs.Lays.n285 Tryz.prog Tryz.lays285_ren := {
  mixed := by kernel_rfl
  f285 := Tryz.func112.trans (congrArg some (by kernel_rfl))
  t0 := Tryz.underlying0
  a0 := Tryz.isAgg0
  z0 := Tryz.sizeOf0
  v0 := Tryz.zeroValue0
  t3 := Tryz.underlying3
  a3 := Tryz.isAgg3
  z3 := Tryz.sizeOf3
  v3 := Tryz.zeroValue3
  t4 := Tryz.underlying4
  a4 := Tryz.isAgg4
  z4 := Tryz.sizeOf4
  v4 := Tryz.zeroValue4
  t5 := Tryz.underlying5
  a5 := Tryz.isAgg5
  z5 := Tryz.sizeOf5
  v5 := Tryz.zeroValue5
  t9 := Tryz.underlying9
  a9 := Tryz.isAgg9
  z9 := Tryz.sizeOf9
  v9 := Tryz.zeroValue9
  t37 := Tryz.underlying56
  a37 := Tryz.isAgg56
  z37 := Tryz.sizeOf56
  v37 := Tryz.zeroValue56
  t51 := Tryz.underlying59
  a51 := Tryz.isAgg59
  z51 := Tryz.sizeOf59
  v51 := Tryz.zeroValue59
  t53 := Tryz.underlying69
  a53 := Tryz.isAgg69
  z53 := Tryz.sizeOf69
  v53 := Tryz.zeroValue69 }
open Go.RowKit Go.Sort Go.Lib in
theorem Tryz.internal_strconv_formatBase10 (blk off cap : Nat) (u : Nat) (d : Array UInt8) (w : World) (hH : Holds (fun (b : UInt8) => Value.int .u8 (b.toNat : Int)) w blk off d) (hu : u < 10 ^ d.size) (hu64 : u < 18446744073709551616) (hsz : d.size < 4611686018427387904) :
    Calls Tryz.prog 112 #[.slice (some ⟨blk, off, none⟩) d.size cap, .int .u64 u] w fun e w' =>
      e = .returned (.tuple #[]) ∧ ∃ (n v' : Nat) (dk : Array UInt8), w' = (putRow (fun (b : UInt8) => Value.int .u8 (b.toNat : Int)) w blk off dk).drewN n ∧ FmtInv d.size u 0 v' dk := Any.internal_strconv_formatBase10 Tryz.lays285 blk off cap u d w hH hu hu64 hsz
def Tryz.laysPu14_ren : Go.Shelf.Ren := ⟨fun | 14 => 97 | 16 => 118 | 17 => 119 | 19 => 128 | 20 => 129 | 21 => 130 | 22 => 131 | 23 => 132 | 24 => 133 | 25 => 136 | 27 => 138 | 26 => 137 | 28 => 139 | 29 => 140 | 30 => 110 | 31 => 111 | 32 => 112 | 33 => 113 | 35 => 88 | 34 => 123 | 36 => 124 | 37 => 125 | 38 => 126 | 39 => 134 | 40 => 135 | n => n, fun | 9 => 9 | 3 => 3 | 22 => 69 | 24 => 75 | 25 => 113 | 4 => 4 | 34 => 140 | 5 => 5 | 36 => 67 | 37 => 56 | 0 => 0 | 39 => 142 | 21 => 21 | 44 => 147 | 47 => 112 | 50 => 153 | 48 => 151 | 2 => 2 | 52 => 125 | 55 => 127 | 59 => 137 | 60 => 59 | 20 => 20 | 61 => 138 | 65 => 149 | 66 => 150 | 67 => 84 | n => n, fun | 0 => 3 | 1 => 4 | 2 => 1 | 3 => 5 | 4 => 6 | n => n⟩
theorem Tryz.laysPu14 : Go.Proofs.LaysPu.n14 Tryz.prog Tryz.laysPu14_ren := {
  mixed := by kernel_rfl
  f14 := Tryz.func97.trans (congrArg some (by kernel_rfl))
  f16 := Tryz.func118.trans (congrArg some (by kernel_rfl))
  f17 := Tryz.func119.trans (congrArg some (by kernel_rfl))
  f19 := Tryz.func128.trans (congrArg some (by kernel_rfl))
  f20 := Tryz.func129.trans (congrArg some (by kernel_rfl))
  f21 := Tryz.func130.trans (congrArg some (by kernel_rfl))
  f22 := Tryz.func131.trans (congrArg some (by kernel_rfl))
  f23 := Tryz.func132.trans (congrArg some (by kernel_rfl))
  f24 := Tryz.func133.trans (congrArg some (by kernel_rfl))
  f25 := Tryz.func136.trans (congrArg some (by kernel_rfl))
  f26 := Tryz.func137.trans (congrArg some (by kernel_rfl))
  f27 := Tryz.func138.trans (congrArg some (by kernel_rfl))
  f28 := Tryz.func139.trans (congrArg some (by kernel_rfl))
  f29 := Tryz.func140.trans (congrArg some (by kernel_rfl))
  f30 := Tryz.func110.trans (congrArg some (by kernel_rfl))
  f31 := Tryz.func111.trans (congrArg some (by kernel_rfl))
  f32 := Tryz.func112.trans (congrArg some (by kernel_rfl))
  f33 := Tryz.func113.trans (congrArg some (by kernel_rfl))
  f34 := Tryz.func123.trans (congrArg some (by kernel_rfl))
  f35 := Tryz.func88.trans (congrArg some (by kernel_rfl))
  f36 := Tryz.func124.trans (congrArg some (by kernel_rfl))
  f37 := Tryz.func125.trans (congrArg some (by kernel_rfl))
  f38 := Tryz.func126.trans (congrArg some (by kernel_rfl))
  f39 := Tryz.func134.trans (congrArg some (by kernel_rfl))
  f40 := Tryz.func135.trans (congrArg some (by kernel_rfl))
  t0 := Tryz.underlying0
  a0 := Tryz.isAgg0
  z0 := Tryz.sizeOf0
  v0 := Tryz.zeroValue0
  i0 := by kernel_rfl
  t2 := Tryz.underlying2
  a2 := Tryz.isAgg2
  z2 := Tryz.sizeOf2
  v2 := Tryz.zeroValue2
  i2 := by kernel_rfl
  t3 := Tryz.underlying3
  a3 := Tryz.isAgg3
  z3 := Tryz.sizeOf3
  v3 := Tryz.zeroValue3
  i3 := by kernel_rfl
  t4 := Tryz.underlying4
  a4 := Tryz.isAgg4
  z4 := Tryz.sizeOf4
  v4 := Tryz.zeroValue4
  i4 := by kernel_rfl
  t5 := Tryz.underlying5
  a5 := Tryz.isAgg5
  z5 := Tryz.sizeOf5
  v5 := Tryz.zeroValue5
  i5 := by kernel_rfl
  t9 := Tryz.underlying9
  a9 := Tryz.isAgg9
  z9 := Tryz.sizeOf9
  v9 := Tryz.zeroValue9
  i9 := by kernel_rfl
  t20 := Tryz.underlying20
  a20 := Tryz.isAgg20
  z20 := Tryz.sizeOf20
  v20 := Tryz.zeroValue20
  i20 := by kernel_rfl
  t21 := Tryz.underlying21
  a21 := Tryz.isAgg21
  z21 := Tryz.sizeOf21
  v21 := Tryz.zeroValue21
  i21 := by kernel_rfl
  t22 := Tryz.underlying69
  a22 := Tryz.isAgg69
  z22 := Tryz.sizeOf69
  v22 := Tryz.zeroValue69
  i22 := by kernel_rfl
  t24 := Tryz.underlying75
  a24 := Tryz.isAgg75
  z24 := Tryz.sizeOf75
  v24 := Tryz.zeroValue75
  i24 := by kernel_rfl
  t25 := Tryz.underlying113
  a25 := Tryz.isAgg113
  z25 := Tryz.sizeOf113
  v25 := Tryz.zeroValue113
  i25 := by kernel_rfl
  t34 := Tryz.underlying140
  a34 := Tryz.isAgg140
  z34 := Tryz.sizeOf140
  v34 := Tryz.zeroValue140
  i34 := by kernel_rfl
  c34 := by kernel_rfl
  t36 := Tryz.underlying67
  a36 := Tryz.isAgg67
  z36 := Tryz.sizeOf67
  v36 := Tryz.zeroValue67
  i36 := by kernel_rfl
  t37 := Tryz.underlying56
  a37 := Tryz.isAgg56
  z37 := Tryz.sizeOf56
  v37 := Tryz.zeroValue56
  i37 := by kernel_rfl
  t39 := Tryz.underlying142
  a39 := Tryz.isAgg142
  z39 := Tryz.sizeOf142
  v39 := Tryz.zeroValue142
  i39 := by kernel_rfl
  t44 := Tryz.underlying147
  a44 := Tryz.isAgg147
  z44 := Tryz.sizeOf147
  v44 := Tryz.zeroValue147
  i44 := by kernel_rfl
  t47 := Tryz.underlying112
  a47 := Tryz.isAgg112
  z47 := Tryz.sizeOf112
  v47 := Tryz.zeroValue112
  i47 := by kernel_rfl
  t48 := Tryz.underlying151
  a48 := Tryz.isAgg151
  z48 := Tryz.sizeOf151
  v48 := Tryz.zeroValue151
  i48 := by kernel_rfl
  t50 := Tryz.underlying153
  a50 := Tryz.isAgg153
  z50 := Tryz.sizeOf153
  v50 := Tryz.zeroValue153
  i50 := by kernel_rfl
  t52 := Tryz.underlying125
  a52 := Tryz.isAgg125
  z52 := Tryz.sizeOf125
  v52 := Tryz.zeroValue125
  i52 := by kernel_rfl
  t55 := Tryz.underlying127
  a55 := Tryz.isAgg127
  z55 := Tryz.sizeOf127
  v55 := Tryz.zeroValue127
  i55 := by kernel_rfl
  t59 := Tryz.underlying137
  a59 := Tryz.isAgg137
  z59 := Tryz.sizeOf137
  v59 := Tryz.zeroValue137
  i59 := by kernel_rfl
  t60 := Tryz.underlying59
  a60 := Tryz.isAgg59
  z60 := Tryz.sizeOf59
  v60 := Tryz.zeroValue59
  i60 := by kernel_rfl
  t61 := Tryz.underlying138
  a61 := Tryz.isAgg138
  z61 := Tryz.sizeOf138
  t65 := Tryz.underlying149
  a65 := Tryz.isAgg149
  z65 := Tryz.sizeOf149
  v65 := Tryz.zeroValue149
  i65 := by kernel_rfl
  t66 := Tryz.underlying150
  a66 := Tryz.isAgg150
  z66 := Tryz.sizeOf150
  v66 := Tryz.zeroValue150
  i66 := by kernel_rfl
  t67 := Tryz.underlying84
  a67 := Tryz.isAgg84
  z67 := Tryz.sizeOf84
  v67 := Tryz.zeroValue84
  i67 := by kernel_rfl
  g0 := by kernel_rfl
  m0 := by kernel_rfl
  g1 := by kernel_rfl
  m1 := by kernel_rfl
  g2 := by kernel_rfl
  m2 := by kernel_rfl
  g3 := by kernel_rfl
  m3 := by kernel_rfl
  g4 := by kernel_rfl
  m4 := by kernel_rfl }
open Go.RowKit in
theorem Tryz.strconv_ParseUint_10_at32_ok (s : ByteArray) (hmax : s.size ≤ 9223372036854775806) (u : Nat) (h : Lib.parseUintB 32 s.data.toList = .ok u) (w : World) :
    Calls Tryz.prog 97 #[.string s, .int .i64 10, .int .i64 32] w fun e w' => e = .returned (.tuple #[.int .u64 u, .nilIface]) ∧ (w' = w ∨ w' = Lib.bytesWorld w 5 s) := Any.strconv_ParseUint_10_at32_ok Tryz.laysPu14 s hmax u h w
def Tryz.lays105_ren : Go.Shelf.Ren := ⟨fun | 105 => 61 | 212 => 92 | 99 => 93 | 165 => 94 | 166 => 60 | 170 => 95 | 169 => 62 | 263 => 114 | 264 => 115 | 206 => 116 | 240 => 89 | 241 => 117 | 276 => 109 | 277 => 127 | n => n, fun | 9 => 9 | 3 => 3 | 4 => 4 | 20 => 20 | 0 => 0 | 46 => 67 | 109 => 107 | 5 => 5 | 72 => 73 | 76 => 81 | 51 => 59 | 146 => 96 | 53 => 69 | 148 => 130 | 70 => 71 | 37 => 56 | 75 => 75 | 127 => 112 | 164 => 122 | 80 => 84 | n => n, fun | n => n⟩
theorem Tryz.lays105 : Go.Proofs.Lays.n105 Tryz.prog Tryz.lays105_ren := {
  mixed := by kernel_rfl
  f99 := Tryz.func93.trans (congrArg some (by kernel_rfl))
  f105 := Tryz.func61.trans (congrArg some (by kernel_rfl))
  f165 := Tryz.func94.trans (congrArg some (by kernel_rfl))
  f166 := Tryz.func60.trans (congrArg some (by kernel_rfl))
  f169 := Tryz.func62.trans (congrArg some (by kernel_rfl))
  f170 := Tryz.func95.trans (congrArg some (by kernel_rfl))
  f206 := Tryz.func116.trans (congrArg some (by kernel_rfl))
  f212 := Tryz.func92.trans (congrArg some (by kernel_rfl))
  f240 := Tryz.func89.trans (congrArg some (by kernel_rfl))
  f241 := Tryz.func117.trans (congrArg some (by kernel_rfl))
  f263 := Tryz.func114.trans (congrArg some (by kernel_rfl))
  f264 := Tryz.func115.trans (congrArg some (by kernel_rfl))
  f276 := Tryz.func109.trans (congrArg some (by kernel_rfl))
  f277 := Tryz.func127.trans (congrArg some (by kernel_rfl))
  t0 := Tryz.underlying0
  a0 := Tryz.isAgg0
  z0 := Tryz.sizeOf0
  v0 := Tryz.zeroValue0
  t3 := Tryz.underlying3
  a3 := Tryz.isAgg3
  z3 := Tryz.sizeOf3
  v3 := Tryz.zeroValue3
  t4 := Tryz.underlying4
  a4 := Tryz.isAgg4
  z4 := Tryz.sizeOf4
  v4 := Tryz.zeroValue4
  t5 := Tryz.underlying5
  a5 := Tryz.isAgg5
  z5 := Tryz.sizeOf5
  v5 := Tryz.zeroValue5
  t9 := Tryz.underlying9
  a9 := Tryz.isAgg9
  z9 := Tryz.sizeOf9
  v9 := Tryz.zeroValue9
  t20 := Tryz.underlying20
  a20 := Tryz.isAgg20
  z20 := Tryz.sizeOf20
  v20 := Tryz.zeroValue20
  t37 := Tryz.underlying56
  a37 := Tryz.isAgg56
  z37 := Tryz.sizeOf56
  v37 := Tryz.zeroValue56
  t46 := Tryz.underlying67
  a46 := Tryz.isAgg67
  z46 := Tryz.sizeOf67
  v46 := Tryz.zeroValue67
  t51 := Tryz.underlying59
  a51 := Tryz.isAgg59
  z51 := Tryz.sizeOf59
  v51 := Tryz.zeroValue59
  t53 := Tryz.underlying69
  a53 := Tryz.isAgg69
  z53 := Tryz.sizeOf69
  v53 := Tryz.zeroValue69
  t70 := Tryz.underlying71
  a70 := Tryz.isAgg71
  z70 := Tryz.sizeOf71
  v70 := Tryz.zeroValue71
  t72 := Tryz.underlying73
  a72 := Tryz.isAgg73
  z72 := Tryz.sizeOf73
  v72 := Tryz.zeroValue73
  t75 := Tryz.underlying75
  a75 := Tryz.isAgg75
  z75 := Tryz.sizeOf75
  v75 := Tryz.zeroValue75
  t76 := Tryz.underlying81
  a76 := Tryz.isAgg81
  z76 := Tryz.sizeOf81
  v76 := Tryz.zeroValue81
  t109 := Tryz.underlying107
  a109 := Tryz.isAgg107
  z109 := Tryz.sizeOf107
  v109 := Tryz.zeroValue107
  t127 := Tryz.underlying112
  a127 := Tryz.isAgg112
  z127 := Tryz.sizeOf112
  v127 := Tryz.zeroValue112
  t146 := Tryz.underlying96
  a146 := Tryz.isAgg96
  z146 := Tryz.sizeOf96
  v146 := Tryz.zeroValue96
  t148 := Tryz.underlying130
  a148 := Tryz.isAgg130
  z148 := Tryz.sizeOf130
  v148 := Tryz.zeroValue130
  t164 := Tryz.underlying122
  a164 := Tryz.isAgg122
  z164 := Tryz.sizeOf122
  v164 := Tryz.zeroValue122 }
theorem Tryz.Builder_Extra_105 : Builder.Extra Tryz.prog Tryz.lays105_ren := {
  sizeBuilder := by kernel_rfl
  liesBuilder := by kernel_rfl
  t5 := Tryz.underlying5
  a5 := Tryz.isAgg5
  z5 := Tryz.sizeOf5
  v5 := Tryz.zeroValue5
  infoByte := by kernel_rfl
  cellsByte := by kernel_rfl
  sizeByte := by kernel_rfl
  neB5 := by decide }
open Go.RowKit Go.Lib in
theorem Tryz.strings_Repeat (s : ByteArray) (c : Nat) (w : World) (hc : c ≤ 9223372036854775807) (hlen : s.size * c ≤ 140737488355328) :
    Calls Tryz.prog 61 #[.string s, .int .i64 c] w fun e w' => e = .returned (.string ⟨(Lib.repeatL s.data.toList c).toArray⟩) ∧ Below w.heap.size w w' := Any.strings_Repeat Tryz.lays105 Tryz.Builder_Extra_105 s c w hc hlen
def Tryz.laysSlE041_f74_ren : Go.Shelf.Ren := ⟨fun | 41 => 74 | n => n, fun | 22 => 25 | 23 => 59 | 4 => 4 | n => n, fun | n => n⟩
theorem Tryz.laysSlE041_f74 : Go.Proofs.SlLaysE0.n41 Tryz.prog Tryz.laysSlE041_f74_ren := {
  mixed := by kernel_rfl
  f41 := ⟨Tryz.f74.name, by decide, Tryz.func74.trans (congrArg some (by kernel_rfl))⟩
  t4 := Tryz.underlying4
  a4 := Tryz.isAgg4
  z4 := Tryz.sizeOf4
  v4 := Tryz.zeroValue4
  t22 := Tryz.underlying25
  a22 := Tryz.isAgg25
  z22 := Tryz.sizeOf25
  v22 := Tryz.zeroValue25 }
open Go.RowKit Go.Lib in
theorem Tryz.slices_Clone (i0 : TypeInfo) (z : Value) (size bytes : Nat) (hi : Tryz.prog.info? 59 = some i0) (hz0 : i0.zero = some z) (hz1 : i0.size = size) (hz2 : i0.bytes = bytes) (hzs : z.cells.size = size) (hsz : 0 < size) (z23 : ∀ w, (Go.sizeOf 59).run Tryz.prog w = .ok size w) (b off n c : Nat) (news : List Value) (w : World) (hl : news.length = n * size) (hn : n ≤ maxLen) (hbig : n * bytes ≤ 140737488355328) (hc : ∀ j u, news[j]? = some u → w.cell? ⟨b, off + j, none⟩ = some u) (h1 : ∀ u ∈ news, u.oneCell' = true) :
    Calls Tryz.prog 74 #[.slice (some ⟨b, off, none⟩) n c] w fun e w' => ∃ v', e = .returned v' ∧ w'.ownsRow w.heap.size 59 size v' n news ∧ v' ≠ .slice none 0 0 ∧ Below w.heap.size w w' := AnyE.slices_Clone Tryz.laysSlE041_f74 i0 z size bytes hi hz0 hz1 hz2 hzs hsz z23 b off n c news w hl hn hbig hc h1
open Go.RowKit Go.Lib in
theorem Tryz.slices_Clone_nil (n c : Nat) (w : World) :
    Calls Tryz.prog 74 #[.slice none n c] w fun e w' => e = .returned (.slice none 0 0) ∧ w' = w := AnyE.slices_Clone_nil Tryz.laysSlE041_f74 n c w
end Go.Proofs

namespace Go.Proofs.YtdgmjmckeeeljaaGreatDoor
open Go.RowKit

/-- A slice of digits in new memory. -/
def NewSl (w : World) (ds : List Nat) (e : Ending) (w' : World) : Prop := ∃ ao cap, e = .returned (.slice ao ds.length cap) ∧ Sw w.heap.size w' (.slice ao ds.length cap) ds ∧ Below w.heap.size w w'

theorem sw_of_owns {w : World} {B : Nat} {v : Value} {ds : List Nat} (hb : Bd ds) (h : w.ownsRow B 59 1 v ds.length (ds.map u32v)) : ∃ ao cap, v = .slice ao ds.length cap ∧ Sw B w v ds := by
  obtain ⟨h1, h2⟩ := h
  rcases h2 with ⟨rfl, h3⟩ | ⟨g, cap, cur, rfl, hB, hg, hc, hm, hs, ht⟩
  · have : ds = [] := List.eq_nil_of_length_eq_zero h3
    subst this
    exact ⟨none, 0, rfl, Sw.nil _ _ _ _⟩
  · refine ⟨_, _, rfl, ⟨hb, by omega, .inr ⟨g, 0, cap, rfl, hc, fun j hj => ?_⟩⟩, ?_⟩
    · rw [cell_of_row w _ _ _ _ _ hg]
      have h4 : (cur.toList.take (ds.length * 1))[j]? = (ds.map u32v)[j]? := by rw [ht]
      rw [List.getElem?_take, if_pos (by omega)] at h4
      rw [Nat.zero_add]
      rw [← Array.getElem?_toList, h4]
      simp [hj, u32v, List.getD]
    · intro ao n cap' hv _
      cases hv
      exact ⟨g, 0, rfl, hB, fun j _ => frozen_of_row w _ _ _ _ hg⟩

set_option maxRecDepth 10000 in
set_option maxHeartbeats 1000000 in
theorem clone_empty (ao : Option Addr) (cap : Nat) (w : World) : Calls Tryz.prog 74 #[.slice ao 0 cap] w (NewSl w []) := by
  cases ao with
  | none =>
    refine (Tryz.slices_Clone_nil 0 cap w).mono ?_
    rintro e w' ⟨rfl, rfl⟩
    exact ⟨_, _, rfl, Sw.nil _ _ _ _, Below.refl _ _⟩
  | some a =>
    have hq := fun (w : World) => Lib.run_eql_slice_nil (P := Tryz.prog) w 25 59 (some a) 0 cap 0 0 Tryz.underlying25
    go_enter Tryz.func74, Tryz.ntmps74
    go_wp2
    go_ret
    exact ⟨_, _, rfl, Sw.nil _ _ _ _, (Below.refl _ _).alloc (Nat.le_refl _) _⟩

theorem clone_any {w : World} {v : Value} {ds : List Nat} (h : Sl w v ds) (hl : 4 * ds.length ≤ 140737488351232) : Calls Tryz.prog 74 #[v] w (NewSl w ds) := by
  rcases h.is with ⟨rfl, ao, cap, rfl⟩ | ⟨b, off, cap, rfl, hcap, hcl⟩
  · exact clone_empty ao cap w
  · obtain ⟨i0, hi, hz0, hz1, hz2⟩ := info_parts Tryz.info59
    refine (Tryz.slices_Clone i0 _ 1 4 hi hz0 hz1 hz2 rfl (by omega) Tryz.sizeOf59 b off ds.length cap (ds.map u32v) w (by simp) (by unfold maxLen; omega) (by omega) ?_ ?_).mono ?_
    · intro j u hu
      have hj : j < ds.length := by
        have := (List.getElem?_eq_some_iff.1 hu).1
        simpa using this
      rw [hcl j hj]
      simp [hj, u32v] at hu
      simp [hj, List.getD, hu]
    · intro u hu
      obtain ⟨d, _, rfl⟩ := List.mem_map.1 hu
      rfl
    · rintro e w' ⟨v', rfl, hown, _, hb⟩
      obtain ⟨ao', cap', rfl, hs⟩ := sw_of_owns h.bd hown
      exact ⟨_, _, rfl, hs, hb⟩

end Go.Proofs.YtdgmjmckeeeljaaGreatDoor

namespace Go.Proofs.YtdgmjmckeeeljaaGreatDoor
open Go.RowKit

/-- Less, equal, greater, of integers. -/
def cmpZ (a b : Int) : Int := if a < b then -1 else if a = b then 0 else 1

set_option maxRecDepth 10000 in
set_option maxHeartbeats 1000000 in
theorem cmp_pp {w : World} {x y : Value} {a b : Int} (hx : Nu w x a) (hy : Nu w y b) (h1 : 0 ≤ a) (h2 : 0 ≤ b) :
    Calls Tryz.prog 31 #[x, y] w fun e w' => e = .returned (.int .i64 (cmpZ a b)) ∧ Below w.heap.size w w' := by
  have hz : cmpZ a b = cmpN a.natAbs b.natAbs := by
    unfold cmpZ
    try unfold cmpN
    repeat' split
    all_goals omega
  rw [hz]
  have ea : decide (a < 0) = false := by simp; omega
  have eb : decide (b < 0) = false := by simp; omega
  clear hz
  obtain ⟨sa, rfl, ha, la⟩ := hx
  obtain ⟨sb, rfl, hb, lb⟩ := hy
  have ra := rightB_digs a la
  have rb := rightB_digs b lb
  obtain ⟨na, hna⟩ : ∃ na, na = decide (a < 0) := ⟨_, rfl⟩
  obtain ⟨nb, hnb⟩ : ∃ nb, nb = decide (b < 0) := ⟨_, rfl⟩
  rw [← hna] at ra ⊢
  rw [← hnb] at rb ⊢
  have HNA := Lib.hid hna
  have HNB := Lib.hid hnb
  clear hna hnb
  have R1 : ∀ W, Sl W sa (digs a.natAbs) → Calls Tryz.prog 32 #[.agg #[.bool na, sa]] W fun e w' => e = .returned (.bool true) ∧ w' = W.alloc (.cells #[.bool na, sa] 27) := fun W h => by have := right_any na h (by omega); rwa [ra] at this
  have R2 : ∀ W, Sl W sb (digs b.natAbs) → Calls Tryz.prog 32 #[.agg #[.bool nb, sb]] W fun e w' => e = .returned (.bool true) ∧ w' = W.alloc (.cells #[.bool nb, sb] 27) := fun W h => by have := right_any nb h (by omega); rwa [rb] at this
  have HR1 := Lib.hid R1
  have HR2 := Lib.hid R2
  clear R1 R2 ra rb
  obtain rfl : na = false := by rw [HNA.out, ea]
  obtain rfl : nb = false := by rw [HNB.out, eb]
  clear ea eb
  go_enter Tryz.func31, Tryz.ntmps31
  go_wp2_with (first | (go_at_call_of 32 (Value.agg #[.bool false, sa]); refine (HR1.out _ (ha.below (by go_grown))).mono ?_; rintro e w' ⟨rfl, rfl⟩) | (go_at_call_of 32 (Value.agg #[.bool false, sb]); refine (HR2.out _ (hb.below (by go_grown))).mono ?_; rintro e w' ⟨rfl, rfl⟩) | (go_at_call 68; refine (compare_any (ha.below (by go_grown)) (hb.below (by go_grown)) (by omega) (by omega)).mono ?_; rintro e W5 ⟨rfl, hbW⟩; have hbW' : Below w.heap.size w W5 := Below.trans (by go_grown) (hbW.mono (by simp; omega))))
  go_returns
  exact ⟨rfl, by go_grown⟩

set_option maxRecDepth 10000 in
set_option maxHeartbeats 1000000 in
theorem cmp_nn {w : World} {x y : Value} {a b : Int} (hx : Nu w x a) (hy : Nu w y b) (h1 : a < 0) (h2 : b < 0) :
    Calls Tryz.prog 31 #[x, y] w fun e w' => e = .returned (.int .i64 (cmpZ a b)) ∧ Below w.heap.size w w' := by
  have hz : cmpZ a b = cmpN b.natAbs a.natAbs := by
    unfold cmpZ
    try unfold cmpN
    repeat' split
    all_goals omega
  rw [hz]
  have ea : decide (a < 0) = true := by simp; omega
  have eb : decide (b < 0) = true := by simp; omega
  clear hz
  obtain ⟨sa, rfl, ha, la⟩ := hx
  obtain ⟨sb, rfl, hb, lb⟩ := hy
  have ra := rightB_digs a la
  have rb := rightB_digs b lb
  obtain ⟨na, hna⟩ : ∃ na, na = decide (a < 0) := ⟨_, rfl⟩
  obtain ⟨nb, hnb⟩ : ∃ nb, nb = decide (b < 0) := ⟨_, rfl⟩
  rw [← hna] at ra ⊢
  rw [← hnb] at rb ⊢
  have HNA := Lib.hid hna
  have HNB := Lib.hid hnb
  clear hna hnb
  have R1 : ∀ W, Sl W sa (digs a.natAbs) → Calls Tryz.prog 32 #[.agg #[.bool na, sa]] W fun e w' => e = .returned (.bool true) ∧ w' = W.alloc (.cells #[.bool na, sa] 27) := fun W h => by have := right_any na h (by omega); rwa [ra] at this
  have R2 : ∀ W, Sl W sb (digs b.natAbs) → Calls Tryz.prog 32 #[.agg #[.bool nb, sb]] W fun e w' => e = .returned (.bool true) ∧ w' = W.alloc (.cells #[.bool nb, sb] 27) := fun W h => by have := right_any nb h (by omega); rwa [rb] at this
  have HR1 := Lib.hid R1
  have HR2 := Lib.hid R2
  clear R1 R2 ra rb
  obtain rfl : na = true := by rw [HNA.out, ea]
  obtain rfl : nb = true := by rw [HNB.out, eb]
  clear ea eb
  go_enter Tryz.func31, Tryz.ntmps31
  go_wp2_with (first | (go_at_call_of 32 (Value.agg #[.bool true, sa]); refine (HR1.out _ (ha.below (by go_grown))).mono ?_; rintro e w' ⟨rfl, rfl⟩) | (go_at_call_of 32 (Value.agg #[.bool true, sb]); refine (HR2.out _ (hb.below (by go_grown))).mono ?_; rintro e w' ⟨rfl, rfl⟩) | (go_at_call 68; refine (compare_any (hb.below (by go_grown)) (ha.below (by go_grown)) (by omega) (by omega)).mono ?_; rintro e W5 ⟨rfl, hbW⟩; have hbW' : Below w.heap.size w W5 := Below.trans (by go_grown) (hbW.mono (by simp; omega))))
  go_returns
  exact ⟨rfl, by go_grown⟩

set_option maxRecDepth 10000 in
set_option maxHeartbeats 1000000 in
theorem cmp_np {w : World} {x y : Value} {a b : Int} (hx : Nu w x a) (hy : Nu w y b) (h1 : a < 0) (h2 : 0 ≤ b) :
    Calls Tryz.prog 31 #[x, y] w fun e w' => e = .returned (.int .i64 (cmpZ a b)) ∧ Below w.heap.size w w' := by
  have hz : cmpZ a b = -1 := by
    unfold cmpZ
    try unfold cmpN
    repeat' split
    all_goals omega
  rw [hz]
  have ea : decide (a < 0) = true := by simp; omega
  have eb : decide (b < 0) = false := by simp; omega
  clear hz
  obtain ⟨sa, rfl, ha, la⟩ := hx
  obtain ⟨sb, rfl, hb, lb⟩ := hy
  have ra := rightB_digs a la
  have rb := rightB_digs b lb
  obtain ⟨na, hna⟩ : ∃ na, na = decide (a < 0) := ⟨_, rfl⟩
  obtain ⟨nb, hnb⟩ : ∃ nb, nb = decide (b < 0) := ⟨_, rfl⟩
  rw [← hna] at ra ⊢
  rw [← hnb] at rb ⊢
  have HNA := Lib.hid hna
  have HNB := Lib.hid hnb
  clear hna hnb
  have R1 : ∀ W, Sl W sa (digs a.natAbs) → Calls Tryz.prog 32 #[.agg #[.bool na, sa]] W fun e w' => e = .returned (.bool true) ∧ w' = W.alloc (.cells #[.bool na, sa] 27) := fun W h => by have := right_any na h (by omega); rwa [ra] at this
  have R2 : ∀ W, Sl W sb (digs b.natAbs) → Calls Tryz.prog 32 #[.agg #[.bool nb, sb]] W fun e w' => e = .returned (.bool true) ∧ w' = W.alloc (.cells #[.bool nb, sb] 27) := fun W h => by have := right_any nb h (by omega); rwa [rb] at this
  have HR1 := Lib.hid R1
  have HR2 := Lib.hid R2
  clear R1 R2 ra rb
  obtain rfl : na = true := by rw [HNA.out, ea]
  obtain rfl : nb = false := by rw [HNB.out, eb]
  clear ea eb
  go_enter Tryz.func31, Tryz.ntmps31
  go_wp2_with (first | (go_at_call_of 32 (Value.agg #[.bool true, sa]); refine (HR1.out _ (ha.below (by go_grown))).mono ?_; rintro e w' ⟨rfl, rfl⟩) | (go_at_call_of 32 (Value.agg #[.bool false, sb]); refine (HR2.out _ (hb.below (by go_grown))).mono ?_; rintro e w' ⟨rfl, rfl⟩))
  go_returns
  exact ⟨rfl, by go_grown⟩

set_option maxRecDepth 10000 in
set_option maxHeartbeats 1000000 in
theorem cmp_pn {w : World} {x y : Value} {a b : Int} (hx : Nu w x a) (hy : Nu w y b) (h1 : 0 ≤ a) (h2 : b < 0) :
    Calls Tryz.prog 31 #[x, y] w fun e w' => e = .returned (.int .i64 (cmpZ a b)) ∧ Below w.heap.size w w' := by
  have hz : cmpZ a b = 1 := by
    unfold cmpZ
    try unfold cmpN
    repeat' split
    all_goals omega
  rw [hz]
  have ea : decide (a < 0) = false := by simp; omega
  have eb : decide (b < 0) = true := by simp; omega
  clear hz
  obtain ⟨sa, rfl, ha, la⟩ := hx
  obtain ⟨sb, rfl, hb, lb⟩ := hy
  have ra := rightB_digs a la
  have rb := rightB_digs b lb
  obtain ⟨na, hna⟩ : ∃ na, na = decide (a < 0) := ⟨_, rfl⟩
  obtain ⟨nb, hnb⟩ : ∃ nb, nb = decide (b < 0) := ⟨_, rfl⟩
  rw [← hna] at ra ⊢
  rw [← hnb] at rb ⊢
  have HNA := Lib.hid hna
  have HNB := Lib.hid hnb
  clear hna hnb
  have R1 : ∀ W, Sl W sa (digs a.natAbs) → Calls Tryz.prog 32 #[.agg #[.bool na, sa]] W fun e w' => e = .returned (.bool true) ∧ w' = W.alloc (.cells #[.bool na, sa] 27) := fun W h => by have := right_any na h (by omega); rwa [ra] at this
  have R2 : ∀ W, Sl W sb (digs b.natAbs) → Calls Tryz.prog 32 #[.agg #[.bool nb, sb]] W fun e w' => e = .returned (.bool true) ∧ w' = W.alloc (.cells #[.bool nb, sb] 27) := fun W h => by have := right_any nb h (by omega); rwa [rb] at this
  have HR1 := Lib.hid R1
  have HR2 := Lib.hid R2
  clear R1 R2 ra rb
  obtain rfl : na = false := by rw [HNA.out, ea]
  obtain rfl : nb = true := by rw [HNB.out, eb]
  clear ea eb
  go_enter Tryz.func31, Tryz.ntmps31
  go_wp2_with (first | (go_at_call_of 32 (Value.agg #[.bool false, sa]); refine (HR1.out _ (ha.below (by go_grown))).mono ?_; rintro e w' ⟨rfl, rfl⟩) | (go_at_call_of 32 (Value.agg #[.bool true, sb]); refine (HR2.out _ (hb.below (by go_grown))).mono ?_; rintro e w' ⟨rfl, rfl⟩))
  go_returns
  exact ⟨rfl, by go_grown⟩

/-- num.Cmp of right numbers. -/
theorem cmp_any {w : World} {x y : Value} {a b : Int} (hx : Nu w x a) (hy : Nu w y b) : Calls Tryz.prog 31 #[x, y] w fun e w' => e = .returned (.int .i64 (cmpZ a b)) ∧ Below w.heap.size w w' := by
  by_cases h1 : 0 ≤ a <;> by_cases h2 : 0 ≤ b
  · exact cmp_pp hx hy h1 h2
  · exact cmp_pn hx hy h1 (by omega)
  · exact cmp_np hx hy (by omega) h2
  · exact cmp_nn hx hy (by omega) (by omega)

end Go.Proofs.YtdgmjmckeeeljaaGreatDoor

namespace Go.Proofs.YtdgmjmckeeeljaaGreatDoor
open Go.RowKit

theorem shr_i64 (n k : Nat) (hk : k < 64) : binOp BinOp.shr 3 (.int .i64 (n : Int)) (.int .i64 (k : Int)) = (pure (.int .i64 ((n / 2 ^ k : Nat) : Int)) : Sem Value) := by
  have e : binOp BinOp.shr 3 (.int .i64 (n : Int)) (.int .i64 (k : Int)) = Op.shift .shr .i64 (n : Int) .i64 (k : Int) := rfl
  have h0 : ¬ ((k : Int) < 0) := by omega
  have hm : min ((k : Int)).toNat (IntKind.bits .i64) = k := by
    rw [show IntKind.bits .i64 = 64 from rfl, Int.toNat_natCast]; omega
  rw [e]
  unfold Op.shift
  rw [if_neg h0]
  simp only [hm]
  congr 2
  rw [Int.fdiv_eq_ediv_of_nonneg _ (by exact Int.pow_nonneg (by omega))]
  simp

theorem and_one (q : Nat) (hq : q < 9223372036854775808) : binOp BinOp.and 3 (.int .i64 (q : Int)) (.int .i64 1) = (pure (.int .i64 ((q % 2 : Nat) : Int)) : Sem Value) := by
  have e : binOp BinOp.and 3 (.int .i64 (q : Int)) (.int .i64 1) = (pure (.int .i64 (IntKind.i64.wrap ((BitVec.ofInt 64 (q : Int) &&& BitVec.ofInt 64 1).toNat : Int))) : Sem Value) := rfl
  rw [e]
  have h1 : (BitVec.ofInt 64 (q : Int) &&& BitVec.ofInt 64 1).toNat = q % 2 := by
    rw [BitVec.toNat_and, ofInt_u64 q (by omega)]
    have : (BitVec.ofInt 64 1).toNat = 1 := by decide
    rw [this, Nat.and_one_is_mod]
  rw [h1, IntWalk.i64_in _ (by omega)]

theorem len_any (n : Nat) (hn : n < 9223372036854775808) (w : World) :
    ∃ L : Nat, L ≤ 63 ∧ n / 2 ^ L = 0 ∧ ∀ w, Calls Tryz.prog 52 #[.int .u64 n] w fun e w' => e = .returned (.int .i64 (L : Nat)) ∧ w' = w := by
  refine ⟨Lib.bitLen n, Lib.bitLen_le n 63 (by omega) (by simpa using hn), ?_, fun w => ?_⟩
  · by_cases h0 : n = 0
    · rw [h0]; simp
    · have := (Lib.bitLenAux_bounds 64 n (by omega) h0).2.2
      exact Nat.div_eq_of_lt this
  · have := Tryz.bits_Len (n : Int) w (by omega) (by omega)
    rwa [Int.toNat_natCast] at this

theorem digs_mono {x y : Nat} (h : x ≤ y) : (digs x).length ≤ (digs y).length :=
  digs_length_le.2 (Nat.lt_of_le_of_lt h (digs_length_le.1 (Nat.le_refl _)))

theorem fitsB_false {x y : Nat} (h : x ≤ y) (hx : fitsB x = false) : fitsB y = false := by
  unfold fitsB at *
  have := digs_mono h
  simp at hx ⊢
  omega

/-- If a power on the way does not fit, neither does the last one. -/
theorem pow_over {a : Int} {m n : Nat} (h : m ≤ n) (hf : fitsB (a ^ m).natAbs = false) : fitsB (a ^ n).natAbs = false := by
  have e : ∀ k : Nat, (a ^ k).natAbs = a.natAbs ^ k := fun k => Int.natAbs_pow a k
  rw [e] at hf ⊢
  rcases Nat.lt_or_ge 1 a.natAbs with h1 | h1
  · exact fitsB_false (Nat.pow_le_pow_right (by omega) h) hf
  · exfalso
    have : a.natAbs ^ m ≤ 1 := by
      have := Nat.pow_le_pow_left h1 m
      simpa using this
    have h2 := digs_mono this
    have h3 : (digs 1).length = 1 := by rw [digs_pos (by omega), show 1 / 4294967296 = 0 from rfl, digs_zero]; rfl
    unfold fitsB at hf
    simp at hf
    omega

/-- The boxes of Pow: its argument, its result, the power so far. -/
structure PowI (W : World) (B g : Nat) (na : Bool) (sa : Value) (p : Int) : Prop where
  a0 : W.cell? ⟨B, 0, none⟩ = some (.bool na)
  a1 : W.cell? ⟨B, 1, none⟩ = some sa
  r : ResBox W (B + 1)
  p : ∃ neg ao n cap, W.heap[g]? = some (.cells #[.bool neg, .slice ao n cap] 27 (0, 0)) ∧ neg = decide (p < 0) ∧ Sw (B + 2) W (.slice ao n cap) (digs p.natAbs)
  lt : B + 1 < g

theorem cells_two {W : World} {g : Nat} {u v : Value} (h : W.heap[g]? = some (.cells #[u, v] 27 (0, 0))) :
    W.cell? ⟨g, 0, none⟩ = some u ∧ W.cell? ⟨g, 1, none⟩ = some v ∧ W.frozen? ⟨g, 0, none⟩ = false ∧ W.frozen? ⟨g, 1, none⟩ = false := by
  refine ⟨?_, ?_, frozen_of_row W _ _ _ _ h, frozen_of_row W _ _ _ _ h⟩ <;> rw [cell_of_row W _ _ _ _ _ h] <;> rfl

theorem stored_two {w1 : World} {g : Nat} {u v : Value} (h : w1.heap[g]? = some (.cells #[u, v] 27 (0, 0))) (u0 u1 : Value) :
    ((w1.setCell ⟨g, 0, none⟩ u0).setCell ⟨g, 1, none⟩ u1).heap[g]? = some (.cells #[u0, u1] 27 (0, 0)) := by
  have h1 := heap_setCell_same w1 g 0 _ 27 u0 h
  exact heap_setCell_same _ g 1 _ 27 u1 h1

theorem PowI.step {W W1 : World} {B g : Nat} {na : Bool} {sa : Value} {p p' : Int} (h : PowI W B g na sa p) (hb : Below W.heap.size W W1) {neg : Bool} {ao : Option Addr} {n cap : Nat}
    (hneg : neg = decide (p' < 0)) (hs : Sw W.heap.size W1 (.slice ao n cap) (digs p'.natAbs)) : PowI ((W1.setCell ⟨g, 0, none⟩ (.bool neg)).setCell ⟨g, 1, none⟩ (.slice ao n cap)) B g na sa p' := by
  obtain ⟨neg0, ao0, n0, cap0, hg, _, _⟩ := h.p
  have hlt : g < W.heap.size := (Array.getElem?_eq_some_iff.1 hg).1
  have hg1 := (hb.block g hlt).trans hg
  have hst : Below g W1 ((W1.setCell ⟨g, 0, none⟩ (.bool neg)).setCell ⟨g, 1, none⟩ (.slice ao n cap)) := ((Below.refl _ _).setCell (by simp) _).setCell (by simp) _
  have hall : Below g W ((W1.setCell ⟨g, 0, none⟩ (.bool neg)).setCell ⟨g, 1, none⟩ (.slice ao n cap)) := (hb.mono (Nat.le_of_lt hlt)).trans hst
  have hlB := h.lt
  refine ⟨(hall.cell (p := ⟨B, 0, none⟩) (by simp; omega)).trans h.a0, (hall.cell (p := ⟨B, 1, none⟩) (by simp; omega)).trans h.a1, (hall.block _ hlB).trans h.r, ⟨neg, ao, n, cap, ?_, hneg, (hs.after2 hlt _ _).mono (by omega)⟩, hlB⟩
  have h1 := heap_setCell_same W1 g 0 _ 27 (.bool neg) hg1
  have h2 := heap_setCell_same _ g 1 _ 27 (.slice ao n cap) h1
  exact h2

theorem PowI.below {W W1 : World} {B g : Nat} {na : Bool} {sa : Value} {p : Int} (h : PowI W B g na sa p) (hb : Below W.heap.size W W1) : PowI W1 B g na sa p := by
  obtain ⟨neg0, ao0, n0, cap0, hg, e1, e2⟩ := h.p
  have hlt : g < W.heap.size := (Array.getElem?_eq_some_iff.1 hg).1
  exact ⟨cell_later hb h.a0, cell_later hb h.a1, h.r.below hb, ⟨neg0, ao0, n0, cap0, (hb.block g hlt).trans hg, e1, e2.below hb⟩, h.lt⟩

/-- What a product, or nothing, does to the boxes when it is stored. -/
theorem PowI.stored {W W1 : World} {B g : Nat} {na : Bool} {sa : Value} {p p' : Int} (h : PowI W B g na sa p) (hb : Below W.heap.size W W1) {neg : Bool} {ao : Option Addr} {n cap : Nat}
    (h1 : fitsB p'.natAbs = true → neg = decide (p' < 0) ∧ Sw W.heap.size W1 (.slice ao n cap) (digs p'.natAbs)) (h2 : fitsB p'.natAbs = false → neg = false ∧ ao = none ∧ n = 0 ∧ cap = 0) :
    PowI ((W1.setCell ⟨g, 0, none⟩ (.bool neg)).setCell ⟨g, 1, none⟩ (.slice ao n cap)) B g na sa (if fitsB p'.natAbs = true then p' else 0) := by
  by_cases hf : fitsB p'.natAbs = true
  · rw [if_pos hf]
    exact h.step hb (h1 hf).1 (h1 hf).2
  · rw [if_neg hf]
    obtain ⟨rfl, rfl, rfl, rfl⟩ := h2 (by simpa using hf)
    exact h.step hb rfl (by rw [show digs (Int.natAbs 0) = [] from digs_zero]; exact Sw.nil _ _ _ _)

theorem numRes_no {w W : World} {z : Int} (hf : fitsB z.natAbs = false) (hb : Below w.heap.size w W) : NumRes w z (.returned (.tuple #[.agg #[.bool false, .slice none 0 0], .bool false])) W :=
  ⟨false, none, 0, 0, by rw [hf], hb, (fun h => by rw [hf] at h; cases h), fun _ => ⟨rfl, rfl, rfl, rfl⟩⟩

theorem numRes_yes {w W : World} {z : Int} {neg : Bool} {ao : Option Addr} {n cap : Nat} (hf : fitsB z.natAbs = true) (hb : Below w.heap.size w W) (hn : neg = decide (z < 0)) (hs : Sw w.heap.size W (.slice ao n cap) (digs z.natAbs)) :
    NumRes w z (.returned (.tuple #[.agg #[.bool neg, .slice ao n cap], .bool true])) W :=
  ⟨neg, ao, n, cap, by rw [hf], hb, fun _ => ⟨hn, hs⟩, (fun h => by rw [hf] at h; cases h)⟩

theorem fits_one : fitsB (Int.natAbs 1) = true := by
  have h3 : (digs 1).length = 1 := by rw [digs_pos (by omega), show 1 / 4294967296 = 0 from rfl, digs_zero]; rfl
  show decide ((digs 1).length ≤ 256) = true
  rw [h3]; rfl

theorem bits_one (n k : Nat) : n / 2 ^ k = 2 * (n / 2 ^ (k + 1)) + n / 2 ^ k % 2 := by
  rw [Nat.pow_succ, ← Nat.div_div_eq_div_mul]
  omega

set_option maxRecDepth 10000 in
set_option maxHeartbeats 1000000 in
theorem pow_neg {w : World} {x : Value} {a : Int} (hx : Nu w x a) (n : Int) (hn : n < 0) :
    Calls Tryz.prog 20 #[x, .int .i64 n] w fun e w' => e = .returned (.tuple #[.agg #[.bool false, .slice none 0 0], .bool false]) ∧ Below w.heap.size w w' := by
  obtain ⟨sa, rfl, ha, la⟩ := hx
  have ra := rightB_digs a la
  obtain ⟨na, hna⟩ : ∃ na, na = decide (a < 0) := ⟨_, rfl⟩
  rw [← hna] at ra ⊢
  have HR : Hid (∀ W, Sl W sa (digs a.natAbs) → Calls Tryz.prog 32 #[.agg #[.bool na, sa]] W fun e w' => e = .returned (.bool true) ∧ w' = W.alloc (.cells #[.bool na, sa] 27)) := fun W h => by have := right_any na h (by omega); rwa [ra] at this
  clear hna ra
  go_enter Tryz.func20, Tryz.ntmps20
  go_wp2_with (go_at_call 32; refine (HR.out _ (ha.below (by go_grown))).mono ?_; rintro e w' ⟨rfl, rfl⟩)
  go_returns
  exact ⟨rfl, by go_grown⟩

set_option maxRecDepth 10000 in
set_option maxHeartbeats 4000000 in
theorem pow_any {w : World} {x : Value} {a : Int} (hx : Nu w x a) (n : Nat) (hn : n < 9223372036854775808) :
    Calls Tryz.prog 20 #[x, .int .i64 n] w (NumRes w (a ^ n)) := by
  obtain ⟨sa, rfl, ha, la⟩ := hx
  have ra := rightB_digs a la
  obtain ⟨na, hna⟩ : ∃ na, na = decide (a < 0) := ⟨_, rfl⟩
  rw [← hna] at ra ⊢
  have HR : Hid (∀ W, Sl W sa (digs a.natAbs) → Calls Tryz.prog 32 #[.agg #[.bool na, sa]] W fun e w' => e = .returned (.bool true) ∧ w' = W.alloc (.cells #[.bool na, sa] 27)) := fun W h => by have := right_any na h (by omega); rwa [ra] at this
  obtain ⟨L, hL, hL0, hLen⟩ := len_any n hn w
  have HLEN := Lib.hid hLen
  have HL0 := Lib.hid hL0
  have HNA := Lib.hid hna
  clear hna ra hLen hL0
  have HO : Hid (∀ W, Calls Tryz.prog 27 #[.int .i64 1] W (NewNum W 1)) := fun W => of_any 1 W (by decide) (by decide)
  have hn' : 0 ≤ (n : Int) := by omega
  have hn2 : (n : Int) ≤ 9223372036854775807 := by omega
  have HN := Lib.hid hn
  clear hn
  go_enter Tryz.func20, Tryz.ntmps20
  go_wp2_with (first | (go_at_call 32; refine (HR.out _ (ha.below (by go_grown))).mono ?_; rintro e w' ⟨rfl, rfl⟩))
  obtain ⟨k1, k2, _⟩ := heap_three w (.cells #[.bool na, sa] 27) (.cells #[.bool false, .slice none 0 0] 27) (.cells #[.bool na, sa] 27)
  have hB : Below w.heap.size w (((w.alloc (.cells #[.bool na, sa] 27)).alloc (.cells #[.bool false, .slice none 0 0] 27)).alloc (.cells #[.bool na, sa] 27)) := by go_grown
  revert k1 k2 hB
  generalize ((w.alloc (.cells #[.bool na, sa] 27)).alloc (.cells #[.bool false, .slice none 0 0] 27)).alloc (.cells #[.bool na, sa] 27) = W
  intro k1 k2 hB
  refine (HO.out _).mono ?_
  rintro e W1 ⟨neg, ao, m, cap, rfl, hb1, hneg, hs⟩
  have hI0 : PowI (W1.alloc (.cells #[.bool neg, .slice ao m cap] 27)) w.heap.size W1.heap.size na sa (a ^ (n / 2 ^ L)) := by
    have hl2 : w.heap.size + 1 < W.heap.size := (Array.getElem?_eq_some_iff.1 k2).1
    have hk1 := ((Below.refl W1.heap.size W1).alloc (Nat.le_refl _) (.cells #[.bool neg, .slice ao m cap] 27))
    have e1 := ((hk1.block _ (Nat.lt_of_lt_of_le (by omega) hb1.size)).trans (hb1.block w.heap.size (by omega))).trans k1
    have e2 := ((hk1.block _ (Nat.lt_of_lt_of_le hl2 hb1.size)).trans (hb1.block (w.heap.size + 1) hl2)).trans k2
    obtain ⟨c1, c2, _⟩ := cells_two e1
    rw [HL0.out, Int.pow_zero]
    exact ⟨c1, c2, e2, ⟨neg, ao, m, cap, heap_alloc_new W1 _, hneg, (hs.below hk1).mono (by omega)⟩, Nat.lt_of_lt_of_le hl2 hb1.size⟩
  have hBW : Below w.heap.size w (W1.alloc (.cells #[.bool neg, .slice ao m cap] 27)) := (hB.trans (hb1.mono hB.size)).alloc (Nat.le_trans hB.size hb1.size) _
  have hgW : w.heap.size + 1 < W1.heap.size := hI0.lt
  have HI0 := Lib.hid hI0
  have HBW := Lib.hid hBW
  clear hI0 hBW hneg hs hb1 hB k1 k2 
  go_wp2_with (go_at_call 52; refine (HLEN.out _).mono ?_; rintro e w' ⟨rfl, rfl⟩)
  revert HI0 HBW
  generalize W1.alloc (.cells #[.bool neg, .slice ao m cap] 27) = W2
  intro HI0 HBW
  revert HI0 hgW
  generalize W1.heap.size = g
  intro hgW HI0
  go_loopw [7] (fun kv wr => ∃ k : Nat, k ≤ L ∧ kv = .int .i64 ((k : Int) - 1) ∧ Hid (PowI wr w.heap.size g na sa (a ^ (n / 2 ^ k))) ∧ Hid (Below w.heap.size w wr) ∧ Hid (fitsB (a ^ (n / 2 ^ k)).natAbs = true)) (fun kv _ => (intOf kv + 1).toNat)
  case atStart => exact ⟨L, Nat.le_refl _, rfl, HI0, HBW, by rw [HL0.out, Int.pow_zero]; exact fits_one⟩
  case round =>
    obtain ⟨k, hk, rfl, hI, hBw, hF⟩ := hrel
    obtain ⟨c0, c1, _⟩ : wr.cell? ⟨w.heap.size, 0, none⟩ = some (.bool na) ∧ wr.cell? ⟨w.heap.size, 1, none⟩ = some sa ∧ True := ⟨hI.out.a0, hI.out.a1, trivial⟩
    obtain ⟨r0, r1, rf0, rf1⟩ := hI.out.r.cells
    obtain ⟨neg1, ao1, m1, cap1, hg, hn1, hs1⟩ := hI.out.p
    obtain ⟨p0, p1, pf0, pf1⟩ := cells_two hg
    have hp : Nu wr (.agg #[.bool neg1, .slice ao1 m1 cap1]) (a ^ (n / 2 ^ k)) := ⟨_, by rw [hn1], hs1.sl, by have := hF.out; simpa [fitsB] using this⟩
    have HP := Lib.hid hp
    have hglt : g < wr.heap.size := (Array.getElem?_eq_some_iff.1 hg).1
    have HS1 := Lib.hid hs1
    have HN1 := Lib.hid hn1
    clear hp hn1 hs1 hg
    cases k with
    | zero =>
      have hfin : NumRes w (a ^ n) (.returned (.tuple #[.agg #[.bool neg1, .slice ao1 m1 cap1], .bool true])) ((wr.setCell ⟨w.heap.size + 1, 0, none⟩ (.bool neg1)).setCell ⟨w.heap.size + 1, 1, none⟩ (.slice ao1 m1 cap1)) := by
        have e0 : n / 2 ^ 0 = n := by simp
        have h1 := HS1.out
        have h2 := HN1.out
        have h3 := hF.out
        rw [e0] at h1 h2 h3
        exact numRes_yes h3 ((hBw.out.setCell (by simp) _).setCell (by simp) _) h2 ((h1.after2 (by omega) _ _).mono (by omega))
      have HF := Lib.hid hfin
      obtain ⟨q0, q1⟩ := hI.out.r.stored (.bool neg1) (.slice ao1 m1 cap1)
      clear hfin
      go_wp2
      refine bodyPost_ret (v := .tuple #[.agg #[.bool neg1, .slice ao1 m1 cap1], .bool true]) (by simp [results, Tryz.results20, go_sem, q0, q1]) rfl ?_
      exact HF.out
    | succ k =>
      have hq : n / 2 ^ k = 2 * (n / 2 ^ (k + 1)) + n / 2 ^ k % 2 := bits_one n k
      have hle : n / 2 ^ k ≤ n := Nat.div_le_self _ _
      have hsh := shr_i64 n k (by omega)
      have han := and_one (n / 2 ^ k) (by have := HN.out; omega)
      obtain ⟨q, hq0⟩ : ∃ q, q = n / 2 ^ (k + 1) := ⟨_, rfl⟩
      obtain ⟨u, hu⟩ : ∃ u, u = n / 2 ^ k := ⟨_, rfl⟩
      obtain ⟨b, hb⟩ : ∃ b, b = u % 2 := ⟨_, rfl⟩
      have hb2 : b = 0 ∨ b = 1 := by omega
      rw [← hq0] at HP hI hF hq
      rw [← hu] at hq hle hsh han
      rw [← hb] at hq han
      have HQ := Lib.hid hq
      have HLE := Lib.hid hle
      have HU := Lib.hid hu
      clear hq hle hq0 hu hb
      have hk1 : (((k + 1 : Nat) : Int) - 1) = k := by omega
      go_wp2_with fail
      refine (mul_any HP.out HP.out).mono ?_
      rintro e W3 ⟨neg2, ao2, n2, cap2, rfl, hb3, h1, h2⟩
      have hI4 := hI.out.stored hb3 h1 h2
      have hb3' : Below w.heap.size w W3 := hBw.out.trans (hb3.mono hBw.out.size)
      have hB4 : Below w.heap.size w ((W3.setCell ⟨g, 0, none⟩ (.bool neg2)).setCell ⟨g, 1, none⟩ (.slice ao2 n2 cap2)) := (hb3'.setCell (by simp; omega) _).setCell (by simp; omega) _
      have hI3 := hI.out.below hb3
      obtain ⟨_, _, _, _, hg3, _, _⟩ := hI3.p
      obtain ⟨p0', p1', pf0', pf1'⟩ := cells_two hg3
      have hpp : a ^ q * a ^ q = a ^ (2 * q) := by rw [Nat.two_mul, Int.pow_add]
      rw [hpp] at h1 h2 hI4 ⊢
      have HPP := Lib.hid hpp
      clear hpp
      by_cases hf : fitsB (a ^ (2 * q)).natAbs = true
      · obtain ⟨hn2, hs2⟩ := h1 hf
        rw [if_pos hf] at hI4
        rw [hf]
        obtain ⟨x0, x1, _⟩ : _ ∧ _ ∧ True := ⟨hI4.a0, hI4.a1, trivial⟩
        have hg4 := stored_two hg3 (.bool neg2) (.slice ao2 n2 cap2)
        obtain ⟨y0, y1, yf0, yf1⟩ := cells_two hg4
        have hp4 : Nu ((W3.setCell ⟨g, 0, none⟩ (.bool neg2)).setCell ⟨g, 1, none⟩ (.slice ao2 n2 cap2)) (.agg #[.bool neg2, .slice ao2 n2 cap2]) (a ^ (2 * q)) := ⟨_, by rw [hn2], (hs2.after2 hglt _ _).sl, by simpa [fitsB] using hf⟩
        have HP4 := Lib.hid hp4
        have HI4 := Lib.hid hI4
        have HB4 := Lib.hid hB4
        have HF := Lib.hid hf
        clear h1 h2 hI4 hB4 hf hn2 hs2 hg4 hg3 hI3 hb3 hb3' hp4
        rcases hb2 with rfl | rfl
        · have hu2 : u = 2 * q := by have := HQ.out; omega
          have HU2 := Lib.hid hu2
          clear hu2
          go_wp2
          go_roundw
          case rel => exact ⟨k, by omega, by go_num, by rw [← HU.out, HU2.out]; exact HI4, HB4, by rw [← HU.out, HU2.out]; exact HF⟩
          case measure => simp [intOf]
        · have hu2 : u = 2 * q + 1 := by have := HQ.out; omega
          have HU2 := Lib.hid hu2
          clear hu2
          have hx4 : Nu ((W3.setCell ⟨g, 0, none⟩ (.bool neg2)).setCell ⟨g, 1, none⟩ (.slice ao2 n2 cap2)) (.agg #[.bool na, sa]) a := ⟨_, by rw [HNA.out], ha.below HB4.out, la⟩
          have HX4 := Lib.hid hx4
          clear hx4
          go_wp2_with fail
          refine (mul_any HP4.out HX4.out).mono ?_
          rintro e W5 ⟨neg5, ao5, n5, cap5, rfl, hb5, h1, h2⟩
          have hI6 := HI4.out.stored hb5 h1 h2
          have hb5' : Below w.heap.size w W5 := HB4.out.trans (hb5.mono HB4.out.size)
          have hB6 : Below w.heap.size w ((W5.setCell ⟨g, 0, none⟩ (.bool neg5)).setCell ⟨g, 1, none⟩ (.slice ao5 n5 cap5)) := (hb5'.setCell (by simp; omega) _).setCell (by simp; omega) _
          have hI5 := HI4.out.below hb5
          obtain ⟨_, _, _, _, hg5, _, _⟩ := hI5.p
          obtain ⟨z0, z1, zf0, zf1⟩ := cells_two hg5
          have hpp : a ^ (2 * q) * a = a ^ (2 * q + 1) := by rw [Int.pow_succ]
          rw [hpp] at h1 h2 hI6 ⊢
          have HPP' := Lib.hid hpp
          clear hpp
          by_cases hf : fitsB (a ^ (2 * q + 1)).natAbs = true
          · obtain ⟨hn2, hs2⟩ := h1 hf
            rw [if_pos hf] at hI6
            rw [hf]
            have HI6 := Lib.hid hI6
            have HB6 := Lib.hid hB6
            have HF6 := Lib.hid hf
            clear h1 h2 hI6 hB6 hf hn2 hs2 hg5 hI5 hb5 hb5'
            go_wp2
            go_roundw
            case rel => exact ⟨k, by omega, by go_num, by rw [← HU.out, HU2.out]; exact HI6, HB6, by rw [← HU.out, HU2.out]; exact HF6⟩
            case measure => simp [intOf]
          · have hf0 : fitsB (a ^ (2 * q + 1)).natAbs = false := by simpa using hf
            obtain ⟨rfl, rfl, rfl, rfl⟩ := h2 hf0
            rw [if_neg hf] at hI6
            rw [hf0]
            have HB4' := Lib.hid hB6
            have HF0 := Lib.hid hf0
            clear h1 h2 hf hg5 hI5 hb5 hb5' hB6 hf0
            obtain ⟨r0', r1', rf0', rf1'⟩ := hI6.r.cells
            obtain ⟨q0, q1⟩ := hI6.r.stored (.bool false) (.slice none 0 0)
            have HNO := Lib.hid (numRes_no (w := w) (z := a ^ n) (pow_over (show 2 * q + 1 ≤ n by have := HU2.out; have := HLE.out; omega) HF0.out) ((HB4'.out.setCell (p := ⟨w.heap.size + 1, 0, none⟩) (by simp) (.bool false)).setCell (p := ⟨w.heap.size + 1, 1, none⟩) (by simp) (.slice none 0 0)))
            go_wp2
            refine bodyPost_ret (v := .tuple #[.agg #[.bool false, .slice none 0 0], .bool false]) (by simp [results, Tryz.results20, go_sem, q0, q1]) rfl ?_
            exact HNO.out
      · have hf0 : fitsB (a ^ (2 * q)).natAbs = false := by simpa using hf
        obtain ⟨rfl, rfl, rfl, rfl⟩ := h2 hf0
        have hf' := hf0
        rw [hf0]
        have HB4 := Lib.hid hB4
        clear h1 h2 hf hg3 hI3 hb3 hb3' hB4
        clear hf'
        have HF0 := Lib.hid hf0
        clear hf0
        obtain ⟨r0', r1', rf0', rf1'⟩ := hI4.r.cells
        obtain ⟨q0, q1⟩ := hI4.r.stored (.bool false) (.slice none 0 0)
        have HNO := Lib.hid (numRes_no (w := w) (z := a ^ n) (pow_over (show 2 * q ≤ n by have := HQ.out; have := HLE.out; omega) HF0.out) ((HB4.out.setCell (p := ⟨w.heap.size + 1, 0, none⟩) (by simp) (.bool false)).setCell (p := ⟨w.heap.size + 1, 1, none⟩) (by simp) (.slice none 0 0)))
        go_wp2
        refine bodyPost_ret (v := .tuple #[.agg #[.bool false, .slice none 0 0], .bool false]) (by simp [results, Tryz.results20, go_sem, q0, q1]) rfl ?_
        exact HNO.out

end Go.Proofs.YtdgmjmckeeeljaaGreatDoor
