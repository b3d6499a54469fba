/- Contracts of num: Add. -/
import Derived.Test.YtdgmjmckeeeljaaGreatDoorI
namespace Go.Proofs.YtdgmjmckeeeljaaGreatDoor
open Go.RowKit

theorem plus_at {w : World} {va vb : Value} {x y n : Nat} (ha : Sl w va (digs x)) (hb : Sl w vb (digs y)) (hla : (digs x).length ≤ 256) (hlb : (digs y).length ≤ 256) (hn : (digs (x + y)).length = n) :
    Calls Tryz.prog 45 #[va, vb] w fun e w' => ∃ ao cap, e = .returned (.slice ao n cap) ∧ Sw w.heap.size w' (.slice ao n cap) (digs (x + y)) ∧ Below w.heap.size w w' := by
  have h := plus_any ha hb (by omega) (by omega)
  rw [val_digs, val_digs] at h
  refine h.mono ?_
  rintro e w' ⟨v, rfl, hs, hbl⟩
  obtain ⟨ao, cap, rfl⟩ := hs.sl.mk'
  subst hn
  exact ⟨ao, cap, rfl, hs, hbl⟩

theorem minus_at {w : World} {va vb : Value} {x y n : Nat} (ha : Sl w va (digs x)) (hb : Sl w vb (digs y)) (hla : (digs x).length ≤ 256) (hle : y ≤ x) (hn : (digs (x - y)).length = n) :
    Calls Tryz.prog 46 #[va, vb] w fun e w' => ∃ ao cap, e = .returned (.slice ao n cap) ∧ Sw w.heap.size w' (.slice ao n cap) (digs (x - y)) ∧ Below w.heap.size w w' := by
  have h := minus_any ha hb (by omega) (by rw [val_digs, val_digs]; exact hle)
  rw [val_digs, val_digs] at h
  refine h.mono ?_
  rintro e w' ⟨v, rfl, hs, hbl⟩
  obtain ⟨ao, cap, rfl⟩ := hs.sl.mk'
  subst hn
  exact ⟨ao, cap, rfl, hs, hbl⟩

set_option maxRecDepth 10000 in
set_option maxHeartbeats 1000000 in
theorem add_same {w : World} {x y : Value} {a b : Int} (hx : Nu w x a) (hy : Nu w y b) (hs : decide (a < 0) = decide (b < 0)) :
    Calls Tryz.prog 28 #[x, y] w (NumRes w (a + b)) := by
  obtain ⟨sa, rfl, ha, la⟩ := hx
  obtain ⟨sb, rfl, hb, lb⟩ := hy
  have ra := rightB_digs a la
  have rb := rightB_digs b lb
  obtain ⟨na, hna⟩ : ∃ na, na = decide (a < 0) := ⟨_, rfl⟩
  obtain ⟨nb, hnb⟩ : ∃ nb, nb = decide (b < 0) := ⟨_, rfl⟩
  rw [← hna] at ra ⊢
  rw [← hnb] at rb ⊢
  have HNA := Lib.hid hna
  have HNB := Lib.hid hnb
  clear hna hnb
  have R1 : ∀ W, Sl W sa (digs a.natAbs) → Calls Tryz.prog 32 #[.agg #[.bool na, sa]] W fun e w' => e = .returned (.bool true) ∧ w' = W.alloc (.cells #[.bool na, sa] 27) := fun W h => by have := right_any na h (by omega); rwa [ra] at this
  have R2 : ∀ W, Sl W sb (digs b.natAbs) → Calls Tryz.prog 32 #[.agg #[.bool nb, sb]] W fun e w' => e = .returned (.bool true) ∧ w' = W.alloc (.cells #[.bool nb, sb] 27) := fun W h => by have := right_any nb h (by omega); rwa [rb] at this
  have HR1 := Lib.hid R1
  have HR2 := Lib.hid R2
  clear R1 R2 ra rb
  have hab : (a + b).natAbs = a.natAbs + b.natAbs := by
    by_cases h : a < 0 <;> by_cases h2 : b < 0 <;> simp [h, h2] at hs <;> omega
  have hsg : a + b ≠ 0 → decide (a < 0) = decide (a + b < 0) := by
    by_cases h : a < 0 <;> by_cases h2 : b < 0 <;> simp [h, h2] at hs ⊢ <;> omega
  have HAB := Lib.hid hab
  have HSG := Lib.hid hsg
  obtain rfl : nb = na := by rw [HNA.out, HNB.out, hs]
  clear hs hab hsg
  go_enter Tryz.func28, Tryz.ntmps28
  go_wp2_with (first | (go_at_call_of 32 (Value.agg #[.bool nb, sa]); refine (HR1.out _ (ha.below (by go_grown))).mono ?_; rintro e w' ⟨rfl, rfl⟩) | (go_at_call_of 32 (Value.agg #[.bool nb, sb]); refine (HR2.out _ (hb.below (by go_grown))).mono ?_; rintro e w' ⟨rfl, rfl⟩))
  have HB : Box3 ((((w.alloc (.cells #[.bool nb, sa] 27)).alloc (.cells #[.bool nb, sb] 27)).alloc (.cells #[.bool false, .slice none 0 0] 27)).alloc (.cells #[.bool nb, sa] 27) |>.alloc (.cells #[.bool nb, sb] 27)) w.heap.size nb nb sa sb a.natAbs b.natAbs :=
    box3_new ha hb (by go_grown)
  have HBL : Below w.heap.size w ((((w.alloc (.cells #[.bool nb, sa] 27)).alloc (.cells #[.bool nb, sb] 27)).alloc (.cells #[.bool false, .slice none 0 0] 27)).alloc (.cells #[.bool nb, sa] 27) |>.alloc (.cells #[.bool nb, sb] 27)) := by go_grown
  revert HB HBL
  generalize ((((w.alloc (.cells #[.bool nb, sa] 27)).alloc (.cells #[.bool nb, sb] 27)).alloc (.cells #[.bool false, .slice none 0 0] 27)).alloc (.cells #[.bool nb, sa] 27) |>.alloc (.cells #[.bool nb, sb] 27)) = W
  intro HB HBL
  have a0 := HB.a0
  have a1 := HB.a1
  have b0 := HB.b0
  have b1 := HB.b1
  obtain ⟨n, hn⟩ : ∃ n, n = (digs (a.natAbs + b.natAbs)).length := ⟨_, rfl⟩
  have HN := Lib.hid hn
  clear hn
  go_region_held3 (fun w' => w'.cell? ⟨w.heap.size, 0, none⟩ = some (.bool nb) ∧ w'.cell? ⟨w.heap.size, 1, none⟩ = some sa ∧ w'.cell? ⟨w.heap.size + 1, 0, none⟩ = some (.bool nb) ∧ w'.cell? ⟨w.heap.size + 1, 1, none⟩ = some sb)
      (first | (exact HB.keep (by go_grown)) | (exact HB.keep (hbw.alloc hbw0 _)) | (exact HB.keep ((hbw.alloc hbw0 _).setCell (by simp) _)))
      ((first | (go_at_call 45; refine (plus_at (HB.below (by go_grown)).sa (HB.below (by go_grown)).sb la lb HN.out.symm).mono ?_; rintro e w1 ⟨ao, cap, rfl, hs1, hb1⟩; have hb1' : Below W.heap.size W w1 := Below.trans (by go_grown) hb1; have HB1 := HB.below hb1'; obtain ⟨r0, r1, f0, f1⟩ := HB1.cells; have hz := HB1.lt; have hbw := hb1'.mono (Nat.le_of_lt HB.lt); have hbw0 := Nat.le_of_lt hz) | (go_at_call 47; refine (made_any _ _ _ _ _).mono ?_; rintro e w2 ⟨rfl, rfl⟩)))
  have HHs := Lib.hid hs1
  clear hs1
  have hfin : Below w.heap.size w (((w1.setCell ⟨w.heap.size + 1 + 1, 0, none⟩ (.bool (mkN nb n))).setCell ⟨w.heap.size + 1 + 1, 1, none⟩ (.slice (mkA ao n) (mkL n) (mkC n cap))).alloc (.cells #[.bool (mkN nb n), .slice (mkA ao n) (mkL n) (mkC n cap)] 27)) :=
    (((HBL.trans (hb1'.mono (by have := HB.lt; omega))).setCell (by simp; omega) _).setCell (by simp; omega) _).alloc (by simp; omega) _
  obtain ⟨q0, q1⟩ := res_cells HB1.r (.bool (mkN nb n)) (.slice (mkA ao n) (mkL n) (mkC n cap)) (.cells #[.bool (mkN nb n), .slice (mkA ao n) (mkL n) (mkC n cap)] 27)
  have hsw := HHs.out.after (g := w.heap.size + 1 + 1) HB.lt (.bool (mkN nb n)) (.slice (mkA ao n) (mkL n) (mkC n cap)) (.cells #[.bool (mkN nb n), .slice (mkA ao n) (mkL n) (mkC n cap)] 27)
  revert q0 q1 hfin hsw
  generalize (((w1.setCell ⟨w.heap.size + 1 + 1, 0, none⟩ (.bool (mkN nb n))).setCell ⟨w.heap.size + 1 + 1, 1, none⟩ (.slice (mkA ao n) (mkL n) (mkC n cap))).alloc (.cells #[.bool (mkN nb n), .slice (mkA ao n) (mkL n) (mkC n cap)] 27)) = W3
  intro hfin q0 q1 hsw
  have HSW := Lib.hid hsw
  clear hsw
  go_wp2
  refine bodyPost_ret (v := .tuple #[.agg #[.bool (mkN nb n), .slice (mkA ao n) (mkL n) (mkC n cap)], .bool (mkK n)]) (by simp [results, Tryz.results28, go_sem, q0, q1]) rfl ?_
  exact numRes_made hfin (by rw [HAB.out]; exact HN.out) (fun hz => by rw [HNA.out]; exact HSG.out hz) (fun _ => by rw [HAB.out]; exact HSW.out.mono (by simp; exact HBL.size))

set_option maxRecDepth 10000 in
set_option maxHeartbeats 1000000 in
theorem add_lt {w : World} {x y : Value} {a b : Int} (hx : Nu w x a) (hy : Nu w y b) (hs : decide (a < 0) ≠ decide (b < 0)) (hc : a.natAbs < b.natAbs) :
    Calls Tryz.prog 28 #[x, y] w (NumRes w (a + b)) := by
  obtain ⟨sa, rfl, ha, la⟩ := hx
  obtain ⟨sb, rfl, hb, lb⟩ := hy
  have ra := rightB_digs a la
  have rb := rightB_digs b lb
  obtain ⟨na, hna⟩ : ∃ na, na = decide (a < 0) := ⟨_, rfl⟩
  obtain ⟨nb, hnb⟩ : ∃ nb, nb = decide (b < 0) := ⟨_, rfl⟩
  rw [← hna] at ra ⊢
  rw [← hnb] at rb ⊢
  have HNA := Lib.hid hna
  have HNB := Lib.hid hnb
  clear hna hnb
  have R1 : ∀ W, Sl W sa (digs a.natAbs) → Calls Tryz.prog 32 #[.agg #[.bool na, sa]] W fun e w' => e = .returned (.bool true) ∧ w' = W.alloc (.cells #[.bool na, sa] 27) := fun W h => by have := right_any na h (by omega); rwa [ra] at this
  have R2 : ∀ W, Sl W sb (digs b.natAbs) → Calls Tryz.prog 32 #[.agg #[.bool nb, sb]] W fun e w' => e = .returned (.bool true) ∧ w' = W.alloc (.cells #[.bool nb, sb] 27) := fun W h => by have := right_any nb h (by omega); rwa [rb] at this
  have HR1 := Lib.hid R1
  have HR2 := Lib.hid R2
  clear R1 R2 ra rb
  have hab : (a + b).natAbs = b.natAbs - a.natAbs := by
    by_cases h : a < 0 <;> by_cases h2 : b < 0 <;> simp [h, h2] at hs <;> omega
  have hsg : a + b ≠ 0 → decide (b < 0) = decide (a + b < 0) := by
    by_cases h : a < 0 <;> by_cases h2 : b < 0 <;> simp [h, h2] at hs ⊢ <;> omega
  have HAB := Lib.hid hab
  have HSG := Lib.hid hsg
  have hne : (na == nb) = false := by rw [HNA.out, HNB.out]; simpa using hs
  have hcm : cmpN a.natAbs b.natAbs < 0 := by rw [cmpN_lt hc]; decide
  clear hs hab hsg
  go_enter Tryz.func28, Tryz.ntmps28
  go_wp2_with (first | (go_at_call_of 32 (Value.agg #[.bool na, sa]); refine (HR1.out _ (ha.below (by go_grown))).mono ?_; rintro e w' ⟨rfl, rfl⟩) | (go_at_call_of 32 (Value.agg #[.bool nb, sb]); refine (HR2.out _ (hb.below (by go_grown))).mono ?_; rintro e w' ⟨rfl, rfl⟩))
  have HB : Box3 ((((w.alloc (.cells #[.bool na, sa] 27)).alloc (.cells #[.bool nb, sb] 27)).alloc (.cells #[.bool false, .slice none 0 0] 27)).alloc (.cells #[.bool na, sa] 27) |>.alloc (.cells #[.bool nb, sb] 27)) w.heap.size na nb sa sb a.natAbs b.natAbs :=
    box3_new ha hb (by go_grown)
  have HBL : Below w.heap.size w ((((w.alloc (.cells #[.bool na, sa] 27)).alloc (.cells #[.bool nb, sb] 27)).alloc (.cells #[.bool false, .slice none 0 0] 27)).alloc (.cells #[.bool na, sa] 27) |>.alloc (.cells #[.bool nb, sb] 27)) := by go_grown
  revert HB HBL
  generalize ((((w.alloc (.cells #[.bool na, sa] 27)).alloc (.cells #[.bool nb, sb] 27)).alloc (.cells #[.bool false, .slice none 0 0] 27)).alloc (.cells #[.bool na, sa] 27) |>.alloc (.cells #[.bool nb, sb] 27)) = W
  intro HB HBL
  go_wp2_with (go_at_call 68; refine (compare_any HB.sa HB.sb (by omega) (by omega)).mono ?_; rintro e W5 ⟨rfl, hbW⟩)
  replace HBL := HBL.trans (hbW.mono HBL.size)
  replace HB := HB.below hbW
  clear hbW
  obtain ⟨W, rfl⟩ : ∃ W, W = W5 := ⟨_, rfl⟩
  have a0 := HB.a0
  have a1 := HB.a1
  have b0 := HB.b0
  have b1 := HB.b1
  obtain ⟨n, hn⟩ : ∃ n, n = (digs (b.natAbs - a.natAbs)).length := ⟨_, rfl⟩
  have HN := Lib.hid hn
  clear hn
  go_region_held3 (fun w' => w'.cell? ⟨w.heap.size, 0, none⟩ = some (.bool na) ∧ w'.cell? ⟨w.heap.size, 1, none⟩ = some sa ∧ w'.cell? ⟨w.heap.size + 1, 0, none⟩ = some (.bool nb) ∧ w'.cell? ⟨w.heap.size + 1, 1, none⟩ = some sb)
      (first | (exact HB.keep (by go_grown)) | (exact HB.keep (hbw.alloc hbw0 _)) | (exact HB.keep ((hbw.alloc hbw0 _).setCell (by simp) _)))
      ((first | (go_at_call 46; refine (minus_at (HB.below (by go_grown)).sb (HB.below (by go_grown)).sa lb (by omega) HN.out.symm).mono ?_; rintro e w1 ⟨ao, cap, rfl, hs1, hb1⟩; have hb1' : Below W.heap.size W w1 := Below.trans (by go_grown) hb1; have HB1 := HB.below hb1'; obtain ⟨r0, r1, f0, f1⟩ := HB1.cells; have hz := HB1.lt; have hbw := hb1'.mono (Nat.le_of_lt HB.lt); have hbw0 := Nat.le_of_lt hz) | (go_at_call 47; refine (made_any _ _ _ _ _).mono ?_; rintro e w2 ⟨rfl, rfl⟩)))
  have HHs := Lib.hid hs1
  clear hs1
  have hfin : Below w.heap.size w (((w1.setCell ⟨w.heap.size + 1 + 1, 0, none⟩ (.bool (mkN nb n))).setCell ⟨w.heap.size + 1 + 1, 1, none⟩ (.slice (mkA ao n) (mkL n) (mkC n cap))).alloc (.cells #[.bool (mkN nb n), .slice (mkA ao n) (mkL n) (mkC n cap)] 27)) :=
    (((HBL.trans (hb1'.mono (by have := HB.lt; omega))).setCell (by simp; omega) _).setCell (by simp; omega) _).alloc (by simp; omega) _
  obtain ⟨q0, q1⟩ := res_cells HB1.r (.bool (mkN nb n)) (.slice (mkA ao n) (mkL n) (mkC n cap)) (.cells #[.bool (mkN nb n), .slice (mkA ao n) (mkL n) (mkC n cap)] 27)
  have hsw := HHs.out.after (g := w.heap.size + 1 + 1) HB.lt (.bool (mkN nb n)) (.slice (mkA ao n) (mkL n) (mkC n cap)) (.cells #[.bool (mkN nb n), .slice (mkA ao n) (mkL n) (mkC n cap)] 27)
  revert q0 q1 hfin hsw
  generalize (((w1.setCell ⟨w.heap.size + 1 + 1, 0, none⟩ (.bool (mkN nb n))).setCell ⟨w.heap.size + 1 + 1, 1, none⟩ (.slice (mkA ao n) (mkL n) (mkC n cap))).alloc (.cells #[.bool (mkN nb n), .slice (mkA ao n) (mkL n) (mkC n cap)] 27)) = W3
  intro hfin q0 q1 hsw
  have HSW := Lib.hid hsw
  clear hsw
  go_wp2
  refine bodyPost_ret (v := .tuple #[.agg #[.bool (mkN nb n), .slice (mkA ao n) (mkL n) (mkC n cap)], .bool (mkK n)]) (by simp [results, Tryz.results28, go_sem, q0, q1]) rfl ?_
  exact numRes_made hfin (by rw [HAB.out]; exact HN.out) (fun hz => by rw [HNB.out]; exact HSG.out hz) (fun _ => by rw [HAB.out]; exact HSW.out.mono (by simp; exact HBL.size))

set_option maxRecDepth 10000 in
set_option maxHeartbeats 1000000 in
theorem add_ge {w : World} {x y : Value} {a b : Int} (hx : Nu w x a) (hy : Nu w y b) (hs : decide (a < 0) ≠ decide (b < 0)) (hc : b.natAbs ≤ a.natAbs) :
    Calls Tryz.prog 28 #[x, y] w (NumRes w (a + b)) := by
  obtain ⟨sa, rfl, ha, la⟩ := hx
  obtain ⟨sb, rfl, hb, lb⟩ := hy
  have ra := rightB_digs a la
  have rb := rightB_digs b lb
  obtain ⟨na, hna⟩ : ∃ na, na = decide (a < 0) := ⟨_, rfl⟩
  obtain ⟨nb, hnb⟩ : ∃ nb, nb = decide (b < 0) := ⟨_, rfl⟩
  rw [← hna] at ra ⊢
  rw [← hnb] at rb ⊢
  have HNA := Lib.hid hna
  have HNB := Lib.hid hnb
  clear hna hnb
  have R1 : ∀ W, Sl W sa (digs a.natAbs) → Calls Tryz.prog 32 #[.agg #[.bool na, sa]] W fun e w' => e = .returned (.bool true) ∧ w' = W.alloc (.cells #[.bool na, sa] 27) := fun W h => by have := right_any na h (by omega); rwa [ra] at this
  have R2 : ∀ W, Sl W sb (digs b.natAbs) → Calls Tryz.prog 32 #[.agg #[.bool nb, sb]] W fun e w' => e = .returned (.bool true) ∧ w' = W.alloc (.cells #[.bool nb, sb] 27) := fun W h => by have := right_any nb h (by omega); rwa [rb] at this
  have HR1 := Lib.hid R1
  have HR2 := Lib.hid R2
  clear R1 R2 ra rb
  have hab : (a + b).natAbs = a.natAbs - b.natAbs := by
    by_cases h : a < 0 <;> by_cases h2 : b < 0 <;> simp [h, h2] at hs <;> omega
  have hsg : a + b ≠ 0 → decide (a < 0) = decide (a + b < 0) := by
    by_cases h : a < 0 <;> by_cases h2 : b < 0 <;> simp [h, h2] at hs ⊢ <;> omega
  have HAB := Lib.hid hab
  have HSG := Lib.hid hsg
  have hne : (na == nb) = false := by rw [HNA.out, HNB.out]; simpa using hs
  have hcm : 0 ≤ cmpN a.natAbs b.natAbs := by unfold cmpN; rw [if_neg (by omega)]; split <;> decide
  clear hs hab hsg
  go_enter Tryz.func28, Tryz.ntmps28
  go_wp2_with (first | (go_at_call_of 32 (Value.agg #[.bool na, sa]); refine (HR1.out _ (ha.below (by go_grown))).mono ?_; rintro e w' ⟨rfl, rfl⟩) | (go_at_call_of 32 (Value.agg #[.bool nb, sb]); refine (HR2.out _ (hb.below (by go_grown))).mono ?_; rintro e w' ⟨rfl, rfl⟩))
  have HB : Box3 ((((w.alloc (.cells #[.bool na, sa] 27)).alloc (.cells #[.bool nb, sb] 27)).alloc (.cells #[.bool false, .slice none 0 0] 27)).alloc (.cells #[.bool na, sa] 27) |>.alloc (.cells #[.bool nb, sb] 27)) w.heap.size na nb sa sb a.natAbs b.natAbs :=
    box3_new ha hb (by go_grown)
  have HBL : Below w.heap.size w ((((w.alloc (.cells #[.bool na, sa] 27)).alloc (.cells #[.bool nb, sb] 27)).alloc (.cells #[.bool false, .slice none 0 0] 27)).alloc (.cells #[.bool na, sa] 27) |>.alloc (.cells #[.bool nb, sb] 27)) := by go_grown
  revert HB HBL
  generalize ((((w.alloc (.cells #[.bool na, sa] 27)).alloc (.cells #[.bool nb, sb] 27)).alloc (.cells #[.bool false, .slice none 0 0] 27)).alloc (.cells #[.bool na, sa] 27) |>.alloc (.cells #[.bool nb, sb] 27)) = W
  intro HB HBL
  go_wp2_with (go_at_call 68; refine (compare_any HB.sa HB.sb (by omega) (by omega)).mono ?_; rintro e W5 ⟨rfl, hbW⟩)
  replace HBL := HBL.trans (hbW.mono HBL.size)
  replace HB := HB.below hbW
  clear hbW
  obtain ⟨W, rfl⟩ : ∃ W, W = W5 := ⟨_, rfl⟩
  have a0 := HB.a0
  have a1 := HB.a1
  have b0 := HB.b0
  have b1 := HB.b1
  obtain ⟨n, hn⟩ : ∃ n, n = (digs (a.natAbs - b.natAbs)).length := ⟨_, rfl⟩
  have HN := Lib.hid hn
  clear hn
  go_region_held3 (fun w' => w'.cell? ⟨w.heap.size, 0, none⟩ = some (.bool na) ∧ w'.cell? ⟨w.heap.size, 1, none⟩ = some sa ∧ w'.cell? ⟨w.heap.size + 1, 0, none⟩ = some (.bool nb) ∧ w'.cell? ⟨w.heap.size + 1, 1, none⟩ = some sb)
      (first | (exact HB.keep (by go_grown)) | (exact HB.keep (hbw.alloc hbw0 _)) | (exact HB.keep ((hbw.alloc hbw0 _).setCell (by simp) _)))
      ((first | (go_at_call 46; refine (minus_at (HB.below (by go_grown)).sa (HB.below (by go_grown)).sb la (by omega) HN.out.symm).mono ?_; rintro e w1 ⟨ao, cap, rfl, hs1, hb1⟩; have hb1' : Below W.heap.size W w1 := Below.trans (by go_grown) hb1; have HB1 := HB.below hb1'; obtain ⟨r0, r1, f0, f1⟩ := HB1.cells; have hz := HB1.lt; have hbw := hb1'.mono (Nat.le_of_lt HB.lt); have hbw0 := Nat.le_of_lt hz) | (go_at_call 47; refine (made_any _ _ _ _ _).mono ?_; rintro e w2 ⟨rfl, rfl⟩)))
  have HHs := Lib.hid hs1
  clear hs1
  have hfin : Below w.heap.size w (((w1.setCell ⟨w.heap.size + 1 + 1, 0, none⟩ (.bool (mkN na n))).setCell ⟨w.heap.size + 1 + 1, 1, none⟩ (.slice (mkA ao n) (mkL n) (mkC n cap))).alloc (.cells #[.bool (mkN na n), .slice (mkA ao n) (mkL n) (mkC n cap)] 27)) :=
    (((HBL.trans (hb1'.mono (by have := HB.lt; omega))).setCell (by simp; omega) _).setCell (by simp; omega) _).alloc (by simp; omega) _
  obtain ⟨q0, q1⟩ := res_cells HB1.r (.bool (mkN na n)) (.slice (mkA ao n) (mkL n) (mkC n cap)) (.cells #[.bool (mkN na n), .slice (mkA ao n) (mkL n) (mkC n cap)] 27)
  have hsw := HHs.out.after (g := w.heap.size + 1 + 1) HB.lt (.bool (mkN na n)) (.slice (mkA ao n) (mkL n) (mkC n cap)) (.cells #[.bool (mkN na n), .slice (mkA ao n) (mkL n) (mkC n cap)] 27)
  revert q0 q1 hfin hsw
  generalize (((w1.setCell ⟨w.heap.size + 1 + 1, 0, none⟩ (.bool (mkN na n))).setCell ⟨w.heap.size + 1 + 1, 1, none⟩ (.slice (mkA ao n) (mkL n) (mkC n cap))).alloc (.cells #[.bool (mkN na n), .slice (mkA ao n) (mkL n) (mkC n cap)] 27)) = W3
  intro hfin q0 q1 hsw
  have HSW := Lib.hid hsw
  clear hsw
  go_wp2
  refine bodyPost_ret (v := .tuple #[.agg #[.bool (mkN na n), .slice (mkA ao n) (mkL n) (mkC n cap)], .bool (mkK n)]) (by simp [results, Tryz.results28, go_sem, q0, q1]) rfl ?_
  exact numRes_made hfin (by rw [HAB.out]; exact HN.out) (fun hz => by rw [HNA.out]; exact HSG.out hz) (fun _ => by rw [HAB.out]; exact HSW.out.mono (by simp; exact HBL.size))


/-- num.Add of right numbers. -/
theorem add_any {w : World} {x y : Value} {a b : Int} (hx : Nu w x a) (hy : Nu w y b) : Calls Tryz.prog 28 #[x, y] w (NumRes w (a + b)) := by
  by_cases hs : decide (a < 0) = decide (b < 0)
  · exact add_same hx hy hs
  · rcases Nat.lt_or_ge a.natAbs b.natAbs with h | h
    · exact add_lt hx hy hs h
    · exact add_ge hx hy hs h

end Go.Proofs.YtdgmjmckeeeljaaGreatDoor
