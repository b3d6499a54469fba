/- Contracts of the reference: Agree, Renew. -/
import Derived.Test.YtkagmbmkopdekaaL
namespace Go.Proofs.Ytkagmbmkopdekaa
open Go.RowKit

set_option maxRecDepth 10000 in
theorem rAgree_no0 (x y z : Int) (w : World) (h : thB 1 x 2 y = false) :
    Calls Try.prog 22 #[.agg #[.int .i64 x, .int .i64 y, .int .i64 z]] w fun e w' => e = .returned (.bool false) ∧ Below w.heap.size w w' := by
  have H := Lib.hid (fun W => rThrough_no 1 x 2 y W h)
  clear h
  have T0 : Tri (w.alloc (.cells #[.int .i64 x, .int .i64 y, .int .i64 z] 26)) w.heap.size x y z 26 := heap_alloc_new _ _
  obtain ⟨c0, c1, c2, _⟩ := T0.cells
  have HW : Hid (Below w.heap.size w (w.alloc (.cells #[.int .i64 x, .int .i64 y, .int .i64 z] 26))) := Lib.hid (by go_grown)
  clear T0
  go_enter Try.func22, Try.ntmps22
  go_wp2_with (go_at_call 31; refine (H.out _).mono ?_; rintro e w' ⟨rfl, rfl⟩)
  go_quiet (fail)
  go_wp2
  go_ret
  exact ⟨rfl, below_drewN HW.out _⟩

set_option maxRecDepth 10000 in
theorem rAgree_no1 (x y z : Int) (w : World) (h : thB 1 x 2 y = true) (hz : resB z = false) :
    Calls Try.prog 22 #[.agg #[.int .i64 x, .int .i64 y, .int .i64 z]] w fun e w' => e = .returned (.bool false) ∧ Below w.heap.size w w' := by
  obtain ⟨p1, p2, p3, p4, p5⟩ := thB_parts h
  have u := seV_bd 1 x 2 y
  have v := blV_bd 1 x 2 y
  have H := Lib.hid (fun W => rThrough_yes 1 x 2 y W p1 p2 p3 p4 p5)
  have HR : Hid (∀ W, Calls Try.prog 28 #[.int .i64 z] W fun e w' => e = .returned (.bool (resB z)) ∧ w' = W) := fun W => (rRes_any z W).mono fun _ _ ⟨a, b⟩ => ⟨a, b.symm⟩
  have HL : Hid (∀ W, Calls Try.prog 29 #[.int .i64 (seV 1 x 2 y), .int .i64 (blV 1 x 2 y), .int .i64 3] W fun e w' => e = .returned (.int .i64 (lineV (seV 1 x 2 y) (blV 1 x 2 y) 3)) ∧ w' = W) := fun W => (rLine_any (seV 1 x 2 y) (blV 1 x 2 y) 3 W u.1 u.2 v.1 v.2 (by omega) (by omega)).mono fun _ _ ⟨a, b⟩ => ⟨a, b.symm⟩
  clear p1 p2 p3 p4 p5 u v h
  rw [hz] at HR
  clear hz
  revert H HL
  generalize seV 1 x 2 y = S
  generalize blV 1 x 2 y = X
  generalize lineV S X 3 = l
  intro H HL
  have T0 : Tri (w.alloc (.cells #[.int .i64 x, .int .i64 y, .int .i64 z] 26)) w.heap.size x y z 26 := heap_alloc_new _ _
  obtain ⟨c0, c1, c2, _⟩ := T0.cells
  have HW : Hid (Below w.heap.size w (w.alloc (.cells #[.int .i64 x, .int .i64 y, .int .i64 z] 26))) := Lib.hid (by go_grown)
  clear T0
  go_enter Try.func22, Try.ntmps22
  go_wp2_with (go_at_call 31; refine (H.out _).mono ?_; rintro e w' ⟨rfl, rfl⟩)
  go_quiet ((go_at_call 28; exact Calls.quiet_of_same (HR.out _)))
  go_wp2
  go_ret
  exact ⟨rfl, below_drewN HW.out _⟩

set_option maxRecDepth 10000 in
theorem rAgree_two (x y z : Int) (w : World) (h : thB 1 x 2 y = true) (hz : resB z = true) :
    Calls Try.prog 22 #[.agg #[.int .i64 x, .int .i64 y, .int .i64 z]] w fun e w' => e = .returned (.bool (lineV (seV 1 x 2 y) (blV 1 x 2 y) 3 == z)) ∧ Below w.heap.size w w' := by
  obtain ⟨p1, p2, p3, p4, p5⟩ := thB_parts h
  have u := seV_bd 1 x 2 y
  have v := blV_bd 1 x 2 y
  have H := Lib.hid (fun W => rThrough_yes 1 x 2 y W p1 p2 p3 p4 p5)
  have HR : Hid (∀ W, Calls Try.prog 28 #[.int .i64 z] W fun e w' => e = .returned (.bool (resB z)) ∧ w' = W) := fun W => (rRes_any z W).mono fun _ _ ⟨a, b⟩ => ⟨a, b.symm⟩
  have HL : Hid (∀ W, Calls Try.prog 29 #[.int .i64 (seV 1 x 2 y), .int .i64 (blV 1 x 2 y), .int .i64 3] W fun e w' => e = .returned (.int .i64 (lineV (seV 1 x 2 y) (blV 1 x 2 y) 3)) ∧ w' = W) := fun W => (rLine_any (seV 1 x 2 y) (blV 1 x 2 y) 3 W u.1 u.2 v.1 v.2 (by omega) (by omega)).mono fun _ _ ⟨a, b⟩ => ⟨a, b.symm⟩
  clear p1 p2 p3 p4 p5 u v h
  rw [hz] at HR
  clear hz
  revert H HL
  generalize seV 1 x 2 y = S
  generalize blV 1 x 2 y = X
  generalize lineV S X 3 = l
  intro H HL
  have T0 : Tri (w.alloc (.cells #[.int .i64 x, .int .i64 y, .int .i64 z] 26)) w.heap.size x y z 26 := heap_alloc_new _ _
  obtain ⟨c0, c1, c2, _⟩ := T0.cells
  have HW : Hid (Below w.heap.size w (w.alloc (.cells #[.int .i64 x, .int .i64 y, .int .i64 z] 26))) := Lib.hid (by go_grown)
  clear T0
  go_enter Try.func22, Try.ntmps22
  go_wp2_with (go_at_call 31; refine (H.out _).mono ?_; rintro e w' ⟨rfl, rfl⟩)
  go_quiet ((first | (go_at_call 28; exact Calls.quiet_of_same (HR.out _)) | (go_at_call 29; exact Calls.quiet_of_same (HL.out _))))
  go_wp2
  go_ret
  exact ⟨rfl, below_drewN HW.out _⟩

theorem rAgree_any (x y z : Int) (w : World) :
    Calls Try.prog 22 #[.agg #[.int .i64 x, .int .i64 y, .int .i64 z]] w fun e w' => e = .returned (.bool (agB x y z)) ∧ Below w.heap.size w w' := by
  cases h : thB 1 x 2 y
  · have h1 : agB x y z = false := by unfold agB; rw [h]; rfl
    rw [h1]
    exact rAgree_no0 x y z w h
  cases hz : resB z
  · have h1 : agB x y z = false := by
      unfold agB
      rw [h, Bool.true_and, beq_eq_false_iff_ne]
      intro e
      have b := lineV_bd (seV 1 x 2 y) (blV 1 x 2 y) 3
      rw [e] at b
      rw [res_mk b.1 b.2] at hz
      cases hz
    rw [h1]
    exact rAgree_no1 x y z w h hz
  · have h1 : agB x y z = (lineV (seV 1 x 2 y) (blV 1 x 2 y) 3 == z) := by unfold agB; rw [h, Bool.true_and]
    rw [h1]
    exact rAgree_two x y z w h hz

set_option maxRecDepth 10000 in
theorem rRenew_no0 (x y z n : Int) (w : World) (h : agB x y z = false) :
    Calls Try.prog 24 #[.agg #[.int .i64 x, .int .i64 y, .int .i64 z], .int .i64 n] w fun e w' => e = .returned (.tuple #[.agg #[.int .i64 0, .int .i64 0, .int .i64 0], .bool false]) ∧ Below w.heap.size w w' := by
  have H := Lib.hid (fun W => rAgree_any x y z W)
  revert H h
  generalize agB x y z = B
  intro h H
  have HC : Hid (Tri ((w.alloc (.cells #[.int .i64 x, .int .i64 y, .int .i64 z] 26)).alloc (.cells #[.int .i64 0, .int .i64 0, .int .i64 0] 26)) (w.heap.size + 1) 0 0 0 26 ∧ Tri ((w.alloc (.cells #[.int .i64 x, .int .i64 y, .int .i64 z] 26)).alloc (.cells #[.int .i64 0, .int .i64 0, .int .i64 0] 26)) w.heap.size x y z 26 ∧ Below w.heap.size w ((w.alloc (.cells #[.int .i64 x, .int .i64 y, .int .i64 z] 26)).alloc (.cells #[.int .i64 0, .int .i64 0, .int .i64 0] 26))) := by
    have k2' := heap_alloc_new (w.alloc (.cells #[.int .i64 x, .int .i64 y, .int .i64 z] 26)) (.cells #[.int .i64 0, .int .i64 0, .int .i64 0] 26)
    rw [World.size_alloc] at k2'
    exact ⟨k2', (Below.heap_alloc _ _ _ (by simp)).trans (heap_alloc_new _ _), by go_grown⟩
  go_enter Try.func24, Try.ntmps24
  go_wp2_with (first | (go_at_call 22; refine (H.out _).mono ?_; rintro e w1 ⟨rfl, hb⟩; have t1 := HC.out.1.below hb; have t2 := HC.out.2.1.below hb; have hz1 := t1.lt; obtain ⟨d0, d1, d2, g0, g1, g2⟩ := t1.cells; obtain ⟨c0, c1, c2, _⟩ := t2.cells; have HT1 := Lib.hid t1; have HB1 := Lib.hid (HC.out.2.2.trans (hb.mono HC.out.2.2.size)); clear t1 t2 hb) | (go_at_call 28; refine (rRes_any n _).mono ?_; rintro e w' ⟨rfl, rfl⟩))
  have T5 := ((HT1.out.st0 0).st1 0).st2 0
  obtain ⟨r0, r1, r2, _⟩ := T5.cells
  refine bodyPost_ret (v := .tuple #[.agg #[.int .i64 0, .int .i64 0, .int .i64 0], .bool false]) (by simp [results, Try.results24, go_sem, r0, r1, r2]) rfl ⟨rfl, ?_⟩
  exact ((HB1.out.setCell (by simp) _).setCell (by simp) _).setCell (by simp) _

set_option maxRecDepth 10000 in
theorem rRenew_no1 (x y z n : Int) (w : World) (h : agB x y z = true) (hn : resB n = false) :
    Calls Try.prog 24 #[.agg #[.int .i64 x, .int .i64 y, .int .i64 z], .int .i64 n] w fun e w' => e = .returned (.tuple #[.agg #[.int .i64 0, .int .i64 0, .int .i64 0], .bool false]) ∧ Below w.heap.size w w' := by
  have H := Lib.hid (fun W => rAgree_any x y z W)
  revert H h
  generalize agB x y z = B
  intro h H
  have HC : Hid (Tri ((w.alloc (.cells #[.int .i64 x, .int .i64 y, .int .i64 z] 26)).alloc (.cells #[.int .i64 0, .int .i64 0, .int .i64 0] 26)) (w.heap.size + 1) 0 0 0 26 ∧ Tri ((w.alloc (.cells #[.int .i64 x, .int .i64 y, .int .i64 z] 26)).alloc (.cells #[.int .i64 0, .int .i64 0, .int .i64 0] 26)) w.heap.size x y z 26 ∧ Below w.heap.size w ((w.alloc (.cells #[.int .i64 x, .int .i64 y, .int .i64 z] 26)).alloc (.cells #[.int .i64 0, .int .i64 0, .int .i64 0] 26))) := by
    have k2' := heap_alloc_new (w.alloc (.cells #[.int .i64 x, .int .i64 y, .int .i64 z] 26)) (.cells #[.int .i64 0, .int .i64 0, .int .i64 0] 26)
    rw [World.size_alloc] at k2'
    exact ⟨k2', (Below.heap_alloc _ _ _ (by simp)).trans (heap_alloc_new _ _), by go_grown⟩
  go_enter Try.func24, Try.ntmps24
  go_wp2_with (first | (go_at_call 22; refine (H.out _).mono ?_; rintro e w1 ⟨rfl, hb⟩; have t1 := HC.out.1.below hb; have t2 := HC.out.2.1.below hb; have hz1 := t1.lt; obtain ⟨d0, d1, d2, g0, g1, g2⟩ := t1.cells; obtain ⟨c0, c1, c2, _⟩ := t2.cells; have HT1 := Lib.hid t1; have HB1 := Lib.hid (HC.out.2.2.trans (hb.mono HC.out.2.2.size)); clear t1 t2 hb) | (go_at_call 28; refine (rRes_any n _).mono ?_; rintro e w' ⟨rfl, rfl⟩))
  have T5 := ((HT1.out.st0 0).st1 0).st2 0
  obtain ⟨r0, r1, r2, _⟩ := T5.cells
  refine bodyPost_ret (v := .tuple #[.agg #[.int .i64 0, .int .i64 0, .int .i64 0], .bool false]) (by simp [results, Try.results24, go_sem, r0, r1, r2]) rfl ⟨rfl, ?_⟩
  exact ((HB1.out.setCell (by simp) _).setCell (by simp) _).setCell (by simp) _

set_option maxRecDepth 10000 in
theorem rRenew_yes (x y z n : Int) (w : World) (h : agB x y z = true) (hn : resB n = true) :
    Calls Try.prog 24 #[.agg #[.int .i64 x, .int .i64 y, .int .i64 z], .int .i64 n] w fun e w' => e = .returned (.tuple #[.agg #[.int .i64 (lineV (seV 1 x 2 y) ((blV 1 x 2 y + n) % 251) 1), .int .i64 (lineV (seV 1 x 2 y) ((blV 1 x 2 y + n) % 251) 2), .int .i64 (lineV (seV 1 x 2 y) ((blV 1 x 2 y + n) % 251) 3)], .bool true]) ∧ Below w.heap.size w w' := by
  have hth : thB 1 x 2 y = true := by
    unfold agB at h
    rw [Bool.and_eq_true] at h
    exact h.1
  obtain ⟨p1, p2, p3, p4, p5⟩ := thB_parts hth
  have u := seV_bd 1 x 2 y
  have v := blV_bd 1 x 2 y
  obtain ⟨n0, n1⟩ := res_yes hn
  have H := Lib.hid (fun W => rAgree_any x y z W)
  rw [h] at H
  have HT := Lib.hid (fun W => rThrough_yes 1 x 2 y W p1 p2 p3 p4 p5)
  have HS := Lib.hid (fun W => rSplit_any (seV 1 x 2 y) ((blV 1 x 2 y + n) % 251) W)
  obtain ⟨q1, q2⟩ := spV_of u.1 u.2 (show 0 ≤ (blV 1 x 2 y + n) % 251 by omega) (show (blV 1 x 2 y + n) % 251 ≤ 250 by omega)
  rw [q1, q2, q2, q2] at HS
  obtain ⟨m, hm⟩ : ∃ m, m = (blV 1 x 2 y + n) % 251 := ⟨_, rfl⟩
  rw [← hm] at HS ⊢
  obtain ⟨v0, v1⟩ := v
  have HM := Lib.hid hm
  clear q1 q2 u h hth p1 p2 p3 p4 p5 hm
  revert HT HS HM v0 v1
  generalize seV 1 x 2 y = S
  generalize blV 1 x 2 y = X
  generalize lineV S m 1 = l1
  generalize lineV S m 2 = l2
  generalize lineV S m 3 = l3
  intro HT HS v0 v1 HM
  have HC : Hid (Tri ((w.alloc (.cells #[.int .i64 x, .int .i64 y, .int .i64 z] 26)).alloc (.cells #[.int .i64 0, .int .i64 0, .int .i64 0] 26)) (w.heap.size + 1) 0 0 0 26 ∧ Tri ((w.alloc (.cells #[.int .i64 x, .int .i64 y, .int .i64 z] 26)).alloc (.cells #[.int .i64 0, .int .i64 0, .int .i64 0] 26)) w.heap.size x y z 26 ∧ Below w.heap.size w ((w.alloc (.cells #[.int .i64 x, .int .i64 y, .int .i64 z] 26)).alloc (.cells #[.int .i64 0, .int .i64 0, .int .i64 0] 26))) := by
    have k2' := heap_alloc_new (w.alloc (.cells #[.int .i64 x, .int .i64 y, .int .i64 z] 26)) (.cells #[.int .i64 0, .int .i64 0, .int .i64 0] 26)
    rw [World.size_alloc] at k2'
    exact ⟨k2', (Below.heap_alloc _ _ _ (by simp)).trans (heap_alloc_new _ _), by go_grown⟩
  go_enter Try.func24, Try.ntmps24
  go_wp2_with (first | (go_at_call 22; refine (H.out _).mono ?_; rintro e w1 ⟨rfl, hb⟩; have t1 := HC.out.1.below hb; have t2 := HC.out.2.1.below hb; have hz1 := t1.lt; obtain ⟨d0, d1, d2, g0, g1, g2⟩ := t1.cells; obtain ⟨c0, c1, c2, _⟩ := t2.cells; have HT1 := Lib.hid t1; have HB1 := Lib.hid (HC.out.2.2.trans (hb.mono HC.out.2.2.size)); clear t1 t2 hb) | (go_at_call 28; refine (rRes_any n _).mono ?_; rintro e w' ⟨rfl, rfl⟩) | (go_at_call 31; refine (HT.out _).mono ?_; rintro e w' ⟨rfl, rfl⟩) | (go_at_call 13; rw [← HM.out]; refine (HS.out _).mono ?_; rintro e w2 ⟨rfl, hb2⟩; have t3 := HT1.out.below hb2; have hz3 := t3.lt; obtain ⟨a0, a1, a2, f0, f1, f2⟩ := t3.cells; have HT3 := Lib.hid t3; have HB2 := Lib.hid hb2; clear t3 hb2))
  have T5 := ((HT3.out.st0 l1).st1 l2).st2 l3
  obtain ⟨r0, r1, r2, _⟩ := T5.cells
  refine bodyPost_ret (v := .tuple #[.agg #[.int .i64 l1, .int .i64 l2, .int .i64 l3], .bool true]) (by simp [results, Try.results24, go_sem, r0, r1, r2]) rfl ⟨rfl, ?_⟩
  exact (((HB1.out.trans (HB2.out.mono HB1.out.size)).setCell (by simp) _).setCell (by simp) _).setCell (by simp) _

theorem rRenew_any (x y z n : Int) (w : World) :
    Calls Try.prog 24 #[.agg #[.int .i64 x, .int .i64 y, .int .i64 z], .int .i64 n] w fun e w' => e = .returned (.tuple #[.agg #[.int .i64 (rnV x y z n 1), .int .i64 (rnV x y z n 2), .int .i64 (rnV x y z n 3)], .bool (rnB x y z n)]) ∧ Below w.heap.size w w' := by
  cases h : agB x y z
  · have h1 : rnB x y z n = false := by unfold rnB; rw [h]; rfl
    have e1 : ∀ k, rnV x y z n k = 0 := fun k => if_neg (by rw [h1]; simp)
    rw [e1, e1, e1, h1]
    exact rRenew_no0 x y z n w h
  cases hn : resB n
  · have h1 : rnB x y z n = false := by unfold rnB; rw [h, hn]; rfl
    have e1 : ∀ k, rnV x y z n k = 0 := fun k => if_neg (by rw [h1]; simp)
    rw [e1, e1, e1, h1]
    exact rRenew_no1 x y z n w h hn
  · have h1 : rnB x y z n = true := by unfold rnB; rw [h, hn]; rfl
    have e1 : ∀ k, rnV x y z n k = lineV (seV 1 x 2 y) ((blV 1 x 2 y + n) % 251) k := fun k => if_pos h1
    rw [e1, e1, e1, h1]
    exact rRenew_yes x y z n w h hn

end Go.Proofs.Ytkagmbmkopdekaa
