/- Contract: Renew. -/
import Derived.Test.YtkagmbmkopdekaaI
import Derived.Deep.Cut
namespace Go.Proofs.Ytkagmbmkopdekaa
open Go.RowKit

/-- Whether there are renewed shares. -/
def rnB (x y z n : Int) : Bool := agB x y z && resB n
/-- A renewed share, or 0. -/
def rnV (x y z n k : Int) : Int := if rnB x y z n then lineV (seV 1 x 2 y) ((blV 1 x 2 y + n) % 251) k else 0

theorem spV_of {s b : Int} (s0 : 0 ≤ s) (s1 : s ≤ 250) (b0 : 0 ≤ b) (b1 : b ≤ 250) : spB s b = true ∧ ∀ k, spV s b k = lineV s b k := by
  have h : spB s b = true := by unfold spB; rw [res_mk s0 s1, res_mk b0 b1]; rfl
  exact ⟨h, fun k => if_pos h⟩

theorem keepStore {W : World} {g k : Nat} {u v l1 l2 l3 : Value} (h : k < g) (hc : W.cell? ⟨g, 0, none⟩ = some u ∧ W.cell? ⟨g, 1, none⟩ = some v) :
    (((W.setCell ⟨k, 0, none⟩ l1).setCell ⟨k, 1, none⟩ l2).setCell ⟨k, 2, none⟩ l3).cell? ⟨g, 0, none⟩ = some u ∧ (((W.setCell ⟨k, 0, none⟩ l1).setCell ⟨k, 1, none⟩ l2).setCell ⟨k, 2, none⟩ l3).cell? ⟨g, 1, none⟩ = some v := by
  have e : (((W.setCell ⟨k, 0, none⟩ l1).setCell ⟨k, 1, none⟩ l2).setCell ⟨k, 2, none⟩ l3).heap[g]? = W.heap[g]? := by
    rw [Below.heap_setCell _ _ _ _ (by simp; omega), Below.heap_setCell _ _ _ _ (by simp; omega), Below.heap_setCell _ _ _ _ (by simp; omega)]
  revert e
  generalize (((W.setCell ⟨k, 0, none⟩ l1).setCell ⟨k, 1, none⟩ l2).setCell ⟨k, 2, none⟩ l3) = W'
  intro e
  rw [World.cell?_of_block (w := W) (w' := W') (a := ⟨g, 0, none⟩) e, World.cell?_of_block (w := W) (w' := W') (a := ⟨g, 1, none⟩) e]
  exact hc

set_option maxRecDepth 10000 in
theorem renew_no0 (x y z n : Int) (w : World) (h : agB x y z = false) :
    Calls Try.prog 23 #[.agg #[.int .i64 x, .int .i64 y, .int .i64 z], .int .i64 n] w fun e w' => e = .returned (.tuple #[.agg #[.int .i64 0, .int .i64 0, .int .i64 0], .bool false]) ∧ Below w.heap.size w w' := by
  have H := Lib.hid (fun W => lineOf_any x y z W)
  revert H h
  generalize liS x y z = S
  generalize liX x y z = X
  generalize agB x y z = B
  intro h H
  have HC : Hid (Tri ((w.alloc (.cells #[.int .i64 x, .int .i64 y, .int .i64 z] 26)).alloc (.cells #[.int .i64 0, .int .i64 0, .int .i64 0] 26)) (w.heap.size + 1) 0 0 0 26 ∧ Below w.heap.size w ((w.alloc (.cells #[.int .i64 x, .int .i64 y, .int .i64 z] 26)).alloc (.cells #[.int .i64 0, .int .i64 0, .int .i64 0] 26))) := by
    have k2' := heap_alloc_new (w.alloc (.cells #[.int .i64 x, .int .i64 y, .int .i64 z] 26)) (.cells #[.int .i64 0, .int .i64 0, .int .i64 0] 26)
    rw [World.size_alloc] at k2'
    exact ⟨k2', by go_grown⟩
  go_enter Try.func23, Try.ntmps23
  go_upto_region 2 with (first | (go_at_call 36; refine (H.out _).mono ?_; rintro e w1 ⟨rfl, hb⟩; have HB := Lib.hid hb; clear hb) | (go_at_call 26; refine (isRes_any n _).mono ?_; rintro e w' ⟨rfl, rfl⟩))
  generalize hW : (w1.alloc (.cells #[.int .i64 S, .int .i64 X] 48)) = W
  have hz1 : w.heap.size + 1 < w1.heap.size := Nat.lt_of_lt_of_le (by simp) HB.out.size
  have T2 : Tri W (w.heap.size + 1) 0 0 0 26 := by rw [← hW]; exact (HC.out.1.below HB.out).below (by go_grown)
  have T3 : Two W w1.heap.size S X 48 := by rw [← hW]; exact heap_alloc_new _ _
  have T4 : Below w.heap.size w W := by rw [← hW]; exact (HC.out.2.trans (HB.out.mono HC.out.2.size)).alloc (by omega) _
  have HZ3 : Hid (w1.heap.size + 1 ≤ W.heap.size) := Lib.hid (by rw [← hW]; simp)
  have HB3 : Hid (Below (w1.heap.size + 1) W W) := Lib.hid (Below.refl _ _)
  obtain ⟨d0, d1, d2, g0, g1, g2⟩ := T2.cells
  obtain ⟨p0, p1, _, _⟩ := T3.cells
  have HT2 := Lib.hid T2
  have HT4 := Lib.hid T4
  have HZ1 := Lib.hid hz1
  clear T2 T3 T4 hW
  clear p0 p1 HB3 HZ3
  have hz2 := HT2.out.lt
  go_wp2_with (first | (go_at_call 26; refine (isRes_any n _).mono ?_; rintro e w' ⟨rfl, rfl⟩))
  have T5 := ((HT2.out.st0 0).st1 0).st2 0
  obtain ⟨r0, r1, r2, _⟩ := T5.cells
  refine bodyPost_ret (v := .tuple #[.agg #[.int .i64 0, .int .i64 0, .int .i64 0], .bool false]) (by simp [results, Try.results23, go_sem, r0, r1, r2]) rfl ⟨rfl, ?_⟩
  exact ((HT4.out.setCell (by simp) _).setCell (by simp) _).setCell (by simp) _

set_option maxRecDepth 10000 in
theorem renew_no1 (x y z n : Int) (w : World) (h : agB x y z = true) (hn : resB n = false) :
    Calls Try.prog 23 #[.agg #[.int .i64 x, .int .i64 y, .int .i64 z], .int .i64 n] w fun e w' => e = .returned (.tuple #[.agg #[.int .i64 0, .int .i64 0, .int .i64 0], .bool false]) ∧ Below w.heap.size w w' := by
  have H := Lib.hid (fun W => lineOf_any x y z W)
  revert H h
  generalize liS x y z = S
  generalize liX x y z = X
  generalize agB x y z = B
  intro h H
  have HC : Hid (Tri ((w.alloc (.cells #[.int .i64 x, .int .i64 y, .int .i64 z] 26)).alloc (.cells #[.int .i64 0, .int .i64 0, .int .i64 0] 26)) (w.heap.size + 1) 0 0 0 26 ∧ Below w.heap.size w ((w.alloc (.cells #[.int .i64 x, .int .i64 y, .int .i64 z] 26)).alloc (.cells #[.int .i64 0, .int .i64 0, .int .i64 0] 26))) := by
    have k2' := heap_alloc_new (w.alloc (.cells #[.int .i64 x, .int .i64 y, .int .i64 z] 26)) (.cells #[.int .i64 0, .int .i64 0, .int .i64 0] 26)
    rw [World.size_alloc] at k2'
    exact ⟨k2', by go_grown⟩
  go_enter Try.func23, Try.ntmps23
  go_upto_region 2 with (first | (go_at_call 36; refine (H.out _).mono ?_; rintro e w1 ⟨rfl, hb⟩; have HB := Lib.hid hb; clear hb) | (go_at_call 26; refine (isRes_any n _).mono ?_; rintro e w' ⟨rfl, rfl⟩))
  generalize hW : (w1.alloc (.cells #[.int .i64 S, .int .i64 X] 48)) = W
  have hz1 : w.heap.size + 1 < w1.heap.size := Nat.lt_of_lt_of_le (by simp) HB.out.size
  have T2 : Tri W (w.heap.size + 1) 0 0 0 26 := by rw [← hW]; exact (HC.out.1.below HB.out).below (by go_grown)
  have T3 : Two W w1.heap.size S X 48 := by rw [← hW]; exact heap_alloc_new _ _
  have T4 : Below w.heap.size w W := by rw [← hW]; exact (HC.out.2.trans (HB.out.mono HC.out.2.size)).alloc (by omega) _
  have HZ3 : Hid (w1.heap.size + 1 ≤ W.heap.size) := Lib.hid (by rw [← hW]; simp)
  have HB3 : Hid (Below (w1.heap.size + 1) W W) := Lib.hid (Below.refl _ _)
  obtain ⟨d0, d1, d2, g0, g1, g2⟩ := T2.cells
  obtain ⟨p0, p1, _, _⟩ := T3.cells
  have HT2 := Lib.hid T2
  have HT4 := Lib.hid T4
  have HZ1 := Lib.hid hz1
  clear T2 T3 T4 hW
  clear p0 p1 HB3 HZ3
  have hz2 := HT2.out.lt
  go_wp2_with (first | (go_at_call 26; refine (isRes_any n _).mono ?_; rintro e w' ⟨rfl, rfl⟩))
  have T5 := ((HT2.out.st0 0).st1 0).st2 0
  obtain ⟨r0, r1, r2, _⟩ := T5.cells
  refine bodyPost_ret (v := .tuple #[.agg #[.int .i64 0, .int .i64 0, .int .i64 0], .bool false]) (by simp [results, Try.results23, go_sem, r0, r1, r2]) rfl ⟨rfl, ?_⟩
  exact ((HT4.out.setCell (by simp) _).setCell (by simp) _).setCell (by simp) _

set_option maxRecDepth 10000 in
theorem renew_yes (x y z n : Int) (w : World) (h : agB x y z = true) (hn : resB n = true) :
    Calls Try.prog 23 #[.agg #[.int .i64 x, .int .i64 y, .int .i64 z], .int .i64 n] w fun e w' => e = .returned (.tuple #[.agg #[.int .i64 (lineV (seV 1 x 2 y) ((blV 1 x 2 y + n) % 251) 1), .int .i64 (lineV (seV 1 x 2 y) ((blV 1 x 2 y + n) % 251) 2), .int .i64 (lineV (seV 1 x 2 y) ((blV 1 x 2 y + n) % 251) 3)], .bool true]) ∧ Below w.heap.size w w' := by
  obtain ⟨n0, n1⟩ := res_yes hn
  have e1 : liS x y z = seV 1 x 2 y := if_pos h
  have e2 : liX x y z = blV 1 x 2 y := if_pos h
  have u := seV_bd 1 x 2 y
  have v := blV_bd 1 x 2 y
  have H := Lib.hid (fun W => lineOf_any x y z W)
  rw [e1, e2, h] at H
  have HP := Lib.hid (fun W => calc_plus (blV 1 x 2 y) n W v.1 v.2 n0 n1)
  have HS := Lib.hid (fun W => split_any (seV 1 x 2 y) ((blV 1 x 2 y + n) % 251) W)
  obtain ⟨q1, q2⟩ := spV_of u.1 u.2 (show 0 ≤ (blV 1 x 2 y + n) % 251 by omega) (show (blV 1 x 2 y + n) % 251 ≤ 250 by omega)
  rw [q1, q2, q2, q2] at HS
  clear q1 q2 e1 e2 u v n0 n1 h
  revert H HP HS
  generalize (blV 1 x 2 y + n) % 251 = m
  generalize seV 1 x 2 y = S
  generalize blV 1 x 2 y = X
  generalize lineV S m 1 = l1
  generalize lineV S m 2 = l2
  generalize lineV S m 3 = l3
  intro H HP HS
  have HC : Hid (Tri ((w.alloc (.cells #[.int .i64 x, .int .i64 y, .int .i64 z] 26)).alloc (.cells #[.int .i64 0, .int .i64 0, .int .i64 0] 26)) (w.heap.size + 1) 0 0 0 26 ∧ Below w.heap.size w ((w.alloc (.cells #[.int .i64 x, .int .i64 y, .int .i64 z] 26)).alloc (.cells #[.int .i64 0, .int .i64 0, .int .i64 0] 26))) := by
    have k2' := heap_alloc_new (w.alloc (.cells #[.int .i64 x, .int .i64 y, .int .i64 z] 26)) (.cells #[.int .i64 0, .int .i64 0, .int .i64 0] 26)
    rw [World.size_alloc] at k2'
    exact ⟨k2', by go_grown⟩
  go_enter Try.func23, Try.ntmps23
  go_upto_region 4 with (first | (go_at_call 36; refine (H.out _).mono ?_; rintro e w1 ⟨rfl, hb⟩; have HB := Lib.hid hb; clear hb) | (go_at_call 26; refine (isRes_any n _).mono ?_; rintro e w' ⟨rfl, rfl⟩))
  generalize hW : (w1.alloc (.cells #[.int .i64 S, .int .i64 X] 48)) = W
  have hz1 : w.heap.size + 1 < w1.heap.size := Nat.lt_of_lt_of_le (by simp) HB.out.size
  have T2 : Tri W (w.heap.size + 1) 0 0 0 26 := by rw [← hW]; exact (HC.out.1.below HB.out).below (by go_grown)
  have T3 : Two W w1.heap.size S X 48 := by rw [← hW]; exact heap_alloc_new _ _
  have T4 : Below w.heap.size w W := by rw [← hW]; exact (HC.out.2.trans (HB.out.mono HC.out.2.size)).alloc (by omega) _
  have HZ3 : Hid (w1.heap.size + 1 ≤ W.heap.size) := Lib.hid (by rw [← hW]; simp)
  have HB3 : Hid (Below (w1.heap.size + 1) W W) := Lib.hid (Below.refl _ _)
  obtain ⟨d0, d1, d2, g0, g1, g2⟩ := T2.cells
  obtain ⟨p0, p1, _, _⟩ := T3.cells
  have HT2 := Lib.hid T2
  have HT4 := Lib.hid T4
  have HZ1 := Lib.hid hz1
  clear T2 T3 T4 hW
  have HKP : Hid (∀ w', Below (w1.heap.size + 1) W w' → w'.cell? ⟨w1.heap.size, 0, none⟩ = some (.int .i64 S) ∧ w'.cell? ⟨w1.heap.size, 1, none⟩ = some (.int .i64 X)) := fun w' hb' => ⟨(hb'.cell (p := ⟨w1.heap.size, 0, none⟩) (by simp)).trans p0, (hb'.cell (p := ⟨w1.heap.size, 1, none⟩) (by simp)).trans p1⟩
  have hz2 := HT2.out.lt
  go_region_held3 (fun w' => w'.cell? ⟨w1.heap.size, 0, none⟩ = some (.int .i64 S) ∧ w'.cell? ⟨w1.heap.size, 1, none⟩ = some (.int .i64 X))
    (first | (with_reducible exact HKP.out _ HB3.out) | (exact HKP.out _ HB3.out.drew) | (refine HKP.out _ (HB3.out.trans (Below.mono (?_ : Below wq.heap.size wq _) HZ3.out)); (go_grown; done)) | (refine HKP.out _ (HB3.out.trans (Below.mono (?_ : Below wr.heap.size wr _) HZ3.out)); (go_grown; done)) | (exact keepStore HZ1.out (HKP.out _ HB3.out)))
    ((first | (go_at_call 35; refine (HP.out _).mono ?_; rintro e wq ⟨rfl, hb⟩; (first | (have HBB := step1 HB3 HZ3 hb) | (have HBB := stepD HB3 HZ3 hb)); have HB3 := HBB.1; have HZ3 := HBB.2; clear HBB hb) | (go_at_call 12; refine (HS.out _).mono ?_; rintro e wr ⟨rfl, hb⟩; (first | (have HBB := step1 HB3 HZ3 hb) | (have HBB := stepD HB3 HZ3 hb)); have HB3 := HBB.1; have HZ3 := HBB.2; clear HBB hb; have t2 : Tri wr (w.heap.size + 1) 0 0 0 26 := (HB3.out.block _ (Nat.lt_succ_of_lt HZ1.out)).trans HT2.out; have hz3 := t2.lt; obtain ⟨a0, a1, a2, f0, f1, f2⟩ := t2.cells; have HT3 := Lib.hid t2; clear t2)))
  go_wp2
  have T5 := ((HT3.out.st0 l1).st1 l2).st2 l3
  obtain ⟨r0, r1, r2, _⟩ := T5.cells
  refine bodyPost_ret (v := .tuple #[.agg #[.int .i64 l1, .int .i64 l2, .int .i64 l3], .bool true]) (by simp [results, Try.results23, go_sem, r0, r1, r2]) rfl ⟨rfl, ?_⟩
  exact (((HT4.out.trans (HB3.out.mono (by have := HZ1.out; omega))).setCell (by simp) _).setCell (by simp) _).setCell (by simp) _

theorem renew_any (x y z n : Int) (w : World) :
    Calls Try.prog 23 #[.agg #[.int .i64 x, .int .i64 y, .int .i64 z], .int .i64 n] w fun e w' => e = .returned (.tuple #[.agg #[.int .i64 (rnV x y z n 1), .int .i64 (rnV x y z n 2), .int .i64 (rnV x y z n 3)], .bool (rnB x y z n)]) ∧ Below w.heap.size w w' := by
  cases h : agB x y z
  · have h1 : rnB x y z n = false := by unfold rnB; rw [h]; rfl
    have e1 : ∀ k, rnV x y z n k = 0 := fun k => if_neg (by rw [h1]; simp)
    rw [e1, e1, e1, h1]
    exact renew_no0 x y z n w h
  cases hn : resB n
  · have h1 : rnB x y z n = false := by unfold rnB; rw [h, hn]; rfl
    have e1 : ∀ k, rnV x y z n k = 0 := fun k => if_neg (by rw [h1]; simp)
    rw [e1, e1, e1, h1]
    exact renew_no1 x y z n w h hn
  · have h1 : rnB x y z n = true := by unfold rnB; rw [h, hn]; rfl
    have e1 : ∀ k, rnV x y z n k = lineV (seV 1 x 2 y) ((blV 1 x 2 y + n) % 251) k := fun k => if_pos h1
    rw [e1, e1, e1, h1]
    exact renew_yes x y z n w h hn

end Go.Proofs.Ytkagmbmkopdekaa
