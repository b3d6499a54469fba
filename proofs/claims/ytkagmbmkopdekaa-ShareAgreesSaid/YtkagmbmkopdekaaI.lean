/- Contracts: lineOf, Agree. -/
import Derived.Test.YtkagmbmkopdekaaH
import Derived.Test.YtkagmbmkopdekaaQ
import Derived.WalkSmall
namespace Go.Proofs.Ytkagmbmkopdekaa
open Go.RowKit

attribute [local go_sem] equal26

theorem line_one {x y : Int} (x0 : 0 ≤ x) (x1 : x ≤ 250) (y0 : 0 ≤ y) (y1 : y ≤ 250) : lineV (seV 1 x 2 y) (blV 1 x 2 y) 1 = x ∧ lineV (seV 1 x 2 y) (blV 1 x 2 y) 2 = y := by
  have e : inv ((2 + 251 - 1) % 251) = 1 := by decide
  unfold lineV seV blV
  rw [e]
  constructor <;> omega

/-- Whether three shares are those of a secret. -/
def agB (x y z : Int) : Bool := thB 1 x 2 y && (lineV (seV 1 x 2 y) (blV 1 x 2 y) 3 == z)

set_option maxRecDepth 10000 in
theorem lineOf_none (x y z : Int) (w : World) (h : thB 1 x 2 y = false) :
    Calls Try.prog 36 #[.agg #[.int .i64 x, .int .i64 y, .int .i64 z]] w fun e w' => e = .returned (.tuple #[.agg #[.int .i64 0, .int .i64 0], .bool false]) ∧ Below w.heap.size w w' := by
  have H := Lib.hid (fun W => through_no 1 x 2 y W h)
  clear h
  go_enter Try.func36, Try.ntmps36
  have HC : Hid (Tri ((w.alloc (.cells #[.int .i64 x, .int .i64 y, .int .i64 z] 26)).alloc (.cells #[.int .i64 0, .int .i64 0] 48)) w.heap.size x y z 26 ∧ Two ((w.alloc (.cells #[.int .i64 x, .int .i64 y, .int .i64 z] 26)).alloc (.cells #[.int .i64 0, .int .i64 0] 48)) (w.heap.size + 1) 0 0 48 ∧ Below w.heap.size w ((w.alloc (.cells #[.int .i64 x, .int .i64 y, .int .i64 z] 26)).alloc (.cells #[.int .i64 0, .int .i64 0] 48))) := by
    have k2' := heap_alloc_new (w.alloc (.cells #[.int .i64 x, .int .i64 y, .int .i64 z] 26)) (.cells #[.int .i64 0, .int .i64 0] 48)
    rw [World.size_alloc] at k2'
    exact ⟨(Below.heap_alloc _ _ _ (by simp)).trans (heap_alloc_new _ _), k2', by go_grown⟩
  go_wp2_with (go_at_call 30; refine (H.out _).mono ?_; rintro e w1 ⟨rfl, hb⟩; have HB := Lib.hid hb; clear hb)
  generalize hW : (w1.alloc (.cells #[.int .i64 0, .int .i64 0] 48)) = W
  have hz1 : w.heap.size + 1 < w1.heap.size := Nat.lt_of_lt_of_le (by simp) HB.out.size
  have T1 : Tri W w.heap.size x y z 26 := by rw [← hW]; exact (HC.out.1.below HB.out).below (by go_grown)
  have T2 : Two W (w.heap.size + 1) 0 0 48 := by rw [← hW]; exact (HC.out.2.1.below HB.out).below (by go_grown)
  have T3 : Two W w1.heap.size 0 0 48 := by rw [← hW]; exact heap_alloc_new _ _
  have T4 : Below w.heap.size w W := by rw [← hW]; exact (HC.out.2.2.trans (HB.out.mono HC.out.2.2.size)).alloc (by omega) _
  have HZW : Hid (w1.heap.size + 1 ≤ W.heap.size) := Lib.hid (by rw [← hW]; simp)
  obtain ⟨c0, c1, c2, f0, f1, f2⟩ := T1.cells
  obtain ⟨d0, d1, g0, g1⟩ := T2.cells
  obtain ⟨p0, p1, _, _⟩ := T3.cells
  have HT2 := Lib.hid T2
  have HT4 := Lib.hid T4
  have HZ1 := Lib.hid hz1
  clear T1 T2 T3 T4 hW
  go_quiet (fail)
  have HT5 : Hid (Two (W.drewN nq) (w.heap.size + 1) 0 0 48) := HT2
  have HT6 : Hid (Below w.heap.size w (W.drewN nq)) := Lib.hid (below_drewN HT4.out nq)
  go_wp2
  have T5 : Two (((W.drewN nq).setCell ⟨w.heap.size + 1, 0, none⟩ (.int .i64 0)).setCell ⟨w.heap.size + 1, 1, none⟩ (.int .i64 0)) (w.heap.size + 1) 0 0 48 := (Two.st0 (W := (W.drewN nq)) HT5.out 0).st1 0
  obtain ⟨r0, r1, _⟩ := T5.cells
  refine bodyPost_ret (v := .tuple #[.agg #[.int .i64 0, .int .i64 0], .bool false]) (by simp [results, Try.results36, go_sem, r0, r1]) rfl ⟨rfl, ?_⟩
  exact (HT6.out.setCell (by simp) _).setCell (by simp) _

set_option maxRecDepth 10000 in
theorem lineOf_yes (x y z : Int) (w : World) (h : thB 1 x 2 y = true) (hz : lineV (seV 1 x 2 y) (blV 1 x 2 y) 3 = z) :
    Calls Try.prog 36 #[.agg #[.int .i64 x, .int .i64 y, .int .i64 z]] w fun e w' => e = .returned (.tuple #[.agg #[.int .i64 (seV 1 x 2 y), .int .i64 (blV 1 x 2 y)], .bool true]) ∧ Below w.heap.size w w' := by
  obtain ⟨p1, p2, p3, p4, p5⟩ := thB_parts h
  have H := Lib.hid (fun W => through_yes 1 x 2 y W p1 p2 p3 p4 p5)
  have u := seV_bd 1 x 2 y
  have v := blV_bd 1 x 2 y
  have HS := Lib.hid (fun W => shares_any (seV 1 x 2 y) (blV 1 x 2 y) W u.1 u.2 v.1 v.2)
  rw [(line_one (res_yes p4).1 (res_yes p4).2 (res_yes p5).1 (res_yes p5).2).1, (line_one (res_yes p4).1 (res_yes p4).2 (res_yes p5).1 (res_yes p5).2).2, hz] at HS
  clear p1 p2 p3 p4 p5 u v h
  clear hz
  revert H HS
  generalize seV 1 x 2 y = S
  generalize blV 1 x 2 y = B
  intro H HS
  go_enter Try.func36, Try.ntmps36
  have HC : Hid (Tri ((w.alloc (.cells #[.int .i64 x, .int .i64 y, .int .i64 z] 26)).alloc (.cells #[.int .i64 0, .int .i64 0] 48)) w.heap.size x y z 26 ∧ Two ((w.alloc (.cells #[.int .i64 x, .int .i64 y, .int .i64 z] 26)).alloc (.cells #[.int .i64 0, .int .i64 0] 48)) (w.heap.size + 1) 0 0 48 ∧ Below w.heap.size w ((w.alloc (.cells #[.int .i64 x, .int .i64 y, .int .i64 z] 26)).alloc (.cells #[.int .i64 0, .int .i64 0] 48))) := by
    have k2' := heap_alloc_new (w.alloc (.cells #[.int .i64 x, .int .i64 y, .int .i64 z] 26)) (.cells #[.int .i64 0, .int .i64 0] 48)
    rw [World.size_alloc] at k2'
    exact ⟨(Below.heap_alloc _ _ _ (by simp)).trans (heap_alloc_new _ _), k2', by go_grown⟩
  go_wp2_with (go_at_call 30; refine (H.out _).mono ?_; rintro e w1 ⟨rfl, hb⟩; have HB := Lib.hid hb; clear hb)
  generalize hW : (w1.alloc (.cells #[.int .i64 S, .int .i64 B] 48)) = W
  have hz1 : w.heap.size + 1 < w1.heap.size := Nat.lt_of_lt_of_le (by simp) HB.out.size
  have T1 : Tri W w.heap.size x y z 26 := by rw [← hW]; exact (HC.out.1.below HB.out).below (by go_grown)
  have T2 : Two W (w.heap.size + 1) 0 0 48 := by rw [← hW]; exact (HC.out.2.1.below HB.out).below (by go_grown)
  have T3 : Two W w1.heap.size S B 48 := by rw [← hW]; exact heap_alloc_new _ _
  have T4 : Below w.heap.size w W := by rw [← hW]; exact (HC.out.2.2.trans (HB.out.mono HC.out.2.2.size)).alloc (by omega) _
  have HZW : Hid (w1.heap.size + 1 ≤ W.heap.size) := Lib.hid (by rw [← hW]; simp)
  obtain ⟨c0, c1, c2, f0, f1, f2⟩ := T1.cells
  obtain ⟨d0, d1, g0, g1⟩ := T2.cells
  obtain ⟨p0, p1, _, _⟩ := T3.cells
  have HT2 := Lib.hid T2
  have HT4 := Lib.hid T4
  have HZ1 := Lib.hid hz1
  clear T1 T2 T3 T4 hW
  have HB2 : Hid (Below (w1.heap.size + 1) W W) := Lib.hid (Below.refl _ _)
  have HZ2 : Hid (w1.heap.size + 1 ≤ W.heap.size) := HZW
  have HKP : Hid (∀ w', Below (w1.heap.size + 1) W w' → w'.cell? ⟨w.heap.size, 0, none⟩ = some (.int .i64 x) ∧ w'.cell? ⟨w.heap.size, 1, none⟩ = some (.int .i64 y) ∧ w'.cell? ⟨w.heap.size, 2, none⟩ = some (.int .i64 z) ∧ w'.cell? ⟨w1.heap.size, 0, none⟩ = some (.int .i64 S) ∧ w'.cell? ⟨w1.heap.size, 1, none⟩ = some (.int .i64 B)) := fun w' hb' => ⟨(hb'.cell (p := ⟨w.heap.size, 0, none⟩) (by simp; omega)).trans c0, (hb'.cell (p := ⟨w.heap.size, 1, none⟩) (by simp; omega)).trans c1, (hb'.cell (p := ⟨w.heap.size, 2, none⟩) (by simp; omega)).trans c2, (hb'.cell (p := ⟨w1.heap.size, 0, none⟩) (by simp)).trans p0, (hb'.cell (p := ⟨w1.heap.size, 1, none⟩) (by simp)).trans p1⟩
  have HE : Hid (eq3 x y z x y z = true) := Lib.hid (by rw [eq3_same])
  go_region_held3 (fun w' => w'.cell? ⟨w.heap.size, 0, none⟩ = some (.int .i64 x) ∧ w'.cell? ⟨w.heap.size, 1, none⟩ = some (.int .i64 y) ∧ w'.cell? ⟨w.heap.size, 2, none⟩ = some (.int .i64 z) ∧ w'.cell? ⟨w1.heap.size, 0, none⟩ = some (.int .i64 S) ∧ w'.cell? ⟨w1.heap.size, 1, none⟩ = some (.int .i64 B))
    (first | (with_reducible exact HKP.out _ HB2.out) | (exact HKP.out _ HB2.out.drew) | (refine HKP.out _ (HB2.out.trans (Below.mono (?_ : Below wq.heap.size wq _) HZ2.out)); (go_grown; done)))
    ((go_at_call 27; refine (HS.out _).mono ?_; rintro e wq ⟨rfl, hb⟩; (first | (have HBB := step1 HB2 HZ2 hb) | (have HBB := stepD HB2 HZ2 hb)); have HB2 := HBB.1; have HZ2 := HBB.2; clear HBB hb))
  rw [HE.out]
  have HT5 : Hid (Two wq (w.heap.size + 1) 0 0 48) := Lib.hid ((HB2.out.block _ (Nat.lt_succ_of_lt HZ1.out)).trans HT2.out)
  have HT6 : Hid (Below w.heap.size w wq) := Lib.hid (HT4.out.trans (HB2.out.mono (by have := HZ1.out; omega)))
  have hzq := HT5.out.lt
  obtain ⟨q0, q1, q2, q3⟩ := HT5.out.cells
  go_wp2
  have T5 : Two ((wq.setCell ⟨w.heap.size + 1, 0, none⟩ (.int .i64 S)).setCell ⟨w.heap.size + 1, 1, none⟩ (.int .i64 B)) (w.heap.size + 1) S B 48 := (Two.st0 (W := wq) HT5.out S).st1 B
  obtain ⟨r0, r1, _⟩ := T5.cells
  refine bodyPost_ret (v := .tuple #[.agg #[.int .i64 S, .int .i64 B], .bool true]) (by simp [results, Try.results36, go_sem, r0, r1]) rfl ⟨rfl, ?_⟩
  exact (HT6.out.setCell (by simp) _).setCell (by simp) _

set_option maxRecDepth 10000 in
theorem lineOf_bent (x y z : Int) (w : World) (h : thB 1 x 2 y = true) (hz : (lineV (seV 1 x 2 y) (blV 1 x 2 y) 3 == z) = false) :
    Calls Try.prog 36 #[.agg #[.int .i64 x, .int .i64 y, .int .i64 z]] w fun e w' => e = .returned (.tuple #[.agg #[.int .i64 0, .int .i64 0], .bool false]) ∧ Below w.heap.size w w' := by
  obtain ⟨p1, p2, p3, p4, p5⟩ := thB_parts h
  have H := Lib.hid (fun W => through_yes 1 x 2 y W p1 p2 p3 p4 p5)
  have u := seV_bd 1 x 2 y
  have v := blV_bd 1 x 2 y
  have HS := Lib.hid (fun W => shares_any (seV 1 x 2 y) (blV 1 x 2 y) W u.1 u.2 v.1 v.2)
  rw [(line_one (res_yes p4).1 (res_yes p4).2 (res_yes p5).1 (res_yes p5).2).1, (line_one (res_yes p4).1 (res_yes p4).2 (res_yes p5).1 (res_yes p5).2).2] at HS
  clear p1 p2 p3 p4 p5 u v h
  revert H HS hz
  generalize seV 1 x 2 y = S
  generalize blV 1 x 2 y = B
  generalize lineV S B 3 = t
  intro hz H HS
  go_enter Try.func36, Try.ntmps36
  have HC : Hid (Tri ((w.alloc (.cells #[.int .i64 x, .int .i64 y, .int .i64 z] 26)).alloc (.cells #[.int .i64 0, .int .i64 0] 48)) w.heap.size x y z 26 ∧ Two ((w.alloc (.cells #[.int .i64 x, .int .i64 y, .int .i64 z] 26)).alloc (.cells #[.int .i64 0, .int .i64 0] 48)) (w.heap.size + 1) 0 0 48 ∧ Below w.heap.size w ((w.alloc (.cells #[.int .i64 x, .int .i64 y, .int .i64 z] 26)).alloc (.cells #[.int .i64 0, .int .i64 0] 48))) := by
    have k2' := heap_alloc_new (w.alloc (.cells #[.int .i64 x, .int .i64 y, .int .i64 z] 26)) (.cells #[.int .i64 0, .int .i64 0] 48)
    rw [World.size_alloc] at k2'
    exact ⟨(Below.heap_alloc _ _ _ (by simp)).trans (heap_alloc_new _ _), k2', by go_grown⟩
  go_wp2_with (go_at_call 30; refine (H.out _).mono ?_; rintro e w1 ⟨rfl, hb⟩; have HB := Lib.hid hb; clear hb)
  generalize hW : (w1.alloc (.cells #[.int .i64 S, .int .i64 B] 48)) = W
  have hz1 : w.heap.size + 1 < w1.heap.size := Nat.lt_of_lt_of_le (by simp) HB.out.size
  have T1 : Tri W w.heap.size x y z 26 := by rw [← hW]; exact (HC.out.1.below HB.out).below (by go_grown)
  have T2 : Two W (w.heap.size + 1) 0 0 48 := by rw [← hW]; exact (HC.out.2.1.below HB.out).below (by go_grown)
  have T3 : Two W w1.heap.size S B 48 := by rw [← hW]; exact heap_alloc_new _ _
  have T4 : Below w.heap.size w W := by rw [← hW]; exact (HC.out.2.2.trans (HB.out.mono HC.out.2.2.size)).alloc (by omega) _
  have HZW : Hid (w1.heap.size + 1 ≤ W.heap.size) := Lib.hid (by rw [← hW]; simp)
  obtain ⟨c0, c1, c2, f0, f1, f2⟩ := T1.cells
  obtain ⟨d0, d1, g0, g1⟩ := T2.cells
  obtain ⟨p0, p1, _, _⟩ := T3.cells
  have HT2 := Lib.hid T2
  have HT4 := Lib.hid T4
  have HZ1 := Lib.hid hz1
  clear T1 T2 T3 T4 hW
  have HB2 : Hid (Below (w1.heap.size + 1) W W) := Lib.hid (Below.refl _ _)
  have HZ2 : Hid (w1.heap.size + 1 ≤ W.heap.size) := HZW
  have HKP : Hid (∀ w', Below (w1.heap.size + 1) W w' → w'.cell? ⟨w.heap.size, 0, none⟩ = some (.int .i64 x) ∧ w'.cell? ⟨w.heap.size, 1, none⟩ = some (.int .i64 y) ∧ w'.cell? ⟨w.heap.size, 2, none⟩ = some (.int .i64 z) ∧ w'.cell? ⟨w1.heap.size, 0, none⟩ = some (.int .i64 S) ∧ w'.cell? ⟨w1.heap.size, 1, none⟩ = some (.int .i64 B)) := fun w' hb' => ⟨(hb'.cell (p := ⟨w.heap.size, 0, none⟩) (by simp; omega)).trans c0, (hb'.cell (p := ⟨w.heap.size, 1, none⟩) (by simp; omega)).trans c1, (hb'.cell (p := ⟨w.heap.size, 2, none⟩) (by simp; omega)).trans c2, (hb'.cell (p := ⟨w1.heap.size, 0, none⟩) (by simp)).trans p0, (hb'.cell (p := ⟨w1.heap.size, 1, none⟩) (by simp)).trans p1⟩
  have HE : Hid (eq3 x y t x y z = false) := Lib.hid (by rw [eq3_two, hz])
  go_region_held3 (fun w' => w'.cell? ⟨w.heap.size, 0, none⟩ = some (.int .i64 x) ∧ w'.cell? ⟨w.heap.size, 1, none⟩ = some (.int .i64 y) ∧ w'.cell? ⟨w.heap.size, 2, none⟩ = some (.int .i64 z) ∧ w'.cell? ⟨w1.heap.size, 0, none⟩ = some (.int .i64 S) ∧ w'.cell? ⟨w1.heap.size, 1, none⟩ = some (.int .i64 B))
    (first | (with_reducible exact HKP.out _ HB2.out) | (exact HKP.out _ HB2.out.drew) | (refine HKP.out _ (HB2.out.trans (Below.mono (?_ : Below wq.heap.size wq _) HZ2.out)); (go_grown; done)))
    ((go_at_call 27; refine (HS.out _).mono ?_; rintro e wq ⟨rfl, hb⟩; (first | (have HBB := step1 HB2 HZ2 hb) | (have HBB := stepD HB2 HZ2 hb)); have HB2 := HBB.1; have HZ2 := HBB.2; clear HBB hb))
  rw [HE.out]
  have HT5 : Hid (Two wq (w.heap.size + 1) 0 0 48) := Lib.hid ((HB2.out.block _ (Nat.lt_succ_of_lt HZ1.out)).trans HT2.out)
  have HT6 : Hid (Below w.heap.size w wq) := Lib.hid (HT4.out.trans (HB2.out.mono (by have := HZ1.out; omega)))
  have hzq := HT5.out.lt
  obtain ⟨q0, q1, q2, q3⟩ := HT5.out.cells
  go_wp2
  have T5 : Two ((wq.setCell ⟨w.heap.size + 1, 0, none⟩ (.int .i64 0)).setCell ⟨w.heap.size + 1, 1, none⟩ (.int .i64 0)) (w.heap.size + 1) 0 0 48 := (Two.st0 (W := wq) HT5.out 0).st1 0
  obtain ⟨r0, r1, _⟩ := T5.cells
  refine bodyPost_ret (v := .tuple #[.agg #[.int .i64 0, .int .i64 0], .bool false]) (by simp [results, Try.results36, go_sem, r0, r1]) rfl ⟨rfl, ?_⟩
  exact (HT6.out.setCell (by simp) _).setCell (by simp) _

/-- The secret and the blind of three shares, or 0. -/
def liS (x y z : Int) : Int := if agB x y z then seV 1 x 2 y else 0
def liX (x y z : Int) : Int := if agB x y z then blV 1 x 2 y else 0

theorem lineOf_any (x y z : Int) (w : World) :
    Calls Try.prog 36 #[.agg #[.int .i64 x, .int .i64 y, .int .i64 z]] w fun e w' => e = .returned (.tuple #[.agg #[.int .i64 (liS x y z), .int .i64 (liX x y z)], .bool (agB x y z)]) ∧ Below w.heap.size w w' := by
  cases h : thB 1 x 2 y
  · have h1 : agB x y z = false := by unfold agB; rw [h]; rfl
    have e1 : liS x y z = 0 := if_neg (by rw [h1]; simp)
    have e2 : liX x y z = 0 := if_neg (by rw [h1]; simp)
    rw [e1, e2, h1]
    exact lineOf_none x y z w h
  cases hz : (lineV (seV 1 x 2 y) (blV 1 x 2 y) 3 == z)
  · have h1 : agB x y z = false := by unfold agB; rw [h, hz]; rfl
    have e1 : liS x y z = 0 := if_neg (by rw [h1]; simp)
    have e2 : liX x y z = 0 := if_neg (by rw [h1]; simp)
    rw [e1, e2, h1]
    exact lineOf_bent x y z w h hz
  · have h1 : agB x y z = true := by unfold agB; rw [h, hz]; rfl
    have e1 : liS x y z = seV 1 x 2 y := if_pos h1
    have e2 : liX x y z = blV 1 x 2 y := if_pos h1
    rw [e1, e2, h1]
    exact lineOf_yes x y z w h (by simpa using hz)

set_option maxRecDepth 10000 in
theorem agree_any (x y z : Int) (w : World) :
    Calls Try.prog 21 #[.agg #[.int .i64 x, .int .i64 y, .int .i64 z]] w fun e w' => e = .returned (.bool (agB x y z)) ∧ Below w.heap.size w w' := by
  have H := Lib.hid (fun W => lineOf_any x y z W)
  revert H
  generalize liS x y z = S
  generalize liX x y z = X
  generalize agB x y z = B
  intro H
  have HW : Hid (Below w.heap.size w (w.alloc (.cells #[.int .i64 x, .int .i64 y, .int .i64 z] 26))) := Lib.hid (by go_grown)
  go_enter Try.func21, Try.ntmps21
  go_wp2_with (go_at_call 36; refine (H.out _).mono ?_; rintro e w1 ⟨rfl, hb⟩; have HB := Lib.hid hb; clear hb)
  go_ret
  have h := HW.out.trans (HB.out.mono HW.out.size)
  exact ⟨rfl, h.alloc h.size _⟩

end Go.Proofs.Ytkagmbmkopdekaa
