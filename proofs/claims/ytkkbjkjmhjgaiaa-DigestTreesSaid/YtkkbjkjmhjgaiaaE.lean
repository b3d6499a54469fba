/- Contracts: leafOf, Chain, marked, Mark of digest. Condition: the strings are shorter than 2^32. -/
import Derived.Test.YtkkbjkjmhjgaiaaD
namespace Go.Proofs.Ytkkbjkjmhjgaiaa
open Go.RowKit

/-- Eight values, stored. -/
def put8 (W : World) (g : Nat) (a0 a1 a2 a3 a4 a5 a6 a7 : Int) : World :=
  (((((((W.setCell ⟨g, 0, none⟩ (.int .u8 a0)).setCell ⟨g, 1, none⟩ (.int .u8 a1)).setCell ⟨g, 2, none⟩ (.int .u8 a2)).setCell ⟨g, 3, none⟩ (.int .u8 a3)).setCell ⟨g, 4, none⟩ (.int .u8 a4)).setCell ⟨g, 5, none⟩ (.int .u8 a5)).setCell ⟨g, 6, none⟩ (.int .u8 a6)).setCell ⟨g, 7, none⟩ (.int .u8 a7)

abbrev row8 (W : World) (g : Nat) (a0 a1 a2 a3 a4 a5 a6 a7 : Int) : Prop := W.heap[g]? = some (.cells #[.int .u8 a0, .int .u8 a1, .int .u8 a2, .int .u8 a3, .int .u8 a4, .int .u8 a5, .int .u8 a6, .int .u8 a7] 52 (0, 0))

theorem put8_row {W : World} {g : Nat} {a0 a1 a2 a3 a4 a5 a6 a7 o0 o1 o2 o3 o4 o5 o6 o7 : Int} (h : row8 W g o0 o1 o2 o3 o4 o5 o6 o7) : row8 (put8 W g a0 a1 a2 a3 a4 a5 a6 a7) g a0 a1 a2 a3 a4 a5 a6 a7 := by
  have k0 : row8 (W.setCell ⟨g, 0, none⟩ (.int .u8 a0)) g a0 o1 o2 o3 o4 o5 o6 o7 := heap_setCell_same _ g 0 _ 52 (.int .u8 a0) h
  have k1 : row8 ((W.setCell ⟨g, 0, none⟩ (.int .u8 a0)).setCell ⟨g, 1, none⟩ (.int .u8 a1)) g a0 a1 o2 o3 o4 o5 o6 o7 := heap_setCell_same _ g 1 _ 52 (.int .u8 a1) k0
  have k2 : row8 (((W.setCell ⟨g, 0, none⟩ (.int .u8 a0)).setCell ⟨g, 1, none⟩ (.int .u8 a1)).setCell ⟨g, 2, none⟩ (.int .u8 a2)) g a0 a1 a2 o3 o4 o5 o6 o7 := heap_setCell_same _ g 2 _ 52 (.int .u8 a2) k1
  have k3 : row8 ((((W.setCell ⟨g, 0, none⟩ (.int .u8 a0)).setCell ⟨g, 1, none⟩ (.int .u8 a1)).setCell ⟨g, 2, none⟩ (.int .u8 a2)).setCell ⟨g, 3, none⟩ (.int .u8 a3)) g a0 a1 a2 a3 o4 o5 o6 o7 := heap_setCell_same _ g 3 _ 52 (.int .u8 a3) k2
  have k4 : row8 (((((W.setCell ⟨g, 0, none⟩ (.int .u8 a0)).setCell ⟨g, 1, none⟩ (.int .u8 a1)).setCell ⟨g, 2, none⟩ (.int .u8 a2)).setCell ⟨g, 3, none⟩ (.int .u8 a3)).setCell ⟨g, 4, none⟩ (.int .u8 a4)) g a0 a1 a2 a3 a4 o5 o6 o7 := heap_setCell_same _ g 4 _ 52 (.int .u8 a4) k3
  have k5 : row8 ((((((W.setCell ⟨g, 0, none⟩ (.int .u8 a0)).setCell ⟨g, 1, none⟩ (.int .u8 a1)).setCell ⟨g, 2, none⟩ (.int .u8 a2)).setCell ⟨g, 3, none⟩ (.int .u8 a3)).setCell ⟨g, 4, none⟩ (.int .u8 a4)).setCell ⟨g, 5, none⟩ (.int .u8 a5)) g a0 a1 a2 a3 a4 a5 o6 o7 := heap_setCell_same _ g 5 _ 52 (.int .u8 a5) k4
  have k6 : row8 (((((((W.setCell ⟨g, 0, none⟩ (.int .u8 a0)).setCell ⟨g, 1, none⟩ (.int .u8 a1)).setCell ⟨g, 2, none⟩ (.int .u8 a2)).setCell ⟨g, 3, none⟩ (.int .u8 a3)).setCell ⟨g, 4, none⟩ (.int .u8 a4)).setCell ⟨g, 5, none⟩ (.int .u8 a5)).setCell ⟨g, 6, none⟩ (.int .u8 a6)) g a0 a1 a2 a3 a4 a5 a6 o7 := heap_setCell_same _ g 6 _ 52 (.int .u8 a6) k5
  have k7 : row8 ((((((((W.setCell ⟨g, 0, none⟩ (.int .u8 a0)).setCell ⟨g, 1, none⟩ (.int .u8 a1)).setCell ⟨g, 2, none⟩ (.int .u8 a2)).setCell ⟨g, 3, none⟩ (.int .u8 a3)).setCell ⟨g, 4, none⟩ (.int .u8 a4)).setCell ⟨g, 5, none⟩ (.int .u8 a5)).setCell ⟨g, 6, none⟩ (.int .u8 a6)).setCell ⟨g, 7, none⟩ (.int .u8 a7)) g a0 a1 a2 a3 a4 a5 a6 a7 := heap_setCell_same _ g 7 _ 52 (.int .u8 a7) k6
  exact k7

theorem put8_below {B g : Nat} {w W : World} {a0 a1 a2 a3 a4 a5 a6 a7 : Int} (h : Below B w W) (hg : B ≤ g) : Below B w (put8 W g a0 a1 a2 a3 a4 a5 a6 a7) :=
  (((((((h.setCell hg _).setCell hg _).setCell hg _).setCell hg _).setCell hg _).setCell hg _).setCell hg _).setCell hg _

theorem row8_cells {W : World} {g : Nat} {a0 a1 a2 a3 a4 a5 a6 a7 : Int} (h : row8 W g a0 a1 a2 a3 a4 a5 a6 a7) :
    W.cell? ⟨g, 0, none⟩ = some (.int .u8 a0) ∧ W.cell? ⟨g, 1, none⟩ = some (.int .u8 a1) ∧ W.cell? ⟨g, 2, none⟩ = some (.int .u8 a2) ∧ W.cell? ⟨g, 3, none⟩ = some (.int .u8 a3) ∧
    W.cell? ⟨g, 4, none⟩ = some (.int .u8 a4) ∧ W.cell? ⟨g, 5, none⟩ = some (.int .u8 a5) ∧ W.cell? ⟨g, 6, none⟩ = some (.int .u8 a6) ∧ W.cell? ⟨g, 7, none⟩ = some (.int .u8 a7) := by
  refine ⟨?_, ?_, ?_, ?_, ?_, ?_, ?_, ?_⟩ <;> rw [cell_of_row _ _ _ _ _ _ h] <;> rfl

theorem row8_free {W : World} {g : Nat} {a0 a1 a2 a3 a4 a5 a6 a7 : Int} (h : row8 W g a0 a1 a2 a3 a4 a5 a6 a7) :
    W.frozen? ⟨g, 0, none⟩ = false ∧ W.frozen? ⟨g, 1, none⟩ = false ∧ W.frozen? ⟨g, 2, none⟩ = false ∧ W.frozen? ⟨g, 3, none⟩ = false ∧ W.frozen? ⟨g, 4, none⟩ = false ∧ W.frozen? ⟨g, 5, none⟩ = false ∧ W.frozen? ⟨g, 6, none⟩ = false ∧ W.frozen? ⟨g, 7, none⟩ = false :=
  ⟨frozen_of_row _ _ _ _ _ h, frozen_of_row _ _ _ _ _ h, frozen_of_row _ _ _ _ _ h, frozen_of_row _ _ _ _ _ h, frozen_of_row _ _ _ _ _ h, frozen_of_row _ _ _ _ _ h, frozen_of_row _ _ _ _ _ h, frozen_of_row _ _ _ _ _ h⟩

theorem row8_below {B g : Nat} {w W : World} {a0 a1 a2 a3 a4 a5 a6 a7 : Int} (h : row8 w g a0 a1 a2 a3 a4 a5 a6 a7) (hb : Below B w W) (hg : g < B) : row8 W g a0 a1 a2 a3 a4 a5 a6 a7 := (hb.block g hg).trans h

/-- A digest's eight numbers. -/
theorem dval_eight {d : List UInt8} (h : d.length = 8) : ∃ a0 a1 a2 a3 a4 a5 a6 a7 : Int, dval d = .agg #[.int .u8 a0, .int .u8 a1, .int .u8 a2, .int .u8 a3, .int .u8 a4, .int .u8 a5, .int .u8 a6, .int .u8 a7] := by
  match d, h with
  | [a0, a1, a2, a3, a4, a5, a6, a7], _ => exact ⟨a0.toNat, a1.toNat, a2.toNat, a3.toNat, a4.toNat, a5.toNat, a6.toNat, a7.toNat, rfl⟩

set_option maxRecDepth 10000 in
set_option maxHeartbeats 1000000 in
theorem leafOf_any (s : ByteArray) (h : s.size ≤ 140737488355328) (w : World) : Calls Try.prog 41 #[.string s] w fun e w' => e = .returned (dval (leafD (by' s))) ∧ Below w.heap.size w w' := by
  have e0 : dig (cat [sA [1], s]) = leafD (by' s) := by simp [cat, leafD, sA, by']
  have HO := Lib.hid (fun W b hb => of_new W b hb [sA [1], s] 2 rfl (by omega) #[.string (sA [1]), .string s] rfl 9 (0, 0) (by simpa [sA_size] using h))
  rw [e0] at HO
  obtain ⟨a0, a1, a2, a3, a4, a5, a6, a7, ed⟩ := dval_eight (d := leafD (by' s)) (dig_len _)
  rw [ed] at HO ⊢
  clear ed e0
  go_enter Try.func41, Try.ntmps41
  have r0 : row8 (w.alloc (.cells #[.int .u8 0, .int .u8 0, .int .u8 0, .int .u8 0, .int .u8 0, .int .u8 0, .int .u8 0, .int .u8 0] 52)) w.heap.size 0 0 0 0 0 0 0 0 := heap_alloc_new _ _
  have HR0 := Lib.hid r0
  clear r0
  go_wp2_with (go_at_call 32; refine (HO.out _ _ (by simp)).mono ?_; rintro e w1 ⟨rfl, hb1⟩; have hb2 := (Below.alloc (Below.refl _ (w.alloc (.cells #[.int .u8 0, .int .u8 0, .int .u8 0, .int .u8 0, .int .u8 0, .int .u8 0, .int .u8 0, .int .u8 0] 52))) (Nat.le_refl _) _).trans hb1; have r1 := row8_below HR0.out hb2 (by simp); obtain ⟨c0, c1, c2, c3, c4, c5, c6, c7⟩ := row8_cells r1; obtain ⟨f0, f1, f2, f3, f4, f5, f6, f7⟩ := row8_free r1; have R1 := Lib.hid r1; have HB2 := Lib.hid hb2; clear r1 hb1 hb2)
  refine bodyPost_ret (results_cell (t := 2) rfl rfl (put8_row R1.out)) rfl ⟨rfl, ?_⟩
  exact put8_below ((Below.alloc (Below.refl _ _) (Nat.le_refl _) _).trans (HB2.out.mono (by simp))) (by simp)

end Go.Proofs.Ytkkbjkjmhjgaiaa
