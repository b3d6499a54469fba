/- Contracts: leafOf, Chain, marked, Mark of digest. Condition: the strings are shorter than 2^32. -/
import Derived.Test.YtafdjohgoopcmaaDD
namespace Go.Proofs.Ytafdjohgoopcmaa
open Go.RowKit

/-- Eight values, stored. -/
def put8 (W : World) (g : Nat) (a0 a1 a2 a3 a4 a5 a6 a7 : Int) : World :=
  (((((((W.setCell ⟨g, 0, none⟩ (.int .u8 a0)).setCell ⟨g, 1, none⟩ (.int .u8 a1)).setCell ⟨g, 2, none⟩ (.int .u8 a2)).setCell ⟨g, 3, none⟩ (.int .u8 a3)).setCell ⟨g, 4, none⟩ (.int .u8 a4)).setCell ⟨g, 5, none⟩ (.int .u8 a5)).setCell ⟨g, 6, none⟩ (.int .u8 a6)).setCell ⟨g, 7, none⟩ (.int .u8 a7)

abbrev row8 (W : World) (g : Nat) (a0 a1 a2 a3 a4 a5 a6 a7 : Int) : Prop := W.heap[g]? = some (.cells #[.int .u8 a0, .int .u8 a1, .int .u8 a2, .int .u8 a3, .int .u8 a4, .int .u8 a5, .int .u8 a6, .int .u8 a7] 62 (0, 0))

theorem put8_row {W : World} {g : Nat} {a0 a1 a2 a3 a4 a5 a6 a7 o0 o1 o2 o3 o4 o5 o6 o7 : Int} (h : row8 W g o0 o1 o2 o3 o4 o5 o6 o7) : row8 (put8 W g a0 a1 a2 a3 a4 a5 a6 a7) g a0 a1 a2 a3 a4 a5 a6 a7 := by
  have k0 : row8 (W.setCell ⟨g, 0, none⟩ (.int .u8 a0)) g a0 o1 o2 o3 o4 o5 o6 o7 := heap_setCell_same _ g 0 _ 62 (.int .u8 a0) h
  have k1 : row8 ((W.setCell ⟨g, 0, none⟩ (.int .u8 a0)).setCell ⟨g, 1, none⟩ (.int .u8 a1)) g a0 a1 o2 o3 o4 o5 o6 o7 := heap_setCell_same _ g 1 _ 62 (.int .u8 a1) k0
  have k2 : row8 (((W.setCell ⟨g, 0, none⟩ (.int .u8 a0)).setCell ⟨g, 1, none⟩ (.int .u8 a1)).setCell ⟨g, 2, none⟩ (.int .u8 a2)) g a0 a1 a2 o3 o4 o5 o6 o7 := heap_setCell_same _ g 2 _ 62 (.int .u8 a2) k1
  have k3 : row8 ((((W.setCell ⟨g, 0, none⟩ (.int .u8 a0)).setCell ⟨g, 1, none⟩ (.int .u8 a1)).setCell ⟨g, 2, none⟩ (.int .u8 a2)).setCell ⟨g, 3, none⟩ (.int .u8 a3)) g a0 a1 a2 a3 o4 o5 o6 o7 := heap_setCell_same _ g 3 _ 62 (.int .u8 a3) k2
  have k4 : row8 (((((W.setCell ⟨g, 0, none⟩ (.int .u8 a0)).setCell ⟨g, 1, none⟩ (.int .u8 a1)).setCell ⟨g, 2, none⟩ (.int .u8 a2)).setCell ⟨g, 3, none⟩ (.int .u8 a3)).setCell ⟨g, 4, none⟩ (.int .u8 a4)) g a0 a1 a2 a3 a4 o5 o6 o7 := heap_setCell_same _ g 4 _ 62 (.int .u8 a4) k3
  have k5 : row8 ((((((W.setCell ⟨g, 0, none⟩ (.int .u8 a0)).setCell ⟨g, 1, none⟩ (.int .u8 a1)).setCell ⟨g, 2, none⟩ (.int .u8 a2)).setCell ⟨g, 3, none⟩ (.int .u8 a3)).setCell ⟨g, 4, none⟩ (.int .u8 a4)).setCell ⟨g, 5, none⟩ (.int .u8 a5)) g a0 a1 a2 a3 a4 a5 o6 o7 := heap_setCell_same _ g 5 _ 62 (.int .u8 a5) k4
  have k6 : row8 (((((((W.setCell ⟨g, 0, none⟩ (.int .u8 a0)).setCell ⟨g, 1, none⟩ (.int .u8 a1)).setCell ⟨g, 2, none⟩ (.int .u8 a2)).setCell ⟨g, 3, none⟩ (.int .u8 a3)).setCell ⟨g, 4, none⟩ (.int .u8 a4)).setCell ⟨g, 5, none⟩ (.int .u8 a5)).setCell ⟨g, 6, none⟩ (.int .u8 a6)) g a0 a1 a2 a3 a4 a5 a6 o7 := heap_setCell_same _ g 6 _ 62 (.int .u8 a6) k5
  have k7 : row8 ((((((((W.setCell ⟨g, 0, none⟩ (.int .u8 a0)).setCell ⟨g, 1, none⟩ (.int .u8 a1)).setCell ⟨g, 2, none⟩ (.int .u8 a2)).setCell ⟨g, 3, none⟩ (.int .u8 a3)).setCell ⟨g, 4, none⟩ (.int .u8 a4)).setCell ⟨g, 5, none⟩ (.int .u8 a5)).setCell ⟨g, 6, none⟩ (.int .u8 a6)).setCell ⟨g, 7, none⟩ (.int .u8 a7)) g a0 a1 a2 a3 a4 a5 a6 a7 := heap_setCell_same _ g 7 _ 62 (.int .u8 a7) k6
  exact k7

theorem put8_below {B g : Nat} {w W : World} {a0 a1 a2 a3 a4 a5 a6 a7 : Int} (h : Below B w W) (hg : B ≤ g) : Below B w (put8 W g a0 a1 a2 a3 a4 a5 a6 a7) :=
  (((((((h.setCell hg _).setCell hg _).setCell hg _).setCell hg _).setCell hg _).setCell hg _).setCell hg _).setCell hg _

theorem row8_cells {W : World} {g : Nat} {a0 a1 a2 a3 a4 a5 a6 a7 : Int} (h : row8 W g a0 a1 a2 a3 a4 a5 a6 a7) :
    W.cell? ⟨g, 0, none⟩ = some (.int .u8 a0) ∧ W.cell? ⟨g, 1, none⟩ = some (.int .u8 a1) ∧ W.cell? ⟨g, 2, none⟩ = some (.int .u8 a2) ∧ W.cell? ⟨g, 3, none⟩ = some (.int .u8 a3) ∧
    W.cell? ⟨g, 4, none⟩ = some (.int .u8 a4) ∧ W.cell? ⟨g, 5, none⟩ = some (.int .u8 a5) ∧ W.cell? ⟨g, 6, none⟩ = some (.int .u8 a6) ∧ W.cell? ⟨g, 7, none⟩ = some (.int .u8 a7) := by
  refine ⟨?_, ?_, ?_, ?_, ?_, ?_, ?_, ?_⟩ <;> rw [cell_of_row _ _ _ _ _ _ h] <;> rfl

theorem row8_free {W : World} {g : Nat} {a0 a1 a2 a3 a4 a5 a6 a7 : Int} (h : row8 W g a0 a1 a2 a3 a4 a5 a6 a7) :
    W.frozen? ⟨g, 0, none⟩ = false ∧ W.frozen? ⟨g, 1, none⟩ = false ∧ W.frozen? ⟨g, 2, none⟩ = false ∧ W.frozen? ⟨g, 3, none⟩ = false ∧ W.frozen? ⟨g, 4, none⟩ = false ∧ W.frozen? ⟨g, 5, none⟩ = false ∧ W.frozen? ⟨g, 6, none⟩ = false ∧ W.frozen? ⟨g, 7, none⟩ = false :=
  ⟨frozen_of_row _ _ _ _ _ h, frozen_of_row _ _ _ _ _ h, frozen_of_row _ _ _ _ _ h, frozen_of_row _ _ _ _ _ h, frozen_of_row _ _ _ _ _ h, frozen_of_row _ _ _ _ _ h, frozen_of_row _ _ _ _ _ h, frozen_of_row _ _ _ _ _ h⟩

theorem row8_below {B g : Nat} {w W : World} {a0 a1 a2 a3 a4 a5 a6 a7 : Int} (h : row8 w g a0 a1 a2 a3 a4 a5 a6 a7) (hb : Below B w W) (hg : g < B) : row8 W g a0 a1 a2 a3 a4 a5 a6 a7 := (hb.block g hg).trans h

/-- A digest's eight numbers. -/
theorem dval_eight {d : List UInt8} (h : d.length = 8) : ∃ a0 a1 a2 a3 a4 a5 a6 a7 : Int, dval d = .agg #[.int .u8 a0, .int .u8 a1, .int .u8 a2, .int .u8 a3, .int .u8 a4, .int .u8 a5, .int .u8 a6, .int .u8 a7] := by
  match d, h with
  | [a0, a1, a2, a3, a4, a5, a6, a7], _ => exact ⟨a0.toNat, a1.toNat, a2.toNat, a3.toNat, a4.toNat, a5.toNat, a6.toNat, a7.toNat, rfl⟩

end Go.Proofs.Ytafdjohgoopcmaa
