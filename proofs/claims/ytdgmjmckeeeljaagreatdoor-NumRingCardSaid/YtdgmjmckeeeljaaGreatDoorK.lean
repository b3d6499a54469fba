/- Contracts of num: Sub, Of, Int, Cmp, Bits. -/
import Derived.Test.YtdgmjmckeeeljaaGreatDoorJ
namespace Go.Proofs.YtdgmjmckeeeljaaGreatDoor
open Go.RowKit

theorem Nu.below {w w' : World} {x : Value} {z : Int} (h : Nu w x z) (hb : Below w.heap.size w w') : Nu w' x z := by
  obtain ⟨s, e, h1, h2⟩ := h
  exact ⟨s, e, h1.below hb, h2⟩

theorem Nu.neg {w : World} {s : Value} {z : Int} (h : Sl w s (digs z.natAbs)) (hl : (digs z.natAbs).length ≤ 256) (hz : z ≠ 0) : Nu w (.agg #[.bool (!(decide (z < 0))), s]) (-z) := by
  refine ⟨s, ?_, by rw [Int.natAbs_neg]; exact h, by rw [Int.natAbs_neg]; exact hl⟩
  congr 3
  by_cases h : z < 0
  · simp [h]; omega
  · simp [h]; omega

/-- A box for a result. -/
def ResBox (W : World) (g : Nat) : Prop := W.heap[g]? = some (.cells #[.bool false, .slice none 0 0] 27 (0, 0))
theorem ResBox.lt {W : World} {g : Nat} (h : ResBox W g) : g < W.heap.size := (Array.getElem?_eq_some_iff.1 h).1
theorem ResBox.below {W W' : World} {g : Nat} (h : ResBox W g) (hb : Below W.heap.size W W') : ResBox W' g := (hb.block _ h.lt).trans h
theorem ResBox.cells {W : World} {g : Nat} (h : ResBox W g) :
    W.cell? ⟨g, 0, none⟩ = some (.bool false) ∧ W.cell? ⟨g, 1, none⟩ = some (.slice none 0 0) ∧ W.frozen? ⟨g, 0, none⟩ = false ∧ W.frozen? ⟨g, 1, none⟩ = false := by
  refine ⟨?_, ?_, frozen_of_row W _ _ _ _ h, frozen_of_row W _ _ _ _ h⟩ <;> rw [cell_of_row W _ _ _ _ _ h] <;> rfl
theorem ResBox.stored {w1 : World} {g : Nat} (h : ResBox w1 g) (u0 u1 : Value) :
    ((w1.setCell ⟨g, 0, none⟩ u0).setCell ⟨g, 1, none⟩ u1).cell? ⟨g, 0, none⟩ = some u0 ∧ ((w1.setCell ⟨g, 0, none⟩ u0).setCell ⟨g, 1, none⟩ u1).cell? ⟨g, 1, none⟩ = some u1 := by
  have h1 := heap_setCell_same w1 g 0 _ 27 u0 h
  have h2 := heap_setCell_same _ g 1 _ 27 u1 h1
  constructor <;> rw [cell_of_row _ _ _ _ _ _ h2] <;> rfl

/-- What a call returned, handed on through a box of an older number. -/
theorem NumRes.handed {w W W1 : World} {z : Int} {neg : Bool} {ao : Option Addr} {n cap g : Nat} (hB : Below w.heap.size w W) (hb : Below W.heap.size W W1) (hg : w.heap.size ≤ g) (hgW : g < W.heap.size)
    (h1 : fitsB z.natAbs = true → neg = decide (z < 0) ∧ Sw W.heap.size W1 (.slice ao n cap) (digs z.natAbs)) (h2 : fitsB z.natAbs = false → neg = false ∧ ao = none ∧ n = 0 ∧ cap = 0) (u0 u1 : Value) :
    NumRes w z (.returned (.tuple #[.agg #[.bool neg, .slice ao n cap], .bool (fitsB z.natAbs)])) ((W1.setCell ⟨g, 0, none⟩ u0).setCell ⟨g, 1, none⟩ u1) := by
  refine ⟨_, _, _, _, rfl, ((hB.trans (hb.mono hB.size)).setCell (by simpa using hg) _).setCell (by simpa using hg) _, fun hf => ?_, h2⟩
  obtain ⟨e1, e2⟩ := h1 hf
  refine ⟨e1, ?_⟩
  have := (e2.after2 hgW u0 u1).mono hB.size
  exact this

set_option maxRecDepth 10000 in
set_option maxHeartbeats 1000000 in
theorem sub_any {w : World} {x y : Value} {a b : Int} (hx : Nu w x a) (hy : Nu w y b) : Calls Tryz.prog 29 #[x, y] w (NumRes w (a - b)) := by
  have hx' := hx
  have hy' := hy
  obtain ⟨sa, rfl, ha, la⟩ := hx
  obtain ⟨sb, rfl, hb, lb⟩ := hy
  obtain ⟨ab, cb, rfl⟩ := hb.mk'
  have hyn : b ≠ 0 → Nu w (.agg #[.bool (!(decide (b < 0))), .slice ab (digs b.natAbs).length cb]) (-b) := Nu.neg hb lb
  obtain ⟨na, hna⟩ : ∃ na, na = decide (a < 0) := ⟨_, rfl⟩
  obtain ⟨nb, hnb⟩ : ∃ nb, nb = decide (b < 0) := ⟨_, rfl⟩
  obtain ⟨m, hm⟩ : ∃ m, m = (digs b.natAbs).length := ⟨_, rfl⟩
  rw [← hna] at hx'
  rw [← hnb, ← hm] at hyn hy'
  rw [← hna, ← hnb, ← hm]
  by_cases h0 : m = 0
  · subst h0
    have hb0 : b = 0 := by
      have : digs b.natAbs = [] := List.eq_nil_of_length_eq_zero hm.symm
      have : b.natAbs = 0 := digs_inj (by rw [this, digs_zero])
      omega
    have e1 : a + b = a - b := by omega
    have E1 := Lib.hid e1
    clear hyn hna hnb hm hb0 ha la hb lb e1
    go_enter Tryz.func29, Tryz.ntmps29
    go_wp2_with fail
    have hr : ResBox (((w.alloc (.cells #[.bool na, sa] 27)).alloc (.cells #[.bool nb, .slice ab 0 cb] 27)).alloc (.cells #[.bool false, .slice none 0 0] 27)) (w.heap.size + 1 + 1) := (heap_three w _ _ _).2.2
    have hbl : Below w.heap.size w (((w.alloc (.cells #[.bool na, sa] 27)).alloc (.cells #[.bool nb, .slice ab 0 cb] 27)).alloc (.cells #[.bool false, .slice none 0 0] 27)) := by go_grown
    have hadd := add_any (hx'.below hbl) (hy'.below hbl)
    rw [E1.out] at hadd
    revert hr hbl hadd
    generalize ((w.alloc (.cells #[.bool na, sa] 27)).alloc (.cells #[.bool nb, .slice ab 0 cb] 27)).alloc (.cells #[.bool false, .slice none 0 0] 27) = W0
    intro hr hbl hadd
    refine hadd.mono ?_
    rintro e W1 ⟨neg, ao, n, cap, rfl, hb1, h1, h2⟩
    have hr1 := hr.below hb1
    obtain ⟨r0, r1, f0, f1⟩ := hr1.cells
    obtain ⟨q0, q1⟩ := hr1.stored (.bool neg) (.slice ao n cap)
    have hfin := NumRes.handed hbl hb1 (show w.heap.size ≤ w.heap.size + 1 + 1 by omega) hr.lt h1 h2 (.bool neg) (.slice ao n cap)
    have HF := Lib.hid hfin
    have H1 := Lib.hid h1
    have H2 := Lib.hid h2
    clear hfin h1 h2 hr hr1 hbl hb1
    go_wp2
    refine bodyPost_ret (v := .tuple #[.agg #[.bool neg, .slice ao n cap], .bool (fitsB (a - b).natAbs)]) (by simp [results, Tryz.results29, go_sem, q0, q1]) rfl ?_
    exact HF.out
  · have hb0 : b ≠ 0 := by
      intro h; apply h0; rw [hm, h]; show (digs 0).length = 0; rw [digs_zero]; rfl
    have hyn' := hyn hb0
    have hpos : 0 < (m : Int) := by omega
    have e1 : a + -b = a - b := by omega
    have E1 := Lib.hid e1
    clear hyn hna hnb hm hb0 ha la hb lb e1
    go_enter Tryz.func29, Tryz.ntmps29
    go_wp2_with fail
    have hr : ResBox (((w.alloc (.cells #[.bool na, sa] 27)).alloc (.cells #[.bool !nb, .slice ab m cb] 27)).alloc (.cells #[.bool false, .slice none 0 0] 27)) (w.heap.size + 1 + 1) := (heap_three w _ _ _).2.2
    have hbl : Below w.heap.size w (((w.alloc (.cells #[.bool na, sa] 27)).alloc (.cells #[.bool !nb, .slice ab m cb] 27)).alloc (.cells #[.bool false, .slice none 0 0] 27)) := by go_grown
    have hadd := add_any (hx'.below hbl) (hyn'.below hbl)
    rw [E1.out] at hadd
    revert hr hbl hadd
    generalize ((w.alloc (.cells #[.bool na, sa] 27)).alloc (.cells #[.bool !nb, .slice ab m cb] 27)).alloc (.cells #[.bool false, .slice none 0 0] 27) = W0
    intro hr hbl hadd
    refine hadd.mono ?_
    rintro e W1 ⟨neg, ao, n, cap, rfl, hb1, h1, h2⟩
    have hr1 := hr.below hb1
    obtain ⟨r0, r1, f0, f1⟩ := hr1.cells
    obtain ⟨q0, q1⟩ := hr1.stored (.bool neg) (.slice ao n cap)
    have hfin := NumRes.handed hbl hb1 (show w.heap.size ≤ w.heap.size + 1 + 1 by omega) hr.lt h1 h2 (.bool neg) (.slice ao n cap)
    have HF := Lib.hid hfin
    have H1 := Lib.hid h1
    have H2 := Lib.hid h2
    clear hfin h1 h2 hr hr1 hbl hb1
    go_wp2
    refine bodyPost_ret (v := .tuple #[.agg #[.bool neg, .slice ao n cap], .bool (fitsB (a - b).natAbs)]) (by simp [results, Tryz.results29, go_sem, q0, q1]) rfl ?_
    exact HF.out

end Go.Proofs.YtdgmjmckeeeljaaGreatDoor
