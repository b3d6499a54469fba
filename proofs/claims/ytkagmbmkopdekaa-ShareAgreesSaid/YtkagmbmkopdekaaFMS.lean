/- The law ShareForms, walked. -/
import Derived.Test.YtkagmbmkopdekaaADD
namespace Go.Proofs.Ytkagmbmkopdekaa
open Go.RowKit

attribute [local go_sem] equal26 eq3_same

/-- A block of six cells, not frozen. -/
def Six (W : World) (g : Nat) (a b c d e f : Int) : Prop := W.heap[g]? = some (.cells #[.int .i64 a, .int .i64 b, .int .i64 c, .int .i64 d, .int .i64 e, .int .i64 f] 22 (0, 0))
section
variable {W W1 : World} {g : Nat} {a b c d e f : Int}
theorem Six.lt (h : Six W g a b c d e f) : g < W.heap.size := (Array.getElem?_eq_some_iff.1 h).1
theorem Six.cells (h : Six W g a b c d e f) : W.cell? ⟨g, 0, none⟩ = some (.int .i64 a) ∧ W.cell? ⟨g, 1, none⟩ = some (.int .i64 b) ∧ W.cell? ⟨g, 2, none⟩ = some (.int .i64 c) ∧ W.cell? ⟨g, 3, none⟩ = some (.int .i64 d) ∧ W.cell? ⟨g, 4, none⟩ = some (.int .i64 e) ∧ W.cell? ⟨g, 5, none⟩ = some (.int .i64 f) :=
  ⟨by rw [cell_of_row W _ _ _ _ _ h]; rfl, by rw [cell_of_row W _ _ _ _ _ h]; rfl, by rw [cell_of_row W _ _ _ _ _ h]; rfl, by rw [cell_of_row W _ _ _ _ _ h]; rfl, by rw [cell_of_row W _ _ _ _ _ h]; rfl, by rw [cell_of_row W _ _ _ _ _ h]; rfl⟩
theorem Six.free (h : Six W g a b c d e f) : W.frozen? ⟨g, 0, none⟩ = false ∧ W.frozen? ⟨g, 1, none⟩ = false ∧ W.frozen? ⟨g, 2, none⟩ = false ∧ W.frozen? ⟨g, 3, none⟩ = false ∧ W.frozen? ⟨g, 4, none⟩ = false ∧ W.frozen? ⟨g, 5, none⟩ = false :=
  ⟨frozen_of_row W _ _ _ _ h, frozen_of_row W _ _ _ _ h, frozen_of_row W _ _ _ _ h, frozen_of_row W _ _ _ _ h, frozen_of_row W _ _ _ _ h, frozen_of_row W _ _ _ _ h⟩
theorem Six.below (h : Six W g a b c d e f) (hb : Below W.heap.size W W1) : Six W1 g a b c d e f := (hb.block g h.lt).trans h
theorem Six.st0 (h : Six W g a b c d e f) (u : Int) : Six (W.setCell ⟨g, 0, none⟩ (.int .i64 u)) g u b c d e f := heap_setCell_same W g 0 _ 22 _ h
theorem Six.st1 (h : Six W g a b c d e f) (u : Int) : Six (W.setCell ⟨g, 1, none⟩ (.int .i64 u)) g a u c d e f := heap_setCell_same W g 1 _ 22 _ h
theorem Six.st2 (h : Six W g a b c d e f) (u : Int) : Six (W.setCell ⟨g, 2, none⟩ (.int .i64 u)) g a b u d e f := heap_setCell_same W g 2 _ 22 _ h
theorem Six.st3 (h : Six W g a b c d e f) (u : Int) : Six (W.setCell ⟨g, 3, none⟩ (.int .i64 u)) g a b c u e f := heap_setCell_same W g 3 _ 22 _ h
theorem Six.st4 (h : Six W g a b c d e f) (u : Int) : Six (W.setCell ⟨g, 4, none⟩ (.int .i64 u)) g a b c d u f := heap_setCell_same W g 4 _ 22 _ h
theorem Six.st5 (h : Six W g a b c d e f) (u : Int) : Six (W.setCell ⟨g, 5, none⟩ (.int .i64 u)) g a b c d e u := heap_setCell_same W g 5 _ 22 _ h
theorem Six.other {k : Nat} (h : Six W g a b c d e f) (hk : g ≠ k) (j : Nat) (u : Value) : Six (W.setCell ⟨k, j, none⟩ u) g a b c d e f := (Below.heap_setCell W _ u g (by simpa using hk)).trans h
end

/-- The first k numbers, and zeros. -/
def SixI (W : World) (g : Nat) (a b c d e f : Int) (k : Nat) : Prop := Six W g (if 0 < k then a else 0) (if 1 < k then b else 0) (if 2 < k then c else 0) (if 3 < k then d else 0) (if 4 < k then e else 0) (if 5 < k then f else 0)

/-- A block of numbers. -/
def Bg (W : World) (g : Nat) (cs : Array Value) : Prop := W.heap[g]? = some (.cells cs 22 (0, 0))
theorem Bg.below {W W1 : World} {g : Nat} {cs : Array Value} (h : Bg W g cs) (hb : Below W.heap.size W W1) : Bg W1 g cs := (hb.block g (Array.getElem?_eq_some_iff.1 h).1).trans h
theorem Bg.cell {W : World} {g : Nat} {cs : Array Value} (h : Bg W g cs) (j : Nat) {v : Value} (hv : cs[j]? = some v) : W.cell? ⟨g, j, none⟩ = some v := by rw [cell_of_row W _ _ _ _ _ h]; exact hv

set_option maxRecDepth 100000 in
set_option maxHeartbeats 4000000 in
theorem forms_any (l0 l1 l2 l3 l4 l5 : Int) (w : World) (pl0 : -9223372036854775808 ≤ l0) (ql0 : l0 ≤ 9223372036854775807) (pl1 : -9223372036854775808 ≤ l1) (ql1 : l1 ≤ 9223372036854775807) (pl2 : -9223372036854775808 ≤ l2) (ql2 : l2 ≤ 9223372036854775807) (pl3 : -9223372036854775808 ≤ l3) (ql3 : l3 ≤ 9223372036854775807) (pl4 : -9223372036854775808 ≤ l4) (ql4 : l4 ≤ 9223372036854775807) (pl5 : -9223372036854775808 ≤ l5) (ql5 : l5 ≤ 9223372036854775807) :
    Calls Try.prog 3 #[.agg #[.int .i64 l0, .int .i64 l1, .int .i64 l2, .int .i64 l3, .int .i64 l4, .int .i64 l5]] w fun e w' => e = .returned (.bool true) ∧ Below w.heap.size w w' := by
  have P0 := Lib.hid (fun W => near_any l0 W)
  obtain ⟨n0, m0⟩ := near_bd l0
  have P1 := Lib.hid (fun W => near_any l1 W)
  obtain ⟨n1, m1⟩ := near_bd l1
  have P2 := Lib.hid (fun W => near_any l2 W)
  obtain ⟨n2, m2⟩ := near_bd l2
  have P3 := Lib.hid (fun W => near_any l3 W)
  obtain ⟨n3, m3⟩ := near_bd l3
  have P4 := Lib.hid (fun W => near_any l4 W)
  obtain ⟨n4, m4⟩ := near_bd l4
  have P5 := Lib.hid (fun W => near_any l5 W)
  obtain ⟨n5, m5⟩ := near_bd l5
  revert P5 n5 m5
  revert P4 n4 m4
  revert P3 n3 m3
  revert P2 n2 m2
  revert P1 n1 m1
  revert P0 n0 m0
  generalize nearV l0 = y0
  generalize nearV l1 = y1
  generalize nearV l2 = y2
  generalize nearV l3 = y3
  generalize nearV l4 = y4
  generalize nearV l5 = y5
  intro P0 n0 m0 P1 n1 m1 P2 n2 m2 P3 n3 m3 P4 n4 m4 P5 n5 m5
  have HBW : Hid (Below w.heap.size w (w.alloc (.cells #[.int .i64 l0, .int .i64 l1, .int .i64 l2, .int .i64 l3, .int .i64 l4, .int .i64 l5] 22))) := Lib.hid (by go_grown)
  have HL : Hid (Six (w.alloc (.cells #[.int .i64 l0, .int .i64 l1, .int .i64 l2, .int .i64 l3, .int .i64 l4, .int .i64 l5] 22)) w.heap.size l0 l1 l2 l3 l4 l5) := Lib.hid (heap_alloc_new _ _)
  go_enter Try.func3, Try.ntmps3
  go_upto_region 3 with (go_at_call 10; refine (sanity_any _).mono ?_; rintro e w1 ⟨rfl, hb⟩; have HBW := Lib.hid (carry HBW hb); have HL := Lib.hid (HL.out.below hb); clear hb)
  have hal : Below w1.heap.size w1 (w1.alloc (.cells #[.int .i64 0, .int .i64 0, .int .i64 0, .int .i64 0, .int .i64 0, .int .i64 0] 22)) := by go_grown
  have HLT := Lib.hid HL.out.lt
  have HLW : Hid (w.heap.size ≤ w1.heap.size) := Lib.hid HBW.out.size
  have HBW := Lib.hid (carry HBW hal)
  have HL := Lib.hid (HL.out.below hal)
  have HM : Hid (SixI (w1.alloc (.cells #[.int .i64 0, .int .i64 0, .int .i64 0, .int .i64 0, .int .i64 0, .int .i64 0] 22)) w1.heap.size y0 y1 y2 y3 y4 y5 0) := Lib.hid (heap_alloc_new _ _)
  clear hal
  revert HM
  revert HL
  revert HBW
  revert HLW
  revert HLT
  generalize (w1.alloc (.cells #[.int .i64 0, .int .i64 0, .int .i64 0, .int .i64 0, .int .i64 0, .int .i64 0] 22)) = W1
  generalize w1.heap.size = gm
  obtain ⟨gl, hgl⟩ : ∃ gl, gl = w.heap.size := ⟨_, rfl⟩
  intro HLT HLW HBW HL HM
  rw [← hgl] at HL HLT ⊢
  have HGL := Lib.hid hgl
  clear hgl
  go_wp2
  go_loopw [25] (fun kv wr => ∃ i : Int, (i = 0 ∨ i = 1 ∨ i = 2 ∨ i = 3 ∨ i = 4 ∨ i = 5 ∨ i = 6) ∧ kv = .int .i64 i ∧ Hid (Six wr gl l0 l1 l2 l3 l4 l5) ∧ Hid (SixI wr gm y0 y1 y2 y3 y4 y5 i.toNat) ∧ Hid (Below w.heap.size w wr)) (fun kv _ => (6 - intOf kv).toNat)
  case atStart => exact ⟨0, by omega, rfl, HL, HM, HBW⟩
  case round =>
    obtain ⟨i, hi, rfl, HL, HM, HBW⟩ := hrel
    rcases hi with rfl | rfl | rfl | rfl | rfl | rfl | rfl
    · have tm : Six wr gm 0 0 0 0 0 0 := HM.out
      obtain ⟨c0, c1, c2, c3, c4, c5⟩ := tm.cells
      obtain ⟨f0, f1, f2, f3, f4, f5⟩ := tm.free
      obtain ⟨d0, d1, d2, d3, d4, d5⟩ := HL.out.cells
      have hz := tm.lt
      have HTM := Lib.hid tm
      clear tm
      go_wp2_with (go_at_call 11; refine (P0.out _).mono ?_; rintro e w' ⟨rfl, rfl⟩)
      go_roundw
      case rel => exact ⟨1, by omega, rfl, HL.out.other (by have := HLT.out; omega) _ _, (show SixI _ gm y0 y1 y2 y3 y4 y5 1 from HTM.out.st0 _), HBW.out.setCell (by simp; exact HLW.out) _⟩
      case measure => simp [intOf]
    · have tm : Six wr gm y0 0 0 0 0 0 := HM.out
      obtain ⟨c0, c1, c2, c3, c4, c5⟩ := tm.cells
      obtain ⟨f0, f1, f2, f3, f4, f5⟩ := tm.free
      obtain ⟨d0, d1, d2, d3, d4, d5⟩ := HL.out.cells
      have hz := tm.lt
      have HTM := Lib.hid tm
      clear tm
      go_wp2_with (go_at_call 11; refine (P1.out _).mono ?_; rintro e w' ⟨rfl, rfl⟩)
      go_roundw
      case rel => exact ⟨2, by omega, rfl, HL.out.other (by have := HLT.out; omega) _ _, (show SixI _ gm y0 y1 y2 y3 y4 y5 2 from HTM.out.st1 _), HBW.out.setCell (by simp; exact HLW.out) _⟩
      case measure => simp [intOf]
    · have tm : Six wr gm y0 y1 0 0 0 0 := HM.out
      obtain ⟨c0, c1, c2, c3, c4, c5⟩ := tm.cells
      obtain ⟨f0, f1, f2, f3, f4, f5⟩ := tm.free
      obtain ⟨d0, d1, d2, d3, d4, d5⟩ := HL.out.cells
      have hz := tm.lt
      have HTM := Lib.hid tm
      clear tm
      go_wp2_with (go_at_call 11; refine (P2.out _).mono ?_; rintro e w' ⟨rfl, rfl⟩)
      go_roundw
      case rel => exact ⟨3, by omega, rfl, HL.out.other (by have := HLT.out; omega) _ _, (show SixI _ gm y0 y1 y2 y3 y4 y5 3 from HTM.out.st2 _), HBW.out.setCell (by simp; exact HLW.out) _⟩
      case measure => simp [intOf]
    · have tm : Six wr gm y0 y1 y2 0 0 0 := HM.out
      obtain ⟨c0, c1, c2, c3, c4, c5⟩ := tm.cells
      obtain ⟨f0, f1, f2, f3, f4, f5⟩ := tm.free
      obtain ⟨d0, d1, d2, d3, d4, d5⟩ := HL.out.cells
      have hz := tm.lt
      have HTM := Lib.hid tm
      clear tm
      go_wp2_with (go_at_call 11; refine (P3.out _).mono ?_; rintro e w' ⟨rfl, rfl⟩)
      go_roundw
      case rel => exact ⟨4, by omega, rfl, HL.out.other (by have := HLT.out; omega) _ _, (show SixI _ gm y0 y1 y2 y3 y4 y5 4 from HTM.out.st3 _), HBW.out.setCell (by simp; exact HLW.out) _⟩
      case measure => simp [intOf]
    · have tm : Six wr gm y0 y1 y2 y3 0 0 := HM.out
      obtain ⟨c0, c1, c2, c3, c4, c5⟩ := tm.cells
      obtain ⟨f0, f1, f2, f3, f4, f5⟩ := tm.free
      obtain ⟨d0, d1, d2, d3, d4, d5⟩ := HL.out.cells
      have hz := tm.lt
      have HTM := Lib.hid tm
      clear tm
      go_wp2_with (go_at_call 11; refine (P4.out _).mono ?_; rintro e w' ⟨rfl, rfl⟩)
      go_roundw
      case rel => exact ⟨5, by omega, rfl, HL.out.other (by have := HLT.out; omega) _ _, (show SixI _ gm y0 y1 y2 y3 y4 y5 5 from HTM.out.st4 _), HBW.out.setCell (by simp; exact HLW.out) _⟩
      case measure => simp [intOf]
    · have tm : Six wr gm y0 y1 y2 y3 y4 0 := HM.out
      obtain ⟨c0, c1, c2, c3, c4, c5⟩ := tm.cells
      obtain ⟨f0, f1, f2, f3, f4, f5⟩ := tm.free
      obtain ⟨d0, d1, d2, d3, d4, d5⟩ := HL.out.cells
      have hz := tm.lt
      have HTM := Lib.hid tm
      clear tm
      go_wp2_with (go_at_call 11; refine (P5.out _).mono ?_; rintro e w' ⟨rfl, rfl⟩)
      go_roundw
      case rel => exact ⟨6, by omega, rfl, HL.out.other (by have := HLT.out; omega) _ _, (show SixI _ gm y0 y1 y2 y3 y4 y5 6 from HTM.out.st5 _), HBW.out.setCell (by simp; exact HLW.out) _⟩
      case measure => simp [intOf]
    · have tm : Six wr gm y0 y1 y2 y3 y4 y5 := HM.out
      obtain ⟨c0, c1, c2, c3, c4, c5⟩ := tm.cells
      obtain ⟨f0, f1, f2, f3, f4, f5⟩ := tm.free
      obtain ⟨d0, d1, d2, d3, d4, d5⟩ := HL.out.cells
      have hz := tm.lt
      have HTM := Lib.hid tm
      clear tm
      go_upto_region 9 with fail
      have HM := Lib.hid (((HTM.out.st0 (y0.tmod 5)).st2 (y2.tmod 5)).st4 (y4.tmod 5))
      have HL := Lib.hid (((HL.out.other (k := gm) (by have := HLT.out; omega) 0 (.int .i64 (y0.tmod 5))).other (k := gm) (by have := HLT.out; omega) 2 (.int .i64 (y2.tmod 5))).other (k := gm) (by have := HLT.out; omega) 4 (.int .i64 (y4.tmod 5)))
      have HBW := Lib.hid (((HBW.out.setCell (p := ⟨gm, 0, none⟩) HLW.out (.int .i64 (y0.tmod 5))).setCell (p := ⟨gm, 2, none⟩) HLW.out (.int .i64 (y2.tmod 5))).setCell (p := ⟨gm, 4, none⟩) HLW.out (.int .i64 (y4.tmod 5)))
      clear HTM hz c0 c1 c2 c3 c4 c5 d0 d1 d2 d3 d4 d5 f0 f1 f2 f3 f4 f5 P0 P1 P2 P3 P4 P5
      revert HM
      revert HL
      revert HBW
      generalize ((wr.setCell ⟨gm, 0, none⟩ (.int .i64 (y0.tmod 5))).setCell ⟨gm, 2, none⟩ (.int .i64 (y2.tmod 5))).setCell ⟨gm, 4, none⟩ (.int .i64 (y4.tmod 5)) = W9
      generalize y0.tmod 5 = z0
      generalize y2.tmod 5 = z2
      generalize y4.tmod 5 = z4
      intro HBW HL HM
      obtain ⟨c0, c1, c2, c3, c4, c5⟩ := HM.out.cells
      obtain ⟨d0, d1, d2, d3, d4, d5⟩ := HL.out.cells
      go_wp2
      have hal : Below W9.heap.size W9 (W9.alloc (.cells #[.int .i64 l0, .int .i64 l1, .int .i64 l2, .int .i64 l3, .int .i64 l4, .int .i64 l5, .int .i64 z0, .int .i64 y1, .int .i64 z2, .int .i64 y3, .int .i64 z4, .int .i64 y5, .int .i64 z0, .int .i64 y3, .int .i64 z2, .int .i64 l1, .int .i64 z4, .int .i64 y5] 22)) := by go_grown
      have HBW := Lib.hid (carry HBW hal)
      have HG : Hid (Bg (W9.alloc (.cells #[.int .i64 l0, .int .i64 l1, .int .i64 l2, .int .i64 l3, .int .i64 l4, .int .i64 l5, .int .i64 z0, .int .i64 y1, .int .i64 z2, .int .i64 y3, .int .i64 z4, .int .i64 y5, .int .i64 z0, .int .i64 y3, .int .i64 z2, .int .i64 l1, .int .i64 z4, .int .i64 y5] 22)) W9.heap.size #[.int .i64 l0, .int .i64 l1, .int .i64 l2, .int .i64 l3, .int .i64 l4, .int .i64 l5, .int .i64 z0, .int .i64 y1, .int .i64 z2, .int .i64 y3, .int .i64 z4, .int .i64 y5, .int .i64 z0, .int .i64 y3, .int .i64 z2, .int .i64 l1, .int .i64 z4, .int .i64 y5]) := Lib.hid (heap_alloc_new _ _)
      clear hal c0 c1 c2 c3 c4 c5 d0 d1 d2 d3 d4 d5 HM HL
      revert HG
      revert HBW
      generalize (W9.alloc (.cells #[.int .i64 l0, .int .i64 l1, .int .i64 l2, .int .i64 l3, .int .i64 l4, .int .i64 l5, .int .i64 z0, .int .i64 y1, .int .i64 z2, .int .i64 y3, .int .i64 z4, .int .i64 y5, .int .i64 z0, .int .i64 y3, .int .i64 z2, .int .i64 l1, .int .i64 z4, .int .i64 y5] 22)) = W10
      generalize W9.heap.size = gb
      intro HBW HG
      go_loopw [64] (fun kv wr => ∃ i : Int, (i = 0 ∨ i = 1 ∨ i = 2 ∨ i = 3) ∧ kv = .int .i64 i ∧ Hid (Bg wr gb #[.int .i64 l0, .int .i64 l1, .int .i64 l2, .int .i64 l3, .int .i64 l4, .int .i64 l5, .int .i64 z0, .int .i64 y1, .int .i64 z2, .int .i64 y3, .int .i64 z4, .int .i64 y5, .int .i64 z0, .int .i64 y3, .int .i64 z2, .int .i64 l1, .int .i64 z4, .int .i64 y5]) ∧ Hid (Below w.heap.size w wr)) (fun kv _ => (3 - intOf kv).toNat)
      case atStart => exact ⟨0, by omega, rfl, HG, HBW⟩
      case round =>
        obtain ⟨i, hi, rfl, HG, HBW⟩ := hrel
        rcases hi with rfl | rfl | rfl | rfl
        · have E1 := Lib.hid (fun W => split_any l1 l3 W)
          have E2 := Lib.hid (fun W => rSplit_any l1 l3 W)
          have E3 := Lib.hid (fun W => join_any l0 l1 l2 l3 W)
          have E4 := Lib.hid (fun W => rJoin_any l0 l1 l2 l3 W)
          have E5 := Lib.hid (fun W => third_any l0 l1 l2 l3 l4 W)
          have E6 := Lib.hid (fun W => rThird_any l0 l1 l2 l3 l4 W)
          have E7 := Lib.hid (fun W => blind_any l1 l0 l3 W)
          have E8 := Lib.hid (fun W => rBlind_any l1 l0 l3 W)
          revert E8
          revert E7
          revert E6
          revert E5
          revert E4
          revert E3
          revert E2
          revert E1
          generalize spV l1 l3 1 = sa1
          generalize spV l1 l3 2 = sa2
          generalize spV l1 l3 3 = sa3
          generalize spB l1 l3 = sb
          generalize thS l0 l1 l2 l3 = ja
          generalize thB l0 l1 l2 l3 = jb
          generalize tdV l0 l1 l2 l3 l4 = ta
          generalize tdB l0 l1 l2 l3 l4 = tb
          generalize bdV l1 l0 l3 = ba
          generalize bdB l1 l0 l3 = bb
          intro E1 E2 E3 E4 E5 E6 E7 E8
          have c0 : wr.cell? ⟨gb, 0, none⟩ = some (.int .i64 l0) := HG.out.cell 0 rfl
          have c1 : wr.cell? ⟨gb, 1, none⟩ = some (.int .i64 l1) := HG.out.cell 1 rfl
          have c2 : wr.cell? ⟨gb, 2, none⟩ = some (.int .i64 l2) := HG.out.cell 2 rfl
          have c3 : wr.cell? ⟨gb, 3, none⟩ = some (.int .i64 l3) := HG.out.cell 3 rfl
          have c4 : wr.cell? ⟨gb, 4, none⟩ = some (.int .i64 l4) := HG.out.cell 4 rfl
          have c5 : wr.cell? ⟨gb, 5, none⟩ = some (.int .i64 l5) := HG.out.cell 5 rfl
          go_upto_region 12 with fail
          clear c0 c1 c2 c3 c4 c5
          have hal : Below wr.heap.size wr (wr.alloc (.cells #[.int .i64 l0, .int .i64 l1, .int .i64 l2, .int .i64 l3, .int .i64 l4, .int .i64 l5] 22)) := by go_grown
          have X : Hid (Six (wr.alloc (.cells #[.int .i64 l0, .int .i64 l1, .int .i64 l2, .int .i64 l3, .int .i64 l4, .int .i64 l5] 22)) wr.heap.size l0 l1 l2 l3 l4 l5) := Lib.hid (heap_alloc_new _ _)
          have HG := Lib.hid (HG.out.below hal)
          have HBW := Lib.hid (carry HBW hal)
          clear hal
          revert X
          revert HG
          revert HBW
          generalize (wr.alloc (.cells #[.int .i64 l0, .int .i64 l1, .int .i64 l2, .int .i64 l3, .int .i64 l4, .int .i64 l5] 22)) = W12
          generalize wr.heap.size = gx
          intro HBW HG X
          obtain ⟨c0, c1, c2, c3, c4, c5⟩ := X.out.cells
          go_upto_region 13 with (go_at_call 12; refine (E1.out _).mono ?_; rintro e wn ⟨rfl, hb⟩; (try have X := Lib.hid (X.out.below hb)); (try have A := Lib.hid (A.out.below hb)); (try have B := Lib.hid (B.out.below hb)); have HG := Lib.hid (HG.out.below hb); have HBW := Lib.hid (carry HBW hb); clear hb)
          clear c0 c1 c2 c3 c4 c5
          have hal : Below wn.heap.size wn (wn.alloc (.cells #[.int .i64 sa1, .int .i64 sa2, .int .i64 sa3] 26)) := by go_grown
          have X := Lib.hid (X.out.below hal)
          have A := Lib.hid (tri_new wn sa1 sa2 sa3)
          have HG := Lib.hid (HG.out.below hal)
          have HBW := Lib.hid (carry HBW hal)
          clear hal
          revert X
          revert A
          revert HG
          revert HBW
          generalize (wn.alloc (.cells #[.int .i64 sa1, .int .i64 sa2, .int .i64 sa3] 26)) = WA
          generalize wn.heap.size = gA
          intro HBW HG A X
          obtain ⟨c0, c1, c2, c3, c4, c5⟩ := X.out.cells
          go_upto_region 14 with (go_at_call 13; refine (E2.out _).mono ?_; rintro e wn ⟨rfl, hb⟩; (try have X := Lib.hid (X.out.below hb)); (try have A := Lib.hid (A.out.below hb)); (try have B := Lib.hid (B.out.below hb)); have HG := Lib.hid (HG.out.below hb); have HBW := Lib.hid (carry HBW hb); clear hb)
          clear c0 c1 c2 c3 c4 c5
          have hal : Below wn.heap.size wn (wn.alloc (.cells #[.int .i64 sa1, .int .i64 sa2, .int .i64 sa3] 26)) := by go_grown
          have X := Lib.hid (X.out.below hal)
          have A := Lib.hid (A.out.below hal)
          have B := Lib.hid (tri_new wn sa1 sa2 sa3)
          have HG := Lib.hid (HG.out.below hal)
          have HBW := Lib.hid (carry HBW hal)
          clear hal
          revert X
          revert A
          revert B
          revert HG
          revert HBW
          generalize (wn.alloc (.cells #[.int .i64 sa1, .int .i64 sa2, .int .i64 sa3] 26)) = WB
          generalize wn.heap.size = gB
          intro HBW HG B A X
          obtain ⟨c0, c1, c2, c3, c4, c5⟩ := X.out.cells
          go_upto_region 15 with (go_at_call 14; refine (E3.out _).mono ?_; rintro e wn ⟨rfl, hb⟩; (try have X := Lib.hid (X.out.below hb)); (try have A := Lib.hid (A.out.below hb)); (try have B := Lib.hid (B.out.below hb)); have HG := Lib.hid (HG.out.below hb); have HBW := Lib.hid (carry HBW hb); clear hb)
          clear c0 c1 c2 c3 c4 c5
          obtain ⟨c0, c1, c2, c3, c4, c5⟩ := X.out.cells
          go_upto_region 16 with (go_at_call 15; refine (E4.out _).mono ?_; rintro e wq ⟨rfl, rfl⟩)
          clear c0 c1 c2 c3 c4 c5
          obtain ⟨c0, c1, c2, c3, c4, c5⟩ := X.out.cells
          go_upto_region 17 with (go_at_call 16; refine (E5.out _).mono ?_; rintro e wn ⟨rfl, hb⟩; (try have X := Lib.hid (X.out.below hb)); (try have A := Lib.hid (A.out.below hb)); (try have B := Lib.hid (B.out.below hb)); have HG := Lib.hid (HG.out.below hb); have HBW := Lib.hid (carry HBW hb); clear hb)
          clear c0 c1 c2 c3 c4 c5
          obtain ⟨c0, c1, c2, c3, c4, c5⟩ := X.out.cells
          go_upto_region 18 with (go_at_call 17; refine (E6.out _).mono ?_; rintro e wq ⟨rfl, rfl⟩)
          clear c0 c1 c2 c3 c4 c5
          obtain ⟨c0, c1, c2, c3, c4, c5⟩ := X.out.cells
          go_upto_region 19 with (go_at_call 18; refine (E7.out _).mono ?_; rintro e wn ⟨rfl, hb⟩; (try have X := Lib.hid (X.out.below hb)); (try have A := Lib.hid (A.out.below hb)); (try have B := Lib.hid (B.out.below hb)); have HG := Lib.hid (HG.out.below hb); have HBW := Lib.hid (carry HBW hb); clear hb)
          clear c0 c1 c2 c3 c4 c5
          obtain ⟨c0, c1, c2, c3, c4, c5⟩ := X.out.cells
          go_upto_region 20 with (go_at_call 19; refine (E8.out _).mono ?_; rintro e wq ⟨rfl, rfl⟩)
          clear c0 c1 c2 c3 c4 c5
          obtain ⟨c0, c1, c2, _⟩ := A.out.cells
          obtain ⟨d0, d1, d2, _⟩ := B.out.cells
          go_wp2
          go_roundw
          case rel => exact ⟨1, by omega, rfl, HG, HBW⟩
          case measure => simp [intOf]
        · have E1 := Lib.hid (fun W => split_any y1 y3 W)
          have E2 := Lib.hid (fun W => rSplit_any y1 y3 W)
          have E3 := Lib.hid (fun W => join_any z0 y1 z2 y3 W)
          have E4 := Lib.hid (fun W => rJoin_any z0 y1 z2 y3 W)
          have E5 := Lib.hid (fun W => third_any z0 y1 z2 y3 z4 W)
          have E6 := Lib.hid (fun W => rThird_any z0 y1 z2 y3 z4 W)
          have E7 := Lib.hid (fun W => blind_any y1 z0 y3 W)
          have E8 := Lib.hid (fun W => rBlind_any y1 z0 y3 W)
          revert E8
          revert E7
          revert E6
          revert E5
          revert E4
          revert E3
          revert E2
          revert E1
          generalize spV y1 y3 1 = sa1
          generalize spV y1 y3 2 = sa2
          generalize spV y1 y3 3 = sa3
          generalize spB y1 y3 = sb
          generalize thS z0 y1 z2 y3 = ja
          generalize thB z0 y1 z2 y3 = jb
          generalize tdV z0 y1 z2 y3 z4 = ta
          generalize tdB z0 y1 z2 y3 z4 = tb
          generalize bdV y1 z0 y3 = ba
          generalize bdB y1 z0 y3 = bb
          intro E1 E2 E3 E4 E5 E6 E7 E8
          have c0 : wr.cell? ⟨gb, 6, none⟩ = some (.int .i64 z0) := HG.out.cell 6 rfl
          have c1 : wr.cell? ⟨gb, 7, none⟩ = some (.int .i64 y1) := HG.out.cell 7 rfl
          have c2 : wr.cell? ⟨gb, 8, none⟩ = some (.int .i64 z2) := HG.out.cell 8 rfl
          have c3 : wr.cell? ⟨gb, 9, none⟩ = some (.int .i64 y3) := HG.out.cell 9 rfl
          have c4 : wr.cell? ⟨gb, 10, none⟩ = some (.int .i64 z4) := HG.out.cell 10 rfl
          have c5 : wr.cell? ⟨gb, 11, none⟩ = some (.int .i64 y5) := HG.out.cell 11 rfl
          go_upto_region 12 with fail
          clear c0 c1 c2 c3 c4 c5
          have hal : Below wr.heap.size wr (wr.alloc (.cells #[.int .i64 z0, .int .i64 y1, .int .i64 z2, .int .i64 y3, .int .i64 z4, .int .i64 y5] 22)) := by go_grown
          have X : Hid (Six (wr.alloc (.cells #[.int .i64 z0, .int .i64 y1, .int .i64 z2, .int .i64 y3, .int .i64 z4, .int .i64 y5] 22)) wr.heap.size z0 y1 z2 y3 z4 y5) := Lib.hid (heap_alloc_new _ _)
          have HG := Lib.hid (HG.out.below hal)
          have HBW := Lib.hid (carry HBW hal)
          clear hal
          revert X
          revert HG
          revert HBW
          generalize (wr.alloc (.cells #[.int .i64 z0, .int .i64 y1, .int .i64 z2, .int .i64 y3, .int .i64 z4, .int .i64 y5] 22)) = W12
          generalize wr.heap.size = gx
          intro HBW HG X
          obtain ⟨c0, c1, c2, c3, c4, c5⟩ := X.out.cells
          go_upto_region 13 with (go_at_call 12; refine (E1.out _).mono ?_; rintro e wn ⟨rfl, hb⟩; (try have X := Lib.hid (X.out.below hb)); (try have A := Lib.hid (A.out.below hb)); (try have B := Lib.hid (B.out.below hb)); have HG := Lib.hid (HG.out.below hb); have HBW := Lib.hid (carry HBW hb); clear hb)
          clear c0 c1 c2 c3 c4 c5
          have hal : Below wn.heap.size wn (wn.alloc (.cells #[.int .i64 sa1, .int .i64 sa2, .int .i64 sa3] 26)) := by go_grown
          have X := Lib.hid (X.out.below hal)
          have A := Lib.hid (tri_new wn sa1 sa2 sa3)
          have HG := Lib.hid (HG.out.below hal)
          have HBW := Lib.hid (carry HBW hal)
          clear hal
          revert X
          revert A
          revert HG
          revert HBW
          generalize (wn.alloc (.cells #[.int .i64 sa1, .int .i64 sa2, .int .i64 sa3] 26)) = WA
          generalize wn.heap.size = gA
          intro HBW HG A X
          obtain ⟨c0, c1, c2, c3, c4, c5⟩ := X.out.cells
          go_upto_region 14 with (go_at_call 13; refine (E2.out _).mono ?_; rintro e wn ⟨rfl, hb⟩; (try have X := Lib.hid (X.out.below hb)); (try have A := Lib.hid (A.out.below hb)); (try have B := Lib.hid (B.out.below hb)); have HG := Lib.hid (HG.out.below hb); have HBW := Lib.hid (carry HBW hb); clear hb)
          clear c0 c1 c2 c3 c4 c5
          have hal : Below wn.heap.size wn (wn.alloc (.cells #[.int .i64 sa1, .int .i64 sa2, .int .i64 sa3] 26)) := by go_grown
          have X := Lib.hid (X.out.below hal)
          have A := Lib.hid (A.out.below hal)
          have B := Lib.hid (tri_new wn sa1 sa2 sa3)
          have HG := Lib.hid (HG.out.below hal)
          have HBW := Lib.hid (carry HBW hal)
          clear hal
          revert X
          revert A
          revert B
          revert HG
          revert HBW
          generalize (wn.alloc (.cells #[.int .i64 sa1, .int .i64 sa2, .int .i64 sa3] 26)) = WB
          generalize wn.heap.size = gB
          intro HBW HG B A X
          obtain ⟨c0, c1, c2, c3, c4, c5⟩ := X.out.cells
          go_upto_region 15 with (go_at_call 14; refine (E3.out _).mono ?_; rintro e wn ⟨rfl, hb⟩; (try have X := Lib.hid (X.out.below hb)); (try have A := Lib.hid (A.out.below hb)); (try have B := Lib.hid (B.out.below hb)); have HG := Lib.hid (HG.out.below hb); have HBW := Lib.hid (carry HBW hb); clear hb)
          clear c0 c1 c2 c3 c4 c5
          obtain ⟨c0, c1, c2, c3, c4, c5⟩ := X.out.cells
          go_upto_region 16 with (go_at_call 15; refine (E4.out _).mono ?_; rintro e wq ⟨rfl, rfl⟩)
          clear c0 c1 c2 c3 c4 c5
          obtain ⟨c0, c1, c2, c3, c4, c5⟩ := X.out.cells
          go_upto_region 17 with (go_at_call 16; refine (E5.out _).mono ?_; rintro e wn ⟨rfl, hb⟩; (try have X := Lib.hid (X.out.below hb)); (try have A := Lib.hid (A.out.below hb)); (try have B := Lib.hid (B.out.below hb)); have HG := Lib.hid (HG.out.below hb); have HBW := Lib.hid (carry HBW hb); clear hb)
          clear c0 c1 c2 c3 c4 c5
          obtain ⟨c0, c1, c2, c3, c4, c5⟩ := X.out.cells
          go_upto_region 18 with (go_at_call 17; refine (E6.out _).mono ?_; rintro e wq ⟨rfl, rfl⟩)
          clear c0 c1 c2 c3 c4 c5
          obtain ⟨c0, c1, c2, c3, c4, c5⟩ := X.out.cells
          go_upto_region 19 with (go_at_call 18; refine (E7.out _).mono ?_; rintro e wn ⟨rfl, hb⟩; (try have X := Lib.hid (X.out.below hb)); (try have A := Lib.hid (A.out.below hb)); (try have B := Lib.hid (B.out.below hb)); have HG := Lib.hid (HG.out.below hb); have HBW := Lib.hid (carry HBW hb); clear hb)
          clear c0 c1 c2 c3 c4 c5
          obtain ⟨c0, c1, c2, c3, c4, c5⟩ := X.out.cells
          go_upto_region 20 with (go_at_call 19; refine (E8.out _).mono ?_; rintro e wq ⟨rfl, rfl⟩)
          clear c0 c1 c2 c3 c4 c5
          obtain ⟨c0, c1, c2, _⟩ := A.out.cells
          obtain ⟨d0, d1, d2, _⟩ := B.out.cells
          go_wp2
          go_roundw
          case rel => exact ⟨2, by omega, rfl, HG, HBW⟩
          case measure => simp [intOf]
        · have E1 := Lib.hid (fun W => split_any y3 l1 W)
          have E2 := Lib.hid (fun W => rSplit_any y3 l1 W)
          have E3 := Lib.hid (fun W => join_any z0 y3 z2 l1 W)
          have E4 := Lib.hid (fun W => rJoin_any z0 y3 z2 l1 W)
          have E5 := Lib.hid (fun W => third_any z0 y3 z2 l1 z4 W)
          have E6 := Lib.hid (fun W => rThird_any z0 y3 z2 l1 z4 W)
          have E7 := Lib.hid (fun W => blind_any y3 z0 l1 W)
          have E8 := Lib.hid (fun W => rBlind_any y3 z0 l1 W)
          revert E8
          revert E7
          revert E6
          revert E5
          revert E4
          revert E3
          revert E2
          revert E1
          generalize spV y3 l1 1 = sa1
          generalize spV y3 l1 2 = sa2
          generalize spV y3 l1 3 = sa3
          generalize spB y3 l1 = sb
          generalize thS z0 y3 z2 l1 = ja
          generalize thB z0 y3 z2 l1 = jb
          generalize tdV z0 y3 z2 l1 z4 = ta
          generalize tdB z0 y3 z2 l1 z4 = tb
          generalize bdV y3 z0 l1 = ba
          generalize bdB y3 z0 l1 = bb
          intro E1 E2 E3 E4 E5 E6 E7 E8
          have c0 : wr.cell? ⟨gb, 12, none⟩ = some (.int .i64 z0) := HG.out.cell 12 rfl
          have c1 : wr.cell? ⟨gb, 13, none⟩ = some (.int .i64 y3) := HG.out.cell 13 rfl
          have c2 : wr.cell? ⟨gb, 14, none⟩ = some (.int .i64 z2) := HG.out.cell 14 rfl
          have c3 : wr.cell? ⟨gb, 15, none⟩ = some (.int .i64 l1) := HG.out.cell 15 rfl
          have c4 : wr.cell? ⟨gb, 16, none⟩ = some (.int .i64 z4) := HG.out.cell 16 rfl
          have c5 : wr.cell? ⟨gb, 17, none⟩ = some (.int .i64 y5) := HG.out.cell 17 rfl
          go_upto_region 12 with fail
          clear c0 c1 c2 c3 c4 c5
          have hal : Below wr.heap.size wr (wr.alloc (.cells #[.int .i64 z0, .int .i64 y3, .int .i64 z2, .int .i64 l1, .int .i64 z4, .int .i64 y5] 22)) := by go_grown
          have X : Hid (Six (wr.alloc (.cells #[.int .i64 z0, .int .i64 y3, .int .i64 z2, .int .i64 l1, .int .i64 z4, .int .i64 y5] 22)) wr.heap.size z0 y3 z2 l1 z4 y5) := Lib.hid (heap_alloc_new _ _)
          have HG := Lib.hid (HG.out.below hal)
          have HBW := Lib.hid (carry HBW hal)
          clear hal
          revert X
          revert HG
          revert HBW
          generalize (wr.alloc (.cells #[.int .i64 z0, .int .i64 y3, .int .i64 z2, .int .i64 l1, .int .i64 z4, .int .i64 y5] 22)) = W12
          generalize wr.heap.size = gx
          intro HBW HG X
          obtain ⟨c0, c1, c2, c3, c4, c5⟩ := X.out.cells
          go_upto_region 13 with (go_at_call 12; refine (E1.out _).mono ?_; rintro e wn ⟨rfl, hb⟩; (try have X := Lib.hid (X.out.below hb)); (try have A := Lib.hid (A.out.below hb)); (try have B := Lib.hid (B.out.below hb)); have HG := Lib.hid (HG.out.below hb); have HBW := Lib.hid (carry HBW hb); clear hb)
          clear c0 c1 c2 c3 c4 c5
          have hal : Below wn.heap.size wn (wn.alloc (.cells #[.int .i64 sa1, .int .i64 sa2, .int .i64 sa3] 26)) := by go_grown
          have X := Lib.hid (X.out.below hal)
          have A := Lib.hid (tri_new wn sa1 sa2 sa3)
          have HG := Lib.hid (HG.out.below hal)
          have HBW := Lib.hid (carry HBW hal)
          clear hal
          revert X
          revert A
          revert HG
          revert HBW
          generalize (wn.alloc (.cells #[.int .i64 sa1, .int .i64 sa2, .int .i64 sa3] 26)) = WA
          generalize wn.heap.size = gA
          intro HBW HG A X
          obtain ⟨c0, c1, c2, c3, c4, c5⟩ := X.out.cells
          go_upto_region 14 with (go_at_call 13; refine (E2.out _).mono ?_; rintro e wn ⟨rfl, hb⟩; (try have X := Lib.hid (X.out.below hb)); (try have A := Lib.hid (A.out.below hb)); (try have B := Lib.hid (B.out.below hb)); have HG := Lib.hid (HG.out.below hb); have HBW := Lib.hid (carry HBW hb); clear hb)
          clear c0 c1 c2 c3 c4 c5
          have hal : Below wn.heap.size wn (wn.alloc (.cells #[.int .i64 sa1, .int .i64 sa2, .int .i64 sa3] 26)) := by go_grown
          have X := Lib.hid (X.out.below hal)
          have A := Lib.hid (A.out.below hal)
          have B := Lib.hid (tri_new wn sa1 sa2 sa3)
          have HG := Lib.hid (HG.out.below hal)
          have HBW := Lib.hid (carry HBW hal)
          clear hal
          revert X
          revert A
          revert B
          revert HG
          revert HBW
          generalize (wn.alloc (.cells #[.int .i64 sa1, .int .i64 sa2, .int .i64 sa3] 26)) = WB
          generalize wn.heap.size = gB
          intro HBW HG B A X
          obtain ⟨c0, c1, c2, c3, c4, c5⟩ := X.out.cells
          go_upto_region 15 with (go_at_call 14; refine (E3.out _).mono ?_; rintro e wn ⟨rfl, hb⟩; (try have X := Lib.hid (X.out.below hb)); (try have A := Lib.hid (A.out.below hb)); (try have B := Lib.hid (B.out.below hb)); have HG := Lib.hid (HG.out.below hb); have HBW := Lib.hid (carry HBW hb); clear hb)
          clear c0 c1 c2 c3 c4 c5
          obtain ⟨c0, c1, c2, c3, c4, c5⟩ := X.out.cells
          go_upto_region 16 with (go_at_call 15; refine (E4.out _).mono ?_; rintro e wq ⟨rfl, rfl⟩)
          clear c0 c1 c2 c3 c4 c5
          obtain ⟨c0, c1, c2, c3, c4, c5⟩ := X.out.cells
          go_upto_region 17 with (go_at_call 16; refine (E5.out _).mono ?_; rintro e wn ⟨rfl, hb⟩; (try have X := Lib.hid (X.out.below hb)); (try have A := Lib.hid (A.out.below hb)); (try have B := Lib.hid (B.out.below hb)); have HG := Lib.hid (HG.out.below hb); have HBW := Lib.hid (carry HBW hb); clear hb)
          clear c0 c1 c2 c3 c4 c5
          obtain ⟨c0, c1, c2, c3, c4, c5⟩ := X.out.cells
          go_upto_region 18 with (go_at_call 17; refine (E6.out _).mono ?_; rintro e wq ⟨rfl, rfl⟩)
          clear c0 c1 c2 c3 c4 c5
          obtain ⟨c0, c1, c2, c3, c4, c5⟩ := X.out.cells
          go_upto_region 19 with (go_at_call 18; refine (E7.out _).mono ?_; rintro e wn ⟨rfl, hb⟩; (try have X := Lib.hid (X.out.below hb)); (try have A := Lib.hid (A.out.below hb)); (try have B := Lib.hid (B.out.below hb)); have HG := Lib.hid (HG.out.below hb); have HBW := Lib.hid (carry HBW hb); clear hb)
          clear c0 c1 c2 c3 c4 c5
          obtain ⟨c0, c1, c2, c3, c4, c5⟩ := X.out.cells
          go_upto_region 20 with (go_at_call 19; refine (E8.out _).mono ?_; rintro e wq ⟨rfl, rfl⟩)
          clear c0 c1 c2 c3 c4 c5
          obtain ⟨c0, c1, c2, _⟩ := A.out.cells
          obtain ⟨d0, d1, d2, _⟩ := B.out.cells
          go_wp2
          go_roundw
          case rel => exact ⟨3, by omega, rfl, HG, HBW⟩
          case measure => simp [intOf]
        · go_wp2
          go_ret
          exact ⟨rfl, HBW.out⟩

end Go.Proofs.Ytkagmbmkopdekaa
