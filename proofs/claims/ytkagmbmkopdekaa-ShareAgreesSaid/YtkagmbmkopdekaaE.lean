/- Contract: the shares of all custodians. -/
import Derived.Test.YtkagmbmkopdekaaD
namespace Go.Proofs.Ytkagmbmkopdekaa
open Go.RowKit

/-- A block of three cells, not frozen. -/
def Tri (W : World) (g : Nat) (x y z : Int) (t : TypeId) : Prop := W.heap[g]? = some (.cells #[.int .i64 x, .int .i64 y, .int .i64 z] t (0, 0))
/-- A block of two cells, not frozen. -/
def Two (W : World) (g : Nat) (x y : Int) (t : TypeId) : Prop := W.heap[g]? = some (.cells #[.int .i64 x, .int .i64 y] t (0, 0))

theorem Tri.lt {W : World} {g : Nat} {x y z : Int} {t : TypeId} (h : Tri W g x y z t) : g < W.heap.size := (Array.getElem?_eq_some_iff.1 h).1
theorem Two.lt {W : World} {g : Nat} {x y : Int} {t : TypeId} (h : Two W g x y t) : g < W.heap.size := (Array.getElem?_eq_some_iff.1 h).1
theorem Tri.cells {W : World} {g : Nat} {x y z : Int} {t : TypeId} (h : Tri W g x y z t) : W.cell? ⟨g, 0, none⟩ = some (.int .i64 x) ∧ W.cell? ⟨g, 1, none⟩ = some (.int .i64 y) ∧ W.cell? ⟨g, 2, none⟩ = some (.int .i64 z) ∧ W.frozen? ⟨g, 0, none⟩ = false ∧ W.frozen? ⟨g, 1, none⟩ = false ∧ W.frozen? ⟨g, 2, none⟩ = false :=
  ⟨by rw [cell_of_row W _ _ _ _ _ h]; rfl, by rw [cell_of_row W _ _ _ _ _ h]; rfl, by rw [cell_of_row W _ _ _ _ _ h]; rfl, frozen_of_row W _ _ _ _ h, frozen_of_row W _ _ _ _ h, frozen_of_row W _ _ _ _ h⟩
theorem Two.cells {W : World} {g : Nat} {x y : Int} {t : TypeId} (h : Two W g x y t) : W.cell? ⟨g, 0, none⟩ = some (.int .i64 x) ∧ W.cell? ⟨g, 1, none⟩ = some (.int .i64 y) ∧ W.frozen? ⟨g, 0, none⟩ = false ∧ W.frozen? ⟨g, 1, none⟩ = false :=
  ⟨by rw [cell_of_row W _ _ _ _ _ h]; rfl, by rw [cell_of_row W _ _ _ _ _ h]; rfl, frozen_of_row W _ _ _ _ h, frozen_of_row W _ _ _ _ h⟩
theorem Tri.below {W W1 : World} {g : Nat} {x y z : Int} {t : TypeId} (h : Tri W g x y z t) (hb : Below W.heap.size W W1) : Tri W1 g x y z t := (hb.block g h.lt).trans h
theorem Two.below {W W1 : World} {g : Nat} {x y : Int} {t : TypeId} (h : Two W g x y t) (hb : Below W.heap.size W W1) : Two W1 g x y t := (hb.block g h.lt).trans h
theorem Tri.st0 {W : World} {g : Nat} {x y z : Int} {t : TypeId} (h : Tri W g x y z t) (u : Int) : Tri (W.setCell ⟨g, 0, none⟩ (.int .i64 u)) g u y z t := heap_setCell_same W g 0 _ t _ h
theorem Tri.st1 {W : World} {g : Nat} {x y z : Int} {t : TypeId} (h : Tri W g x y z t) (u : Int) : Tri (W.setCell ⟨g, 1, none⟩ (.int .i64 u)) g x u z t := heap_setCell_same W g 1 _ t _ h
theorem Tri.st2 {W : World} {g : Nat} {x y z : Int} {t : TypeId} (h : Tri W g x y z t) (u : Int) : Tri (W.setCell ⟨g, 2, none⟩ (.int .i64 u)) g x y u t := heap_setCell_same W g 2 _ t _ h
theorem Two.st0 {W : World} {g : Nat} {x y : Int} {t : TypeId} (h : Two W g x y t) (u : Int) : Two (W.setCell ⟨g, 0, none⟩ (.int .i64 u)) g u y t := heap_setCell_same W g 0 _ t _ h
theorem Two.st1 {W : World} {g : Nat} {x y : Int} {t : TypeId} (h : Two W g x y t) (u : Int) : Two (W.setCell ⟨g, 1, none⟩ (.int .i64 u)) g x u t := heap_setCell_same W g 1 _ t _ h
theorem Tri.other {W : World} {g k : Nat} {x y z : Int} {t : TypeId} (h : Tri W g x y z t) (hk : g ≠ k) (j : Nat) (u : Value) : Tri (W.setCell ⟨k, j, none⟩ u) g x y z t := (Below.heap_setCell W _ u g (by simpa using hk)).trans h
theorem Two.other {W : World} {g k : Nat} {x y : Int} {t : TypeId} (h : Two W g x y t) (hk : g ≠ k) (j : Nat) (u : Value) : Two (W.setCell ⟨k, j, none⟩ u) g x y t := (Below.heap_setCell W _ u g (by simpa using hk)).trans h

/-- Three blocks, one behind the other. -/
theorem three_blocks (w : World) (o1 o2 o3 : Obj) : (((w.alloc o1).alloc o2).alloc o3).heap[w.heap.size]? = some o1 ∧ (((w.alloc o1).alloc o2).alloc o3).heap[w.heap.size + 1]? = some o2 ∧ (((w.alloc o1).alloc o2).alloc o3).heap[w.heap.size + 2]? = some o3 := by
  refine ⟨?_, ?_, ?_⟩
  · rw [Below.heap_alloc _ _ _ (by simp; omega), Below.heap_alloc _ _ _ (by simp)]
    exact heap_alloc_new _ _
  · rw [Below.heap_alloc _ _ _ (by simp)]
    have := heap_alloc_new (w.alloc o1) o2
    rwa [World.size_alloc] at this
  · have := heap_alloc_new ((w.alloc o1).alloc o2) o3
    rwa [World.size_alloc, World.size_alloc] at this

/-- The first k shares, and zeros. -/
def ShI (W : World) (g : Nat) (x y z : Int) (k : Nat) : Prop := Tri W g (if 0 < k then x else 0) (if 1 < k then y else 0) (if 2 < k then z else 0) 26

set_option maxRecDepth 10000 in
set_option maxHeartbeats 1000000 in
theorem shares_any (s b : Int) (w : World) (s0 : 0 ≤ s) (s1 : s ≤ 250) (b0 : 0 ≤ b) (b1 : b ≤ 250) :
    Calls Try.prog 27 #[.agg #[.int .i64 s, .int .i64 b]] w fun e w' => e = .returned (.agg #[.int .i64 (lineV s b 1), .int .i64 (lineV s b 2), .int .i64 (lineV s b 3)]) ∧ Below w.heap.size w w' := by
  have H1 := Lib.hid (fun W => share_any s b 1 W s0 s1 b0 b1 (by omega) (by omega))
  have H2 := Lib.hid (fun W => share_any s b 2 W s0 s1 b0 b1 (by omega) (by omega))
  have H3 := Lib.hid (fun W => share_any s b 3 W s0 s1 b0 b1 (by omega) (by omega))
  revert H1 H2 H3
  generalize lineV s b 1 = x
  generalize lineV s b 2 = y
  generalize lineV s b 3 = z
  intro H1 H2 H3
  go_enter Try.func27, Try.ntmps27
  go_wp2
  obtain ⟨k1, k2, k3⟩ := three_blocks w (.cells #[.int .i64 s, .int .i64 b] 48) (.cells #[.int .i64 0, .int .i64 0, .int .i64 0] 26) (.cells #[.int .i64 0, .int .i64 0, .int .i64 0] 26)
  have hB : Below w.heap.size w (((w.alloc (.cells #[.int .i64 s, .int .i64 b] 48)).alloc (.cells #[.int .i64 0, .int .i64 0, .int .i64 0] 26)).alloc (.cells #[.int .i64 0, .int .i64 0, .int .i64 0] 26)) := by go_grown
  revert k1 k2 k3 hB
  generalize (((w.alloc (.cells #[.int .i64 s, .int .i64 b] 48)).alloc (.cells #[.int .i64 0, .int .i64 0, .int .i64 0] 26)).alloc (.cells #[.int .i64 0, .int .i64 0, .int .i64 0] 26)) = W
  intro k1 k2 k3 hB
  have K1 := Lib.hid (show Two W w.heap.size s b 48 from k1)
  have K2 := Lib.hid (show Tri W (w.heap.size + 1) 0 0 0 26 from k2)
  have K3 := Lib.hid (show ShI W (w.heap.size + 2) x y z 0 from k3)
  have HB := Lib.hid hB
  clear k1 k2 k3 hB
  go_loopw [5] (fun kv wr => ∃ k : Nat, k ≤ 3 ∧ kv = .int .i64 k ∧ Hid (Two wr w.heap.size s b 48) ∧ Hid (Tri wr (w.heap.size + 1) 0 0 0 26) ∧ Hid (ShI wr (w.heap.size + 2) x y z k) ∧ Hid (Below w.heap.size w wr)) (fun kv _ => 3 - (intOf kv).toNat)
  case atStart => exact ⟨0, by omega, rfl, K1, K2, K3, HB⟩
  case round =>
    obtain ⟨k, hk, rfl, h1, h2, h3, hb⟩ := hrel
    obtain ⟨c0, c1, _, _⟩ := h1.out.cells
    by_cases e0 : k = 0
    · subst e0
      have g3 : Tri wr (w.heap.size + 2) 0 0 0 26 := h3.out
      obtain ⟨d0, d1, d2, f0, f1, f2⟩ := g3.cells
      have G3 := Lib.hid g3
      clear g3
      go_wp2_with (go_at_call 33; refine (H1.out _).mono ?_; rintro e w1 ⟨rfl, hb1⟩; have g1 := G3.out.below hb1; have hz := g1.lt; obtain ⟨p0, p1, p2, q0, q1, q2⟩ := g1.cells; have G1 := Lib.hid g1; have HB1 := Lib.hid hb1; clear g1 hb1)
      go_roundw
      case rel => exact ⟨1, by omega, by go_num, (h1.out.below HB1.out).other (by omega) 0 _, (h2.out.below HB1.out).other (by omega) 0 _, (show ShI _ _ x y z 1 from G1.out.st0 _), (hb.out.trans (HB1.out.mono hb.out.size)).setCell (by simp; omega) _⟩
      case measure => simp [intOf]
    by_cases e1 : k = 1
    · subst e1
      have g3 : Tri wr (w.heap.size + 2) x 0 0 26 := h3.out
      obtain ⟨d0, d1, d2, f0, f1, f2⟩ := g3.cells
      have G3 := Lib.hid g3
      clear g3
      go_wp2_with (go_at_call 33; refine (H2.out _).mono ?_; rintro e w1 ⟨rfl, hb1⟩; have g1 := G3.out.below hb1; have hz := g1.lt; obtain ⟨p0, p1, p2, q0, q1, q2⟩ := g1.cells; have G1 := Lib.hid g1; have HB1 := Lib.hid hb1; clear g1 hb1)
      go_roundw
      case rel => exact ⟨2, by omega, by go_num, (h1.out.below HB1.out).other (by omega) 1 _, (h2.out.below HB1.out).other (by omega) 1 _, (show ShI _ _ x y z 2 from G1.out.st1 _), (hb.out.trans (HB1.out.mono hb.out.size)).setCell (by simp; omega) _⟩
      case measure => simp [intOf]
    by_cases e2 : k = 2
    · subst e2
      have g3 : Tri wr (w.heap.size + 2) x y 0 26 := h3.out
      obtain ⟨d0, d1, d2, f0, f1, f2⟩ := g3.cells
      have G3 := Lib.hid g3
      clear g3
      go_wp2_with (go_at_call 33; refine (H3.out _).mono ?_; rintro e w1 ⟨rfl, hb1⟩; have g1 := G3.out.below hb1; have hz := g1.lt; obtain ⟨p0, p1, p2, q0, q1, q2⟩ := g1.cells; have G1 := Lib.hid g1; have HB1 := Lib.hid hb1; clear g1 hb1)
      go_roundw
      case rel => exact ⟨3, by omega, by go_num, (h1.out.below HB1.out).other (by omega) 2 _, (h2.out.below HB1.out).other (by omega) 2 _, (show ShI _ _ x y z 3 from G1.out.st2 _), (hb.out.trans (HB1.out.mono hb.out.size)).setCell (by simp; omega) _⟩
      case measure => simp [intOf]
    have e3 : k = 3 := by omega
    clear e0 e1 e2
    subst e3
    have g3 : Tri wr (w.heap.size + 2) x y z 26 := h3.out
    obtain ⟨d0, d1, d2, f0, f1, f2⟩ := g3.cells
    have g2 := h2.out
    obtain ⟨p0, p1, p2, q0, q1, q2⟩ := g2.cells
    have G2 := Lib.hid g2
    clear g3 g2
    go_wp2
    have g4 : Tri (((wr.setCell ⟨w.heap.size + 1, 0, none⟩ (.int .i64 x)).setCell ⟨w.heap.size + 1, 1, none⟩ (.int .i64 y)).setCell ⟨w.heap.size + 1, 2, none⟩ (.int .i64 z)) (w.heap.size + 1) x y z 26 := ((G2.out.st0 x).st1 y).st2 z
    obtain ⟨r0, r1, r2, _⟩ := g4.cells
    refine bodyPost_ret (v := .agg #[.int .i64 x, .int .i64 y, .int .i64 z]) (by simp [results, Try.results27, go_sem, r0, r1, r2]) rfl ⟨rfl, ?_⟩
    exact (((hb.out.setCell (by simp) _).setCell (by simp) _).setCell (by simp) _)

end Go.Proofs.Ytkagmbmkopdekaa
