/- The boxes of the law UrnForms; its lists of designs and rows. -/
import Derived.Test.YtmpopbkhmkkhgaaQ0
namespace Go.Proofs.Ytmpopbkhmkkhgaa
open Go.RowKit

/-- What lies in the boxes of the arguments. -/
structure FoI (W wx : World) (ls : Array Value) (kd : Int) (vr : Value) (a : Int) (c : Ch) (q0 q1 : Int) : Prop where
  l : wx.heap[W.heap.size]? = some (.cells ls 22 (0, 0))
  d : DBox wx (W.heap.size + 1) kd vr a
  c : CBox wx (W.heap.size + 2) c
  q : wx.heap[W.heap.size + 3]? = some (.cells #[.int .i64 q0, .int .i64 q1] 30 (0, 0))
  b : Below W.heap.size W wx
  s : W.heap.size + 4 ≤ wx.heap.size

theorem FoI.below {W wx w' : World} {ls : Array Value} {kd : Int} {vr : Value} {a : Int} {c : Ch} {q0 q1 : Int} (h : FoI W wx ls kd vr a c q0 q1) (hb : Below wx.heap.size wx w') : FoI W w' ls kd vr a c q0 q1 :=
  ⟨(hb.block _ (Array.getElem?_eq_some_iff.1 h.l).1).trans h.l, h.d.below hb, h.c.below hb, (hb.block _ (Array.getElem?_eq_some_iff.1 h.q).1).trans h.q, h.b.trans (hb.mono h.b.size), Nat.le_trans h.s hb.size⟩

/-- The world when the arguments are boxed. -/
abbrev foW (W : World) (ls : Array Value) (kd : Int) (vr vs : Value) (a : Int) (p0 p1 : Value) (c : Ch) (q0 q1 : Int) : World := (((W.alloc (.cells ls 22)).alloc (.cells #[.int .i64 kd, vr, vs, .int .i64 a, p0, p1] 27)).alloc (.cells #[.int .i64 c.1, .int .i64 c.2.1, .int .i64 c.2.2] 29)).alloc (.cells #[.int .i64 q0, .int .i64 q1] 30)

theorem fo_start {W w : World} {ls : Array Value} {kd : Int} {vr vs : Value} {a : Int} {p0 p1 : Value} {c : Ch} {q0 q1 : Int} (hb : Below (foW W ls kd vr vs a p0 p1 c q0 q1).heap.size (foW W ls kd vr vs a p0 p1 c q0 q1) w) :
    w.heap[W.heap.size]? = some (.cells ls 22 (0, 0)) ∧ w.heap[W.heap.size + 1]? = some (.cells #[.int .i64 kd, vr, vs, .int .i64 a, p0, p1] 27 (0, 0)) ∧ CBox w (W.heap.size + 2) c ∧ w.heap[W.heap.size + 3]? = some (.cells #[.int .i64 q0, .int .i64 q1] 30 (0, 0)) ∧ Below W.heap.size W w ∧ W.heap.size + 4 ≤ w.heap.size := by
  have e : ∀ k, (foW W ls kd vr vs a p0 p1 c q0 q1).heap[k]? = if k = W.heap.size + 3 then some (.cells #[.int .i64 q0, .int .i64 q1] 30) else if k = W.heap.size + 2 then some (.cells #[.int .i64 c.1, .int .i64 c.2.1, .int .i64 c.2.2] 29) else if k = W.heap.size + 1 then some (.cells #[.int .i64 kd, vr, vs, .int .i64 a, p0, p1] 27) else if k = W.heap.size then some (.cells ls 22) else W.heap[k]? := fun k => by
    simp only [foW, World.alloc, Array.getElem?_push, Array.size_push]
  have hs : (foW W ls kd vr vs a p0 p1 c q0 q1).heap.size = W.heap.size + 4 := by simp [foW]
  have hz := hb.size
  rw [hs] at hz
  refine ⟨?_, ?_, ?_, ?_, ?_, hz⟩
  · rw [hb.block _ (by rw [hs]; omega), e, if_neg (by omega), if_neg (by omega), if_neg (by omega), if_pos rfl]
  · rw [hb.block _ (by rw [hs]; omega), e, if_neg (by omega), if_neg (by omega), if_pos rfl]
  · rw [CBox, hb.block _ (by rw [hs]; omega), e, if_neg (by omega), if_pos rfl]
  · rw [hb.block _ (by rw [hs]; omega), e, if_pos rfl]
  · exact ((((Below.refl _ W).alloc (Nat.le_refl _) _).alloc (by simp) _).alloc (by simp; omega) _ |>.alloc (by simp; omega) _).trans (hb.mono (by rw [hs]; omega))

/-- The box of the design gets another one. -/
theorem fo_store {W w Wf : World} {ls : Array Value} {kd : Int} {vr0 vr vs : Value} {a : Int} {p0 p1 : Value} {c : Ch} {q0 q1 : Int}
    (h : w.heap[W.heap.size]? = some (.cells ls 22 (0, 0)) ∧ w.heap[W.heap.size + 1]? = some (.cells #[.int .i64 kd, vr0, vs, .int .i64 a, p0, p1] 27 (0, 0)) ∧ CBox w (W.heap.size + 2) c ∧ w.heap[W.heap.size + 3]? = some (.cells #[.int .i64 q0, .int .i64 q1] 30 (0, 0)) ∧ Below W.heap.size W w ∧ W.heap.size + 4 ≤ w.heap.size)
    (hf : Wf = (((((w.setCell ⟨W.heap.size + 1, 0, none⟩ (.int .i64 kd)).setCell ⟨W.heap.size + 1, 1, none⟩ vr).setCell ⟨W.heap.size + 1, 2, none⟩ (.slice none 0 0)).setCell ⟨W.heap.size + 1, 3, none⟩ (.int .i64 a)).setCell ⟨W.heap.size + 1, 4, none⟩ (.int .i64 0)).setCell ⟨W.heap.size + 1, 5, none⟩ (.int .i64 0)) :
    FoI W Wf ls kd vr a c q0 q1 := by
  obtain ⟨h1, h2, h3, h4, h5, h6⟩ := h
  have k1 := heap_setCell_same _ (W.heap.size + 1) 0 _ 27 (.int .i64 kd) h2
  have k2 := heap_setCell_same _ (W.heap.size + 1) 1 _ 27 vr k1
  have k3 := heap_setCell_same _ (W.heap.size + 1) 2 _ 27 (.slice none 0 0) k2
  have k4 := heap_setCell_same _ (W.heap.size + 1) 3 _ 27 (.int .i64 a) k3
  have k5 := heap_setCell_same _ (W.heap.size + 1) 4 _ 27 (.int .i64 0) k4
  have k6 := heap_setCell_same _ (W.heap.size + 1) 5 _ 27 (.int .i64 0) k5
  rw [← hf] at k6
  have hk : ∀ k, k ≠ W.heap.size + 1 → Wf.heap[k]? = w.heap[k]? := fun k hk => by
    rw [hf]
    repeat rw [Below.heap_setCell _ _ _ _ (by simpa using hk)]
  refine ⟨(hk _ (by omega)).trans h1, k6, (hk _ (by omega)).trans h3, (hk _ (by omega)).trans h4, ?_, ?_⟩
  · rw [hf]
    exact (((((h5.setCell (by simp) _).setCell (by simp) _).setCell (by simp) _).setCell (by simp) _).setCell (by simp) _).setCell (by simp) _
  · rw [hf]
    simp only [World.setCell, Array.size_modify]
    exact h6

/-- The four designs, the four rows of a list. -/
def DsAt (w : World) (B : Nat) : Prop := ∀ i, i < 4 → ∃ (kd : Int) (ao : Option Addr) (n cap : Nat) (r : List Int) (a : Int), (w.cell? ⟨B, i * 6, none⟩ = some (.int .i64 kd) ∧ w.cell? ⟨B, i * 6 + 1, none⟩ = some (.slice ao n cap) ∧ w.cell? ⟨B, i * 6 + 2, none⟩ = some (.slice none 0 0) ∧ w.cell? ⟨B, i * 6 + 3, none⟩ = some (.int .i64 a) ∧ w.cell? ⟨B, i * 6 + 4, none⟩ = some (.int .i64 0) ∧ w.cell? ⟨B, i * 6 + 5, none⟩ = some (.int .i64 0)) ∧ Ix w (.slice ao n cap) r ∧ r.length ≤ 8
def RsAt (w : World) (B : Nat) : Prop := ∀ j, j < 4 → ∃ (ao : Option Addr) (n cap : Nat) (row : List Int), w.cell? ⟨B, j, none⟩ = some (.slice ao n cap) ∧ Ix w (.slice ao n cap) row ∧ row.length ≤ 8

theorem ds_new {w : World} {a1 a2 : Option Addr} {n1 c1 n2 c2 : Nat} {r1 r2 : List Int} {k1 k2 b1 b2 : Int} (h1 : Ix w (.slice a1 n1 c1) r1) (h2 : Ix w (.slice a2 n2 c2) r2) (l1 : r1.length ≤ 8) (l2 : r2.length ≤ 8) :
    DsAt (w.alloc (.cells #[.int .i64 k1, .slice a1 n1 c1, .slice none 0 0, .int .i64 b1, .int .i64 0, .int .i64 0, .int .i64 k2, .slice a2 n2 c2, .slice none 0 0, .int .i64 b2, .int .i64 0, .int .i64 0, .int .i64 0, .slice a1 n1 c1, .slice none 0 0, .int .i64 b2, .int .i64 0, .int .i64 0, .int .i64 0, .slice a2 n2 c2, .slice none 0 0, .int .i64 b1, .int .i64 0, .int .i64 0] 27)) w.heap.size := by
  have hb : Below w.heap.size w (w.alloc (.cells #[.int .i64 k1, .slice a1 n1 c1, .slice none 0 0, .int .i64 b1, .int .i64 0, .int .i64 0, .int .i64 k2, .slice a2 n2 c2, .slice none 0 0, .int .i64 b2, .int .i64 0, .int .i64 0, .int .i64 0, .slice a1 n1 c1, .slice none 0 0, .int .i64 b2, .int .i64 0, .int .i64 0, .int .i64 0, .slice a2 n2 c2, .slice none 0 0, .int .i64 b1, .int .i64 0, .int .i64 0] 27)) := (Below.refl _ _).alloc (Nat.le_refl _) _
  have hc := fun j => cell_of_row _ w.heap.size j _ _ _ (heap_alloc_new w (.cells #[.int .i64 k1, .slice a1 n1 c1, .slice none 0 0, .int .i64 b1, .int .i64 0, .int .i64 0, .int .i64 k2, .slice a2 n2 c2, .slice none 0 0, .int .i64 b2, .int .i64 0, .int .i64 0, .int .i64 0, .slice a1 n1 c1, .slice none 0 0, .int .i64 b2, .int .i64 0, .int .i64 0, .int .i64 0, .slice a2 n2 c2, .slice none 0 0, .int .i64 b1, .int .i64 0, .int .i64 0] 27))
  intro i hi
  rcases (show i = 0 ∨ i = 1 ∨ i = 2 ∨ i = 3 by omega) with rfl | rfl | rfl | rfl
  · exact ⟨k1, a1, n1, c1, r1, b1, ⟨hc 0, hc 1, hc 2, hc 3, hc 4, hc 5⟩, h1.below hb, l1⟩
  · exact ⟨k2, a2, n2, c2, r2, b2, ⟨hc 6, hc 7, hc 8, hc 9, hc 10, hc 11⟩, h2.below hb, l2⟩
  · exact ⟨0, a1, n1, c1, r1, b2, ⟨hc 12, hc 13, hc 14, hc 15, hc 16, hc 17⟩, h1.below hb, l1⟩
  · exact ⟨0, a2, n2, c2, r2, b1, ⟨hc 18, hc 19, hc 20, hc 21, hc 22, hc 23⟩, h2.below hb, l2⟩
theorem rs_new {w : World} {a1 a2 a3 : Option Addr} {n1 c1 n2 c2 n3 c3 : Nat} {r1 r2 r3 : List Int} (h1 : Ix w (.slice a1 n1 c1) r1) (h2 : Ix w (.slice a2 n2 c2) r2) (h3 : Ix w (.slice a3 n3 c3) r3) (l1 : r1.length ≤ 8) (l2 : r2.length ≤ 8) (l3 : r3.length ≤ 8) :
    RsAt (w.alloc (.cells #[.slice a1 n1 c1, .slice a2 n2 c2, .slice a3 n3 c3, .slice none 0 0] 23)) w.heap.size := by
  have hb : Below w.heap.size w (w.alloc (.cells #[.slice a1 n1 c1, .slice a2 n2 c2, .slice a3 n3 c3, .slice none 0 0] 23)) := (Below.refl _ _).alloc (Nat.le_refl _) _
  have hc := fun j => cell_of_row _ w.heap.size j _ _ _ (heap_alloc_new w (.cells #[.slice a1 n1 c1, .slice a2 n2 c2, .slice a3 n3 c3, .slice none 0 0] 23))
  intro i hi
  rcases (show i = 0 ∨ i = 1 ∨ i = 2 ∨ i = 3 by omega) with rfl | rfl | rfl | rfl
  · exact ⟨a1, n1, c1, r1, hc 0, h1.below hb, l1⟩
  · exact ⟨a2, n2, c2, r2, hc 1, h2.below hb, l2⟩
  · exact ⟨a3, n3, c3, r3, hc 2, h3.below hb, l3⟩
  · exact ⟨none, 0, 0, [], hc 3, Ix.nil _, by simp⟩

theorem DsAt.at {w w' : World} {B : Nat} (h : DsAt w B) (hb : Below w.heap.size w w') {i : Nat} (hi : i < 4) : ∃ (kd : Int) (ao : Option Addr) (n cap : Nat) (r : List Int) (a : Int), (w'.cell? ⟨B, i * 6, none⟩ = some (.int .i64 kd) ∧ w'.cell? ⟨B, i * 6 + 1, none⟩ = some (.slice ao n cap) ∧ w'.cell? ⟨B, i * 6 + 2, none⟩ = some (.slice none 0 0) ∧ w'.cell? ⟨B, i * 6 + 3, none⟩ = some (.int .i64 a) ∧ w'.cell? ⟨B, i * 6 + 4, none⟩ = some (.int .i64 0) ∧ w'.cell? ⟨B, i * 6 + 5, none⟩ = some (.int .i64 0)) ∧ Ix w' (.slice ao n cap) r ∧ r.length ≤ 8 := by
  obtain ⟨kd, ao, n, cap, r, a, ⟨h0, h1, h2, h3, h4, h5⟩, hx, hl⟩ := h i hi
  exact ⟨kd, ao, n, cap, r, a, ⟨cell_later hb h0, cell_later hb h1, cell_later hb h2, cell_later hb h3, cell_later hb h4, cell_later hb h5⟩, hx.below hb, hl⟩
theorem RsAt.at {w w' : World} {B : Nat} (h : RsAt w B) (hb : Below w.heap.size w w') {i : Nat} (hi : i < 4) : ∃ (ao : Option Addr) (n cap : Nat) (row : List Int), w'.cell? ⟨B, i, none⟩ = some (.slice ao n cap) ∧ Ix w' (.slice ao n cap) row ∧ row.length ≤ 8 := by
  obtain ⟨ao, n, cap, row, h0, hx, hl⟩ := h i hi
  exact ⟨ao, n, cap, row, cell_later hb h0, hx.below hb, hl⟩

/-- The choices, and two more, whatever order the memory is made in. -/
theorem fo_join {w : World} {B2 mz cz : Nat} {az : Option Addr} {zc : List Ch} (hz : OwC w B2 (.slice az mz cz) mz zc) (hm : mz ≤ 100) (x y z : Int) :
    (∃ a1 c1 w1 a2 c2 w2, Sem.run Try.prog (appC 38 #[.slice (some ⟨w.heap.size, 0, none⟩) 0 0, .slice az mz cz]) (w.alloc (.cells #[] 29)).drew = .ok (.slice a1 mz c1) w1 ∧ Sem.run Try.prog (appC 38 #[.slice a1 mz c1, .slice (some ⟨w1.heap.size, 0, none⟩) 2 2]) (w1.alloc (.cells #[.int .i64 x, .int .i64 y, .int .i64 z, .int .i64 1, .int .i64 0, .int .i64 z] 29)) = .ok (.slice a2 (mz + 2) c2) w2 ∧ OwC w2 w.heap.size (.slice a2 (mz + 2) c2) (mz + 2) (zc ++ [(x, y, z), (1, 0, z)]) ∧ Below w.heap.size w w1 ∧ Below w.heap.size w w2) ∧
    (∃ a1 c1 w1 a2 c2 w2, Sem.run Try.prog (appC 38 #[.slice (some ⟨w.heap.size, 0, none⟩) 0 0, .slice az mz cz]) ((w.alloc (.cells #[] 29)).alloc (.cells #[.int .i64 x, .int .i64 y, .int .i64 z, .int .i64 1, .int .i64 0, .int .i64 z] 29)).drew = .ok (.slice a1 mz c1) w1 ∧ Sem.run Try.prog (appC 38 #[.slice a1 mz c1, .slice (some ⟨w.heap.size + 1, 0, none⟩) 2 2]) w1 = .ok (.slice a2 (mz + 2) c2) w2 ∧ OwC w2 w.heap.size (.slice a2 (mz + 2) c2) (mz + 2) (zc ++ [(x, y, z), (1, 0, z)]) ∧ Below w.heap.size w w2) ∧
    (∃ a1 c1 w1 a2 c2 w2, Sem.run Try.prog (appC 38 #[.slice (some ⟨w.heap.size + 1, 0, none⟩) 0 0, .slice az mz cz]) ((w.alloc (.cells #[.int .i64 x, .int .i64 y, .int .i64 z, .int .i64 1, .int .i64 0, .int .i64 z] 29)).alloc (.cells #[] 29)).drew = .ok (.slice a1 mz c1) w1 ∧ Sem.run Try.prog (appC 38 #[.slice a1 mz c1, .slice (some ⟨w.heap.size, 0, none⟩) 2 2]) w1 = .ok (.slice a2 (mz + 2) c2) w2 ∧ OwC w2 w.heap.size (.slice a2 (mz + 2) c2) (mz + 2) (zc ++ [(x, y, z), (1, 0, z)]) ∧ Below w.heap.size w w2) := by
  have two : ∀ {w1 w2 : World} {v : Value}, OwC w2 w.heap.size v (mz + 2) ([] ++ zc ++ [(x, y, z), (1, 0, z)]) → OwC w2 w.heap.size v (mz + 2) (zc ++ [(x, y, z), (1, 0, z)]) := fun h => by simpa using h
  refine ⟨?_, ?_, ?_⟩
  · have hb1 : Below w.heap.size w (w.alloc (.cells #[] 29)).drew := ((Below.refl _ _).alloc (Nat.le_refl _) _).drew
    obtain ⟨a1, c1, w1, h1, h2, h3, h3g⟩ := join_ch (W := (w.alloc (.cells #[] 29)).drew) (ownC_new (B := w.heap.size) (heap_alloc_new w _) (Nat.le_refl _)) (owns_later hz (hb1.mono (Nat.le_refl _))) (by omega) hb1.size
    rw [Nat.zero_add] at h1 h2
    have hb2 := hb1.trans h3
    have hb3 : Below w.heap.size w1 (w1.alloc (.cells #[.int .i64 x, .int .i64 y, .int .i64 z, .int .i64 1, .int .i64 0, .int .i64 z] 29)) := (Below.refl _ _).alloc hb2.size _
    have hb4 : Below w1.heap.size w1 (w1.alloc (.cells #[.int .i64 x, .int .i64 y, .int .i64 z, .int .i64 1, .int .i64 0, .int .i64 z] 29)) := (Below.refl _ _).alloc (Nat.le_refl _) _
    obtain ⟨a2, c2, w2, h4, h5, h6, -⟩ := join_ch (owns_later h2 hb4) (ownC_two (B := w1.heap.size) (heap_alloc_new w1 _) (Nat.le_refl _)) (by omega) (hb2.trans hb3).size
    exact ⟨a1, c1, w1, a2, c2, w2, h1, h4, two (w1 := w1) h5, hb2, (hb2.trans hb3).trans h6⟩
  · have hb1 : Below w.heap.size w ((w.alloc (.cells #[] 29)).alloc (.cells #[.int .i64 x, .int .i64 y, .int .i64 z, .int .i64 1, .int .i64 0, .int .i64 z] 29)).drew := (((Below.refl _ _).alloc (Nat.le_refl _) _).alloc (by simp) _).drew
    obtain ⟨a1, c1, w1, h1, h2, h3, h3g⟩ := join_ch (W := ((w.alloc (.cells #[] 29)).alloc (.cells #[.int .i64 x, .int .i64 y, .int .i64 z, .int .i64 1, .int .i64 0, .int .i64 z] 29)).drew) (ownC_new (B := w.heap.size) (two_first2 w _ _) (Nat.le_refl _)) (owns_later hz (hb1.mono (Nat.le_refl _))) (by omega) hb1.size
    rw [Nat.zero_add] at h1 h2
    have hT : w1.heap[w.heap.size + 1]? = some (.cells #[.int .i64 x, .int .i64 y, .int .i64 z, .int .i64 1, .int .i64 0, .int .i64 z] 29 (0, 0)) := by
      refine (grown_block h3g (by show w.heap.size + 1 < ((w.alloc _).alloc _).heap.size; simp) (fun e => ?_)).trans (two_last2 w _ _)
      simp [Value.ownBlock] at e
    obtain ⟨a2, c2, w2, h4, h5, h6, -⟩ := join_ch h2 (ownC_two (B := w.heap.size) hT (by omega)) (by omega) (hb1.trans h3).size
    exact ⟨a1, c1, w1, a2, c2, w2, h1, h4, two (w1 := w1) h5, (hb1.trans h3).trans h6⟩
  · have hb1 : Below w.heap.size w ((w.alloc (.cells #[.int .i64 x, .int .i64 y, .int .i64 z, .int .i64 1, .int .i64 0, .int .i64 z] 29)).alloc (.cells #[] 29)).drew := (((Below.refl _ _).alloc (Nat.le_refl _) _).alloc (by simp) _).drew
    obtain ⟨a1, c1, w1, h1, h2, h3, h3g⟩ := join_ch (W := ((w.alloc (.cells #[.int .i64 x, .int .i64 y, .int .i64 z, .int .i64 1, .int .i64 0, .int .i64 z] 29)).alloc (.cells #[] 29)).drew) (B := w.heap.size + 1) (ownC_new (two_last2 w _ _) (Nat.le_refl _)) (owns_later hz (hb1.mono (Nat.le_refl _))) (by omega) (by simp)
    rw [Nat.zero_add] at h1 h2
    have hT : w1.heap[w.heap.size]? = some (.cells #[.int .i64 x, .int .i64 y, .int .i64 z, .int .i64 1, .int .i64 0, .int .i64 z] 29 (0, 0)) := (h3.block _ (by omega)).trans (two_first2 w _ _)
    have h3' := h3.mono (show w.heap.size ≤ w.heap.size + 1 by omega)
    obtain ⟨a2, c2, w2, h4, h5, h6, -⟩ := join_ch (owns_mono h2 (show w.heap.size ≤ w.heap.size + 1 by omega)) (ownC_two (B := w.heap.size) hT (by omega)) (by omega) (hb1.trans h3').size
    exact ⟨a1, c1, w1, a2, c2, w2, h1, h4, two (w1 := w1) h5, (hb1.trans h3').trans h6⟩

theorem forms_cx {W : World} {B n : Nat} {v : Value} {l : List Ch} {x y z : Int} (h : OwC W B v n (l ++ [(x, y, z), (1, 0, z)])) (hn : n ≤ 1000) (hl : ∀ c ∈ l, I64 c.1 ∧ I64 c.2.1 ∧ I64 c.2.2) (hc : I64 x ∧ I64 y ∧ I64 z) : Cx W v (l ++ [(x, y, z), (1, 0, z)]) :=
  h.cx hn (fit_of fun c hm => by
    rw [List.mem_append] at hm
    rcases hm with hm | hm
    · exact hl c hm
    · simp only [List.mem_cons, List.not_mem_nil, or_false] at hm
      rcases hm with rfl | rfl
      · exact hc
      · exact ⟨show I64 1 by decide, show I64 0 by decide, hc.2.2⟩)

end Go.Proofs.Ytmpopbkhmkkhgaa
