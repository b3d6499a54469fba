/- What Odd and the laws with changed designs stand on: worlds by phases, designs in boxes that are written, parts of slices. No condition beyond those that are stated. -/
import Derived.Test.YtcpgoaombabfjaaMh20
namespace Go.Proofs.Ytcpgoaombabfjaa
set_option linter.unusedSimpArgs false
set_option linter.unusedVariables false
open Go Go.RowKit

/-- A region that makes memory and then stores: three worlds. -/
def ph2 (X Y Z : World) (a b : Nat) (l : Array Bool) : World := if l.getD b true = true then Z else if l.getD a true = true then Y else X
section
variable {X Y Z w : World} {a b : Nat} {l : Array Bool}
theorem ph2_const {i : Nat} (h : w = ph2 X Y Z a b l) (ha : a ≠ i) (hb : b ≠ i) : w = ph2 X Y Z a b (l.setIfInBounds i true) := by
  unfold ph2 at *
  rw [gset_ne ha, gset_ne hb]; exact h
theorem ph2_x (h : w = ph2 X Y Z a b l) (hb : l.getD b true = false) (ha : l.getD a true = false) : w = X := by
  unfold ph2 at h
  rw [hb, ha] at h; exact h
theorem ph2_y (h : w = ph2 X Y Z a b l) (ha : l.getD a true = true) (hb : l.getD b true = false) : w = Y := by
  unfold ph2 at h
  rw [hb, ha] at h; exact h
theorem ph2_z (h : w = ph2 X Y Z a b l) (hb : l.getD b true = true) : w = Z := by
  unfold ph2 at h
  rw [hb] at h; exact h
theorem ph2_xy (h : w = ph2 X Y Z a b l) (hb : l.getD b true = false) : w = X ∨ w = Y := by
  unfold ph2 at h
  rw [hb] at h
  by_cases h2 : l.getD a true = true
  · rw [if_neg (by simp), if_pos h2] at h; exact .inr h
  · rw [if_neg (by simp), if_neg h2] at h; exact .inl h
theorem ph2_a (hn : b ≠ a) (hb : l.getD b true = false) : Y = ph2 X Y Z a b (l.setIfInBounds a true) := by
  unfold ph2
  rw [gset_ne hn, hb, gset_self]; rfl
theorem ph2_b : Z = ph2 X Y Z a b (l.setIfInBounds b true) := by
  unfold ph2
  rw [gset_self]; rfl
end
/-- A region that makes memory thrice and then stores: five worlds. -/
def ph4 (X Y Z V U : World) (a b c d : Nat) (l : Array Bool) : World := if l.getD d true = true then U else if l.getD c true = true then V else if l.getD b true = true then Z else if l.getD a true = true then Y else X
section
variable {X Y Z V U w : World} {a b c d : Nat} {l : Array Bool}
theorem ph4_const {i : Nat} (h : w = ph4 X Y Z V U a b c d l) (ha : a ≠ i) (hb : b ≠ i) (hc : c ≠ i) (hd : d ≠ i) : w = ph4 X Y Z V U a b c d (l.setIfInBounds i true) := by
  unfold ph4 at *
  rw [gset_ne ha, gset_ne hb, gset_ne hc, gset_ne hd]; exact h
theorem ph4_x (h : w = ph4 X Y Z V U a b c d l) (hd : l.getD d true = false) (hc : l.getD c true = false) (hb : l.getD b true = false) (ha : l.getD a true = false) : w = X := by
  unfold ph4 at h
  rw [hd, hc, hb, ha] at h; exact h
theorem ph4_y (h : w = ph4 X Y Z V U a b c d l) (ha : l.getD a true = true) (hb : l.getD b true = false) (hc : l.getD c true = false) (hd : l.getD d true = false) : w = Y := by
  unfold ph4 at h
  rw [hd, hc, hb, ha] at h; exact h
theorem ph4_z (h : w = ph4 X Y Z V U a b c d l) (hb : l.getD b true = true) (hc : l.getD c true = false) (hd : l.getD d true = false) : w = Z := by
  unfold ph4 at h
  rw [hd, hc, hb] at h; exact h
theorem ph4_v (h : w = ph4 X Y Z V U a b c d l) (hc : l.getD c true = true) (hd : l.getD d true = false) : w = V := by
  unfold ph4 at h
  rw [hd, hc] at h; exact h
theorem ph4_u (h : w = ph4 X Y Z V U a b c d l) (hd : l.getD d true = true) : w = U := by
  unfold ph4 at h
  rw [hd] at h; exact h
theorem ph4_xyz (h : w = ph4 X Y Z V U a b c d l) (hc : l.getD c true = false) (hd : l.getD d true = false) : w = X ∨ w = Y ∨ w = Z := by
  unfold ph4 at h
  rw [hd, hc] at h
  rw [if_neg (by simp), if_neg (by simp)] at h
  by_cases h2 : l.getD b true = true
  · rw [if_pos h2] at h; exact .inr (.inr h)
  · rw [if_neg h2] at h
    by_cases h3 : l.getD a true = true
    · rw [if_pos h3] at h; exact .inr (.inl h)
    · rw [if_neg h3] at h; exact .inl h
theorem ph4_a (h1 : b ≠ a) (h2 : c ≠ a) (h3 : d ≠ a) (hb : l.getD b true = false) (hc : l.getD c true = false) (hd : l.getD d true = false) : Y = ph4 X Y Z V U a b c d (l.setIfInBounds a true) := by
  unfold ph4
  rw [gset_ne h1, gset_ne h2, gset_ne h3, hb, hc, hd, gset_self]; rfl
theorem ph4_b (h2 : c ≠ b) (h3 : d ≠ b) (hc : l.getD c true = false) (hd : l.getD d true = false) : Z = ph4 X Y Z V U a b c d (l.setIfInBounds b true) := by
  unfold ph4
  rw [gset_ne h2, gset_ne h3, hc, hd, gset_self]; rfl
theorem ph4_c (h3 : d ≠ c) (hd : l.getD d true = false) : V = ph4 X Y Z V U a b c d (l.setIfInBounds c true) := by
  unfold ph4
  rw [gset_ne h3, hd, gset_self]; rfl
theorem ph4_d : U = ph4 X Y Z V U a b c d (l.setIfInBounds d true) := by
  unfold ph4
  rw [gset_self]; rfl
end

/-- A design's box is written whole. -/
theorem six_all {W w : World} {q : Nat} {a b c d e f a' b' c' d' e' f' : Value} (hq : W.heap.size ≤ q) (h : w.heap[q]? = some (.cells #[a, b, c, d, e, f] 30 (0, 0))) (hb : Below W.heap.size W w) :
    ((((((w.setCell ⟨q, 0, none⟩ a').setCell ⟨q, 1, none⟩ b').setCell ⟨q, 2, none⟩ c').setCell ⟨q, 3, none⟩ d').setCell ⟨q, 4, none⟩ e').setCell ⟨q, 5, none⟩ f').heap[q]? = some (.cells #[a', b', c', d', e', f'] 30 (0, 0)) ∧
    Below W.heap.size W ((((((w.setCell ⟨q, 0, none⟩ a').setCell ⟨q, 1, none⟩ b').setCell ⟨q, 2, none⟩ c').setCell ⟨q, 3, none⟩ d').setCell ⟨q, 4, none⟩ e').setCell ⟨q, 5, none⟩ f') ∧
    ∀ j, j ≠ q → ((((((w.setCell ⟨q, 0, none⟩ a').setCell ⟨q, 1, none⟩ b').setCell ⟨q, 2, none⟩ c').setCell ⟨q, 3, none⟩ d').setCell ⟨q, 4, none⟩ e').setCell ⟨q, 5, none⟩ f').heap[j]? = w.heap[j]? := by
  have q0 := heap_setCell_same _ q 0 _ 30 a' h
  have q1 := heap_setCell_same _ q 1 _ 30 b' q0
  have q2 := heap_setCell_same _ q 2 _ 30 c' q1
  have q3 := heap_setCell_same _ q 3 _ 30 d' q2
  have q4 := heap_setCell_same _ q 4 _ 30 e' q3
  have q5 := heap_setCell_same _ q 5 _ 30 f' q4
  exact ⟨q5, (((((hb.setCell hq _).setCell hq _).setCell hq _).setCell hq _).setCell hq _).setCell hq _, fun j hj => six_keep hj⟩
theorem DBox.set1 {w : World} {q : Nat} {kd cn cd : Int} {vs v : Value} (h : DBox w q kd vs cn cd) : DBox (w.setCell ⟨q, 1, none⟩ v) q kd v cn cd := heap_setCell_same _ q 1 _ 30 v h
theorem DBox.set45 {w : World} {q : Nat} {kd cn cd x y : Int} {vs : Value} (h : DBox w q kd vs cn cd) : DBox ((w.setCell ⟨q, 4, none⟩ (.int .i64 x)).setCell ⟨q, 5, none⟩ (.int .i64 y)) q kd vs x y := by
  have q4 := heap_setCell_same _ q 4 _ 30 (.int .i64 x) h
  exact heap_setCell_same _ q 5 _ 30 (.int .i64 y) q4
theorem DBox.other {w : World} {q p k : Nat} {kd cn cd : Int} {vs v : Value} (h : DBox w q kd vs cn cd) (hq : q ≠ p) : DBox (w.setCell ⟨p, k, none⟩ v) q kd vs cn cd := (Below.heap_setCell _ _ _ _ (by simpa using hq)).trans h
theorem DBox.lt {w : World} {q : Nat} {kd cn cd : Int} {vs : Value} (h : DBox w q kd vs cn cd) : q < w.heap.size := (Array.getElem?_eq_some_iff.1 h).1
theorem DBox.free {w : World} {q : Nat} {kd cn cd : Int} {vs : Value} (h : DBox w q kd vs cn cd) (k : Nat) : w.frozen? ⟨q, k, none⟩ = false := frozen_of_row _ _ k _ _ h

/-- The beginning of a slice. -/
theorem Ix.take {w : World} {ao : Option Addr} {n cap m : Nat} {l : List Int} (h : Ix w (.slice ao n cap) l) (hm : m ≤ n) : Ix w (.slice ao m cap) (l.take m) := by
  have hn := h.size
  have hl := h.len
  refine ⟨by rw [List.length_take]; omega, fun k => ?_, ?_⟩
  · by_cases hk : k < m
    · have := h.fit k
      simp only [List.getD, List.getElem?_take_of_lt hk] at *
      exact this
    · rw [out_zero (by rw [List.length_take]; omega)]; decide
  · by_cases h0 : n = 0
    · have e : l = [] := List.eq_nil_of_length_eq_zero (by omega)
      have hm0 : m = 0 := by omega
      subst hm0 e
      left
      refine ⟨rfl, ao, cap, rfl, fun e => ?_⟩
      subst e
      exact h.cap0.2
    · obtain ⟨b, off, rfl, h1, h2, h3, hc⟩ := h.at h0
      have hlt : (l.take m).length = m := by rw [List.length_take]; omega
      right
      refine ⟨b, off, cap, by rw [hlt], by omega, h3, fun j hj => ?_⟩
      rw [hlt] at hj
      rw [hc j (by omega)]
      simp only [List.getD, List.getElem?_take_of_lt hj]

/-- What lies in memory while a design is changed. -/
structure OdI (W w : World) (R2 O3 : Nat) (kd cn cd : Int) (vs : Value) (g n cap : Nat) (L : List Int) : Prop where
  b : Below W.heap.size W w
  rb : DBox w R2 0 (.slice none 0 0) 0 0
  ob : DBox w O3 kd vs cn cd
  o : OwI w (W.heap.size + 4) (.slice (some ⟨g, 0, none⟩) n cap) n L
theorem OdI.later {W w w' : World} {R2 O3 : Nat} {kd cn cd : Int} {vs : Value} {g n cap : Nat} {L : List Int} (h : OdI W w R2 O3 kd cn cd vs g n cap L) (hb : Below w.heap.size w w') : OdI W w' R2 O3 kd cn cd vs g n cap L :=
  ⟨h.b.trans (hb.mono h.b.size), h.rb.below hb, h.ob.below hb, owns_later h.o hb⟩
theorem OdI.last {W w : World} {R2 O3 : Nat} {kd cn cd : Int} {vs : Value} {g n cap : Nat} {L : List Int} (h : OdI W w R2 O3 kd cn cd vs g n cap L) (hR : R2 = W.heap.size + 2) {a b c d e f : Value} :
    ∃ w6, w6 = ((((((w.setCell ⟨R2, 0, none⟩ a).setCell ⟨R2, 1, none⟩ b).setCell ⟨R2, 2, none⟩ c).setCell ⟨R2, 3, none⟩ d).setCell ⟨R2, 4, none⟩ e).setCell ⟨R2, 5, none⟩ f) ∧ w6.heap[R2]? = some (.cells #[a, b, c, d, e, f] 30 (0, 0)) ∧ Below W.heap.size W w6 ∧ OwI w6 (W.heap.size + 4) (.slice (some ⟨g, 0, none⟩) n cap) n L := by
  obtain ⟨h1, h2, h3⟩ := six_all (a' := a) (b' := b) (c' := c) (d' := d) (e' := e) (f' := f) (show W.heap.size ≤ R2 by omega) h.rb h.b
  exact ⟨_, rfl, h1, h2, owns_same h.o (fun j hj => h3 j (by have := (own_lt h.o hj).1; omega))⟩

end Go.Proofs.Ytcpgoaombabfjaa
