/- Three numbers made, each in a box of its own: the stores, the end. No condition. -/
import Derived.Test.YtdgmjmckeeeljaaGreatDoorXB
namespace Go.Proofs.YtdgmjmckeeeljaaGreatDoor
open Go Go.RowKit

theorem nu_setBox {W : World} {g m c : Nat} {b : Bool} {so : Option Addr} {v : Value} {z : Int} (h : Nu W v z) (hg : W.heap[g]? = some (.cells #[.bool b, .slice so m c] 27 (0, 0))) (o : Nat) (u : Value) : Nu (W.setCell ⟨g, o, none⟩ u) v z := by
  obtain ⟨s, rfl, hs, hl⟩ := h
  refine ⟨s, rfl, ⟨hs.bd, hs.len, ?_⟩, hl⟩
  rcases hs.is with h1 | ⟨b', off, cap, hv, hc, hcl⟩
  · exact .inl h1
  · refine .inr ⟨b', off, cap, hv, hc, fun j hj => ?_⟩
    have hcj := hcl j hj
    have hne : g ≠ b' := fun e => by
      subst e
      rw [cell_of_row _ _ _ _ _ _ hg] at hcj
      rcases Nat.lt_or_ge (off + j) 2 with h2 | h2
      · rcases (show off + j = 0 ∨ off + j = 1 by omega) with e | e
        · rw [e] at hcj; simp at hcj
        · rw [e] at hcj; simp at hcj
      · rw [Array.getElem?_eq_none (by simpa using h2)] at hcj
        cases hcj
    rw [cell_other (by simp [hne])]
    exact hcj

section
variable {W0 : World} {T : Array Value} {k s0 b0 lb : Nat} {sl vs : Nat → Value} {gs : Nat → Nat} {l : Array Bool} {a : Act} {w : World}

/-- A store. -/
theorem RM.store (h : RM W0 T k s0 b0 lb sl vs gs l a w) {t : Nat} (ht : t < k) (hl : l.getD (4 * k + t) true = false) (h1 : l.getD (3 * k + t) true = true) (h2 : l.getD (3 * t + 2) true = true) {neg : Bool} {ao : Option Addr} {n cap : Nat} (hv : vs t = .agg #[.bool neg, .slice ao n cap]) (u : Value) :
    RM W0 T k s0 b0 lb sl vs gs (l.setIfInBounds (4 * k + t) true) (a.put none u) ((w.setCell ⟨gs t, 0, none⟩ (.bool neg)).setCell ⟨gs t, 1, none⟩ (.slice ao n cap)) := by
  have hz := h.box t ht h1 hl
  have hg := h.big t ht h1
  have hr1 : (w.setCell ⟨gs t, 0, none⟩ (.bool neg)).heap[gs t]? = some (.cells #[.bool neg, .slice none 0 0] 27 (0, 0)) := by
    have := heap_setCell_same w (gs t) 0 _ 27 (.bool neg) hz
    simpa using this
  have hr2 : ((w.setCell ⟨gs t, 0, none⟩ (.bool neg)).setCell ⟨gs t, 1, none⟩ (.slice ao n cap)).heap[gs t]? = some (.cells #[.bool neg, .slice ao n cap] 27 (0, 0)) := by
    have := heap_setCell_same _ (gs t) 1 _ 27 (.slice ao n cap) hr1
    simpa using this
  have ho : ∀ g, g ≠ gs t → ((w.setCell ⟨gs t, 0, none⟩ (.bool neg)).setCell ⟨gs t, 1, none⟩ (.slice ao n cap)).heap[g]? = w.heap[g]? := fun g hne => by
    rw [heap_setCell_other _ _ _ _ hne, heap_setCell_other _ _ _ _ hne]
  have hb : Below W0.heap.size W0 ((w.setCell ⟨gs t, 0, none⟩ (.bool neg)).setCell ⟨gs t, 1, none⟩ (.slice ao n cap)) := (h.bl.setCell hg.1 _).setCell hg.1 _
  refine ⟨by rw [Array.size_setIfInBounds]; exact h.size, h.fr.bare u (fun j p hp e => by have := mOwn_lt hp; omega), hb, fun u hu h3 => ?_, fun u hu h3 h4 => ?_, fun u hu h3 => ?_, fun u hu h3 => ?_, fun u hu h3 => ?_, fun u z hu hz hne h3 h4 => ?_⟩
  · rcases gset_true h3 with e | h3
    · omega
    · obtain ⟨neg', ao', n', cap', z, q1, q2, q3⟩ := h.val u hu h3
      exact ⟨neg', ao', n', cap', z, q1, nu_setBox (nu_setBox q2 hz 0 _) hr1 1 _, q3⟩
  · obtain ⟨h5, h6⟩ := gset_false h4
    rcases gset_true h3 with e | h3
    · omega
    · have hut : u ≠ t := fun e => h5 (by rw [e])
      rw [ho _ (h.ne u t hu ht hut h3 h1)]
      exact h.box u hu h3 h6
  · rcases gset_true h3 with e | h3
    · omega
    · have := h.big u hu h3
      exact ⟨this.1, by simpa using this.2⟩
  · by_cases hut : u = t
    · subst hut
      exact ⟨neg, ao, n, cap, hv, hr2⟩
    · rcases gset_true h3 with e | h3
      · omega
      · exact (h.full u hu h3).block (ho _ (h.ne u t hu ht hut (h.dep u hu h3).1 h1))
  · by_cases hut : u = t
    · subst hut
      exact ⟨gset_old h1, gset_old h2⟩
    · rcases gset_true h3 with e | h3
      · omega
      · exact ⟨gset_old (h.dep u hu h3).1, gset_old (h.dep u hu h3).2⟩
  · rcases gset_true h3 with e | h3
    · omega
    · rcases gset_true h4 with e | h4
      · omega
      · exact h.ne u z hu hz hne h3 h4

/-- What a store needs. -/
theorem RM.ready (h : RM W0 T k s0 b0 lb sl vs gs l a w) {t : Nat} (ht : t < k) (hl : l.getD (4 * k + t) true = false) (h1 : l.getD (3 * k + t) true = true) :
    w.cell? ⟨gs t, 0, none⟩ = some (.bool false) ∧ w.cell? ⟨gs t, 1, none⟩ = some (.slice none 0 0) ∧ w.frozen? ⟨gs t, 0, none⟩ = false ∧ w.frozen? ⟨gs t, 1, none⟩ = false ∧ gs t < w.heap.size := by
  have hz := h.box t ht h1 hl
  refine ⟨?_, ?_, frozen_of_row _ _ _ _ _ hz, frozen_of_row _ _ _ _ _ hz, (h.big t ht h1).2⟩
  · rw [cell_of_row _ _ _ _ _ _ hz]; rfl
  · rw [cell_of_row _ _ _ _ _ _ hz]; rfl

/-- The beginning. -/
theorem RM.start (hT : l = Array.replicate (5 * k) false) (hb : Below W0.heap.size W0 w) : RM W0 T k s0 b0 lb sl vs gs l ⟨T, []⟩ w := by
  have hf : ∀ j, j < 5 * k → l.getD j true = false := fun j hj => by rw [hT]; simp [Array.getD, hj]
  refine ⟨by rw [hT]; simp, Fr.start _ _ _ (fun j i v h => hf i (by have := mOwn_lt h; simp only [] at this; omega)), hb, fun t ht h => ?_, fun t ht h => ?_, fun t ht h => ?_, fun t ht h => ?_, fun t ht h => ?_, fun t u ht hu hne h => ?_⟩
  · rw [hf _ (by omega)] at h; cases h
  · rw [hf _ (by omega)] at h; cases h
  · rw [hf _ (by omega)] at h; cases h
  · rw [hf _ (by omega)] at h; cases h
  · rw [hf _ (by omega)] at h; cases h
  · rw [hf _ (by omega)] at h; cases h

/-- The end: a box with its number. -/
theorem RM.bx (h : RM W0 T k s0 b0 lb sl vs gs l a w) {t : Nat} (ht : t < k) (h1 : l.getD (4 * k + t) true = true) : ∃ neg ao n cap z, vs t = .agg #[.bool neg, .slice ao n cap] ∧ Bx w (gs t) neg ao n cap z ∧ z.natAbs < 4294967296 ^ 6 := by
  obtain ⟨neg, ao, n, cap, e1, e2⟩ := h.full t ht h1
  obtain ⟨neg', ao', n', cap', z, q1, q2, q3⟩ := h.val t ht (h.dep t ht h1).2
  rw [e1] at q2
  exact ⟨neg, ao, n, cap, z, e1, ⟨e2, q2⟩, q3⟩
end

end Go.Proofs.YtdgmjmckeeeljaaGreatDoor
