/- Three numbers made, each in a box of its own: what each operation does to what holds. No condition. -/
import Derived.Test.YtdgmjmckeeeljaaGreatDoorXA
namespace Go.Proofs.YtdgmjmckeeeljaaGreatDoor
open Go Go.RowKit

theorem gset_true {l : Array Bool} {i j : Nat} (h : (l.setIfInBounds i true).getD j true = true) : j = i ∨ l.getD j true = true := by
  by_cases e : j = i
  · exact .inl e
  · rw [getD_set_ne true (fun h => e h.symm)] at h
    exact .inr h
theorem gset_false {l : Array Bool} {i j : Nat} (h : (l.setIfInBounds i true).getD j true = false) : j ≠ i ∧ l.getD j true = false := by
  by_cases e : j = i
  · subst e
    simp [Array.getD] at h
  · rw [getD_set_ne true (fun h => e h.symm)] at h
    exact ⟨e, h⟩
theorem gset_old {l : Array Bool} {i j : Nat} (h : l.getD j true = true) : (l.setIfInBounds i true).getD j true = true := by
  by_cases e : j = i
  · subst e
    simp [Array.getD]
  · rw [getD_set_ne true (fun h => e h.symm)]; exact h

theorem mOwn_scratch {k s0 b0 lb : Nat} {sl vs : Nat → Value} {gs : Nat → Nat} {j : Nat} {p : Nat × Value} (h : mOwn k s0 b0 lb sl vs gs j = some p) (hp : p.1 < 3 * k) : j = s0 + p.1 := by
  unfold mOwn at h
  split at h
  · rename_i hj
    split at h
    · cases h; simp only [] at *; omega
    · split at h <;> (cases h; simp only [] at *; omega)
  · split at h
    · cases h; simp only [] at hp; omega
    · cases h
theorem mOwn_box {k s0 b0 lb : Nat} {sl vs : Nat → Value} {gs : Nat → Nat} {j : Nat} {p : Nat × Value} (h : mOwn k s0 b0 lb sl vs gs j = some p) (hp : 3 * k ≤ p.1) : 3 * k + j = b0 + p.1 ∧ p.1 < 4 * k := by
  unfold mOwn at h
  split at h
  · rename_i hj
    split at h
    · cases h; simp only [] at *; omega
    · split at h <;> (cases h; simp only [] at *; omega)
  · split at h
    · rename_i hj; cases h; simp only [] at *; omega
    · cases h
theorem mOwn_lt {k s0 b0 lb : Nat} {sl vs : Nat → Value} {gs : Nat → Nat} {j : Nat} {p : Nat × Value} (h : mOwn k s0 b0 lb sl vs gs j = some p) : p.1 < 4 * k := by
  rcases Nat.lt_or_ge p.1 (3 * k) with h1 | h1
  · omega
  · exact (mOwn_box h h1).2

section
variable {W0 : World} {T : Array Value} {k s0 b0 lb : Nat} {sl vs : Nat → Value} {gs : Nat → Nat} {l : Array Bool} {a : Act} {w : World}

/-- An address, a load. -/
theorem RM.plain (h : RM W0 T k s0 b0 lb sl vs gs l a w) {i d : Nat} (hi : i < 3 * k) (hm : i % 3 ≠ 2) {v : Value} (hd : d = s0 + i) (hv : mOwn k s0 b0 lb sl vs gs d = some (i, v)) : RM W0 T k s0 b0 lb sl vs gs (l.setIfInBounds i true) (a.put (some d) v) w := by
  refine ⟨by rw [Array.size_setIfInBounds]; exact h.size, h.fr.put hv (by rw [h.size]; omega) (fun j p hp e => by rw [mOwn_scratch hp (by omega), e, hd]), h.bl, fun t ht hl => ?_, fun t ht h1 h2 => ?_, fun t ht h1 => ?_, fun t ht h1 => ?_, fun t ht h1 => ?_, fun t u ht hu hne h1 h2 => ?_⟩
  · rcases gset_true hl with e | hl
    · omega
    · exact h.val t ht hl
  · rcases gset_true h1 with e | h1
    · omega
    · exact h.box t ht h1 (gset_false h2).2
  · rcases gset_true h1 with e | h1
    · omega
    · exact h.big t ht h1
  · rcases gset_true h1 with e | h1
    · omega
    · exact h.full t ht h1
  · rcases gset_true h1 with e | h1
    · omega
    · exact ⟨gset_old (h.dep t ht h1).1, gset_old (h.dep t ht h1).2⟩
  · rcases gset_true h1 with e | h1
    · omega
    · rcases gset_true h2 with e | h2
      · omega
      · exact h.ne t u ht hu hne h1 h2

/-- A call. -/
theorem RM.call (h : RM W0 T k s0 b0 lb sl vs gs l a w) {t d : Nat} (ht : t < k) (hl : l.getD (3 * t + 2) true = false) {v : Value} {w' : World} (hd : d = s0 + (3 * t + 2)) (hs : s0 + 3 * k ≤ b0 ∨ b0 + k ≤ s0) (hv : Md w' v) (hb : Below w.heap.size w w') :
    RM W0 T k s0 b0 lb sl (fun u => if u = t then v else vs u) gs (l.setIfInBounds (3 * t + 2) true) (a.put (some d) v) w' := by
  have e0 : mOwn k s0 b0 lb sl (fun u => if u = t then v else vs u) gs d = some (3 * t + 2, v) := by
    unfold mOwn
    rw [if_pos (by omega), if_neg (by omega), if_neg (by omega)]
    rw [show (d - s0) / 3 = t by omega]
    dsimp only
    rw [if_pos rfl, show d - s0 = 3 * t + 2 by omega]
  have ex : ∀ j, j ≠ d → mOwn k s0 b0 lb sl (fun u => if u = t then v else vs u) gs j = mOwn k s0 b0 lb sl vs gs j := fun j hj => by
    unfold mOwn
    split
    · split
      · rfl
      · split
        · rfl
        · dsimp only
          rw [if_neg (by omega)]
    · rfl
  have e1 : ∃ v0, mOwn k s0 b0 lb sl vs gs d = some (3 * t + 2, v0) := by
    unfold mOwn
    rw [if_pos (by omega), if_neg (by omega), if_neg (by omega)]
    exact ⟨_, by rw [show d - s0 = 3 * t + 2 by omega]⟩
  have hf : Fr (mOwn k s0 b0 lb sl (fun u => if u = t then v else vs u) gs) T l a := h.fr.swap
    (fun j p hp hq => by
      by_cases e : j = d
      · subst e
        rw [e0] at hp
        cases hp
        rw [hl] at hq; cases hq
      · rw [ex j e] at hp; exact hp)
    (fun j p hp hq => by
      by_cases e : j = d
      · subst e
        obtain ⟨v0, e1⟩ := e1
        rw [e1] at hp
        cases hp
        rw [hl] at hq; cases hq
      · rw [ex j e]; exact hp)
  have hn : ∀ u, u < k → l.getD (3 * u + 2) true = true → u ≠ t := fun u hu h1 e => by subst e; rw [hl] at h1; cases h1
  refine ⟨by rw [Array.size_setIfInBounds]; exact h.size, hf.put e0 (by rw [h.size]; omega) (fun j p hp e => by rw [mOwn_scratch hp (by omega), e, hd]), h.bl.trans (hb.mono h.bl.size), fun u hu h1 => ?_, fun u hu h1 h2 => ?_, fun u hu h1 => ?_, fun u hu h1 => ?_, fun u hu h1 => ?_, fun u z hu hz hne h1 h2 => ?_⟩
  · by_cases e : u = t
    · simp only [e, if_true]; exact hv
    · simp only [e, if_false]
      rcases gset_true h1 with e2 | h1
      · omega
      · exact (h.val u hu h1).below hb
  · rcases gset_true h1 with e | h1
    · omega
    · exact (hb.block _ (h.big u hu h1).2).trans (h.box u hu h1 (gset_false h2).2)
  · rcases gset_true h1 with e | h1
    · omega
    · have := h.big u hu h1
      exact ⟨this.1, Nat.lt_of_lt_of_le this.2 hb.size⟩
  · rcases gset_true h1 with e | h1
    · omega
    · simp only [hn u hu (h.dep u hu h1).2, if_false]
      exact (h.full u hu h1).block (hb.block _ (h.full u hu h1).lt)
  · rcases gset_true h1 with e | h1
    · omega
    · exact ⟨gset_old (h.dep u hu h1).1, gset_old (h.dep u hu h1).2⟩
  · rcases gset_true h1 with e | h1
    · omega
    · rcases gset_true h2 with e | h2
      · omega
      · exact h.ne u z hu hz hne h1 h2

/-- A box made. -/
theorem RM.alloc (h : RM W0 T k s0 b0 lb sl vs gs l a w) {t d : Nat} (ht : t < k) (hl : l.getD (3 * k + t) true = false) (hd : d = b0 + t) (hs : s0 + 3 * k ≤ b0 ∨ b0 + k ≤ s0) :
    RM W0 T k s0 b0 lb sl vs (fun u => if u = t then w.heap.size else gs u) (l.setIfInBounds (3 * k + t) true) (a.put (some d) (.pointer (some ⟨w.heap.size, 0, none⟩))) (w.alloc (.cells #[.bool false, .slice none 0 0] 27)) := by
  have hb := alloc_b w (.cells #[.bool false, .slice none 0 0] 27)
  have e0 : mOwn k s0 b0 lb sl vs (fun u => if u = t then w.heap.size else gs u) d = some (3 * k + t, .pointer (some ⟨w.heap.size, 0, none⟩)) := by
    unfold mOwn
    rw [if_neg (by omega), if_pos (by omega)]
    rw [show d - b0 = t by omega]
    dsimp only
    rw [if_pos rfl]
  have ex : ∀ j, j ≠ d → mOwn k s0 b0 lb sl vs (fun u => if u = t then w.heap.size else gs u) j = mOwn k s0 b0 lb sl vs gs j := fun j hj => by
    unfold mOwn
    split
    · rfl
    · split
      · dsimp only
        rw [if_neg (by omega)]
      · rfl
  have e1 : ∃ v0, mOwn k s0 b0 lb sl vs gs d = some (3 * k + t, v0) := by
    unfold mOwn
    rw [if_neg (by omega), if_pos (by omega)]
    exact ⟨_, by rw [show d - b0 = t by omega]⟩
  have hf : Fr (mOwn k s0 b0 lb sl vs (fun u => if u = t then w.heap.size else gs u)) T l a := h.fr.swap
    (fun j p hp hq => by
      by_cases e : j = d
      · subst e
        rw [e0] at hp
        cases hp
        rw [hl] at hq; cases hq
      · rw [ex j e] at hp; exact hp)
    (fun j p hp hq => by
      by_cases e : j = d
      · subst e
        obtain ⟨v0, e1⟩ := e1
        rw [e1] at hp
        cases hp
        rw [hl] at hq; cases hq
      · rw [ex j e]; exact hp)
  have hn : ∀ u, u < k → l.getD (3 * k + u) true = true → u ≠ t := fun u hu h1 e => by subst e; rw [hl] at h1; cases h1
  refine ⟨by rw [Array.size_setIfInBounds]; exact h.size, hf.put e0 (by rw [h.size]; omega) (fun j p hp e => by have := mOwn_box hp (by omega); omega), h.bl.trans (hb.mono h.bl.size), fun u hu h1 => ?_, fun u hu h1 h2 => ?_, fun u hu h1 => ?_, fun u hu h1 => ?_, fun u hu h1 => ?_, fun u z hu hz hne h1 h2 => ?_⟩
  · rcases gset_true h1 with e | h1
    · omega
    · exact (h.val u hu h1).below hb
  · by_cases e : u = t
    · simp only [e, if_true]; exact heap_alloc_new _ _
    · simp only [e, if_false]
      rcases gset_true h1 with e2 | h1
      · omega
      · exact (hb.block _ (h.big u hu h1).2).trans (h.box u hu h1 (gset_false h2).2)
  · by_cases e : u = t
    · simp only [e, if_true]
      exact ⟨h.bl.size, by simp⟩
    · simp only [e, if_false]
      rcases gset_true h1 with e2 | h1
      · omega
      · have := h.big u hu h1
        exact ⟨this.1, Nat.lt_of_lt_of_le this.2 hb.size⟩
  · rcases gset_true h1 with e | h1
    · omega
    · simp only [hn u hu (h.dep u hu h1).1, if_false]
      exact (h.full u hu h1).block (hb.block _ (h.full u hu h1).lt)
  · rcases gset_true h1 with e | h1
    · omega
    · exact ⟨gset_old (h.dep u hu h1).1, gset_old (h.dep u hu h1).2⟩
  · by_cases e : u = t
    · have e2 : z ≠ t := fun h => hne (by rw [e, h])
      simp only [e, if_true, e2, if_false]
      rcases gset_true h2 with e3 | h2
      · omega
      · have := (h.big z hz h2).2
        omega
    · simp only [e, if_false]
      rcases gset_true h1 with e3 | h1
      · omega
      · by_cases e2 : z = t
        · simp only [e2, if_true]
          have := (h.big u hu h1).2
          omega
        · simp only [e2, if_false]
          rcases gset_true h2 with e3 | h2
          · omega
          · exact h.ne u z hu hz hne h1 h2
end

end Go.Proofs.YtdgmjmckeeeljaaGreatDoor
