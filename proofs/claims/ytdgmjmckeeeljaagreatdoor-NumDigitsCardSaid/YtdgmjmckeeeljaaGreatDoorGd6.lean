/- A region that draws its order, outside fences, met by what holds behind each set of its operations; and three numbers made, each in a box of its own. No condition. Three numbers made, each in a box of its own: what each operation does to what holds. No condition. Three numbers made, each in a box of its own: the stores, the end. No condition. The law NumRing, walked. Condition: the table of powers of ten is laid. The given statement NumRing: whatever the input, the law returns true and leaves its arguments as they were. Condition: the listed variables hold what the program's text lays in them (the given tie). What NumDigits says of texts and of binary digits, as facts about numbers alone. No condition beyond those that each states. -/
import Derived.Orders
import Derived.Test.YtdgmjmckeeeljaaGreatDoorGd5
import Derived.BigRegion
import Derived.Deep.RegionHeld3
import Derived.Test.YtdgmjmckeeeljaaGreatDoorCards
import Derived.Test.YtdgmjmckeeeljaaGreatDoorTie
import Derived.ChangeSlices
import Derived.ProofKit
import Derived.OpenShut
import Derived.ChangeVars
import Derived.SevenTiedAt
import Derived.Lib.SlBytesRow
namespace Go.Proofs.YtdgmjmckeeeljaaGreatDoor
open Go Go.RowKit

section
variable {P : Program} {ops : Array Oper} {Q : Exit → Act → World → Prop} {md : Region.Mode}

theorem anyP_inv (R : Array Bool → Act → World → Prop)
    (hstep : ∀ l a w i, R l a w → i ∈ Region.ready md ops l → wpOp P ops Q i (R (l.setIfInBounds i true)) a w)
    (hend : ∀ l a w, R l a w → Region.ready md ops l = [] → Q .normal a w) :
    ∀ (fuel : Nat) (l : Array Bool) (a : Act) (w : World), left l ≤ fuel → R l a w → wpAny P md ops Q fuel l a w := by
  intro fuel
  induction fuel with
  | zero =>
    intro l a w hl hr
    have hz : Region.ready md ops l = [] := by
      apply List.eq_nil_iff_forall_not_mem.2
      intro j hj
      have := (mem_ready.1 hj).1
      rw [left_zero (by omega)] at this
      cases this
    exact ⟨hz, hend l a w hr hz⟩
  | succ fuel ih =>
    intro l a w hl hr
    refine ⟨fun hz => hend l a w hr hz, fun i hi => ?_⟩
    refine wpOp_mono (fun a' w' hr' => ih _ a' w' ?_ hr') (hstep l a w i hr hi)
    have := left_set (mem_ready.1 hi).1
    omega

theorem regionP_inv {id : Nat} {a : Act} {w : World} (hm : P.follows .mixedOrders = true) (R : Array Bool → Act → World → Prop)
    (h0 : R (Array.replicate ops.size false) a w.drew)
    (hstep : ∀ l a w i, R l a w → i ∈ Region.ready .any ops l → wpOp P ops Q i (R (l.setIfInBounds i true)) a w)
    (hend : ∀ l a w, R l a w → Region.ready .any ops l = [] → Q .normal a w) : (Code.region id ops true).wp P Q a w := by
  refine wp_region_any hm (anyP_inv R hstep hend _ _ _ _ ?_ h0)
  unfold left
  rw [Array.toList_replicate]
  exact Nat.le_trans (List.length_filter_le _ _) (by simp)
end

theorem Fr.swap {own own' : Nat → Option (Nat × Value)} {T : Array Value} {l : Array Bool} {a : Act} (h : Fr own T l a)
    (h1 : ∀ j p, own' j = some p → l.getD p.1 true = true → own j = some p) (h2 : ∀ j p, own j = some p → l.getD p.1 true = true → own' j = some p) : Fr own' T l a := by
  refine ⟨h.defers, h.size, fun j hj => ?_⟩
  have hs := h.slot j hj
  cases ho' : own' j with
  | none =>
    cases ho : own j with
    | none => rw [ho] at hs; exact hs
    | some p =>
      rw [ho] at hs
      obtain ⟨i, v⟩ := p
      simp only [] at hs ⊢
      by_cases hd : l.getD i true = true
      · have := h2 j _ ho hd
        rw [ho'] at this
        cases this
      · rw [if_neg hd] at hs; exact hs
  | some p =>
    obtain ⟨i, v⟩ := p
    simp only []
    by_cases hd : l.getD i true = true
    · have := h1 j _ ho' hd
      rw [this] at hs
      simp only [] at hs
      exact hs
    · rw [if_neg hd]
      cases ho : own j with
      | none => rw [ho] at hs; exact hs
      | some q =>
        obtain ⟨i2, v2⟩ := q
        rw [ho] at hs
        simp only [] at hs
        by_cases hd2 : l.getD i2 true = true
        · have := h2 j _ ho hd2
          rw [ho'] at this
          cases this
          exact absurd hd2 hd
        · rw [if_neg hd2] at hs; exact hs

/-- What the slots hold: s0 the first scratch slot, b0 the first box's; k numbers. -/
def mOwn (k s0 b0 lb : Nat) (sl vs : Nat → Value) (gs : Nat → Nat) (j : Nat) : Option (Nat × Value) :=
  if s0 ≤ j ∧ j < s0 + 3 * k then
    (if (j - s0) % 3 = 0 then some (j - s0, .pointer (some ⟨lb, (j - s0) / 3, none⟩)) else if (j - s0) % 3 = 1 then some (j - s0, sl ((j - s0) / 3)) else some (j - s0, vs ((j - s0) / 3)))
  else if b0 ≤ j ∧ j < b0 + k then some (3 * k + (j - b0), .pointer (some ⟨gs (j - b0), 0, none⟩)) else none

/-- A number as Made makes it. -/
def Md (W : World) (v : Value) : Prop := ∃ neg ao n cap z, v = .agg #[.bool neg, .slice ao n cap] ∧ Nu W v z ∧ z.natAbs < 4294967296 ^ 6
/-- A box that holds a value. -/
def Bf (W : World) (g : Nat) (v : Value) : Prop := ∃ neg ao n cap, v = .agg #[.bool neg, .slice ao n cap] ∧ W.heap[g]? = some (.cells #[.bool neg, .slice ao n cap] 27 (0, 0))

theorem Md.below {W W' : World} {v : Value} (h : Md W v) (hb : Below W.heap.size W W') : Md W' v := by
  obtain ⟨neg, ao, n, cap, z, h1, h2, h3⟩ := h
  exact ⟨neg, ao, n, cap, z, h1, h2.below hb, h3⟩
theorem Bf.block {W W' : World} {g : Nat} {v : Value} (h : Bf W g v) (hb : W'.heap[g]? = W.heap[g]?) : Bf W' g v := by
  obtain ⟨neg, ao, n, cap, h1, h2⟩ := h
  exact ⟨neg, ao, n, cap, h1, hb.trans h2⟩
theorem Bf.lt {W : World} {g : Nat} {v : Value} (h : Bf W g v) : g < W.heap.size := by
  obtain ⟨neg, ao, n, cap, h1, h2⟩ := h
  exact (Array.getElem?_eq_some_iff.1 h2).1

structure RM (W0 : World) (T : Array Value) (k s0 b0 lb : Nat) (sl : Nat → Value) (vs : Nat → Value) (gs : Nat → Nat) (l : Array Bool) (a : Act) (w : World) : Prop where
  size : l.size = 5 * k
  fr : Fr (mOwn k s0 b0 lb sl vs gs) T l a
  bl : Below W0.heap.size W0 w
  val : ∀ t, t < k → l.getD (3 * t + 2) true = true → Md w (vs t)
  box : ∀ t, t < k → l.getD (3 * k + t) true = true → l.getD (4 * k + t) true = false → w.heap[gs t]? = some (.cells #[.bool false, .slice none 0 0] 27 (0, 0))
  big : ∀ t, t < k → l.getD (3 * k + t) true = true → W0.heap.size ≤ gs t ∧ gs t < w.heap.size
  full : ∀ t, t < k → l.getD (4 * k + t) true = true → Bf w (gs t) (vs t)
  dep : ∀ t, t < k → l.getD (4 * k + t) true = true → l.getD (3 * k + t) true = true ∧ l.getD (3 * t + 2) true = true
  ne : ∀ t u, t < k → u < k → t ≠ u → l.getD (3 * k + t) true = true → l.getD (3 * k + u) true = true → gs t ≠ gs u

end Go.Proofs.YtdgmjmckeeeljaaGreatDoor

namespace Go.Proofs.YtdgmjmckeeeljaaGreatDoor
open Go Go.RowKit

theorem gset_true {l : Array Bool} {i j : Nat} (h : (l.setIfInBounds i true).getD j true = true) : j = i ∨ l.getD j true = true := by
  by_cases e : j = i
  · exact .inl e
  · rw [getD_set_ne true (fun h => e h.symm)] at h
    exact .inr h
theorem gset_false {l : Array Bool} {i j : Nat} (h : (l.setIfInBounds i true).getD j true = false) : j ≠ i ∧ l.getD j true = false := by
  by_cases e : j = i
  · subst e
    simp [Array.getD] at h
  · rw [getD_set_ne true (fun h => e h.symm)] at h
    exact ⟨e, h⟩
theorem gset_old {l : Array Bool} {i j : Nat} (h : l.getD j true = true) : (l.setIfInBounds i true).getD j true = true := by
  by_cases e : j = i
  · subst e
    simp [Array.getD]
  · rw [getD_set_ne true (fun h => e h.symm)]; exact h

theorem mOwn_scratch {k s0 b0 lb : Nat} {sl vs : Nat → Value} {gs : Nat → Nat} {j : Nat} {p : Nat × Value} (h : mOwn k s0 b0 lb sl vs gs j = some p) (hp : p.1 < 3 * k) : j = s0 + p.1 := by
  unfold mOwn at h
  split at h
  · rename_i hj
    split at h
    · cases h; simp only [] at *; omega
    · split at h <;> (cases h; simp only [] at *; omega)
  · split at h
    · cases h; simp only [] at hp; omega
    · cases h
theorem mOwn_box {k s0 b0 lb : Nat} {sl vs : Nat → Value} {gs : Nat → Nat} {j : Nat} {p : Nat × Value} (h : mOwn k s0 b0 lb sl vs gs j = some p) (hp : 3 * k ≤ p.1) : 3 * k + j = b0 + p.1 ∧ p.1 < 4 * k := by
  unfold mOwn at h
  split at h
  · rename_i hj
    split at h
    · cases h; simp only [] at *; omega
    · split at h <;> (cases h; simp only [] at *; omega)
  · split at h
    · rename_i hj; cases h; simp only [] at *; omega
    · cases h
theorem mOwn_lt {k s0 b0 lb : Nat} {sl vs : Nat → Value} {gs : Nat → Nat} {j : Nat} {p : Nat × Value} (h : mOwn k s0 b0 lb sl vs gs j = some p) : p.1 < 4 * k := by
  rcases Nat.lt_or_ge p.1 (3 * k) with h1 | h1
  · omega
  · exact (mOwn_box h h1).2

section
variable {W0 : World} {T : Array Value} {k s0 b0 lb : Nat} {sl vs : Nat → Value} {gs : Nat → Nat} {l : Array Bool} {a : Act} {w : World}

/-- An address, a load. -/
theorem RM.plain (h : RM W0 T k s0 b0 lb sl vs gs l a w) {i d : Nat} (hi : i < 3 * k) (hm : i % 3 ≠ 2) {v : Value} (hd : d = s0 + i) (hv : mOwn k s0 b0 lb sl vs gs d = some (i, v)) : RM W0 T k s0 b0 lb sl vs gs (l.setIfInBounds i true) (a.put (some d) v) w := by
  refine ⟨by rw [Array.size_setIfInBounds]; exact h.size, h.fr.put hv (by rw [h.size]; omega) (fun j p hp e => by rw [mOwn_scratch hp (by omega), e, hd]), h.bl, fun t ht hl => ?_, fun t ht h1 h2 => ?_, fun t ht h1 => ?_, fun t ht h1 => ?_, fun t ht h1 => ?_, fun t u ht hu hne h1 h2 => ?_⟩
  · rcases gset_true hl with e | hl
    · omega
    · exact h.val t ht hl
  · rcases gset_true h1 with e | h1
    · omega
    · exact h.box t ht h1 (gset_false h2).2
  · rcases gset_true h1 with e | h1
    · omega
    · exact h.big t ht h1
  · rcases gset_true h1 with e | h1
    · omega
    · exact h.full t ht h1
  · rcases gset_true h1 with e | h1
    · omega
    · exact ⟨gset_old (h.dep t ht h1).1, gset_old (h.dep t ht h1).2⟩
  · rcases gset_true h1 with e | h1
    · omega
    · rcases gset_true h2 with e | h2
      · omega
      · exact h.ne t u ht hu hne h1 h2

/-- A call. -/
theorem RM.call (h : RM W0 T k s0 b0 lb sl vs gs l a w) {t d : Nat} (ht : t < k) (hl : l.getD (3 * t + 2) true = false) {v : Value} {w' : World} (hd : d = s0 + (3 * t + 2)) (hs : s0 + 3 * k ≤ b0 ∨ b0 + k ≤ s0) (hv : Md w' v) (hb : Below w.heap.size w w') :
    RM W0 T k s0 b0 lb sl (fun u => if u = t then v else vs u) gs (l.setIfInBounds (3 * t + 2) true) (a.put (some d) v) w' := by
  have e0 : mOwn k s0 b0 lb sl (fun u => if u = t then v else vs u) gs d = some (3 * t + 2, v) := by
    unfold mOwn
    rw [if_pos (by omega), if_neg (by omega), if_neg (by omega)]
    rw [show (d - s0) / 3 = t by omega]
    dsimp only
    rw [if_pos rfl, show d - s0 = 3 * t + 2 by omega]
  have ex : ∀ j, j ≠ d → mOwn k s0 b0 lb sl (fun u => if u = t then v else vs u) gs j = mOwn k s0 b0 lb sl vs gs j := fun j hj => by
    unfold mOwn
    split
    · split
      · rfl
      · split
        · rfl
        · dsimp only
          rw [if_neg (by omega)]
    · rfl
  have e1 : ∃ v0, mOwn k s0 b0 lb sl vs gs d = some (3 * t + 2, v0) := by
    unfold mOwn
    rw [if_pos (by omega), if_neg (by omega), if_neg (by omega)]
    exact ⟨_, by rw [show d - s0 = 3 * t + 2 by omega]⟩
  have hf : Fr (mOwn k s0 b0 lb sl (fun u => if u = t then v else vs u) gs) T l a := h.fr.swap
    (fun j p hp hq => by
      by_cases e : j = d
      · subst e
        rw [e0] at hp
        cases hp
        rw [hl] at hq; cases hq
      · rw [ex j e] at hp; exact hp)
    (fun j p hp hq => by
      by_cases e : j = d
      · subst e
        obtain ⟨v0, e1⟩ := e1
        rw [e1] at hp
        cases hp
        rw [hl] at hq; cases hq
      · rw [ex j e]; exact hp)
  have hn : ∀ u, u < k → l.getD (3 * u + 2) true = true → u ≠ t := fun u hu h1 e => by subst e; rw [hl] at h1; cases h1
  refine ⟨by rw [Array.size_setIfInBounds]; exact h.size, hf.put e0 (by rw [h.size]; omega) (fun j p hp e => by rw [mOwn_scratch hp (by omega), e, hd]), h.bl.trans (hb.mono h.bl.size), fun u hu h1 => ?_, fun u hu h1 h2 => ?_, fun u hu h1 => ?_, fun u hu h1 => ?_, fun u hu h1 => ?_, fun u z hu hz hne h1 h2 => ?_⟩
  · by_cases e : u = t
    · simp only [e, if_true]; exact hv
    · simp only [e, if_false]
      rcases gset_true h1 with e2 | h1
      · omega
      · exact (h.val u hu h1).below hb
  · rcases gset_true h1 with e | h1
    · omega
    · exact (hb.block _ (h.big u hu h1).2).trans (h.box u hu h1 (gset_false h2).2)
  · rcases gset_true h1 with e | h1
    · omega
    · have := h.big u hu h1
      exact ⟨this.1, Nat.lt_of_lt_of_le this.2 hb.size⟩
  · rcases gset_true h1 with e | h1
    · omega
    · simp only [hn u hu (h.dep u hu h1).2, if_false]
      exact (h.full u hu h1).block (hb.block _ (h.full u hu h1).lt)
  · rcases gset_true h1 with e | h1
    · omega
    · exact ⟨gset_old (h.dep u hu h1).1, gset_old (h.dep u hu h1).2⟩
  · rcases gset_true h1 with e | h1
    · omega
    · rcases gset_true h2 with e | h2
      · omega
      · exact h.ne u z hu hz hne h1 h2

/-- A box made. -/
theorem RM.alloc (h : RM W0 T k s0 b0 lb sl vs gs l a w) {t d : Nat} (ht : t < k) (hl : l.getD (3 * k + t) true = false) (hd : d = b0 + t) (hs : s0 + 3 * k ≤ b0 ∨ b0 + k ≤ s0) :
    RM W0 T k s0 b0 lb sl vs (fun u => if u = t then w.heap.size else gs u) (l.setIfInBounds (3 * k + t) true) (a.put (some d) (.pointer (some ⟨w.heap.size, 0, none⟩))) (w.alloc (.cells #[.bool false, .slice none 0 0] 27)) := by
  have hb := alloc_b w (.cells #[.bool false, .slice none 0 0] 27)
  have e0 : mOwn k s0 b0 lb sl vs (fun u => if u = t then w.heap.size else gs u) d = some (3 * k + t, .pointer (some ⟨w.heap.size, 0, none⟩)) := by
    unfold mOwn
    rw [if_neg (by omega), if_pos (by omega)]
    rw [show d - b0 = t by omega]
    dsimp only
    rw [if_pos rfl]
  have ex : ∀ j, j ≠ d → mOwn k s0 b0 lb sl vs (fun u => if u = t then w.heap.size else gs u) j = mOwn k s0 b0 lb sl vs gs j := fun j hj => by
    unfold mOwn
    split
    · rfl
    · split
      · dsimp only
        rw [if_neg (by omega)]
      · rfl
  have e1 : ∃ v0, mOwn k s0 b0 lb sl vs gs d = some (3 * k + t, v0) := by
    unfold mOwn
    rw [if_neg (by omega), if_pos (by omega)]
    exact ⟨_, by rw [show d - b0 = t by omega]⟩
  have hf : Fr (mOwn k s0 b0 lb sl vs (fun u => if u = t then w.heap.size else gs u)) T l a := h.fr.swap
    (fun j p hp hq => by
      by_cases e : j = d
      · subst e
        rw [e0] at hp
        cases hp
        rw [hl] at hq; cases hq
      · rw [ex j e] at hp; exact hp)
    (fun j p hp hq => by
      by_cases e : j = d
      · subst e
        obtain ⟨v0, e1⟩ := e1
        rw [e1] at hp
        cases hp
        rw [hl] at hq; cases hq
      · rw [ex j e]; exact hp)
  have hn : ∀ u, u < k → l.getD (3 * k + u) true = true → u ≠ t := fun u hu h1 e => by subst e; rw [hl] at h1; cases h1
  refine ⟨by rw [Array.size_setIfInBounds]; exact h.size, hf.put e0 (by rw [h.size]; omega) (fun j p hp e => by have := mOwn_box hp (by omega); omega), h.bl.trans (hb.mono h.bl.size), fun u hu h1 => ?_, fun u hu h1 h2 => ?_, fun u hu h1 => ?_, fun u hu h1 => ?_, fun u hu h1 => ?_, fun u z hu hz hne h1 h2 => ?_⟩
  · rcases gset_true h1 with e | h1
    · omega
    · exact (h.val u hu h1).below hb
  · by_cases e : u = t
    · simp only [e, if_true]; exact heap_alloc_new _ _
    · simp only [e, if_false]
      rcases gset_true h1 with e2 | h1
      · omega
      · exact (hb.block _ (h.big u hu h1).2).trans (h.box u hu h1 (gset_false h2).2)
  · by_cases e : u = t
    · simp only [e, if_true]
      exact ⟨h.bl.size, by simp⟩
    · simp only [e, if_false]
      rcases gset_true h1 with e2 | h1
      · omega
      · have := h.big u hu h1
        exact ⟨this.1, Nat.lt_of_lt_of_le this.2 hb.size⟩
  · rcases gset_true h1 with e | h1
    · omega
    · simp only [hn u hu (h.dep u hu h1).1, if_false]
      exact (h.full u hu h1).block (hb.block _ (h.full u hu h1).lt)
  · rcases gset_true h1 with e | h1
    · omega
    · exact ⟨gset_old (h.dep u hu h1).1, gset_old (h.dep u hu h1).2⟩
  · by_cases e : u = t
    · have e2 : z ≠ t := fun h => hne (by rw [e, h])
      simp only [e, if_true, e2, if_false]
      rcases gset_true h2 with e3 | h2
      · omega
      · have := (h.big z hz h2).2
        omega
    · simp only [e, if_false]
      rcases gset_true h1 with e3 | h1
      · omega
      · by_cases e2 : z = t
        · simp only [e2, if_true]
          have := (h.big u hu h1).2
          omega
        · simp only [e2, if_false]
          rcases gset_true h2 with e3 | h2
          · omega
          · exact h.ne u z hu hz hne h1 h2
end

end Go.Proofs.YtdgmjmckeeeljaaGreatDoor

namespace Go.Proofs.YtdgmjmckeeeljaaGreatDoor
open Go Go.RowKit

theorem nu_setBox {W : World} {g m c : Nat} {b : Bool} {so : Option Addr} {v : Value} {z : Int} (h : Nu W v z) (hg : W.heap[g]? = some (.cells #[.bool b, .slice so m c] 27 (0, 0))) (o : Nat) (u : Value) : Nu (W.setCell ⟨g, o, none⟩ u) v z := by
  obtain ⟨s, rfl, hs, hl⟩ := h
  refine ⟨s, rfl, ⟨hs.bd, hs.len, ?_⟩, hl⟩
  rcases hs.is with h1 | ⟨b', off, cap, hv, hc, hcl⟩
  · exact .inl h1
  · refine .inr ⟨b', off, cap, hv, hc, fun j hj => ?_⟩
    have hcj := hcl j hj
    have hne : g ≠ b' := fun e => by
      subst e
      rw [cell_of_row _ _ _ _ _ _ hg] at hcj
      rcases Nat.lt_or_ge (off + j) 2 with h2 | h2
      · rcases (show off + j = 0 ∨ off + j = 1 by omega) with e | e
        · rw [e] at hcj; simp at hcj
        · rw [e] at hcj; simp at hcj
      · rw [Array.getElem?_eq_none (by simpa using h2)] at hcj
        cases hcj
    rw [cell_other (by simp [hne])]
    exact hcj

section
variable {W0 : World} {T : Array Value} {k s0 b0 lb : Nat} {sl vs : Nat → Value} {gs : Nat → Nat} {l : Array Bool} {a : Act} {w : World}

/-- A store. -/
theorem RM.store (h : RM W0 T k s0 b0 lb sl vs gs l a w) {t : Nat} (ht : t < k) (hl : l.getD (4 * k + t) true = false) (h1 : l.getD (3 * k + t) true = true) (h2 : l.getD (3 * t + 2) true = true) {neg : Bool} {ao : Option Addr} {n cap : Nat} (hv : vs t = .agg #[.bool neg, .slice ao n cap]) (u : Value) :
    RM W0 T k s0 b0 lb sl vs gs (l.setIfInBounds (4 * k + t) true) (a.put none u) ((w.setCell ⟨gs t, 0, none⟩ (.bool neg)).setCell ⟨gs t, 1, none⟩ (.slice ao n cap)) := by
  have hz := h.box t ht h1 hl
  have hg := h.big t ht h1
  have hr1 : (w.setCell ⟨gs t, 0, none⟩ (.bool neg)).heap[gs t]? = some (.cells #[.bool neg, .slice none 0 0] 27 (0, 0)) := by
    have := heap_setCell_same w (gs t) 0 _ 27 (.bool neg) hz
    simpa using this
  have hr2 : ((w.setCell ⟨gs t, 0, none⟩ (.bool neg)).setCell ⟨gs t, 1, none⟩ (.slice ao n cap)).heap[gs t]? = some (.cells #[.bool neg, .slice ao n cap] 27 (0, 0)) := by
    have := heap_setCell_same _ (gs t) 1 _ 27 (.slice ao n cap) hr1
    simpa using this
  have ho : ∀ g, g ≠ gs t → ((w.setCell ⟨gs t, 0, none⟩ (.bool neg)).setCell ⟨gs t, 1, none⟩ (.slice ao n cap)).heap[g]? = w.heap[g]? := fun g hne => by
    rw [heap_setCell_other _ _ _ _ hne, heap_setCell_other _ _ _ _ hne]
  have hb : Below W0.heap.size W0 ((w.setCell ⟨gs t, 0, none⟩ (.bool neg)).setCell ⟨gs t, 1, none⟩ (.slice ao n cap)) := (h.bl.setCell hg.1 _).setCell hg.1 _
  refine ⟨by rw [Array.size_setIfInBounds]; exact h.size, h.fr.bare u (fun j p hp e => by have := mOwn_lt hp; omega), hb, fun u hu h3 => ?_, fun u hu h3 h4 => ?_, fun u hu h3 => ?_, fun u hu h3 => ?_, fun u hu h3 => ?_, fun u z hu hz hne h3 h4 => ?_⟩
  · rcases gset_true h3 with e | h3
    · omega
    · obtain ⟨neg', ao', n', cap', z, q1, q2, q3⟩ := h.val u hu h3
      exact ⟨neg', ao', n', cap', z, q1, nu_setBox (nu_setBox q2 hz 0 _) hr1 1 _, q3⟩
  · obtain ⟨h5, h6⟩ := gset_false h4
    rcases gset_true h3 with e | h3
    · omega
    · have hut : u ≠ t := fun e => h5 (by rw [e])
      rw [ho _ (h.ne u t hu ht hut h3 h1)]
      exact h.box u hu h3 h6
  · rcases gset_true h3 with e | h3
    · omega
    · have := h.big u hu h3
      exact ⟨this.1, by simpa using this.2⟩
  · by_cases hut : u = t
    · subst hut
      exact ⟨neg, ao, n, cap, hv, hr2⟩
    · rcases gset_true h3 with e | h3
      · omega
      · exact (h.full u hu h3).block (ho _ (h.ne u t hu ht hut (h.dep u hu h3).1 h1))
  · by_cases hut : u = t
    · subst hut
      exact ⟨gset_old h1, gset_old h2⟩
    · rcases gset_true h3 with e | h3
      · omega
      · exact ⟨gset_old (h.dep u hu h3).1, gset_old (h.dep u hu h3).2⟩
  · rcases gset_true h3 with e | h3
    · omega
    · rcases gset_true h4 with e | h4
      · omega
      · exact h.ne u z hu hz hne h3 h4

/-- What a store needs. -/
theorem RM.ready (h : RM W0 T k s0 b0 lb sl vs gs l a w) {t : Nat} (ht : t < k) (hl : l.getD (4 * k + t) true = false) (h1 : l.getD (3 * k + t) true = true) :
    w.cell? ⟨gs t, 0, none⟩ = some (.bool false) ∧ w.cell? ⟨gs t, 1, none⟩ = some (.slice none 0 0) ∧ w.frozen? ⟨gs t, 0, none⟩ = false ∧ w.frozen? ⟨gs t, 1, none⟩ = false ∧ gs t < w.heap.size := by
  have hz := h.box t ht h1 hl
  refine ⟨?_, ?_, frozen_of_row _ _ _ _ _ hz, frozen_of_row _ _ _ _ _ hz, (h.big t ht h1).2⟩
  · rw [cell_of_row _ _ _ _ _ _ hz]; rfl
  · rw [cell_of_row _ _ _ _ _ _ hz]; rfl

/-- The beginning. -/
theorem RM.start (hT : l = Array.replicate (5 * k) false) (hb : Below W0.heap.size W0 w) : RM W0 T k s0 b0 lb sl vs gs l ⟨T, []⟩ w := by
  have hf : ∀ j, j < 5 * k → l.getD j true = false := fun j hj => by rw [hT]; simp [Array.getD, hj]
  refine ⟨by rw [hT]; simp, Fr.start _ _ _ (fun j i v h => hf i (by have := mOwn_lt h; simp only [] at this; omega)), hb, fun t ht h => ?_, fun t ht h => ?_, fun t ht h => ?_, fun t ht h => ?_, fun t ht h => ?_, fun t u ht hu hne h => ?_⟩
  · rw [hf _ (by omega)] at h; cases h
  · rw [hf _ (by omega)] at h; cases h
  · rw [hf _ (by omega)] at h; cases h
  · rw [hf _ (by omega)] at h; cases h
  · rw [hf _ (by omega)] at h; cases h
  · rw [hf _ (by omega)] at h; cases h

/-- The end: a box with its number. -/
theorem RM.bx (h : RM W0 T k s0 b0 lb sl vs gs l a w) {t : Nat} (ht : t < k) (h1 : l.getD (4 * k + t) true = true) : ∃ neg ao n cap z, vs t = .agg #[.bool neg, .slice ao n cap] ∧ Bx w (gs t) neg ao n cap z ∧ z.natAbs < 4294967296 ^ 6 := by
  obtain ⟨neg, ao, n, cap, e1, e2⟩ := h.full t ht h1
  obtain ⟨neg', ao', n', cap', z, q1, q2, q3⟩ := h.val t ht (h.dep t ht h1).2
  rw [e1] at q2
  exact ⟨neg, ao, n, cap, z, e1, ⟨e2, q2⟩, q3⟩
end

end Go.Proofs.YtdgmjmckeeeljaaGreatDoor

namespace Go.Proofs.YtdgmjmckeeeljaaGreatDoor
open Go.RowKit

theorem step2 {B : Nat} {w W W' : World} {o : Obj} (h : Hid (Below B w W)) (hB : Hid (B ≤ W.heap.size)) (hb : Below (W.alloc o).heap.size (W.alloc o) W') : Hid (Below B w W') ∧ Hid (B ≤ W'.heap.size) := step1 h hB (later hb)
theorem stepD {B : Nat} {w W W' : World} (h : Hid (Below B w W)) (hB : Hid (B ≤ W.heap.size)) (hb : Below W.drew.heap.size W.drew W') : Hid (Below B w W') ∧ Hid (B ≤ W'.heap.size) :=
  step1 h hB ((show Below W.heap.size W W.drew from ⟨rfl, rfl, rfl, Nat.le_refl _, fun _ _ => rfl⟩).trans hb)
theorem sets_getD (T : Array Value) (i j : Nat) (v : Value) : (T.setIfInBounds i v).getD j undef = if i = j ∧ i < T.size then v else T.getD j undef := by
  by_cases h : i = j
  · subst h
    by_cases h2 : i < T.size
    · simp [Array.getD, h2]
    · simp [Array.getD, h2]
  · rw [if_neg (fun e => h e.1)]
    simp only [Array.getD_eq_getD_getElem?]
    rw [Array.getElem?_setIfInBounds_ne h]

theorem fits_pow {z : Int} (k : Nat) (h : z.natAbs < 4294967296 ^ k) (hk : k ≤ 256) : fitsB z.natAbs = true :=
  decide_eq_true (Nat.le_trans (digs_length_le.2 h) hk)
theorem lt_mul {a b : Int} {i j : Nat} (ha : a.natAbs < 4294967296 ^ i) (hb : b.natAbs < 4294967296 ^ j) : (a * b).natAbs < 4294967296 ^ (i + j) := by
  rw [Int.natAbs_mul, Nat.pow_add]
  exact Nat.mul_lt_mul'' ha hb
theorem lt_add {a b : Int} {i : Nat} (ha : a.natAbs < 4294967296 ^ i) (hb : b.natAbs < 4294967296 ^ i) : (a + b).natAbs < 4294967296 ^ (i + 1) := by
  rw [Nat.pow_succ]
  omega
theorem lt_more {a : Int} {i j : Nat} (ha : a.natAbs < 4294967296 ^ i) (h : i ≤ j) : a.natAbs < 4294967296 ^ j := Nat.lt_of_lt_of_le ha (Nat.pow_le_pow_right (by decide) h)
theorem lt_pow {a : Int} (n : Nat) (hn : n ≤ 16) (ha : a.natAbs < 4294967296 ^ 6) : (a ^ n).natAbs < 4294967296 ^ 97 := by
  rw [Int.natAbs_pow]
  have h1 : a.natAbs ^ n ≤ (4294967296 ^ 6) ^ n := Nat.pow_le_pow_left (Nat.le_of_lt ha) n
  rw [← Nat.pow_mul] at h1
  have h2 : 4294967296 ^ (6 * n) < 4294967296 ^ 97 := Nat.pow_lt_pow_right (by decide) (by omega)
  omega

theorem add_fit {w : World} {x y : Value} {a b : Int} (z : Int) (hx : Nu w x a) (hy : Nu w y b) (hz : a + b = z) (hf : fitsB z.natAbs = true) : Calls Tryz.prog 28 #[x, y] w (YesN w z) := by
  subst hz; exact (add_any hx hy).mono fun _ _ h => h.yes hf
theorem sub_fit {w : World} {x y : Value} {a b : Int} (z : Int) (hx : Nu w x a) (hy : Nu w y b) (hz : a - b = z) (hf : fitsB z.natAbs = true) : Calls Tryz.prog 29 #[x, y] w (YesN w z) := by
  subst hz; exact (sub_any hx hy).mono fun _ _ h => h.yes hf
theorem mul_fit {w : World} {x y : Value} {a b : Int} (z : Int) (hx : Nu w x a) (hy : Nu w y b) (hz : a * b = z) (hf : fitsB z.natAbs = true) : Calls Tryz.prog 30 #[x, y] w (YesN w z) := by
  subst hz; exact (mul_any hx hy).mono fun _ _ h => h.yes hf
theorem pow_fit {w : World} {x : Value} {a : Int} (z : Int) (n : Nat) (hx : Nu w x a) (hn : n < 9223372036854775808) (hz : a ^ n = z) (hf : fitsB z.natAbs = true) : Calls Tryz.prog 20 #[x, .int .i64 n] w (YesN w z) := by
  subst hz; exact (pow_any hx n hn).mono fun _ _ h => h.yes hf
theorem same_yes {w : World} {x y : Value} {a b : Int} (hx : Nu w x a) (hy : Nu w y b) (h : a = b) : Calls Tryz.prog 19 #[x, y] w (SameRes w true) := by
  have := same_nu hx hy
  rwa [decide_eq_true h] at this

/-- A box that holds 0. -/
theorem Bx.zero {W : World} {g : Nat} {neg : Bool} {ao : Option Addr} {n cap : Nat} (h : Bx W g neg ao n cap 0) : neg = false ∧ n = 0 := by
  obtain ⟨s, e, hs, _⟩ := h.nu
  injection e with e
  simp only [Array.mk.injEq, List.cons.injEq, Value.bool.injEq, and_true] at e
  obtain ⟨rfl, rfl⟩ := e
  have := hs.size
  rw [show digs (Int.natAbs 0) = [] from digs_zero] at this
  exact ⟨rfl, by simpa using this⟩

theorem Li.below {w w' : World} {v : Value} {zs : List Int} (h : Li w v zs) (hb : Below w.heap.size w w') : Li w' v zs := by
  obtain ⟨ao, cap, h1, h2, h3, h4⟩ := h
  refine ⟨ao, cap, h1, h2, h3, fun hn => ?_⟩
  obtain ⟨b, off, e, hc⟩ := h4 hn
  exact ⟨b, off, e, fun j hj => cell_later hb (hc j hj)⟩

/-- What Made returns, its parts named. -/
theorem made_parts {w : World} {v : Value} {zs : List Int} (h : Li w v zs) :
    Calls Tryz.prog 11 #[v] w fun e w' => ∃ neg ao n cap z, e = .returned (.agg #[.bool neg, .slice ao n cap]) ∧ Nu w' (.agg #[.bool neg, .slice ao n cap]) z ∧ z.natAbs < 4294967296 ^ 6 ∧ Below w.heap.size w w' :=
  (made11_any h).mono fun _ _ ⟨x, z, he, hn, hl, hb⟩ => by
    obtain ⟨s, rfl, hs, hl2⟩ := hn
    obtain ⟨ao, cap, rfl⟩ := hs.mk'
    exact ⟨_, ao, _, cap, z, he, ⟨_, rfl, hs, hl2⟩, digs_length_le.1 hl, hb⟩

set_option maxRecDepth 10000 in
set_option maxHeartbeats 8000000 in
theorem ring_any {w : World} {s0 s1 s2 : Option Addr} {n0 n1 n2 c0 c1 c2 : Nat} {z0 z1 z2 : List Int} (h0 : Li w (.slice s0 n0 c0) z0) (h1 : Li w (.slice s1 n1 c1) z1) (h2 : Li w (.slice s2 n2 c2) z2) (e0 e1 : UInt8) (htab : ∀ W, Below w.heap.size w W → Tab W) :
    Calls Tryz.prog 7 #[.agg #[.slice s0 n0 c0, .slice s1 n1 c1, .slice s2 n2 c2], .agg #[.int .u8 e0.toNat, .int .u8 e1.toNat]] w fun e w' => e = .returned (.bool true) ∧ Below w.heap.size w w' := by
  have he0 := e0.toNat_lt
  have he1 := e1.toNat_lt
  obtain ⟨E0, hE0⟩ : ∃ E0 : Nat, E0 = e0.toNat := ⟨_, rfl⟩
  obtain ⟨E1, hE1⟩ : ∃ E1 : Nat, E1 = e1.toNat := ⟨_, rfl⟩
  rw [← hE0] at he0 ⊢
  rw [← hE1] at he1 ⊢
  have HM0 := Lib.hid (fun W (hb : Below w.heap.size w W) => made_parts (h0.below hb))
  have HM1 := Lib.hid (fun W (hb : Below w.heap.size w W) => made_parts (h1.below hb))
  have HM2 := Lib.hid (fun W (hb : Below w.heap.size w W) => made_parts (h2.below hb))
  have HSA : Hid (∀ W, Below w.heap.size w W → Calls Tryz.prog 10 #[] W fun e w' => e = .returned (.bool true) ∧ Below W.heap.size W w') := Lib.hid (fun W hb => sanity_any W (fun W' hb' => htab W' (hb.trans (hb'.mono hb.size))))
  have HW : Hid (Below w.heap.size w w) := Lib.hid (Below.refl _ _)
  have HZ : Hid (w.heap.size ≤ w.heap.size) := Lib.hid (Nat.le_refl _)
  clear hE0 hE1 h0 h1 h2 htab
  go_enter Tryz.func7, Tryz.ntmps7
  go_upto_region 1 with fail
  obtain ⟨W, hW⟩ : ∃ W, W = (w.alloc (.cells #[.slice s0 n0 c0, .slice s1 n1 c1, .slice s2 n2 c2] 52)).alloc (.cells #[.int .u8 E0, .int .u8 E1] 53) := ⟨_, rfl⟩
  have hb : Below w.heap.size w W := by rw [hW]; exact (alloc_b _ _).trans ((alloc_b _ _).mono (alloc_b _ _).size)
  have r0 : W.heap[w.heap.size]? = some (.cells #[.slice s0 n0 c0, .slice s1 n1 c1, .slice s2 n2 c2] 52 (0, 0)) := by
    rw [hW, Below.heap_alloc _ _ _ (by simp)]; exact heap_alloc_new _ _
  have r1 : W.heap[w.heap.size + 1]? = some (.cells #[.int .u8 E0, .int .u8 E1] 53 (0, 0)) := by
    rw [hW]
    have := heap_alloc_new (w.alloc (.cells #[.slice s0 n0 c0, .slice s1 n1 c1, .slice s2 n2 c2] 52)) (.cells #[.int .u8 E0, .int .u8 E1] 53)
    rw [World.size_alloc] at this
    exact this
  have HBL : Hid (∀ W', Below W.heap.size W W' → (W'.cell? ⟨w.heap.size, 0, none⟩ = some (.slice s0 n0 c0) ∧ W'.cell? ⟨w.heap.size, 1, none⟩ = some (.slice s1 n1 c1) ∧ W'.cell? ⟨w.heap.size, 2, none⟩ = some (.slice s2 n2 c2)) ∧ W'.cell? ⟨w.heap.size + 1, 0, none⟩ = some (.int .u8 E0) ∧ W'.cell? ⟨w.heap.size + 1, 1, none⟩ = some (.int .u8 E1)) := Lib.hid (fun W' h => by
    have q0 := (h.block _ (Array.getElem?_eq_some_iff.1 r0).1).trans r0
    have q1 := (h.block _ (Array.getElem?_eq_some_iff.1 r1).1).trans r1
    exact ⟨⟨by rw [cell_of_row _ _ _ _ _ _ q0]; rfl, by rw [cell_of_row _ _ _ _ _ _ q0]; rfl, by rw [cell_of_row _ _ _ _ _ _ q0]; rfl⟩, by rw [cell_of_row _ _ _ _ _ _ q1]; rfl, by rw [cell_of_row _ _ _ _ _ _ q1]; rfl⟩)
  have HWW := step1 HW HZ hb
  have HW := HWW.1
  have HZ := HWW.2
  have HD : Hid (Below W.heap.size W W) := Lib.hid (Below.refl _ _)
  have HE : Hid (W.heap.size ≤ W.heap.size) := Lib.hid (Nat.le_refl _)
  rw [← hW]
  clear hW hb HWW r0 r1
  go_upto_region 2 with (go_at_call 10; refine (HSA.out _ HW.out).mono ?_; rintro e wz ⟨rfl, hb⟩; have HWW := step1 HW HZ hb; have HW := HWW.1; have HZ := HWW.2; have HDD := step1 HD HE hb; have HD := HDD.1; have HE := HDD.2; clear HWW HDD hb)
  obtain ⟨k0, k1, k2⟩ := (HBL.out _ HD.out).1
  obtain ⟨W1, hW1⟩ : ∃ W1, W1 = wz := ⟨_, rfl⟩
  obtain ⟨T, hT⟩ : ∃ T : Array Value, T = #[.agg #[.slice s0 n0 c0, .slice s1 n1 c1, .slice s2 n2 c2], .agg #[.int .u8 (E0 : Nat), .int .u8 (E1 : Nat)], .pointer (some ⟨w.heap.size, 0, none⟩), .pointer (some ⟨w.heap.size + 1, 0, none⟩), .bool false, .bool true, undef, undef, undef, undef, undef, undef, undef, undef, undef, undef, undef, undef, undef, undef, undef, undef, undef, undef, undef, undef, undef, undef, undef, undef, undef, undef, undef, undef, undef, .bool true, undef, undef, undef, undef, undef, undef, undef, undef, undef, undef, undef, undef, undef, undef, undef, undef, undef, undef, undef, undef, undef, undef, undef, undef, undef, undef, undef, undef, undef, undef, undef, undef, undef, undef, undef, undef, undef, undef, undef, undef, undef, undef, undef, undef, undef, undef, undef, undef, undef, undef, undef, undef, undef, undef, undef, undef, undef, undef, undef, undef, undef, undef, undef, undef, undef, undef, undef, undef, undef, undef, undef, undef, undef, undef, undef, undef, undef, undef, undef, undef, undef, undef, undef, undef, undef, undef, undef, undef, undef, undef, undef, undef, undef, undef, undef, undef, undef, undef, undef, undef, undef, undef, undef, undef, undef, undef, undef, undef, undef, undef, undef, undef, undef, undef, undef, undef, undef, undef, undef, undef, undef, undef, undef, undef, undef, undef, undef, undef, undef, undef, undef, undef, undef, undef, undef, undef, undef, undef, undef, undef, undef, undef, undef, undef, undef, undef, undef, undef, undef, undef, undef, undef, undef, undef, undef, undef, undef, undef, undef, undef, undef, undef, undef, undef, undef, undef, undef] := ⟨_, rfl⟩
  rw [← hT]
  refine regionP_inv (by kernel_rfl) (fun l a w' => ∃ vs gs, RM wz T 3 36 6 w.heap.size (fun t => if t = 0 then .slice s0 n0 c0 else if t = 1 then .slice s1 n1 c1 else .slice s2 n2 c2) vs gs l a w') ?h0 ?step ?fin
  case h0 => exact ⟨fun _ => undef, fun _ => 0, RM.start rfl (show Below wz.heap.size wz wz.drew from ⟨rfl, rfl, rfl, Nat.le_refl _, fun _ _ => rfl⟩)⟩
  case step =>
      rintro l a w' i' ⟨vs, gs, hR⟩ hi'
      obtain ⟨hl0, o, ho, hdep⟩ := mem_ready.1 hi'
      have h15 : i' < 15 := by
        have := (Array.getElem?_eq_some_iff.1 ho).1
        simpa using this
      have hbw : Below w.heap.size w w' := HW.out.trans (hR.bl.mono HZ.out)
      obtain ⟨y0, y1, y2⟩ := (HBL.out _ (HD.out.trans (hR.bl.mono HE.out))).1
      rcases (show i' = 0 ∨ i' = 1 ∨ i' = 2 ∨ i' = 3 ∨ i' = 4 ∨ i' = 5 ∨ i' = 6 ∨ i' = 7 ∨ i' = 8 ∨ i' = 9 ∨ i' = 10 ∨ i' = 11 ∨ i' = 12 ∨ i' = 13 ∨ i' = 14 by omega) with rfl | rfl | rfl | rfl | rfl | rfl | rfl | rfl | rfl | rfl | rfl | rfl | rfl | rfl | rfl
      · simp at ho
        subst ho
        simp [Region.binds] at hdep
        have k2 : a.tmps.getD 2 undef = .pointer (some ⟨w.heap.size, 0, none⟩) := (hR.fr.kept rfl (by simp [hT])).trans (by rw [hT]; rfl)
        clear hi' hdep hl0
        unfold wpOp
        simp [Region.wanted]
        refine .inl ?_
        unfold Oper.wp
        simp [execOp, go_sem, Act.eval, k2]
        exact ⟨vs, gs, hR.plain (by omega) (by omega) rfl rfl⟩
      · simp at ho
        subst ho
        simp [Region.binds] at hdep
        have k3 : a.tmps.getD 36 undef = .pointer (some ⟨w.heap.size, 0, none⟩) := hR.fr.done (i := 0) rfl (by simp_all) (by simp [hT])
        clear hi' hdep hl0
        unfold wpOp
        simp [Region.wanted]
        refine .inl ?_
        unfold Oper.wp
        simp [execOp, go_sem, Act.eval, k3, y0]
        exact ⟨vs, gs, hR.plain (by omega) (by omega) rfl rfl⟩
      · simp at ho
        subst ho
        simp [Region.binds] at hdep
        have k4 : a.tmps.getD 37 undef = .slice s0 n0 c0 := hR.fr.done (i := 1) rfl (by simp_all) (by simp [hT])
        clear hi' hdep
        unfold wpOp
        simp [Region.wanted]
        refine .inl ?_
        unfold Oper.wp
        simp [execOp, go_sem, Act.eval, k4]
        refine (HM0.out w' hbw).mono ?_
        rintro e w'' ⟨neg, ao, n, cap, z, rfl, hn, hA, hb⟩
        exact ⟨_, gs, hR.call (t := 0) (by omega) hl0 rfl (.inr (by omega)) ⟨neg, ao, n, cap, z, rfl, hn, hA⟩ hb⟩
      · simp at ho
        subst ho
        simp [Region.binds] at hdep
        have k2 : a.tmps.getD 2 undef = .pointer (some ⟨w.heap.size, 0, none⟩) := (hR.fr.kept rfl (by simp [hT])).trans (by rw [hT]; rfl)
        clear hi' hdep hl0
        unfold wpOp
        simp [Region.wanted]
        refine .inl ?_
        unfold Oper.wp
        simp [execOp, go_sem, Act.eval, k2]
        exact ⟨vs, gs, hR.plain (by omega) (by omega) rfl rfl⟩
      · simp at ho
        subst ho
        simp [Region.binds] at hdep
        have k3 : a.tmps.getD 39 undef = .pointer (some ⟨w.heap.size, 1, none⟩) := hR.fr.done (i := 3) rfl (by simp_all) (by simp [hT])
        clear hi' hdep hl0
        unfold wpOp
        simp [Region.wanted]
        refine .inl ?_
        unfold Oper.wp
        simp [execOp, go_sem, Act.eval, k3, y1]
        exact ⟨vs, gs, hR.plain (by omega) (by omega) rfl rfl⟩
      · simp at ho
        subst ho
        simp [Region.binds] at hdep
        have k4 : a.tmps.getD 40 undef = .slice s1 n1 c1 := hR.fr.done (i := 4) rfl (by simp_all) (by simp [hT])
        clear hi' hdep
        unfold wpOp
        simp [Region.wanted]
        refine .inl ?_
        unfold Oper.wp
        simp [execOp, go_sem, Act.eval, k4]
        refine (HM1.out w' hbw).mono ?_
        rintro e w'' ⟨neg, ao, n, cap, z, rfl, hn, hA, hb⟩
        exact ⟨_, gs, hR.call (t := 1) (by omega) hl0 rfl (.inr (by omega)) ⟨neg, ao, n, cap, z, rfl, hn, hA⟩ hb⟩
      · simp at ho
        subst ho
        simp [Region.binds] at hdep
        have k2 : a.tmps.getD 2 undef = .pointer (some ⟨w.heap.size, 0, none⟩) := (hR.fr.kept rfl (by simp [hT])).trans (by rw [hT]; rfl)
        clear hi' hdep hl0
        unfold wpOp
        simp [Region.wanted]
        refine .inl ?_
        unfold Oper.wp
        simp [execOp, go_sem, Act.eval, k2]
        exact ⟨vs, gs, hR.plain (by omega) (by omega) rfl rfl⟩
      · simp at ho
        subst ho
        simp [Region.binds] at hdep
        have k3 : a.tmps.getD 42 undef = .pointer (some ⟨w.heap.size, 2, none⟩) := hR.fr.done (i := 6) rfl (by simp_all) (by simp [hT])
        clear hi' hdep hl0
        unfold wpOp
        simp [Region.wanted]
        refine .inl ?_
        unfold Oper.wp
        simp [execOp, go_sem, Act.eval, k3, y2]
        exact ⟨vs, gs, hR.plain (by omega) (by omega) rfl rfl⟩
      · simp at ho
        subst ho
        simp [Region.binds] at hdep
        have k4 : a.tmps.getD 43 undef = .slice s2 n2 c2 := hR.fr.done (i := 7) rfl (by simp_all) (by simp [hT])
        clear hi' hdep
        unfold wpOp
        simp [Region.wanted]
        refine .inl ?_
        unfold Oper.wp
        simp [execOp, go_sem, Act.eval, k4]
        refine (HM2.out w' hbw).mono ?_
        rintro e w'' ⟨neg, ao, n, cap, z, rfl, hn, hA, hb⟩
        exact ⟨_, gs, hR.call (t := 2) (by omega) hl0 rfl (.inr (by omega)) ⟨neg, ao, n, cap, z, rfl, hn, hA⟩ hb⟩
      · simp at ho
        subst ho
        simp [Region.binds] at hdep
        clear hi' hdep
        unfold wpOp
        simp [Region.wanted]
        refine .inl ?_
        unfold Oper.wp
        simp [execOp, go_sem, Act.eval]
        exact ⟨vs, _, hR.alloc (t := 0) (by omega) hl0 rfl (.inr (by omega))⟩
      · simp at ho
        subst ho
        simp [Region.binds] at hdep
        clear hi' hdep
        unfold wpOp
        simp [Region.wanted]
        refine .inl ?_
        unfold Oper.wp
        simp [execOp, go_sem, Act.eval]
        exact ⟨vs, _, hR.alloc (t := 1) (by omega) hl0 rfl (.inr (by omega))⟩
      · simp at ho
        subst ho
        simp [Region.binds] at hdep
        clear hi' hdep
        unfold wpOp
        simp [Region.wanted]
        refine .inl ?_
        unfold Oper.wp
        simp [execOp, go_sem, Act.eval]
        exact ⟨vs, _, hR.alloc (t := 2) (by omega) hl0 rfl (.inr (by omega))⟩
      · simp at ho
        subst ho
        simp [Region.binds] at hdep
        have j1 : l.getD 9 true = true := getD_true (by simp_all)
        have j2 : l.getD 2 true = true := getD_true (by simp_all)
        have k5 : a.tmps.getD 6 undef = .pointer (some ⟨gs 0, 0, none⟩) := hR.fr.done (i := 9) rfl (by simp_all) (by simp [hT])
        have k6 : a.tmps.getD 38 undef = vs 0 := hR.fr.done (i := 2) rfl (by simp_all) (by simp [hT])
        obtain ⟨neg, ao, n, cap, z, ev, _⟩ := hR.val 0 (by omega) j2
        rw [ev] at k6
        obtain ⟨x0, x1, x2, x3, x4⟩ := hR.ready (t := 0) (by omega) hl0 j1
        clear hi' hdep
        unfold wpOp
        simp [Region.wanted]
        refine .inl ?_
        unfold Oper.wp
        simp [execOp, go_sem, Act.eval, k5, k6, x0, x1, x2, x3, x4]
        exact ⟨vs, gs, hR.store (t := 0) (by omega) hl0 j1 j2 ev undef⟩
      · simp at ho
        subst ho
        simp [Region.binds] at hdep
        have j1 : l.getD 10 true = true := getD_true (by simp_all)
        have j2 : l.getD 5 true = true := getD_true (by simp_all)
        have k5 : a.tmps.getD 7 undef = .pointer (some ⟨gs 1, 0, none⟩) := hR.fr.done (i := 10) rfl (by simp_all) (by simp [hT])
        have k6 : a.tmps.getD 41 undef = vs 1 := hR.fr.done (i := 5) rfl (by simp_all) (by simp [hT])
        obtain ⟨neg, ao, n, cap, z, ev, _⟩ := hR.val 1 (by omega) j2
        rw [ev] at k6
        obtain ⟨x0, x1, x2, x3, x4⟩ := hR.ready (t := 1) (by omega) hl0 j1
        clear hi' hdep
        unfold wpOp
        simp [Region.wanted]
        refine .inl ?_
        unfold Oper.wp
        simp [execOp, go_sem, Act.eval, k5, k6, x0, x1, x2, x3, x4]
        exact ⟨vs, gs, hR.store (t := 1) (by omega) hl0 j1 j2 ev undef⟩
      · simp at ho
        subst ho
        simp [Region.binds] at hdep
        have j1 : l.getD 11 true = true := getD_true (by simp_all)
        have j2 : l.getD 8 true = true := getD_true (by simp_all)
        have k5 : a.tmps.getD 8 undef = .pointer (some ⟨gs 2, 0, none⟩) := hR.fr.done (i := 11) rfl (by simp_all) (by simp [hT])
        have k6 : a.tmps.getD 44 undef = vs 2 := hR.fr.done (i := 8) rfl (by simp_all) (by simp [hT])
        obtain ⟨neg, ao, n, cap, z, ev, _⟩ := hR.val 2 (by omega) j2
        rw [ev] at k6
        obtain ⟨x0, x1, x2, x3, x4⟩ := hR.ready (t := 2) (by omega) hl0 j1
        clear hi' hdep
        unfold wpOp
        simp [Region.wanted]
        refine .inl ?_
        unfold Oper.wp
        simp [execOp, go_sem, Act.eval, k5, k6, x0, x1, x2, x3, x4]
        exact ⟨vs, gs, hR.store (t := 2) (by omega) hl0 j1 j2 ev undef⟩
  case' fin =>
      rintro l a W ⟨vs, gs, hR⟩ hz
      have hnot := List.eq_nil_iff_forall_not_mem.1 hz
      have hk : ∀ k, k < 15 → (l.getD k true = false → False) → l.getD k false = true := fun k h12 h => by
        have hs := hR.size
        cases h' : l.getD k true with
        | false => exact (h h').elim
        | true => simp [Array.getD, hs, h12] at h' ⊢; exact h'
      have st0 := hk 0 (by omega) (fun h => hnot 0 (mem_ready.2 ⟨h, _, rfl, by simp [Region.binds]⟩))
      have st1 := hk 1 (by omega) (fun h => hnot 1 (mem_ready.2 ⟨h, _, rfl, by simp [Region.binds]; simp_all⟩))
      have st2 := hk 2 (by omega) (fun h => hnot 2 (mem_ready.2 ⟨h, _, rfl, by simp [Region.binds]; simp_all⟩))
      have st3 := hk 3 (by omega) (fun h => hnot 3 (mem_ready.2 ⟨h, _, rfl, by simp [Region.binds]⟩))
      have st4 := hk 4 (by omega) (fun h => hnot 4 (mem_ready.2 ⟨h, _, rfl, by simp [Region.binds]; simp_all⟩))
      have st5 := hk 5 (by omega) (fun h => hnot 5 (mem_ready.2 ⟨h, _, rfl, by simp [Region.binds]; simp_all⟩))
      have st6 := hk 6 (by omega) (fun h => hnot 6 (mem_ready.2 ⟨h, _, rfl, by simp [Region.binds]⟩))
      have st7 := hk 7 (by omega) (fun h => hnot 7 (mem_ready.2 ⟨h, _, rfl, by simp [Region.binds]; simp_all⟩))
      have st8 := hk 8 (by omega) (fun h => hnot 8 (mem_ready.2 ⟨h, _, rfl, by simp [Region.binds]; simp_all⟩))
      have st9 := hk 9 (by omega) (fun h => hnot 9 (mem_ready.2 ⟨h, _, rfl, by simp [Region.binds]⟩))
      have st10 := hk 10 (by omega) (fun h => hnot 10 (mem_ready.2 ⟨h, _, rfl, by simp [Region.binds]⟩))
      have st11 := hk 11 (by omega) (fun h => hnot 11 (mem_ready.2 ⟨h, _, rfl, by simp [Region.binds]⟩))
      have st12 := hk 12 (by omega) (fun h => hnot 12 (mem_ready.2 ⟨h, _, rfl, by simp [Region.binds]; simp_all⟩))
      have st13 := hk 13 (by omega) (fun h => hnot 13 (mem_ready.2 ⟨h, _, rfl, by simp [Region.binds]; simp_all⟩))
      have st14 := hk 14 (by omega) (fun h => hnot 14 (mem_ready.2 ⟨h, _, rfl, by simp [Region.binds]; simp_all⟩))
      have hall : ∀ i, i < 15 → l.getD i true = true := fun i hi => by
        rcases (show i = 0 ∨ i = 1 ∨ i = 2 ∨ i = 3 ∨ i = 4 ∨ i = 5 ∨ i = 6 ∨ i = 7 ∨ i = 8 ∨ i = 9 ∨ i = 10 ∨ i = 11 ∨ i = 12 ∨ i = 13 ∨ i = 14 by omega) with rfl | rfl | rfl | rfl | rfl | rfl | rfl | rfl | rfl | rfl | rfl | rfl | rfl | rfl | rfl
        · exact getD_true st0
        · exact getD_true st1
        · exact getD_true st2
        · exact getD_true st3
        · exact getD_true st4
        · exact getD_true st5
        · exact getD_true st6
        · exact getD_true st7
        · exact getD_true st8
        · exact getD_true st9
        · exact getD_true st10
        · exact getD_true st11
        · exact getD_true st12
        · exact getD_true st13
        · exact getD_true st14
      clear st0 st1 st2 st3 st4 st5 st6 st7 st8 st9 st10 st11 st12 st13 st14 hk hnot hz
      obtain ⟨n6, a6, l6, c6, A, ev0, B6, HA⟩ := hR.bx (t := 0) (by omega) (hall 12 (by omega))
      obtain ⟨n7, a7, l7, c7, B, ev1, B7, HB⟩ := hR.bx (t := 1) (by omega) (hall 13 (by omega))
      obtain ⟨n8, a8, l8, c8, C, ev2, B8, HC⟩ := hR.bx (t := 2) (by omega) (hall 14 (by omega))
      have hTs : T.size = 203 := by rw [hT]; rfl
      have ha : a = ⟨((((((((((((T.setIfInBounds 36 (.pointer (some ⟨w.heap.size, 0, none⟩))).setIfInBounds 37 (.slice s0 n0 c0)).setIfInBounds 38 (vs 0)).setIfInBounds 39 (.pointer (some ⟨w.heap.size, 1, none⟩))).setIfInBounds 40 (.slice s1 n1 c1)).setIfInBounds 41 (vs 1)).setIfInBounds 42 (.pointer (some ⟨w.heap.size, 2, none⟩))).setIfInBounds 43 (.slice s2 n2 c2)).setIfInBounds 44 (vs 2)).setIfInBounds 6 (.pointer (some ⟨gs 0, 0, none⟩))).setIfInBounds 7 (.pointer (some ⟨gs 1, 0, none⟩))).setIfInBounds 8 (.pointer (some ⟨gs 2, 0, none⟩))), []⟩ := by
        refine hR.fr.all (fun j i v h => hall i (by have := mOwn_lt h; simp only [] at this; omega)) (by simp) (fun j hj => ?_)
        by_cases h1 : 36 ≤ j ∧ j < 45
        · rcases (show j = 36 ∨ j = 37 ∨ j = 38 ∨ j = 39 ∨ j = 40 ∨ j = 41 ∨ j = 42 ∨ j = 43 ∨ j = 44 by omega) with rfl | rfl | rfl | rfl | rfl | rfl | rfl | rfl | rfl <;> simp [sets_getD, mOwn, hTs]
        · by_cases h2 : 6 ≤ j ∧ j < 9
          · rcases (show j = 6 ∨ j = 7 ∨ j = 8 by omega) with rfl | rfl | rfl <;> simp [sets_getD, mOwn, hTs]
          · have e : mOwn 3 36 6 w.heap.size (fun t => if t = 0 then .slice s0 n0 c0 else if t = 1 then .slice s1 n1 c1 else .slice s2 n2 c2) vs gs j = none := by
              unfold mOwn
              rw [if_neg (by omega), if_neg (by omega)]
            rw [e]
            simp only [sets_getD]
            repeat rw [if_neg (by omega)]
      have hbl := hR.bl
      clear hR hall
      rw [ev0, ev1, ev2] at ha
      obtain ⟨g6, hg6⟩ : ∃ g6, g6 = gs 0 := ⟨_, rfl⟩
      obtain ⟨g7, hg7⟩ : ∃ g7, g7 = gs 1 := ⟨_, rfl⟩
      obtain ⟨g8, hg8⟩ : ∃ g8, g8 = gs 2 := ⟨_, rfl⟩
      rw [← hg6] at ha B6
      rw [← hg7] at ha B7
      rw [← hg8] at ha B8
      have ha2 : a = ⟨#[.agg #[.slice s0 n0 c0, .slice s1 n1 c1, .slice s2 n2 c2], .agg #[.int .u8 (E0 : Nat), .int .u8 (E1 : Nat)], .pointer (some ⟨w.heap.size, 0, none⟩), .pointer (some ⟨w.heap.size + 1, 0, none⟩), .bool false, .bool true, .pointer (some ⟨g6, 0, none⟩), .pointer (some ⟨g7, 0, none⟩), .pointer (some ⟨g8, 0, none⟩), undef, undef, undef, undef, undef, undef, undef, undef, undef, undef, undef, undef, undef, undef, undef, undef, undef, undef, undef, undef, undef, undef, undef, undef, undef, undef, .bool true, .pointer (some ⟨w.heap.size, 0, none⟩), .slice s0 n0 c0, .agg #[.bool n6, .slice a6 l6 c6], .pointer (some ⟨w.heap.size, 1, none⟩), .slice s1 n1 c1, .agg #[.bool n7, .slice a7 l7 c7], .pointer (some ⟨w.heap.size, 2, none⟩), .slice s2 n2 c2, .agg #[.bool n8, .slice a8 l8 c8], undef, undef, undef, undef, undef, undef, undef, undef, undef, undef, undef, undef, undef, undef, undef, undef, undef, undef, undef, undef, undef, undef, undef, undef, undef, undef, undef, undef, undef, undef, undef, undef, undef, undef, undef, undef, undef, undef, undef, undef, undef, undef, undef, undef, undef, undef, undef, undef, undef, undef, undef, undef, undef, undef, undef, undef, undef, undef, undef, undef, undef, undef, undef, undef, undef, undef, undef, undef, undef, undef, undef, undef, undef, undef, undef, undef, undef, undef, undef, undef, undef, undef, undef, undef, undef, undef, undef, undef, undef, undef, undef, undef, undef, undef, undef, undef, undef, undef, undef, undef, undef, undef, undef, undef, undef, undef, undef, undef, undef, undef, undef, undef, undef, undef, undef, undef, undef, undef, undef, undef, undef, undef, undef, undef, undef, undef, undef, undef, undef, undef, undef, undef, undef, undef, undef, undef, undef, undef, undef, undef, undef, undef, undef, undef, undef, undef, undef, undef, undef, undef, undef, undef, undef, undef, undef, undef, undef, undef], []⟩ := by
        rw [ha, hT]
        simp only [List.setIfInBounds_toArray, List.set_cons_succ, List.set_cons_zero]
      subst ha2
      have B6 := Lib.hid B6
      have B7 := Lib.hid B7
      have B8 := Lib.hid B8
      have HA := Lib.hid HA
      have HB := Lib.hid HB
      have HC := Lib.hid HC
      have HWW := step1 HW HZ hbl
      have HDD := step1 HD HE hbl
      have HW := HWW.1
      have HZ := HWW.2
      have HD := HDD.1
      have HE := HDD.2
      clear HWW HDD hbl ha hT hTs ev0 ev1 ev2 hg6 hg7 hg8 vs gs k0 k1 k2 hW1
  obtain ⟨S, hS⟩ : ∃ S, S = A + B := ⟨_, rfl⟩
  obtain ⟨M, hM⟩ : ∃ M, M = S * C := ⟨_, rfl⟩
  obtain ⟨X, hX⟩ : ∃ X, X = C * A := ⟨_, rfl⟩
  obtain ⟨Y, hY⟩ : ∃ Y, Y = B * C := ⟨_, rfl⟩
  have dS := lt_add HA.out HB.out
  rw [← hS] at dS
  have dM := lt_mul dS HC.out
  rw [← hM] at dM
  have dX := lt_mul HC.out HA.out
  rw [← hX] at dX
  have dY := lt_mul HB.out HC.out
  rw [← hY] at dY
  have hMXY : X + Y = M := by rw [hM, hS, hX, hY, Int.add_mul, Int.mul_comm C A]
  have ES : Hid (A + B = S) := Lib.hid hS.symm
  have ES2 : Hid (B + A = S) := Lib.hid (by rw [hS]; omega)
  have EM : Hid (S * C = M) := Lib.hid hM.symm
  have EX : Hid (C * A = X) := Lib.hid hX.symm
  have EY : Hid (B * C = Y) := Lib.hid hY.symm
  have ER : Hid (X + Y = M) := Lib.hid hMXY
  have EA : Hid (S - B = A) := Lib.hid (by rw [hS]; omega)
  have EZ : Hid (M - M = 0) := Lib.hid (by omega)
  have FS := Lib.hid (fits_pow _ dS (by omega))
  have FM := Lib.hid (fits_pow _ dM (by omega))
  have FX := Lib.hid (fits_pow _ dX (by omega))
  have FY := Lib.hid (fits_pow _ dY (by omega))
  have FA := Lib.hid (fits_pow _ HA.out (by omega))
  have FZ := Lib.hid (fits_w (n := Int.natAbs 0) (by decide))
  obtain ⟨N0, hN0⟩ : ∃ N0, N0 = E0 % 9 := ⟨_, rfl⟩
  obtain ⟨N1, hN1⟩ : ∃ N1, N1 = E1 % 9 := ⟨_, rfl⟩
  have h08 : N0 ≤ 8 := by omega
  have h18 : N1 ≤ 8 := by omega
  obtain ⟨P0, hP0⟩ : ∃ P0, P0 = A ^ N0 := ⟨_, rfl⟩
  obtain ⟨P1, hP1⟩ : ∃ P1, P1 = A ^ N1 := ⟨_, rfl⟩
  obtain ⟨Q, hQ⟩ : ∃ Q, Q = A ^ (N0 + N1) := ⟨_, rfl⟩
  have FP0 : Hid (fitsB P0.natAbs = true) := Lib.hid (by rw [hP0]; exact fits_pow _ (lt_pow N0 (by omega) HA.out) (by omega))
  have FP1 : Hid (fitsB P1.natAbs = true) := Lib.hid (by rw [hP1]; exact fits_pow _ (lt_pow N1 (by omega) HA.out) (by omega))
  have FQ : Hid (fitsB Q.natAbs = true) := Lib.hid (by rw [hQ]; exact fits_pow _ (lt_pow (N0 + N1) (by omega) HA.out) (by omega))
  have EP0 : Hid (A ^ N0 = P0) := Lib.hid hP0.symm
  have EP1 : Hid (A ^ N1 = P1) := Lib.hid hP1.symm
  have EQ : Hid (P0 * P1 = Q) := Lib.hid (by rw [hP0, hP1, hQ, Int.pow_add])
  have HPW : Hid (∀ W x, Nu W x A → Calls Tryz.prog 20 #[x, .int .i64 ((N0 : Int) + (N1 : Int))] W (YesN W Q)) := Lib.hid (fun W x h => pow_fit Q (N0 + N1) h (by omega) hQ.symm FQ.out)
  have m0 : (E0 : Int) % 9 = (N0 : Nat) := by omega
  have m1 : (E1 : Int) % 9 = (N1 : Nat) := by omega
  have t0 : (E0 : Int).tmod 9 = (N0 : Nat) := by rw [Int.tmod_eq_emod_of_nonneg (by omega)]; exact m0
  have t1 : (E1 : Int).tmod 9 = (N1 : Nat) := by rw [Int.tmod_eq_emod_of_nonneg (by omega)]; exact m1
  have w0 : IntKind.i64.wrap (E0 : Int) = (E0 : Int) := by rw [IntKind.wrap_i64]; omega
  have w1 : IntKind.i64.wrap (E1 : Int) = (E1 : Int) := by rw [IntKind.wrap_i64]; omega
  have w2 : IntKind.i64.wrap (N0 : Int) = (N0 : Int) := by rw [IntKind.wrap_i64]; omega
  have w3 : IntKind.i64.wrap (N1 : Int) = (N1 : Int) := by rw [IntKind.wrap_i64]; omega
  clear hS hM hX hY hMXY dS dM dX dY hN0 hN1 hP0 hP1 hQ HA HB HC HM0 HM1 HM2 HSA
  have p6 := B6.out.c0
  have q6 := B6.out.c1
  have p7 := B7.out.c0
  have q7 := B7.out.c1
  go_upto_region 4 with (first | (go_at_call 28; refine (add_fit S B6.out.nu B7.out.nu ES.out FS.out).mono ?_; rintro e wz ⟨n9, a9, l9, c9, rfl, hn, hb⟩; (try have B6 := Lib.hid (B6.out.below hb)); (try have B7 := Lib.hid (B7.out.below hb)); (try have B8 := Lib.hid (B8.out.below hb)); have HWW := step1 HW HZ hb; have HW := HWW.1; have HZ := HWW.2; have HDD := step1 HD HE hb; have HD := HDD.1; have HE := HDD.2; clear HWW HDD; have NB := Lib.hid hn; clear hn; clear hb))
  obtain ⟨W, hW⟩ : ∃ W, W = wz.alloc (.cells #[.bool n9, .slice a9 l9 c9] 27) := ⟨_, rfl⟩
  obtain ⟨g9, hg⟩ : ∃ g, g = wz.heap.size := ⟨_, rfl⟩
  have hb : Below wz.heap.size wz W := by rw [hW]; exact alloc_b _ _
  have B9 : Hid (Bx W g9 n9 a9 l9 c9 S) := Lib.hid (by rw [hW, hg]; exact bx_new NB.out)
  rw [← hW]
  rw [← hg]
  clear hW hg NB
  have B6 := Lib.hid (B6.out.below hb)
  have B7 := Lib.hid (B7.out.below hb)
  have B8 := Lib.hid (B8.out.below hb)
  have HWW := step1 HW HZ hb
  have HW := HWW.1
  have HZ := HWW.2
  have HDD := step1 HD HE hb
  have HD := HDD.1
  have HE := HDD.2
  clear HWW HDD hb 
  clear p6 q6 p7 q7
  have p7 := B7.out.c0
  have q7 := B7.out.c1
  have p6 := B6.out.c0
  have q6 := B6.out.c1
  go_upto_region 5 with (first | (go_at_call 28; refine (add_fit S B7.out.nu B6.out.nu ES2.out FS.out).mono ?_; rintro e wz ⟨n11, a11, l11, c11, rfl, hn, hb⟩; (try have B6 := Lib.hid (B6.out.below hb)); (try have B7 := Lib.hid (B7.out.below hb)); (try have B8 := Lib.hid (B8.out.below hb)); (try have B9 := Lib.hid (B9.out.below hb)); have HWW := step1 HW HZ hb; have HW := HWW.1; have HZ := HWW.2; have HDD := step1 HD HE hb; have HD := HDD.1; have HE := HDD.2; clear HWW HDD; have NB := Lib.hid hn; clear hn; clear hb))
  obtain ⟨W, hW⟩ : ∃ W, W = wz.alloc (.cells #[.bool n11, .slice a11 l11 c11] 27) := ⟨_, rfl⟩
  obtain ⟨g11, hg⟩ : ∃ g, g = wz.heap.size := ⟨_, rfl⟩
  have hb : Below wz.heap.size wz W := by rw [hW]; exact alloc_b _ _
  have B11 : Hid (Bx W g11 n11 a11 l11 c11 S) := Lib.hid (by rw [hW, hg]; exact bx_new NB.out)
  rw [← hW]
  rw [← hg]
  clear hW hg NB
  have B6 := Lib.hid (B6.out.below hb)
  have B7 := Lib.hid (B7.out.below hb)
  have B8 := Lib.hid (B8.out.below hb)
  have B9 := Lib.hid (B9.out.below hb)
  have HWW := step1 HW HZ hb
  have HW := HWW.1
  have HZ := HWW.2
  have HDD := step1 HD HE hb
  have HD := HDD.1
  have HE := HDD.2
  clear HWW HDD hb 
  clear p7 q7 p6 q6
  have p9 := B9.out.c0
  have q9 := B9.out.c1
  have p8 := B8.out.c0
  have q8 := B8.out.c1
  go_upto_region 6 with (first | (go_at_call 30; refine (mul_fit M B9.out.nu B8.out.nu EM.out FM.out).mono ?_; rintro e wz ⟨n13, a13, l13, c13, rfl, hn, hb⟩; (try have B6 := Lib.hid (B6.out.below hb)); (try have B7 := Lib.hid (B7.out.below hb)); (try have B8 := Lib.hid (B8.out.below hb)); (try have B9 := Lib.hid (B9.out.below hb)); (try have B11 := Lib.hid (B11.out.below hb)); have HWW := step1 HW HZ hb; have HW := HWW.1; have HZ := HWW.2; have HDD := step1 HD HE hb; have HD := HDD.1; have HE := HDD.2; clear HWW HDD; have NB := Lib.hid hn; clear hn; clear hb))
  obtain ⟨W, hW⟩ : ∃ W, W = wz.alloc (.cells #[.bool n13, .slice a13 l13 c13] 27) := ⟨_, rfl⟩
  obtain ⟨g13, hg⟩ : ∃ g, g = wz.heap.size := ⟨_, rfl⟩
  have hb : Below wz.heap.size wz W := by rw [hW]; exact alloc_b _ _
  have B13 : Hid (Bx W g13 n13 a13 l13 c13 M) := Lib.hid (by rw [hW, hg]; exact bx_new NB.out)
  rw [← hW]
  rw [← hg]
  clear hW hg NB
  have B6 := Lib.hid (B6.out.below hb)
  have B7 := Lib.hid (B7.out.below hb)
  have B8 := Lib.hid (B8.out.below hb)
  have B9 := Lib.hid (B9.out.below hb)
  have B11 := Lib.hid (B11.out.below hb)
  have HWW := step1 HW HZ hb
  have HW := HWW.1
  have HZ := HWW.2
  have HDD := step1 HD HE hb
  have HD := HDD.1
  have HE := HDD.2
  clear HWW HDD hb 
  clear p9 q9 p8 q8
  have p8 := B8.out.c0
  have q8 := B8.out.c1
  have p6 := B6.out.c0
  have q6 := B6.out.c1
  go_upto_region 7 with (first | (go_at_call 30; refine (mul_fit X B8.out.nu B6.out.nu EX.out FX.out).mono ?_; rintro e wz ⟨n15, a15, l15, c15, rfl, hn, hb⟩; (try have B6 := Lib.hid (B6.out.below hb)); (try have B7 := Lib.hid (B7.out.below hb)); (try have B8 := Lib.hid (B8.out.below hb)); (try have B9 := Lib.hid (B9.out.below hb)); (try have B11 := Lib.hid (B11.out.below hb)); (try have B13 := Lib.hid (B13.out.below hb)); have HWW := step1 HW HZ hb; have HW := HWW.1; have HZ := HWW.2; have HDD := step1 HD HE hb; have HD := HDD.1; have HE := HDD.2; clear HWW HDD; have NB := Lib.hid hn; clear hn; clear hb))
  obtain ⟨W, hW⟩ : ∃ W, W = wz.alloc (.cells #[.bool n15, .slice a15 l15 c15] 27) := ⟨_, rfl⟩
  obtain ⟨g15, hg⟩ : ∃ g, g = wz.heap.size := ⟨_, rfl⟩
  have hb : Below wz.heap.size wz W := by rw [hW]; exact alloc_b _ _
  have B15 : Hid (Bx W g15 n15 a15 l15 c15 X) := Lib.hid (by rw [hW, hg]; exact bx_new NB.out)
  rw [← hW]
  rw [← hg]
  clear hW hg NB
  have B6 := Lib.hid (B6.out.below hb)
  have B7 := Lib.hid (B7.out.below hb)
  have B8 := Lib.hid (B8.out.below hb)
  have B9 := Lib.hid (B9.out.below hb)
  have B11 := Lib.hid (B11.out.below hb)
  have B13 := Lib.hid (B13.out.below hb)
  have HWW := step1 HW HZ hb
  have HW := HWW.1
  have HZ := HWW.2
  have HDD := step1 HD HE hb
  have HD := HDD.1
  have HE := HDD.2
  clear HWW HDD hb 
  clear p8 q8 p6 q6
  have p7 := B7.out.c0
  have q7 := B7.out.c1
  have p8 := B8.out.c0
  have q8 := B8.out.c1
  go_upto_region 8 with (first | (go_at_call 30; refine (mul_fit Y B7.out.nu B8.out.nu EY.out FY.out).mono ?_; rintro e wz ⟨n17, a17, l17, c17, rfl, hn, hb⟩; (try have B6 := Lib.hid (B6.out.below hb)); (try have B7 := Lib.hid (B7.out.below hb)); (try have B8 := Lib.hid (B8.out.below hb)); (try have B9 := Lib.hid (B9.out.below hb)); (try have B11 := Lib.hid (B11.out.below hb)); (try have B13 := Lib.hid (B13.out.below hb)); (try have B15 := Lib.hid (B15.out.below hb)); have HWW := step1 HW HZ hb; have HW := HWW.1; have HZ := HWW.2; have HDD := step1 HD HE hb; have HD := HDD.1; have HE := HDD.2; clear HWW HDD; have NB := Lib.hid hn; clear hn; clear hb))
  obtain ⟨W, hW⟩ : ∃ W, W = wz.alloc (.cells #[.bool n17, .slice a17 l17 c17] 27) := ⟨_, rfl⟩
  obtain ⟨g17, hg⟩ : ∃ g, g = wz.heap.size := ⟨_, rfl⟩
  have hb : Below wz.heap.size wz W := by rw [hW]; exact alloc_b _ _
  have B17 : Hid (Bx W g17 n17 a17 l17 c17 Y) := Lib.hid (by rw [hW, hg]; exact bx_new NB.out)
  rw [← hW]
  rw [← hg]
  clear hW hg NB
  have B6 := Lib.hid (B6.out.below hb)
  have B7 := Lib.hid (B7.out.below hb)
  have B8 := Lib.hid (B8.out.below hb)
  have B9 := Lib.hid (B9.out.below hb)
  have B11 := Lib.hid (B11.out.below hb)
  have B13 := Lib.hid (B13.out.below hb)
  have B15 := Lib.hid (B15.out.below hb)
  have HWW := step1 HW HZ hb
  have HW := HWW.1
  have HZ := HWW.2
  have HDD := step1 HD HE hb
  have HD := HDD.1
  have HE := HDD.2
  clear HWW HDD hb 
  clear p7 q7 p8 q8
  have p15 := B15.out.c0
  have q15 := B15.out.c1
  have p17 := B17.out.c0
  have q17 := B17.out.c1
  go_upto_region 9 with (first | (go_at_call 28; refine (add_fit M B15.out.nu B17.out.nu ER.out FM.out).mono ?_; rintro e wz ⟨n19, a19, l19, c19, rfl, hn, hb⟩; (try have B6 := Lib.hid (B6.out.below hb)); (try have B7 := Lib.hid (B7.out.below hb)); (try have B8 := Lib.hid (B8.out.below hb)); (try have B9 := Lib.hid (B9.out.below hb)); (try have B11 := Lib.hid (B11.out.below hb)); (try have B13 := Lib.hid (B13.out.below hb)); (try have B15 := Lib.hid (B15.out.below hb)); (try have B17 := Lib.hid (B17.out.below hb)); have HWW := step1 HW HZ hb; have HW := HWW.1; have HZ := HWW.2; have HDD := step1 HD HE hb; have HD := HDD.1; have HE := HDD.2; clear HWW HDD; have NB := Lib.hid hn; clear hn; clear hb))
  obtain ⟨W, hW⟩ : ∃ W, W = wz.alloc (.cells #[.bool n19, .slice a19 l19 c19] 27) := ⟨_, rfl⟩
  obtain ⟨g19, hg⟩ : ∃ g, g = wz.heap.size := ⟨_, rfl⟩
  have hb : Below wz.heap.size wz W := by rw [hW]; exact alloc_b _ _
  have B19 : Hid (Bx W g19 n19 a19 l19 c19 M) := Lib.hid (by rw [hW, hg]; exact bx_new NB.out)
  rw [← hW]
  rw [← hg]
  clear hW hg NB
  have B6 := Lib.hid (B6.out.below hb)
  have B7 := Lib.hid (B7.out.below hb)
  have B8 := Lib.hid (B8.out.below hb)
  have B9 := Lib.hid (B9.out.below hb)
  have B11 := Lib.hid (B11.out.below hb)
  have B13 := Lib.hid (B13.out.below hb)
  have B15 := Lib.hid (B15.out.below hb)
  have B17 := Lib.hid (B17.out.below hb)
  have HWW := step1 HW HZ hb
  have HW := HWW.1
  have HZ := HWW.2
  have HDD := step1 HD HE hb
  have HD := HDD.1
  have HE := HDD.2
  clear HWW HDD hb 
  clear p15 q15 p17 q17
  have p9 := B9.out.c0
  have q9 := B9.out.c1
  have p7 := B7.out.c0
  have q7 := B7.out.c1
  go_upto_region 10 with (first | (go_at_call 29; refine (sub_fit A B9.out.nu B7.out.nu EA.out FA.out).mono ?_; rintro e wz ⟨n21, a21, l21, c21, rfl, hn, hb⟩; (try have B6 := Lib.hid (B6.out.below hb)); (try have B7 := Lib.hid (B7.out.below hb)); (try have B8 := Lib.hid (B8.out.below hb)); (try have B9 := Lib.hid (B9.out.below hb)); (try have B11 := Lib.hid (B11.out.below hb)); (try have B13 := Lib.hid (B13.out.below hb)); (try have B15 := Lib.hid (B15.out.below hb)); (try have B17 := Lib.hid (B17.out.below hb)); (try have B19 := Lib.hid (B19.out.below hb)); have HWW := step1 HW HZ hb; have HW := HWW.1; have HZ := HWW.2; have HDD := step1 HD HE hb; have HD := HDD.1; have HE := HDD.2; clear HWW HDD; have NB := Lib.hid hn; clear hn; clear hb))
  obtain ⟨W, hW⟩ : ∃ W, W = wz.alloc (.cells #[.bool n21, .slice a21 l21 c21] 27) := ⟨_, rfl⟩
  obtain ⟨g21, hg⟩ : ∃ g, g = wz.heap.size := ⟨_, rfl⟩
  have hb : Below wz.heap.size wz W := by rw [hW]; exact alloc_b _ _
  have B21 : Hid (Bx W g21 n21 a21 l21 c21 A) := Lib.hid (by rw [hW, hg]; exact bx_new NB.out)
  rw [← hW]
  rw [← hg]
  clear hW hg NB
  have B6 := Lib.hid (B6.out.below hb)
  have B7 := Lib.hid (B7.out.below hb)
  have B8 := Lib.hid (B8.out.below hb)
  have B9 := Lib.hid (B9.out.below hb)
  have B11 := Lib.hid (B11.out.below hb)
  have B13 := Lib.hid (B13.out.below hb)
  have B15 := Lib.hid (B15.out.below hb)
  have B17 := Lib.hid (B17.out.below hb)
  have B19 := Lib.hid (B19.out.below hb)
  have HWW := step1 HW HZ hb
  have HW := HWW.1
  have HZ := HWW.2
  have HDD := step1 HD HE hb
  have HD := HDD.1
  have HE := HDD.2
  clear HWW HDD hb 
  clear p9 q9 p7 q7
  have p13 := B13.out.c0
  have q13 := B13.out.c1
  have p19 := B19.out.c0
  have q19 := B19.out.c1
  go_upto_region 11 with (first | (go_at_call 29; refine (sub_fit 0 B13.out.nu B19.out.nu EZ.out FZ.out).mono ?_; rintro e wz ⟨n23, a23, l23, c23, rfl, hn, hb⟩; (try have B6 := Lib.hid (B6.out.below hb)); (try have B7 := Lib.hid (B7.out.below hb)); (try have B8 := Lib.hid (B8.out.below hb)); (try have B9 := Lib.hid (B9.out.below hb)); (try have B11 := Lib.hid (B11.out.below hb)); (try have B13 := Lib.hid (B13.out.below hb)); (try have B15 := Lib.hid (B15.out.below hb)); (try have B17 := Lib.hid (B17.out.below hb)); (try have B19 := Lib.hid (B19.out.below hb)); (try have B21 := Lib.hid (B21.out.below hb)); have HWW := step1 HW HZ hb; have HW := HWW.1; have HZ := HWW.2; have HDD := step1 HD HE hb; have HD := HDD.1; have HE := HDD.2; clear HWW HDD; have NB := Lib.hid hn; clear hn; clear hb))
  obtain ⟨W, hW⟩ : ∃ W, W = wz.alloc (.cells #[.bool n23, .slice a23 l23 c23] 27) := ⟨_, rfl⟩
  obtain ⟨g23, hg⟩ : ∃ g, g = wz.heap.size := ⟨_, rfl⟩
  have hb : Below wz.heap.size wz W := by rw [hW]; exact alloc_b _ _
  have B23 : Hid (Bx W g23 n23 a23 l23 c23 0) := Lib.hid (by rw [hW, hg]; exact bx_new NB.out)
  rw [← hW]
  rw [← hg]
  clear hW hg NB
  have B6 := Lib.hid (B6.out.below hb)
  have B7 := Lib.hid (B7.out.below hb)
  have B8 := Lib.hid (B8.out.below hb)
  have B9 := Lib.hid (B9.out.below hb)
  have B11 := Lib.hid (B11.out.below hb)
  have B13 := Lib.hid (B13.out.below hb)
  have B15 := Lib.hid (B15.out.below hb)
  have B17 := Lib.hid (B17.out.below hb)
  have B19 := Lib.hid (B19.out.below hb)
  have B21 := Lib.hid (B21.out.below hb)
  have HWW := step1 HW HZ hb
  have HW := HWW.1
  have HZ := HWW.2
  have HDD := step1 HD HE hb
  have HD := HDD.1
  have HE := HDD.2
  clear HWW HDD hb 
  clear p13 q13 p19 q19
  obtain ⟨e1, e2⟩ := B23.out.zero
  subst e1 e2
  have p9 := B9.out.c0
  have q9 := B9.out.c1
  have p11 := B11.out.c0
  have q11 := B11.out.c1
  have p13 := B13.out.c0
  have q13 := B13.out.c1
  have p19 := B19.out.c0
  have q19 := B19.out.c1
  have p21 := B21.out.c0
  have q21 := B21.out.c1
  have p6 := B6.out.c0
  have q6 := B6.out.c1
  have p23 := B23.out.c0
  have q23 := B23.out.c1
  clear B7 B8 B15 B17
  go_upto_region 13 with (first | (go_at_call_of 19 (Value.slice a9 l9 c9); refine (same_yes B9.out.nu B11.out.nu rfl).mono ?_; rintro e wz ⟨rfl, hb⟩; (try have B6 := Lib.hid (B6.out.below hb)); (try have B9 := Lib.hid (B9.out.below hb)); (try have B11 := Lib.hid (B11.out.below hb)); (try have B13 := Lib.hid (B13.out.below hb)); (try have B19 := Lib.hid (B19.out.below hb)); (try have B21 := Lib.hid (B21.out.below hb)); (try have B23 := Lib.hid (B23.out.below hb)); have HWW := step1 HW HZ hb; have HW := HWW.1; have HZ := HWW.2; have HDD := step1 HD HE hb; have HD := HDD.1; have HE := HDD.2; clear HWW HDD; have p9 := B9.out.c0; have q9 := B9.out.c1; have p11 := B11.out.c0; have q11 := B11.out.c1; have p13 := B13.out.c0; have q13 := B13.out.c1; have p19 := B19.out.c0; have q19 := B19.out.c1; have p21 := B21.out.c0; have q21 := B21.out.c1; have p6 := B6.out.c0; have q6 := B6.out.c1; have p23 := B23.out.c0; have q23 := B23.out.c1; clear hb) | (go_at_call_of 19 (Value.slice a13 l13 c13); refine (same_yes B13.out.nu B19.out.nu rfl).mono ?_; rintro e wz ⟨rfl, hb⟩; (try have B6 := Lib.hid (B6.out.below hb)); (try have B9 := Lib.hid (B9.out.below hb)); (try have B11 := Lib.hid (B11.out.below hb)); (try have B13 := Lib.hid (B13.out.below hb)); (try have B19 := Lib.hid (B19.out.below hb)); (try have B21 := Lib.hid (B21.out.below hb)); (try have B23 := Lib.hid (B23.out.below hb)); have HWW := step1 HW HZ hb; have HW := HWW.1; have HZ := HWW.2; have HDD := step1 HD HE hb; have HD := HDD.1; have HE := HDD.2; clear HWW HDD; have p9 := B9.out.c0; have q9 := B9.out.c1; have p11 := B11.out.c0; have q11 := B11.out.c1; have p13 := B13.out.c0; have q13 := B13.out.c1; have p19 := B19.out.c0; have q19 := B19.out.c1; have p21 := B21.out.c0; have q21 := B21.out.c1; have p6 := B6.out.c0; have q6 := B6.out.c1; have p23 := B23.out.c0; have q23 := B23.out.c1; clear hb) | (go_at_call_of 19 (Value.slice a21 l21 c21); refine (same_yes B21.out.nu B6.out.nu rfl).mono ?_; rintro e wz ⟨rfl, hb⟩; (try have B6 := Lib.hid (B6.out.below hb)); (try have B9 := Lib.hid (B9.out.below hb)); (try have B11 := Lib.hid (B11.out.below hb)); (try have B13 := Lib.hid (B13.out.below hb)); (try have B19 := Lib.hid (B19.out.below hb)); (try have B21 := Lib.hid (B21.out.below hb)); (try have B23 := Lib.hid (B23.out.below hb)); have HWW := step1 HW HZ hb; have HW := HWW.1; have HZ := HWW.2; have HDD := step1 HD HE hb; have HD := HDD.1; have HE := HDD.2; clear HWW HDD; have p9 := B9.out.c0; have q9 := B9.out.c1; have p11 := B11.out.c0; have q11 := B11.out.c1; have p13 := B13.out.c0; have q13 := B13.out.c1; have p19 := B19.out.c0; have q19 := B19.out.c1; have p21 := B21.out.c0; have q21 := B21.out.c1; have p6 := B6.out.c0; have q6 := B6.out.c1; have p23 := B23.out.c0; have q23 := B23.out.c1; clear hb))
  clear p9 q9 p11 q11 p13 q13 p19 q19 p21 q21 p6 q6 p23 q23 B9 B11 B13 B19 B21 B23
  obtain ⟨u0, u1⟩ := (HBL.out _ HD.out).2
  go_region
  clear u0 u1
  obtain ⟨W, hW⟩ : ∃ W, W = wz.drew := ⟨_, rfl⟩
  have hb : Below wz.heap.size wz W := by rw [hW]; exact ⟨rfl, rfl, rfl, Nat.le_refl _, fun _ _ => rfl⟩
  rw [← hW]
  clear hW
  have B6 := Lib.hid (B6.out.below hb)
  have HWW := step1 HW HZ hb
  have HW := HWW.1
  have HZ := HWW.2
  have HDD := step1 HD HE hb
  have HD := HDD.1
  have HE := HDD.2
  clear HWW HDD hb
  have p6 := B6.out.c0
  have q6 := B6.out.c1
  go_upto_region 15 with (first | (go_at_call 20; refine (pow_fit P0 N0 B6.out.nu (by omega) EP0.out FP0.out).mono ?_; rintro e wz ⟨n27, a27, l27, c27, rfl, hn, hb⟩; (try have B6 := Lib.hid (B6.out.below hb)); have HWW := step1 HW HZ hb; have HW := HWW.1; have HZ := HWW.2; have HDD := step1 HD HE hb; have HD := HDD.1; have HE := HDD.2; clear HWW HDD; have NB := Lib.hid hn; clear hn; clear hb))
  obtain ⟨W, hW⟩ : ∃ W, W = wz.alloc (.cells #[.bool n27, .slice a27 l27 c27] 27) := ⟨_, rfl⟩
  obtain ⟨g27, hg⟩ : ∃ g, g = wz.heap.size := ⟨_, rfl⟩
  have hb : Below wz.heap.size wz W := by rw [hW]; exact alloc_b _ _
  have B27 : Hid (Bx W g27 n27 a27 l27 c27 P0) := Lib.hid (by rw [hW, hg]; exact bx_new NB.out)
  rw [← hW]
  rw [← hg]
  clear hW hg NB
  have B6 := Lib.hid (B6.out.below hb)
  have HWW := step1 HW HZ hb
  have HW := HWW.1
  have HZ := HWW.2
  have HDD := step1 HD HE hb
  have HD := HDD.1
  have HE := HDD.2
  clear HWW HDD hb 
  clear p6 q6
  have p6 := B6.out.c0
  have q6 := B6.out.c1
  go_upto_region 16 with (first | (go_at_call 20; refine (pow_fit P1 N1 B6.out.nu (by omega) EP1.out FP1.out).mono ?_; rintro e wz ⟨n29, a29, l29, c29, rfl, hn, hb⟩; (try have B6 := Lib.hid (B6.out.below hb)); (try have B27 := Lib.hid (B27.out.below hb)); have HWW := step1 HW HZ hb; have HW := HWW.1; have HZ := HWW.2; have HDD := step1 HD HE hb; have HD := HDD.1; have HE := HDD.2; clear HWW HDD; have NB := Lib.hid hn; clear hn; clear hb))
  obtain ⟨W, hW⟩ : ∃ W, W = wz.alloc (.cells #[.bool n29, .slice a29 l29 c29] 27) := ⟨_, rfl⟩
  obtain ⟨g29, hg⟩ : ∃ g, g = wz.heap.size := ⟨_, rfl⟩
  have hb : Below wz.heap.size wz W := by rw [hW]; exact alloc_b _ _
  have B29 : Hid (Bx W g29 n29 a29 l29 c29 P1) := Lib.hid (by rw [hW, hg]; exact bx_new NB.out)
  rw [← hW]
  rw [← hg]
  clear hW hg NB
  have B6 := Lib.hid (B6.out.below hb)
  have B27 := Lib.hid (B27.out.below hb)
  have HWW := step1 HW HZ hb
  have HW := HWW.1
  have HZ := HWW.2
  have HDD := step1 HD HE hb
  have HD := HDD.1
  have HE := HDD.2
  clear HWW HDD hb 
  clear p6 q6
  have p6 := B6.out.c0
  have q6 := B6.out.c1
  go_upto_region 17 with (first | (go_at_call 20; refine (HPW.out _ _ B6.out.nu).mono ?_; rintro e wz ⟨n31, a31, l31, c31, rfl, hn, hb⟩; (try have B6 := Lib.hid (B6.out.below hb)); (try have B27 := Lib.hid (B27.out.below hb)); (try have B29 := Lib.hid (B29.out.below hb)); have HWW := step1 HW HZ hb; have HW := HWW.1; have HZ := HWW.2; have HDD := step1 HD HE hb; have HD := HDD.1; have HE := HDD.2; clear HWW HDD; have NB := Lib.hid hn; clear hn; clear hb))
  obtain ⟨W, hW⟩ : ∃ W, W = wz.alloc (.cells #[.bool n31, .slice a31 l31 c31] 27) := ⟨_, rfl⟩
  obtain ⟨g31, hg⟩ : ∃ g, g = wz.heap.size := ⟨_, rfl⟩
  have hb : Below wz.heap.size wz W := by rw [hW]; exact alloc_b _ _
  have B31 : Hid (Bx W g31 n31 a31 l31 c31 Q) := Lib.hid (by rw [hW, hg]; exact bx_new NB.out)
  rw [← hW]
  rw [← hg]
  clear hW hg NB
  have B6 := Lib.hid (B6.out.below hb)
  have B27 := Lib.hid (B27.out.below hb)
  have B29 := Lib.hid (B29.out.below hb)
  have HWW := step1 HW HZ hb
  have HW := HWW.1
  have HZ := HWW.2
  have HDD := step1 HD HE hb
  have HD := HDD.1
  have HE := HDD.2
  clear HWW HDD hb 
  clear p6 q6
  have p27 := B27.out.c0
  have q27 := B27.out.c1
  have p29 := B29.out.c0
  have q29 := B29.out.c1
  go_upto_region 18 with (first | (go_at_call 30; refine (mul_fit Q B27.out.nu B29.out.nu EQ.out FQ.out).mono ?_; rintro e wz ⟨n33, a33, l33, c33, rfl, hn, hb⟩; (try have B6 := Lib.hid (B6.out.below hb)); (try have B27 := Lib.hid (B27.out.below hb)); (try have B29 := Lib.hid (B29.out.below hb)); (try have B31 := Lib.hid (B31.out.below hb)); have HWW := step1 HW HZ hb; have HW := HWW.1; have HZ := HWW.2; have HDD := step1 HD HE hb; have HD := HDD.1; have HE := HDD.2; clear HWW HDD; have NB := Lib.hid hn; clear hn; clear hb))
  obtain ⟨W, hW⟩ : ∃ W, W = wz.alloc (.cells #[.bool n33, .slice a33 l33 c33] 27) := ⟨_, rfl⟩
  obtain ⟨g33, hg⟩ : ∃ g, g = wz.heap.size := ⟨_, rfl⟩
  have hb : Below wz.heap.size wz W := by rw [hW]; exact alloc_b _ _
  have B33 : Hid (Bx W g33 n33 a33 l33 c33 Q) := Lib.hid (by rw [hW, hg]; exact bx_new NB.out)
  rw [← hW]
  rw [← hg]
  clear hW hg NB
  have B31 := Lib.hid (B31.out.below hb)
  have HWW := step1 HW HZ hb
  have HW := HWW.1
  have HZ := HWW.2
  have HDD := step1 HD HE hb
  have HD := HDD.1
  have HE := HDD.2
  clear HWW HDD hb 
  clear p27 q27 p29 q29
  have p31 := B31.out.c0
  have q31 := B31.out.c1
  have p33 := B33.out.c0
  have q33 := B33.out.c1
  go_wp2_with (first | (go_at_call 19; refine (same_yes B31.out.nu B33.out.nu rfl).mono ?_; rintro e wz ⟨rfl, hb⟩; have HWW := step1 HW HZ hb; have HW := HWW.1; have HZ := HWW.2; have HDD := step1 HD HE hb; have HD := HDD.1; have HE := HDD.2; clear HWW HDD; clear hb))
  go_ret
  exact ⟨rfl, HW.out⟩

end Go.Proofs.YtdgmjmckeeeljaaGreatDoor

namespace Go.Proofs.YtdgmjmckeeeljaaGreatDoor
open Go.ChangeShapes Go.WideShapes Go.ChangeAt Go.RowKit

theorem ownR : ownKnob Tryz.prog.godebug = none := by kernel_rfl

theorem u8_wfR {a : Int} (h : (Lit.int .u8 a).wf = true) : ∃ b : UInt8, a = b.toNat := by
  have h2 : 0 ≤ a ∧ a ≤ 255 := by
    simp only [Lit.wf, IntKind.min, IntKind.max, IntKind.signed, IntKind.bits, Bool.and_eq_true, decide_eq_true_eq] at h
    simpa using h
  refine ⟨UInt8.ofNat a.toNat, ?_⟩
  simp
  omega

theorem cells52 : Tryz.prog.cellsOf 52 = 3 := by kernel_rfl
theorem cells53 : Tryz.prog.cellsOf 53 = 2 := by kernel_rfl
theorem cells22 : Tryz.prog.cellsOf 22 = 1 := by kernel_rfl
theorem cells3 : Tryz.prog.cellsOf 3 = 1 := by kernel_rfl
theorem cells5 : Tryz.prog.cellsOf 5 = 1 := by kernel_rfl
theorem laidOut : laidOutB Tryz.prog = true := by kernel_rfl

theorem trod_arr2 {H : Type} {enc : TypeId × Value → H} {P : Program} {w : World} {base : Nat} {spare : Nat → Bool} {held : Bool} {t e : TypeId} {fuel : Nat} {c0 c1 : Value} {x : DataW H × List MemPlace} (ht : P.underlying t = some (.array 2 e)) (hce : P.cellsOf e = 1)
    (h : DataW.trod enc P w base spare held fuel t [c0, c1] = some x) :
    ∃ y0 y1 n, DataW.trod enc P w base spare held n e [c0] = some y0 ∧ DataW.trod enc P w base spare held n e [c1] = some y1 := by
  cases fuel with
  | zero => simp [DataW.trod] at h
  | succ n =>
    unfold DataW.trod at h
    rw [ht] at h
    have r2 : List.range 2 = [0, 1] := rfl
    simp [r2, hce] at h
    obtain ⟨_, h⟩ := h
    cases h0 : DataW.trod enc P w base spare held n e [c0] with
    | none => simp [h0] at h
    | some y0 =>
      cases h1 : DataW.trod enc P w base spare held n e [c1] with
      | none => simp [h0, h1] at h
      | some y1 => exact ⟨y0, y1, n, h0, h1⟩

theorem trod_arr3 {H : Type} {enc : TypeId × Value → H} {P : Program} {w : World} {base : Nat} {spare : Nat → Bool} {held : Bool} {t e : TypeId} {fuel : Nat} {c0 c1 c2 : Value} {x : DataW H × List MemPlace} (ht : P.underlying t = some (.array 3 e)) (hce : P.cellsOf e = 1)
    (h : DataW.trod enc P w base spare held fuel t [c0, c1, c2] = some x) :
    ∃ y0 y1 y2 n, DataW.trod enc P w base spare held n e [c0] = some y0 ∧ DataW.trod enc P w base spare held n e [c1] = some y1 ∧ DataW.trod enc P w base spare held n e [c2] = some y2 := by
  cases fuel with
  | zero => simp [DataW.trod] at h
  | succ n =>
    unfold DataW.trod at h
    rw [ht] at h
    have r2 : List.range 3 = [0, 1, 2] := rfl
    simp [r2, hce] at h
    obtain ⟨_, h⟩ := h
    cases h0 : DataW.trod enc P w base spare held n e [c0] with
    | none => simp [h0] at h
    | some y0 =>
      cases h1 : DataW.trod enc P w base spare held n e [c1] with
      | none => simp [h0, h1] at h
      | some y1 =>
        cases h2 : DataW.trod enc P w base spare held n e [c2] with
        | none => simp [h0, h1, h2] at h
        | some y2 => exact ⟨y0, y1, y2, n, h0, h1, h2⟩

theorem okWide_arr {P : Program} {W : World} {r : Reach} {b0 : Nat} {t e : TypeId} {n : Nat} {v : Value} (ht : P.underlying t = some (.array n e)) (h : Value.okWide P W r b0 t v) : ∃ cs, v = .agg cs ∧ cs.size = P.cellsOf t := by
  simp only [Value.okWide, ht] at h
  cases v <;> simp_all [Cell.okWide, Cell.ok]

theorem array_two {cs : Array Value} (h : cs.size = 2) : ∃ a b, cs = #[a, b] := by
  obtain ⟨l⟩ := cs
  match l, h with
  | [a, b], _ => exact ⟨a, b, rfl⟩
theorem array_three {cs : Array Value} (h : cs.size = 3) : ∃ a b c, cs = #[a, b, c] := by
  obtain ⟨l⟩ := cs
  match l, h with
  | [a, b, c], _ => exact ⟨a, b, c, rfl⟩

theorem spotless {W : World} {a : Addr} {v : Value} (h : W.cell? a = some v) : a.spot = none := by
  unfold World.cell? at h
  cases hb : W.heap[a.block]? with
  | none => rw [hb] at h; cases h
  | some o =>
    rw [hb] at h
    cases o <;> simp at h
    exact h.1

/-- A slice of ints that came in. -/
theorem open_li {H : Type} {enc : TypeId × Value → H} {W : World} {fuel : Nat} {c : Value} {y : DataW H × List MemPlace} (h : DataW.trod enc Tryz.prog W 0 (fun _ => true) true fuel 22 [c] = some y) : ∃ ao n cap zs, c = .slice ao n cap ∧ Li W (.slice ao n cap) zs := by
  rcases open_ints Tryz.underlying22 Tryz.underlying3 cells3 h with ⟨hcs, _⟩ | ⟨a, len, cap, zs, hcs, _, hl, hm, hz, _, hcell, _⟩
  · simp only [List.cons.injEq, and_true] at hcs
    subst hcs
    exact ⟨none, 0, 0, [], rfl, none, 0, rfl, Nat.le_refl _, Nat.zero_le _, fun h => absurd rfl h⟩
  · simp only [List.cons.injEq, and_true] at hcs
    subst hcs
    simp only [if_true] at hz
    have hlen : (zs.take len).length = len := by rw [List.length_take]; omega
    refine ⟨some a, len, cap, zs.take len, rfl, some a, cap, by rw [hlen], by rw [hlen]; exact hl, by rw [hlen]; omega, fun h0 => ?_⟩
    rw [hlen] at h0
    have hs0 := spotless (hcell 0 (by omega))
    obtain ⟨b, off, spot⟩ := a
    have hs1 : spot = none := hs0
    subst hs1
    refine ⟨b, off, rfl, fun j hj => ?_⟩
    rw [hlen] at hj
    have hc := hcell j (by omega)
    have e : (Addr.mk b off none).add j = ⟨b, off + j, none⟩ := by
      unfold Addr.add
      by_cases hj0 : j = 0
      · subst hj0; rfl
      · rw [if_neg hj0]
    rw [e] at hc
    rw [hc]
    simp [List.getD, List.getElem?_take, hj]

set_option maxRecDepth 100000 in
theorem ring_lifted (os : Os) (started : os.Started) (H : Type) (enc : TypeId × Value → H) :
    ReturnsInHanded {} Tryz.checked os 7 .any (fun w args => (Rows.numRingSpec.pre enc Tryz.prog Tryz.f7 [] false w args ∧ laidMetH Tryz.prog laidL w) ∧ sizedMet enc Tryz.prog Tryz.f7 (OpenSpec.ofChange Rows.numRingSpec) false w args)
      (Rows.numRingSpec.post enc Tryz.prog Tryz.f7 false true false false) := by
  refine returnsInHanded_of_change_and (C := Tryz.checked) (X := fun w _ => laidMetH Tryz.prog laidL w) (fun _ _ _ hh h => h.of_heap hh) ownR started (by kernel_rfl) Tryz.func7
    (ChangeSpec.witness_at (enc := enc) (C := Tryz.checked) (os := os) (X := fun w _ => laidMetH Tryz.prog laidL w) false (laidWorld os) #[.agg #[.slice none 0 0, .slice none 0 0, .slice none 0 0], .agg #[.int .u8 0, .int .u8 0]] 8 rfl (by kernel_rfl) (by kernel_rfl) (by kernel_rfl) (by kernel_rfl) (by kernel_rfl) (laidWorld_met os _)) ?_
  intro W base args ds gs before hval0 hW _ _ hL _
  have hval : ∀ (j : Nat) t v, Tryz.f7.params[j]? = some t → args[j]? = some v → Value.okWide Tryz.prog W .any base t v := hval0
  have hW' := hW
  obtain ⟨p, q, hA0, hV, rfl, hfz, hnd⟩ := hW
  have hA : DataW.TrodAll enc Tryz.prog W 0 (fun _ => true) true Tryz.f7.params.toList args.toList ds p := hA0
  rw [Tryz.params7] at hA hval
  obtain ⟨v0, vs0, d0, ds0, p0, q0, hargs, rfl, rfl, h0, r0⟩ := trodAll_cons hA
  obtain ⟨v1, vs1, d1, ds1, p1, q1, rfl, rfl, rfl, h1, r1⟩ := trodAll_cons r0
  obtain ⟨rfl, rfl, rfl⟩ := trodAll_nil r1
  obtain rfl : args = #[v0, v1] := by cases args; simp_all
  obtain ⟨rfl, rfl⟩ := trodVars_none hV
  have k0 := h0
  have k1 := h1
  have lt0 : ∀ x ∈ p0, x.block < W.heap.size := by obtain ⟨m, hm⟩ := k0; exact DataW.trod_lt m _ _ _ hm
  have lt1 : ∀ x ∈ p1, x.block < W.heap.size := by obtain ⟨m, hm⟩ := k1; exact DataW.trod_lt m _ _ _ hm
  obtain ⟨cs0, rfl, hs0⟩ := okWide_arr Tryz.underlying52 (hval 0 52 v0 rfl rfl)
  obtain ⟨u0, u1, u2, rfl⟩ := array_three (hs0.trans cells52)
  obtain ⟨cs1, rfl, hs1⟩ := okWide_arr Tryz.underlying53 (hval 1 53 v1 rfl rfl)
  obtain ⟨e0, e1, rfl⟩ := array_two (hs1.trans cells53)
  obtain ⟨f0, hf0⟩ := h0
  obtain ⟨y0, y1, y2, n, t0, t1, t2⟩ := trod_arr3 Tryz.underlying52 cells22 hf0
  obtain ⟨ao0, n0, c0, z0, rfl, L0⟩ := open_li t0
  obtain ⟨ao1, n1, c1, z1, rfl, L1⟩ := open_li t1
  obtain ⟨ao2, n2, c2, z2, rfl, L2⟩ := open_li t2
  obtain ⟨f1, hf1⟩ := h1
  obtain ⟨x0, x1, n', b0, b1⟩ := trod_arr2 Tryz.underlying53 cells5 hf1
  obtain ⟨a0, q0, _, w0⟩ := DataW.trod_int Tryz.underlying5 b0
  obtain ⟨a1, q1, _, w1⟩ := DataW.trod_int Tryz.underlying5 b1
  simp only [List.cons.injEq, and_true] at q0 q1
  subst q0 q1
  obtain ⟨E0, rfl⟩ := u8_wfR w0
  obtain ⟨E1, rfl⟩ := u8_wfR w1
  clear hA0 hval0
  simp only [List.append_nil] at hW'
  have htab := tab_of_laid hL
  refine (ring_any L0 L1 L2 E0 E1 (fun W' hb => tab_below htab hb)).mono fun e W' ⟨he, bel⟩ => ?_
  subst he
  exact ⟨_, rfl, _, _, _, [], _, [], hW', trodAll_mk1 (shut_bool Tryz.underlying4 _), (trodAll_cons_mk (Below.trod laidOut (by kernel_rfl) (of_decide_eq_true (by kernel_rfl)) k0 bel lt0) (trodAll_cons_mk (Below.trod laidOut (by kernel_rfl) (of_decide_eq_true (by kernel_rfl)) k1 bel lt1) trodAll_mk0)), rfl, bel.frame _, fun h => by cases h⟩

theorem ring_over : Rows.NumRingSaid :=
  OpenClaim.holds_of_wide 7 Tryz.f7 rfl rfl rfl rfl rfl rfl rfl ⟨rfl, rfl, rfl, rfl, rfl⟩ rfl rfl rfl rfl rfl (by kernel_rfl) Tryz.func7 (by kernel_rfl)
    (of_decide_eq_true (by kernel_rfl)) (by unfold Func.isWrapper; first | (rw [if_pos (by decide +kernel)]; kernel_rfl) | (rw [if_neg (by decide +kernel)]; exact ⟨rfl, rfl⟩))
    (fun os started H enc _ => ring_lifted os started H enc)

/-- The statement. -/
theorem numRing_holds : Rows.NumRingCardSaid :=
  Claim7.holds_tied_plain_at .later [] [.data, .data, .data, .sentinel, .sentinel] true (true, "958520932160259f8438aa7be4506227f44fa7fbd0be64069e22fe8a588b6fcf") true
    ring_over (fun _ h => by cases h) (by kernel_rfl) (fun _ h => by cases h) numRing_row_tie rfl ⟨rfl, rfl⟩ (by kernel_rfl) rfl
    (fun f fn hf hfn => by
      obtain rfl : f = 7 := Option.some.inj ((show Tryz.prog.funcNamed "equipoise/equipoiselaw01.NumRing" = some 7 by kernel_rfl).symm.trans hf) |>.symm
      obtain rfl : fn = Tryz.f7 := (Option.some.inj (Tryz.func7.symm.trans hfn)).symm
      exact ⟨by kernel_rfl, fun j t ht => by
        rw [Tryz.params7] at ht
        have h3 : t = 52 ∨ t = 53 := by
          rcases j with _ | _ | j
          · exact .inl (by simpa using ht.symm)
          · exact .inr (by simpa using ht.symm)
          · simp at ht
        rcases h3 with rfl | rfl
        · exact (show Tryz.prog.wantsStandIn 52 = false by kernel_rfl)
        · exact (show Tryz.prog.wantsStandIn 53 = false by kernel_rfl)⟩)
    (by kernel_rfl)

end Go.Proofs.YtdgmjmckeeeljaaGreatDoor

namespace Go.Proofs.YtdgmjmckeeeljaaGreatDoor
open Go.RowKit Go.Lib

theorem dec_snoc {a d : Nat} (ha : a ≠ 0) (hd : d < 10) : decDigits (a * 10 + d) = decDigits a ++ [UInt8.ofNat (48 + d)] := by
  rw [dec_ge (by omega), show (a * 10 + d) / 10 = a by omega, show (a * 10 + d) % 10 = d by omega]

theorem dig_nat {d : Nat} (hd : d < 10) : (UInt8.ofNat (48 + d)).toNat = 48 + d := by
  rw [UInt8.toNat_ofNat']
  omega

theorem dec_ne (u : Nat) : decDigits u ≠ [] := by
  by_cases h : u < 10
  · rw [decDigits_one h]; simp
  · rw [dec_ge h]; simp

theorem dig_digB {d : Nat} (hd : d < 10) : digB (UInt8.ofNat (48 + d)) = true := by
  unfold digB
  rw [dig_nat hd]
  simp
  omega

theorem dec_digB (u : Nat) : (decDigits u).all digB = true := by
  induction u using Nat.strongRecOn with
  | _ u ih =>
    by_cases h : u < 10
    · rw [decDigits_one h]
      simp only [List.all_cons, List.all_nil, Bool.and_true]
      exact dig_digB h
    · rw [dec_ge h, List.all_append, ih (u / 10) (by omega)]
      simp only [List.all_cons, List.all_nil, Bool.and_true, Bool.true_and]
      exact dig_digB (by omega)

theorem dec_val (u : Nat) : decV 0 (decDigits u) = u := by
  induction u using Nat.strongRecOn with
  | _ u ih =>
    by_cases h : u < 10
    · rw [decDigits_one h]
      show 0 * 10 + ((UInt8.ofNat (48 + u)).toNat - 48) = u
      rw [dig_nat h]
      omega
    · rw [dec_ge h, decV_append, ih (u / 10) (by omega)]
      show u / 10 * 10 + ((UInt8.ofNat (48 + u % 10)).toNat - 48) = u
      rw [dig_nat (by omega)]
      omega

theorem dec_head (u : Nat) (h0 : u ≠ 0) : ((decDigits u).getD 0 0).toNat ≠ 48 := by
  induction u using Nat.strongRecOn with
  | _ u ih =>
    by_cases h : u < 10
    · rw [decDigits_one h]
      show (UInt8.ofNat (48 + u)).toNat ≠ 48
      rw [dig_nat h]
      omega
    · have hl : 0 < (decDigits (u / 10)).length := List.length_pos_iff.2 (dec_ne _)
      rw [dec_ge h, List.getD_eq_getElem?_getD, List.getElem?_append_left hl, ← List.getD_eq_getElem?_getD]
      exact ih (u / 10) (by omega) (by omega)

theorem dec_len : ∀ (k u : Nat), u < 10 ^ (k + 1) → (decDigits u).length ≤ k + 1
  | 0, u, h => by rw [decDigits_one (by simpa using h)]; simp
  | k + 1, u, h => by
    by_cases h2 : u < 10
    · rw [decDigits_one h2]; simp
    · rw [dec_ge h2, List.length_append, List.length_singleton]
      have := dec_len k (u / 10) (by rw [Nat.div_lt_iff_lt_mul (by omega)]; rwa [Nat.pow_succ] at h)
      omega

theorem dec_one {u : Nat} (h : (decDigits u).length = 1) : u < 10 := by
  by_cases h2 : u < 10
  · exact h2
  · rw [dec_ge h2, List.length_append, List.length_singleton] at h
    have := List.length_pos_iff.2 (dec_ne (u / 10))
    omega

theorem dec_minus (u : Nat) : (decDigits u).getD 0 0 ≠ 45 := by
  have h := dec_digB u
  match hm : decDigits u with
  | [] => exact absurd hm (dec_ne u)
  | b :: r =>
    rw [hm] at h
    simp only [List.all_cons, Bool.and_eq_true] at h
    have h5 := h.1
    unfold digB at h5
    simp only [Bool.and_eq_true, decide_eq_true_eq] at h5
    show b ≠ 45
    intro e
    subst e
    exact absurd h5.1 (by decide)

set_option exponentiation.threshold 3000 in
theorem decB_dec (u : Nat) (h : u < 10 ^ 2467) : decB ⟨(decDigits u).toArray⟩ = true := by
  have hl := dec_len 2466 u h
  have hp := List.length_pos_iff.2 (dec_ne u)
  have hs : (⟨(decDigits u).toArray⟩ : ByteArray).size = (decDigits u).length := rfl
  unfold decB
  rw [hs]
  simp only [Bool.and_eq_true, Bool.or_eq_true, decide_eq_true_eq]
  refine ⟨⟨⟨by omega, by omega⟩, ?_⟩, dec_digB u⟩
  by_cases h0 : u = 0
  · right; rw [h0, decDigits_one (by omega)]; rfl
  · left; exact dec_head u h0

theorem pre_minus (l : List UInt8) : hasPrefix (45 :: l) [45] = true ∧ trimPrefix (45 :: l) [45] = l := by
  have h : hasPrefix (45 :: l) [45] = true := by
    unfold hasPrefix
    rw [List.isPrefixOf, beq_self_eq_true]
    rfl
  refine ⟨h, ?_⟩
  unfold trimPrefix
  rw [if_pos h]
  rfl

theorem pre_none (l : List UInt8) (h0 : l ≠ []) (h : l.getD 0 0 ≠ 45) : hasPrefix l [45] = false ∧ trimPrefix l [45] = l := by
  have e : hasPrefix l [45] = false := by
    match l, h0, h with
    | b :: r, _, h =>
      have h : b ≠ 45 := h
      unfold hasPrefix
      rw [List.isPrefixOf, beq_eq_false_iff_ne.2 (Ne.symm h)]
      rfl
  refine ⟨e, ?_⟩
  unfold trimPrefix
  rw [e]
  rfl

set_option exponentiation.threshold 3000 in
theorem parse_txt (a : Int) (h : a.natAbs < 10 ^ 2467) : parseZ ⟨(txt a).toArray⟩ = some a := by
  have hd := decB_dec a.natAbs h
  by_cases ha : a < 0
  · have e : txt a = 45 :: decDigits a.natAbs := by unfold txt; rw [if_pos ha]; rfl
    have h1 : cutT ⟨(45 :: decDigits a.natAbs).toArray⟩ = ⟨(decDigits a.natAbs).toArray⟩ := by
      unfold cutT
      rw [show (⟨(45 :: decDigits a.natAbs).toArray⟩ : ByteArray).data.toList = 45 :: decDigits a.natAbs from rfl, (pre_minus _).2]
    have h2 : cutN ⟨(45 :: decDigits a.natAbs).toArray⟩ = true := (pre_minus _).1
    have h3 : isZ ⟨(decDigits a.natAbs).toArray⟩ = false := by
      unfold isZ
      rw [beq_eq_false_iff_ne]
      intro e
      have e : decDigits a.natAbs = [48] := e
      have := dec_head a.natAbs (by omega)
      rw [e] at this
      exact this rfl
    unfold parseZ
    rw [e, h1, h2, h3, hd]
    simp only [true_and, Bool.false_eq_true, and_false, not_false_eq_true, if_true]
    rw [dec_val]
    congr 1
    omega
  · have e : txt a = decDigits a.natAbs := by unfold txt; rw [if_neg ha]; rfl
    have hn := pre_none _ (dec_ne a.natAbs) (dec_minus a.natAbs)
    have h1 : cutT ⟨(decDigits a.natAbs).toArray⟩ = ⟨(decDigits a.natAbs).toArray⟩ := by
      unfold cutT
      rw [show (⟨(decDigits a.natAbs).toArray⟩ : ByteArray).data.toList = decDigits a.natAbs from rfl, hn.2]
    have h2 : cutN ⟨(decDigits a.natAbs).toArray⟩ = false := hn.1
    unfold parseZ
    rw [e, h1, h2, hd]
    simp only [Bool.false_eq_true, false_and, not_false_eq_true, and_self, if_true, if_false]
    rw [dec_val]
    congr 1
    omega

theorem pow_bits (k : Nat) : 4294967296 ^ k = 2 ^ (32 * k) := by rw [Nat.pow_mul]

/-- The number of binary digits of a number other than 0. -/
theorem bits_bounds {n : Nat} (h0 : n ≠ 0) (hl : (digs n).length ≤ 256) (neg : Bool) (L : Nat) (hL : bitsB neg (digs n) = L) : 1 ≤ L ∧ 2 ^ (L - 1) ≤ n ∧ n < 2 ^ L := by
  have hne : digs n ≠ [] := by rw [digs_pos h0]; simp
  obtain ⟨m, hm⟩ : ∃ m, (digs n).length = m + 1 := ⟨(digs n).length - 1, by have := List.length_pos_iff.2 hne; omega⟩
  have hlast := digs_last n
  rw [List.getLast?_eq_getElem?, hm, Nat.add_sub_cancel] at hlast
  obtain ⟨d, hd⟩ : ∃ d, d = (digs n).getD m 0 := ⟨_, rfl⟩
  have hd0 : d ≠ 0 := by
    intro e
    apply hlast
    rw [List.getElem?_eq_getElem (by omega)]
    rw [List.getD_eq_getElem?_getD, List.getElem?_eq_getElem (by omega)] at hd
    rw [← e, hd]
    rfl
  have hr : rightB neg (digs n) = true := by
    unfold rightB
    rw [if_neg hne, hm, Nat.add_sub_cancel, ← hd]
    simp only [Bool.and_eq_true, decide_eq_true_eq]
    exact ⟨by omega, hd0⟩
  unfold bitsB at hL
  rw [if_neg hne, if_pos hr, hm, Nat.add_sub_cancel, ← hd] at hL
  have hdl : d < 4294967296 := by rw [hd, digs_getD]; exact Nat.mod_lt _ (by omega)
  obtain ⟨b1, b2, b3⟩ := bitLenAux_bounds 64 d (by omega) hd0
  have hL : 32 * m + bitLenAux 64 d = L := hL
  obtain ⟨c, hc⟩ : ∃ c, c = bitLenAux 64 d := ⟨_, rfl⟩
  rw [← hc] at b1 b2 b3 hL
  have hn : n = n % 4294967296 ^ m + 4294967296 ^ m * d := by
    have h1 : n / 4294967296 ^ m = d := by
      rw [hd, digs_getD]
      rw [Nat.mod_eq_of_lt]
      rw [Nat.div_lt_iff_lt_mul (Nat.pow_pos (by omega)), Nat.mul_comm, ← Nat.pow_succ]
      exact digs_length_le.1 (by omega)
    have := Nat.mod_add_div n (4294967296 ^ m)
    rw [h1] at this
    exact this.symm
  have hm2 : n % 4294967296 ^ m < 4294967296 ^ m := Nat.mod_lt _ (Nat.pow_pos (by omega))
  rw [pow_bits] at hn hm2
  obtain ⟨P, hP⟩ : ∃ P, P = 2 ^ (32 * m) := ⟨_, rfl⟩
  obtain ⟨R, hR⟩ : ∃ R, R = n % P := ⟨_, rfl⟩
  rw [← hP, ← hR] at hn hm2
  refine ⟨by omega, ?_, ?_⟩
  · rw [← hL, show 32 * m + c - 1 = 32 * m + (c - 1) by omega, Nat.pow_add, ← hP]
    have := Nat.mul_le_mul_left P b2
    omega
  · rw [← hL, Nat.pow_add, ← hP]
    have h1 : P * (d + 1) ≤ P * 2 ^ c := Nat.mul_le_mul_left P b3
    rw [Nat.mul_succ] at h1
    omega

theorem bits_unique {n i j : Nat} (h1 : 2 ^ (i - 1) ≤ n) (h2 : n < 2 ^ i) (h3 : 2 ^ (j - 1) ≤ n) (h4 : n < 2 ^ j) (hi : 1 ≤ i) (hj : 1 ≤ j) : i = j := by
  rcases Nat.lt_trichotomy i j with h | h | h
  · have := Nat.pow_le_pow_right (n := 2) (by omega) (show i ≤ j - 1 by omega)
    omega
  · exact h
  · have := Nat.pow_le_pow_right (n := 2) (by omega) (show j ≤ i - 1 by omega)
    omega

/-- Bits of a product. -/
theorem bits_mul {n m i j k : Nat} (hi : 1 ≤ i ∧ 2 ^ (i - 1) ≤ n ∧ n < 2 ^ i) (hj : 1 ≤ j ∧ 2 ^ (j - 1) ≤ m ∧ m < 2 ^ j) (hk : 1 ≤ k ∧ 2 ^ (k - 1) ≤ n * m ∧ n * m < 2 ^ k) : k = i + j ∨ k = i + j - 1 := by
  have h1 : 2 ^ (i + j - 2) ≤ n * m := by
    have := Nat.mul_le_mul hi.2.1 hj.2.1
    rwa [← Nat.pow_add, show i - 1 + (j - 1) = i + j - 2 by omega] at this
  have h2 : n * m < 2 ^ (i + j) := by
    rw [Nat.pow_add]
    exact Nat.mul_lt_mul'' hi.2.2 hj.2.2
  rcases Nat.lt_trichotomy k (i + j - 1) with h | h | h
  · have := Nat.pow_le_pow_right (n := 2) (by omega) (show k ≤ i + j - 2 by omega)
    omega
  · exact .inr h
  · rcases Nat.lt_or_ge (i + j) k with h3 | h3
    · have := Nat.pow_le_pow_right (n := 2) (by omega) (show i + j ≤ k - 1 by omega)
      omega
    · left; omega

theorem dec_minus_txt (U : Nat) : txt (U : Int) = decDigits U := by
  unfold txt
  rw [if_neg (by omega)]
  rfl
theorem txt_next {U D : Nat} (h : U ≠ 0) (hD : D < 10) : txt ((U : Int) * 10 + (D : Int)) = txt (U : Int) ++ [UInt8.ofNat (48 + D)] := by
  rw [show (U : Int) * 10 + (D : Int) = ((U * 10 + D : Nat) : Int) by omega, dec_minus_txt, dec_minus_txt, dec_snoc h hD]
theorem txt_dig {D : Nat} (hD : D < 10) : txt (D : Int) = [UInt8.ofNat (48 + D)] := by
  rw [dec_minus_txt, decDigits_one hD]
theorem txt_zero : txt 0 = [48] := by
  rw [show (0 : Int) = ((0 : Nat) : Int) from rfl, dec_minus_txt, decDigits_one (by omega)]
  rfl
theorem txt_neg {A : Int} (h : A < 0) : txt A = 45 :: txt (A.natAbs : Int) := by
  rw [dec_minus_txt]
  unfold txt
  rw [if_pos h]
  rfl
set_option exponentiation.threshold 3000 in
theorem six_dec {n : Nat} (h : n < 4294967296 ^ 6) : n < 10 ^ 2467 := by
  have h1 : 4294967296 ^ 6 ≤ (10 ^ 10) ^ 6 := Nat.pow_le_pow_left (by decide) 6
  rw [← Nat.pow_mul] at h1
  have h2 : 10 ^ (10 * 6) ≤ 10 ^ 2467 := Nat.pow_le_pow_right (by decide) (by decide)
  exact Nat.lt_of_lt_of_le h (Nat.le_trans h1 h2)
theorem parse_back {A : Int} (h : A.natAbs < 4294967296 ^ 6) : parseZ ⟨(txt A).toArray⟩ = some A := parse_txt A (six_dec h)

theorem conv_one {W : World} {g D : Nat} {TD : ByteArray} (hD : D < 10) (hT : (⟨#[UInt8.ofNat (48 + D)]⟩ : ByteArray) = TD) (hg : W.heap[g]? = some (.cells #[.int .u8 (48 + (D : Int))] 5 (0, 0))) : (convert 56 9 (.slice (some ⟨g, 0, none⟩) 1 1)).run Tryz.prog W = .ok (.string TD) W := by
  subst hT
  have h : Lib.Bytes W g 0 ⟨#[UInt8.ofNat (48 + D)]⟩ := fun i hi => by
    have hi : i < 1 := hi
    obtain rfl : i = 0 := by omega
    rw [cell_of_row _ _ _ _ _ _ hg]
    show some (Value.int .u8 (48 + (D : Int))) = some (Value.int .u8 (((UInt8.ofNat (48 + D)).toNat : Nat) : Int))
    rw [dig_nat hD]
    rfl
  exact Lib.run_convert_whole (P := Tryz.prog) W 56 5 9 Tryz.underlying56 Tryz.underlying5 Tryz.underlying9 g 0 ⟨#[UInt8.ofNat (48 + D)]⟩ h 1
set_option exponentiation.threshold 3000 in
theorem txt_size {U : Nat} (h : U < 4294967296 ^ 6) : (⟨(txt (U : Int)).toArray⟩ : ByteArray).size < 10000 := by
  have := dec_len 2466 U (six_dec h)
  show (txt (U : Int)).toArray.size < 10000
  rw [dec_minus_txt, List.size_toArray]
  omega
theorem str_room {A B : ByteArray} (h1 : A.size < 10000) (h2 : B.size < 10000) : ¬ 9223372036854775807 < A.size + B.size := by omega

theorem nu_len {W : World} {neg : Bool} {ao : Option Addr} {n cap : Nat} {z : Int} (h : Nu W (.agg #[.bool neg, .slice ao n cap]) z) : n = (digs z.natAbs).length := by
  obtain ⟨s, e, hs, hl⟩ := h
  injection e with e
  simp only [Array.mk.injEq, List.cons.injEq, and_true] at e
  obtain ⟨_, rfl⟩ := e
  exact hs.size
theorem nu_sign {W : World} {neg : Bool} {s : Value} {z : Int} (h : Nu W (.agg #[.bool neg, s]) z) : neg = decide (z < 0) := by
  obtain ⟨s', e, hs, hl⟩ := h
  injection e with e
  simp only [Array.mk.injEq, List.cons.injEq, and_true] at e
  obtain ⟨e1, _⟩ := e
  cases e1
  rfl
theorem zero_digit {U D : Nat} {TA TD TB : ByteArray} {TN NX : Int} (hD : D < 10) (hU : U = 0) (h1 : (⟨(txt (U : Int)).toArray⟩ : ByteArray) = TA) (h2 : (⟨#[UInt8.ofNat (48 + D)]⟩ : ByteArray) = TD) (h3 : (⟨(txt NX).toArray⟩ : ByteArray) = TB) (h4 : NX = TN + (D : Int)) (h5 : TN = (U : Int) * 10) :
    (TA ++ TD).size = 2 ∧ (TA ++ TD).extract (min (1 : Int) 2).toNat 2 = TB := by
  subst hU
  rw [show ((0 : Nat) : Int) = 0 from rfl, txt_zero] at h1
  rw [h5, show ((0 : Nat) : Int) * 10 = 0 from rfl, Int.zero_add] at h4
  rw [h4, txt_dig hD] at h3
  subst h1 h2 h3
  exact ⟨rfl, rfl⟩
theorem some_digit {U D : Nat} {TA TD TB : ByteArray} {TN NX : Int} (hD : D < 10) (hU : U ≠ 0) (h1 : (⟨(txt (U : Int)).toArray⟩ : ByteArray) = TA) (h2 : (⟨#[UInt8.ofNat (48 + D)]⟩ : ByteArray) = TD) (h3 : (⟨(txt NX).toArray⟩ : ByteArray) = TB) (h4 : NX = TN + (D : Int)) (h5 : TN = (U : Int) * 10) :
    TA ++ TD = TB := by
  rw [h4, h5, txt_next hU hD] at h3
  subst h1 h2 h3
  apply ByteArray.ext
  simp

theorem parse_txt_yes (W : World) {A : Int} {TX : ByteArray} (h : A.natAbs < 4294967296 ^ 6) (e : (⟨(txt A).toArray⟩ : ByteArray) = TX) : Calls Tryz.prog 24 #[.string TX] W (YesN W A) := by
  subst e
  refine (parse_any _ W).mono fun e w' hp => ?_
  rw [parse_back h] at hp
  exact NumRes.yes hp (decide_eq_true (Nat.le_trans (digs_length_le.2 h) (by omega)))
theorem neg_text {A : Int} {U : Nat} {TA TX : ByteArray} (h : A < 0) (hU : U = A.natAbs) (h1 : (⟨(txt (U : Int)).toArray⟩ : ByteArray) = TA) (h2 : (⟨(txt A).toArray⟩ : ByteArray) = TX) : (⟨#[45]⟩ : ByteArray) ++ TA = TX := by
  rw [txt_neg h, ← hU] at h2
  subst h1 h2
  apply ByteArray.ext
  simp
theorem b_drew (w : World) : Below w.heap.size w w.drew := ⟨rfl, rfl, rfl, Nat.le_refl _, fun _ _ => rfl⟩

theorem bits_facts {A : Int} {K : Nat} (h : A.natAbs < 4294967296 ^ 6) (h0 : ¬ A = 0) (hK : bitsB (decide (A < 0)) (digs A.natAbs) = K) : 1 ≤ K ∧ 2 ^ (K - 1) ≤ A.natAbs ∧ A.natAbs < 2 ^ K :=
  bits_bounds (by omega) (Nat.le_trans (digs_length_le.2 h) (by omega)) _ _ hK
theorem bits_least {U K : Nat} (b2 : 2 ^ (K - 1) ≤ U) (h : U < 4294967296 ^ 6) (b1 : 1 ≤ K) : K ≤ 192 := by
  have h1 : 2 ^ (K - 1) < 2 ^ 192 := by
    have e : (4294967296 : Nat) ^ 6 = 2 ^ 192 := by decide
    rw [e] at h
    exact Nat.lt_of_le_of_lt b2 h
  have := (Nat.pow_lt_pow_iff_right (show 1 < 2 by omega)).1 h1
  omega
theorem bits_prod {A B M : Int} {KA KB : Nat} (hA : A.natAbs < 4294967296 ^ 6) (hB : B.natAbs < 4294967296 ^ 6) (a0 : ¬ A = 0) (b0 : ¬ B = 0) (hM : M = A * B) (hKA : KA = bitsB (decide (A < 0)) (digs A.natAbs)) (hKB : KB = bitsB (decide (B < 0)) (digs B.natAbs)) :
    bitsB (decide (M < 0)) (digs M.natAbs) = KA + KB ∨ bitsB (decide (M < 0)) (digs M.natAbs) = KA + KB - 1 := by
  have ha := bits_facts hA a0 hKA.symm
  have hb := bits_facts hB b0 hKB.symm
  have e : M.natAbs = A.natAbs * B.natAbs := by rw [hM, Int.natAbs_mul]
  have hm0 : M.natAbs ≠ 0 := by rw [e]; exact Nat.mul_ne_zero (by omega) (by omega)
  have hml : M.natAbs < 4294967296 ^ 12 := by
    rw [e, show (4294967296 : Nat) ^ 12 = 4294967296 ^ 6 * 4294967296 ^ 6 from by rw [← Nat.pow_add]]
    exact Nat.mul_lt_mul'' hA hB
  have hm := bits_bounds hm0 (Nat.le_trans (digs_length_le.2 hml) (by omega)) (decide (M < 0)) _ rfl
  rw [e] at hm ⊢
  exact bits_mul ha hb hm
theorem prod_len {A B M : Int} {l : Nat} (hl : l = (digs M.natAbs).length) (hM : M = A * B) (a0 : ¬ A = 0) (b0 : ¬ B = 0) : l ≠ 0 := by
  intro e
  rw [hl] at e
  have : M.natAbs = 0 := digs_inj (by rw [List.eq_nil_of_length_eq_zero e, digs_zero])
  rw [hM, Int.natAbs_mul] at this
  rcases Nat.mul_eq_zero.1 this with h | h <;> omega
theorem fits_two {k : Nat} (h : k ≤ 250) : fitsB ((2 : Int) ^ k).natAbs = true := by
  refine decide_eq_true (Nat.le_trans ((digs_length_le (k := 8)).2 ?_) (by omega))
  rw [Int.natAbs_pow, show (4294967296 : Nat) = 2 ^ 32 from rfl, ← Nat.pow_mul]
  exact Nat.pow_lt_pow_right (by decide) (by omega)
theorem nat_lt_pow {u k : Nat} (h : u < 2 ^ k) : (u : Int) < 2 ^ k := by exact_mod_cast h
theorem nat_pow_le {u k : Nat} (h : 2 ^ k ≤ u) : (2 : Int) ^ k ≤ (u : Int) := by exact_mod_cast h
theorem cmp_less {w : World} {x y : Value} {a b : Int} (hx : Nu w x a) (hy : Nu w y b) (h : a < b) : Calls Tryz.prog 31 #[x, y] w fun e w' => e = .returned (.int .i64 (-1)) ∧ Below w.heap.size w w' := by
  have := cmp_any hx hy
  rwa [show cmpZ a b = -1 by unfold cmpZ; rw [if_pos h]] at this
theorem cmp_ge {a b : Int} (h : b ≤ a) : 0 ≤ cmpZ a b := by
  unfold cmpZ
  rw [if_neg (by omega)]
  split <;> decide

end Go.Proofs.YtdgmjmckeeeljaaGreatDoor
