/- Regions that draw their order, met by what holds behind each set of their operations; one whose results are known and which stores once. No condition. Regions that draw their order, by what each result is and what the world is, where the world is told by the results. No condition. Numbers in boxes that are written again. No condition beyond those that are stated. The law's product(25). Condition: a number that is not negative, one from 0 to 1000, a product of at most 100 digits. -/
import Derived.OrdersIn
import Derived.WalkKit
import Derived.OwnWalkIn
import Derived.Test.YtjlneggfkpjnpaaMb1
import Derived.Test.YtjlneggfkpjnpaaMb8
set_option linter.unusedSimpArgs false
set_option linter.unusedVariables false
namespace Go.Proofs.Ytjlneggfkpjnpaa
open Go Go.RowKit

section

variable {F : Fence} {n : Nat} {P : Program} {ops : Array Oper} {Q : Exit → Act → World → Prop} {md : Region.Mode}

def left (l : Array Bool) : Nat := (l.toList.filter (!·)).length

theorem left_zero {l : Array Bool} (h : left l = 0) (j : Nat) : l.getD j true = true := by
  have h0 : l.toList.filter (!·) = [] := List.eq_nil_of_length_eq_zero h
  by_cases hj : j < l.size
  · have hm : l[j] ∈ l.toList := by simp
    have := List.filter_eq_nil_iff.1 h0 _ hm
    simpa [Array.getD, hj] using this
  · simp [Array.getD, hj]

theorem filter_set : ∀ (l : List Bool) (i : Nat), l[i]? = some false → ((l.set i true).filter (!·)).length + 1 = (l.filter (!·)).length := by
  intro l
  induction l with
  | nil => intro i h; simp at h
  | cons b l ih =>
    intro i h
    cases i with
    | zero => simp at h; subst h; simp
    | succ i =>
      have := ih i (by simpa using h)
      cases b <;> simp only [List.set_cons_succ, List.filter_cons] <;> simp <;> omega

theorem left_set {l : Array Bool} {i : Nat} (h : l.getD i true = false) : left (l.setIfInBounds i true) + 1 = left l := by
  unfold left
  have hi : i < l.size := by
    by_cases hi : i < l.size
    · exact hi
    · simp [Array.getD, hi] at h
  rw [Array.toList_setIfInBounds]
  apply filter_set
  simp [Array.getD, hi] at h
  simp [hi, h]

theorem any_inv (R : Array Bool → Act → World → Prop)
    (hstep : ∀ l a w i, R l a w → i ∈ Region.ready md ops l → wpOpIn F n P ops Q i (R (l.setIfInBounds i true)) a w)
    (hend : ∀ l a w, R l a w → Region.ready md ops l = [] → Q .normal a w) :
    ∀ (fuel : Nat) (l : Array Bool) (a : Act) (w : World), left l ≤ fuel → R l a w → wpAnyIn F n P md ops Q fuel l a w := by
  intro fuel
  induction fuel with
  | zero =>
    intro l a w hl hr
    have hz : Region.ready md ops l = [] := by
      apply List.eq_nil_iff_forall_not_mem.2
      intro j hj
      have := (mem_ready.1 hj).1
      rw [left_zero (by omega)] at this
      cases this
    exact ⟨hz, hend l a w hr hz⟩
  | succ fuel ih =>
    intro l a w hl hr
    refine ⟨fun hz => hend l a w hr hz, fun i hi => ?_⟩
    refine wpOpIn_mono (fun a' w' hr' => ih _ a' w' ?_ hr') (hstep l a w i hr hi)
    have := left_set (mem_ready.1 hi).1
    omega

/-- **A region that draws, by what holds behind each set of its operations.** -/
theorem region_inv {id : Nat} {a : Act} {w : World} (hm : P.follows .mixedOrders = true) (R : Array Bool → Act → World → Prop)
    (h0 : R (Array.replicate ops.size false) a w.drew)
    (hstep : ∀ l a w i, R l a w → i ∈ Region.ready .any ops l → wpOpIn F n P ops Q i (R (l.setIfInBounds i true)) a w)
    (hend : ∀ l a w, R l a w → Region.ready .any ops l = [] → Q .normal a w) : (Code.region id ops true).wpIn F n P Q a w := by
  refine wpIn_region_any hm (any_inv R hstep hend _ _ _ _ ?_ h0)
  unfold left
  rw [Array.toList_replicate]
  exact Nat.le_trans (List.length_filter_le _ _) (by simp)

/-- The frame when the operations of l are done: each one's slot holds its value, whatever else is as it was. -/
structure FrT (own : Nat → Option (Nat × Value)) (T : Array Value) (l : Array Bool) (a : Act) : Prop where
  defers : a.defers = []
  size : a.tmps.size = T.size
  slot : ∀ j, j < T.size → a.tmps.getD j undef = match own j with
    | some (i, v) => if l.getD i true = true then v else T.getD j undef
    | none => T.getD j undef

theorem FrT.start (own : Nat → Option (Nat × Value)) (T : Array Value) (l : Array Bool) (h : ∀ j i v, own j = some (i, v) → l.getD i true = false) : FrT own T l ⟨T, []⟩ :=
  ⟨rfl, rfl, fun j _ => by
    cases ho : own j with
    | none => rfl
    | some p => obtain ⟨i, v⟩ := p; simp only []; rw [h j i v ho]; rfl⟩

/-- An operation with a slot of its own. -/
theorem FrT.put {own : Nat → Option (Nat × Value)} {T : Array Value} {l : Array Bool} {a : Act} (h : FrT own T l a) {i d : Nat} {v : Value} (hd : own d = some (i, v)) (hi : i < l.size) (hu : ∀ j p, own j = some p → p.1 = i → j = d) : FrT own T (l.setIfInBounds i true) (a.put (some d) v) := by
  refine ⟨h.defers, by simp [Act.put, h.size], fun j hj => ?_⟩
  have hs := h.slot j hj
  by_cases hjd : j = d
  · subst hjd
    have hsz : j < a.tmps.size := by rw [h.size]; exact hj
    simp [Act.put, Array.getD, hsz, hd, hi]
  · have e1 : (a.put (some d) v).tmps.getD j undef = a.tmps.getD j undef := by
      simp only [Act.put, Array.getD_eq_getD_getElem?]
      rw [Array.getElem?_setIfInBounds_ne (by omega)]
    rw [e1, hs]
    cases ho : own j with
    | none => rfl
    | some p =>
      obtain ⟨k, u⟩ := p
      simp only []
      have hk : k ≠ i := fun e => hjd (hu j _ ho e)
      rw [getD_set_ne true (by omega)]

/-- An operation without one. -/
theorem FrT.bare {own : Nat → Option (Nat × Value)} {T : Array Value} {l : Array Bool} {a : Act} (h : FrT own T l a) {i : Nat} (v : Value) (hu : ∀ j p, own j = some p → p.1 ≠ i) : FrT own T (l.setIfInBounds i true) (a.put none v) := by
  refine ⟨h.defers, h.size, fun j hj => ?_⟩
  show a.tmps.getD j undef = _
  rw [h.slot j hj]
  cases ho : own j with
  | none => rfl
  | some p =>
    obtain ⟨k, u⟩ := p
    simp only []
    rw [getD_set_ne true (fun e => hu j _ ho e.symm)]

/-- What a slot holds whose operation is done. -/
theorem FrT.done {own : Nat → Option (Nat × Value)} {T : Array Value} {l : Array Bool} {a : Act} (h : FrT own T l a) {i j : Nat} {v : Value} (hd : own j = some (i, v)) (hl : l.getD i false = true) (hj : j < T.size) : a.tmps.getD j undef = v := by
  have hl' : l.getD i true = true := by
    have hi : i < l.size := by
      by_cases hi : i < l.size
      · exact hi
      · simp [Array.getD, hi] at hl
    simp [Array.getD, hi] at hl ⊢
    exact hl
  rw [h.slot j hj, hd]
  simp only []
  rw [if_pos hl']

/-- What a slot holds that is none of the region's. -/
theorem FrT.kept {own : Nat → Option (Nat × Value)} {T : Array Value} {l : Array Bool} {a : Act} (h : FrT own T l a) {j : Nat} (hd : own j = none) (hj : j < T.size) : a.tmps.getD j undef = T.getD j undef := by
  rw [h.slot j hj, hd]

/-- The frame when all is done. -/
theorem FrT.all {own : Nat → Option (Nat × Value)} {T T' : Array Value} {l : Array Bool} {a : Act} (h : FrT own T l a) (hl : ∀ j i v, own j = some (i, v) → l.getD i true = true) (hs : T'.size = T.size)
    (ht : ∀ j, j < T.size → T'.getD j undef = match own j with | some (_, v) => v | none => T.getD j undef) : a = ⟨T', []⟩ := by
  obtain ⟨tmps, defers⟩ := a
  obtain ⟨h1, h2, h3⟩ := h
  simp only at h1 h2 h3
  subst h1
  congr 1
  apply Array.ext
  · rw [h2, hs]
  · intro j hj1 hj2
    have e := h3 j (by omega)
    have e' := ht j (by omega)
    have x1 : tmps.getD j undef = tmps[j] := by simp [Array.getD, hj1]
    have x2 : T'.getD j undef = T'[j] := by simp [Array.getD, hj2]
    rw [← x1, ← x2, e, e']
    cases ho : own j with
    | none => rfl
    | some p => obtain ⟨i, v⟩ := p; simp only []; rw [hl j i v ho]; rfl


end

theorem getD_true {l : Array Bool} {j : Nat} (h : l.getD j false = true) : l.getD j true = true := by
  by_cases hj : j < l.size
  · simp [Array.getD, hj] at h ⊢
    exact h
  · simp [Array.getD, hj] at h

theorem FrT.swap {own own' : Nat → Option (Nat × Value)} {T : Array Value} {l : Array Bool} {a : Act} (h : FrT own T l a)
    (h1 : ∀ j p, own' j = some p → l.getD p.1 true = true → own j = some p) (h2 : ∀ j p, own j = some p → l.getD p.1 true = true → own' j = some p) : FrT own' T l a := by
  refine ⟨h.defers, h.size, fun j hj => ?_⟩
  have hs := h.slot j hj
  cases ho' : own' j with
  | none =>
    cases ho : own j with
    | none => rw [ho] at hs; exact hs
    | some p =>
      rw [ho] at hs
      obtain ⟨i, v⟩ := p
      simp only [] at hs ⊢
      by_cases hd : l.getD i true = true
      · have := h2 j _ ho hd
        rw [ho'] at this
        cases this
      · rw [if_neg hd] at hs; exact hs
  | some p =>
    obtain ⟨i, v⟩ := p
    simp only []
    by_cases hd : l.getD i true = true
    · have := h1 j _ ho' hd
      rw [this] at hs
      simp only [] at hs
      exact hs
    · rw [if_neg hd]
      cases ho : own j with
      | none => rw [ho] at hs; exact hs
      | some q =>
        obtain ⟨i2, v2⟩ := q
        rw [ho] at hs
        simp only [] at hs
        by_cases hd2 : l.getD i2 true = true
        · have := h2 j _ ho hd2
          rw [ho'] at this
          cases this
          exact absurd hd2 hd
        · rw [if_neg hd2] at hs; exact hs

theorem gset_true {l : Array Bool} {i j : Nat} (h : (l.setIfInBounds i true).getD j true = true) : j = i ∨ l.getD j true = true := by
  by_cases e : j = i
  · exact .inl e
  · rw [getD_set_ne true (fun h => e h.symm)] at h
    exact .inr h
theorem gset_false {l : Array Bool} {i j : Nat} (h : (l.setIfInBounds i true).getD j true = false) : j ≠ i ∧ l.getD j true = false := by
  by_cases e : j = i
  · subst e
    simp [Array.getD] at h
  · rw [getD_set_ne true (fun h => e h.symm)] at h
    exact ⟨e, h⟩
theorem gset_old {l : Array Bool} {i j : Nat} (h : l.getD j true = true) : (l.setIfInBounds i true).getD j true = true := by
  by_cases e : j = i
  · subst e
    simp [Array.getD]
  · rw [getD_set_ne true (fun h => e h.symm)]; exact h

/-- The slot that each operation writes, and what it holds. -/
def tOwn (ds : List (Option Nat)) (vals : Nat → Value) (j : Nat) : Option (Nat × Value) :=
  match ds.findIdx? (fun x => x == some j) with
  | some i => some (i, vals i)
  | none => none

theorem tOwn_some {ds : List (Option Nat)} {vals : Nat → Value} {j i : Nat} (h : ds.findIdx? (fun x => x == some j) = some i) : tOwn ds vals j = some (i, vals i) := by
  unfold tOwn
  rw [h]
theorem tOwn_inv {ds : List (Option Nat)} {vals : Nat → Value} {j : Nat} {p : Nat × Value} (h : tOwn ds vals j = some p) : ds[p.1]? = some (some j) ∧ p.2 = vals p.1 := by
  unfold tOwn at h
  split at h
  · rename_i i hi
    cases h
    rw [List.findIdx?_eq_some_iff_getElem] at hi
    obtain ⟨h1, h2, _⟩ := hi
    exact ⟨by rw [List.getElem?_eq_getElem h1]; rw [beq_iff_eq] at h2; rw [h2], rfl⟩
  · cases h


section
variable {ds : List (Option Nat)} {vals : Nat → Value} {T : Array Value} {l : Array Bool} {a : Act}
theorem FrT.stepT (h : FrT (tOwn ds vals) T l a) {i d : Nat} (hd : ds.findIdx? (fun x => x == some d) = some i) (hi : i < l.size) (hl : l.getD i true = false) (v : Value) :
    FrT (tOwn ds (fun u => if u = i then v else vals u)) T (l.setIfInBounds i true) (a.put (some d) v) := by
  have hf : FrT (tOwn ds (fun u => if u = i then v else vals u)) T l a := h.swap
    (fun j p hp hq => by
      obtain ⟨h1, h2⟩ := tOwn_inv hp
      have hne : p.1 ≠ i := fun e => by rw [e, hl] at hq; cases hq
      simp only [hne, if_false] at h2
      unfold tOwn at hp ⊢
      split at hp
      · cases hp; simp only [] at h2 ⊢; rw [h2]
      · cases hp)
    (fun j p hp hq => by
      obtain ⟨h1, h2⟩ := tOwn_inv hp
      have hne : p.1 ≠ i := fun e => by rw [e, hl] at hq; cases hq
      unfold tOwn at hp ⊢
      split at hp
      · cases hp; simp only [hne, if_false]
      · cases hp)
  refine hf.put (by rw [tOwn_some hd, if_pos rfl]) hi (fun j p hp e => ?_)
  obtain ⟨h1, _⟩ := tOwn_inv hp
  rw [List.findIdx?_eq_some_iff_getElem] at hd
  obtain ⟨h2, h3, _⟩ := hd
  rw [beq_iff_eq] at h3
  rw [e, List.getElem?_eq_getElem h2, h3] at h1
  cases h1
  rfl
end


theorem dep_set {i : Nat} {ch : List (Nat × Nat)} {l : Array Bool} (h : ∀ i j, (i, j) ∈ ch → l.getD i true = true → l.getD j true = true) (hc : ∀ j, (i, j) ∈ ch → l.getD j true = true) : ∀ k j, (k, j) ∈ ch → (l.setIfInBounds i true).getD k true = true → (l.setIfInBounds i true).getD j true = true := by
  intro k j hm hk
  rcases gset_true hk with e | hk
  · subst e; exact gset_old (hc j hm)
  · exact gset_old (h k j hm hk)

/-- A region by what each operation's result is, and what the world is. -/
structure RG (ch : List (Nat × Nat)) (T : Array Value) (ds : List (Option Nat)) (Wd : Array Bool → World → Prop) (V : Nat → Value → World → Prop) (vals : Nat → Value) (l : Array Bool) (a : Act) (w : World) : Prop where
  size : l.size = ds.length
  fr : FrT (tOwn ds vals) T l a
  dep : ∀ i j, (i, j) ∈ ch → l.getD i true = true → l.getD j true = true
  wd : Wd l w
  vl : ∀ i, i < ds.length → l.getD i true = true → V i (vals i) w

section
variable {ch : List (Nat × Nat)} {T : Array Value} {ds : List (Option Nat)} {Wd : Array Bool → World → Prop} {V : Nat → Value → World → Prop} {vals : Nat → Value} {l : Array Bool} {a : Act} {w w' : World}

theorem RG.no (h : RG ch T ds Wd V vals l a w) {i s : Nat} (hl : l.getD i true = false) (hr : l.getD s true = true → l.getD i true = true) : l.getD s true = false := by
  cases hs : l.getD s true with
  | false => rfl
  | true => rw [hr hs] at hl; cases hl

theorem RG.get (h : RG ch T ds Wd V vals l a w) {i j : Nat} (hd : ds.findIdx? (fun x => x == some j) = some i) (hl : l.getD i false = true) (hj : j < T.size) : a.tmps.getD j undef = vals i := h.fr.done (tOwn_some hd) hl hj

/-- An operation that writes a slot. -/
theorem RG.op (h : RG ch T ds Wd V vals l a w) (i d : Nat) (v : Value) (hd : ds.findIdx? (fun x => x == some d) = some i) (hi : i < ds.length) (hl : l.getD i true = false) (hc : ∀ j, (i, j) ∈ ch → l.getD j true = true)
    (hW : Wd (l.setIfInBounds i true) w') (hS : ∀ j u, V j u w → V j u w') (hV : V i v w') :
    ∃ vals, RG ch T ds Wd V vals (l.setIfInBounds i true) (a.put (some d) v) w' := by
  refine ⟨fun u => if u = i then v else vals u, by rw [Array.size_setIfInBounds]; exact h.size, h.fr.stepT hd (by rw [h.size]; exact hi) hl v, dep_set h.dep hc, hW, fun j hj hs => ?_⟩
  by_cases e : j = i
  · subst e; rw [if_pos rfl]; exact hV
  · simp only [e, if_false]
    rcases gset_true hs with e2 | hs
    · exact absurd e2 e
    · exact hS _ _ (h.vl j hj hs)

/-- An operation that writes none. -/
theorem RG.bare (h : RG ch T ds Wd V vals l a w) (i : Nat) (v : Value) (hds : ds[i]? = some none) (hl : l.getD i true = false) (hc : ∀ j, (i, j) ∈ ch → l.getD j true = true)
    (hW : Wd (l.setIfInBounds i true) w') (hS : ∀ j u, V j u w → V j u w') (hV : ∀ u, V i u w') :
    ∃ vals, RG ch T ds Wd V vals (l.setIfInBounds i true) (a.put none v) w' := by
  refine ⟨vals, by rw [Array.size_setIfInBounds]; exact h.size, h.fr.bare v (fun j p hp e => ?_), dep_set h.dep hc, hW, fun j hj hs => ?_⟩
  · obtain ⟨e1, _⟩ := tOwn_inv hp
    rw [e, hds] at e1
    cases e1
  · by_cases e : j = i
    · subst e; exact hV _
    · rcases gset_true hs with e2 | hs
      · exact absurd e2 e
      · exact hS _ _ (h.vl j hj hs)

theorem RG.start (hT : l = Array.replicate ds.length false) (hch : ∀ i j, (i, j) ∈ ch → i < ds.length) (hW : Wd l w) : ∃ vals, RG ch T ds Wd V vals l ⟨T, []⟩ w := by
  have hf : ∀ j, j < ds.length → l.getD j true = false := fun j hj => by rw [hT]; simp [Array.getD, hj]
  refine ⟨fun _ => undef, by rw [hT]; simp, FrT.start _ _ _ (fun j i v h => hf i ?_), fun i j hm h => ?_, hW, fun i hi hl => ?_⟩
  · obtain ⟨h1, _⟩ := tOwn_inv h
    exact (List.getElem?_eq_some_iff.1 h1).1
  · rw [hf _ (hch _ _ hm)] at h
    cases h
  · rw [hf _ hi] at hl
    cases hl
end

theorem gset_self {l : Array Bool} {i : Nat} : (l.setIfInBounds i true).getD i true = true := by simp [Array.getD]
theorem gset_ne {l : Array Bool} {i j : Nat} (h : j ≠ i) : (l.setIfInBounds i true).getD j true = l.getD j true := getD_set_ne true (fun e => h e.symm)

theorem RG.all {ch : List (Nat × Nat)} {T : Array Value} {ds : List (Option Nat)} {Wd : Array Bool → World → Prop} {V : Nat → Value → World → Prop} {vals : Nat → Value} {l : Array Bool} {a : Act} {w : World} (h : RG ch T ds Wd V vals l a w) (hl : ∀ i, i < ds.length → l.getD i true = true) {T' : Array Value} (hT : T'.size = T.size)
    (ht : ∀ j, j < T.size → T'.getD j undef = match tOwn ds vals j with | some (_, v) => v | none => T.getD j undef) : a = ⟨T', []⟩ :=
  h.fr.all (fun j i v hj => hl i (List.getElem?_eq_some_iff.1 (tOwn_inv hj).1).1) hT ht

theorem rv_sets (T : Array Value) (i j : Nat) (v : Value) : (T.setIfInBounds i v).getD j undef = if i = j ∧ i < T.size then v else T.getD j undef := by
  by_cases h : i = j
  · subst h
    by_cases h2 : i < T.size
    · simp [Array.getD, h2]
    · simp [Array.getD, h2]
  · rw [if_neg (fun e => h e.1)]
    simp only [Array.getD_eq_getD_getElem?]
    rw [Array.getElem?_setIfInBounds_ne h]

theorem frame_namedIn {F : Fence} {n : Nat} {P : Program} {c : Code} {Q : Exit → Act → World → Prop} {T0 : Array Value} {w : World} (h : ∀ T, T = T0 → c.wpIn F n P Q ⟨T, []⟩ w) : c.wpIn F n P Q ⟨T0, []⟩ w := h T0 rfl


end Go.Proofs.Ytjlneggfkpjnpaa

namespace Go.Proofs.Ytjlneggfkpjnpaa
open Go Go.RowKit

/-- A region by what each operation's result is, and what the world is. -/
structure RH (ch : List (Nat × Nat)) (T : Array Value) (ds : List (Option Nat)) (Wd : Array Bool → (Nat → Value) → World → Prop) (V : Nat → Value → World → Prop) (vals : Nat → Value) (l : Array Bool) (a : Act) (w : World) : Prop where
  size : l.size = ds.length
  fr : FrT (tOwn ds vals) T l a
  dep : ∀ i j, (i, j) ∈ ch → l.getD i true = true → l.getD j true = true
  wd : Wd l vals w
  vl : ∀ i, i < ds.length → l.getD i true = true → V i (vals i) w

section
variable {ch : List (Nat × Nat)} {T : Array Value} {ds : List (Option Nat)} {Wd : Array Bool → (Nat → Value) → World → Prop} {V : Nat → Value → World → Prop} {vals : Nat → Value} {l : Array Bool} {a : Act} {w w' : World}

theorem RH.no (h : RH ch T ds Wd V vals l a w) {i s : Nat} (hl : l.getD i true = false) (hr : l.getD s true = true → l.getD i true = true) : l.getD s true = false := by
  cases hs : l.getD s true with
  | false => rfl
  | true => rw [hr hs] at hl; cases hl

theorem RH.get (h : RH ch T ds Wd V vals l a w) {i j : Nat} (hd : ds.findIdx? (fun x => x == some j) = some i) (hl : l.getD i false = true) (hj : j < T.size) : a.tmps.getD j undef = vals i := h.fr.done (tOwn_some hd) hl hj

/-- An operation that writes a slot. -/
theorem RH.op (h : RH ch T ds Wd V vals l a w) (i d : Nat) (v : Value) (hd : ds.findIdx? (fun x => x == some d) = some i) (hi : i < ds.length) (hl : l.getD i true = false) (hc : ∀ j, (i, j) ∈ ch → l.getD j true = true)
    (hW : Wd (l.setIfInBounds i true) (fun u => if u = i then v else vals u) w') (hS : ∀ j u, V j u w → V j u w') (hV : V i v w') :
    ∃ vals, RH ch T ds Wd V vals (l.setIfInBounds i true) (a.put (some d) v) w' := by
  refine ⟨fun u => if u = i then v else vals u, by rw [Array.size_setIfInBounds]; exact h.size, h.fr.stepT hd (by rw [h.size]; exact hi) hl v, dep_set h.dep hc, hW, fun j hj hs => ?_⟩
  by_cases e : j = i
  · subst e; rw [if_pos rfl]; exact hV
  · simp only [e, if_false]
    rcases gset_true hs with e2 | hs
    · exact absurd e2 e
    · exact hS _ _ (h.vl j hj hs)

/-- An operation that writes none. -/
theorem RH.bare (h : RH ch T ds Wd V vals l a w) (i : Nat) (v : Value) (hds : ds[i]? = some none) (hl : l.getD i true = false) (hc : ∀ j, (i, j) ∈ ch → l.getD j true = true)
    (hW : Wd (l.setIfInBounds i true) vals w') (hS : ∀ j u, V j u w → V j u w') (hV : ∀ u, V i u w') :
    ∃ vals, RH ch T ds Wd V vals (l.setIfInBounds i true) (a.put none v) w' := by
  refine ⟨vals, by rw [Array.size_setIfInBounds]; exact h.size, h.fr.bare v (fun j p hp e => ?_), dep_set h.dep hc, hW, fun j hj hs => ?_⟩
  · obtain ⟨e1, _⟩ := tOwn_inv hp
    rw [e, hds] at e1
    cases e1
  · by_cases e : j = i
    · subst e; exact hV _
    · rcases gset_true hs with e2 | hs
      · exact absurd e2 e
      · exact hS _ _ (h.vl j hj hs)

theorem RH.start (hT : l = Array.replicate ds.length false) (hch : ∀ i j, (i, j) ∈ ch → i < ds.length) (hW : Wd l (fun _ => undef) w) : ∃ vals, RH ch T ds Wd V vals l ⟨T, []⟩ w := by
  have hf : ∀ j, j < ds.length → l.getD j true = false := fun j hj => by rw [hT]; simp [Array.getD, hj]
  refine ⟨fun _ => undef, by rw [hT]; simp, FrT.start _ _ _ (fun j i v h => hf i ?_), fun i j hm h => ?_, hW, fun i hi hl => ?_⟩
  · obtain ⟨h1, _⟩ := tOwn_inv h
    exact (List.getElem?_eq_some_iff.1 h1).1
  · rw [hf _ (hch _ _ hm)] at h
    cases h
  · rw [hf _ hi] at hl
    cases hl
end

theorem RH.all {ch : List (Nat × Nat)} {T : Array Value} {ds : List (Option Nat)} {Wd : Array Bool → (Nat → Value) → World → Prop} {V : Nat → Value → World → Prop} {vals : Nat → Value} {l : Array Bool} {a : Act} {w : World} (h : RH ch T ds Wd V vals l a w) (hl : ∀ i, i < ds.length → l.getD i true = true) {T' : Array Value} (hT : T'.size = T.size)
    (ht : ∀ j, j < T.size → T'.getD j undef = match tOwn ds vals j with | some (_, v) => v | none => T.getD j undef) : a = ⟨T', []⟩ :=
  h.fr.all (fun j i v hj => hl i (List.getElem?_eq_some_iff.1 (tOwn_inv hj).1).1) hT ht


end Go.Proofs.Ytjlneggfkpjnpaa

namespace Go.Proofs.Ytjlneggfkpjnpaa
set_option linter.unusedSimpArgs false
set_option linter.unusedVariables false
open Go Go.RowKit

abbrev NBx (w : World) (g : Nat) (d : Bool) (s : Value) : Prop := w.heap[g]? = some (.cells #[.bool d, s] 54 (0, 0))
/-- A number in a box. -/
def NB (w : World) (g n : Nat) : Prop := ∃ d ao k cap, NBx w g d (.slice ao k cap) ∧ NuA w d (.slice ao k cap) n
theorem NBx.lt {w : World} {g : Nat} {d : Bool} {s : Value} (h : NBx w g d s) : g < w.heap.size := (Array.getElem?_eq_some_iff.1 h).1
theorem NBx.later {w w' : World} {g : Nat} {d : Bool} {s : Value} (h : NBx w g d s) (hb : Below w.heap.size w w') : NBx w' g d s := (hb.block g h.lt).trans h
theorem NBx.cells {w : World} {g : Nat} {d : Bool} {s : Value} (h : NBx w g d s) : w.cell? ⟨g, 0, none⟩ = some (.bool d) ∧ w.cell? ⟨g, 1, none⟩ = some s := ⟨cell_of_row _ _ _ _ _ _ h, cell_of_row _ _ _ _ _ _ h⟩
theorem NBx.free {w : World} {g : Nat} {d : Bool} {s : Value} (h : NBx w g d s) (k : Nat) : w.frozen? ⟨g, k, none⟩ = false := frozen_of_row _ _ k _ _ h
theorem NB.later {w w' : World} {g n : Nat} (h : NB w g n) (hb : Below w.heap.size w w') : NB w' g n := by
  obtain ⟨d, ao, k, cap, h1, h2⟩ := h
  exact ⟨d, ao, k, cap, h1.later hb, h2.below hb⟩

/-- Digits do not lie in a box of a number. -/
theorem sl_set {w : World} {v : Value} {ds : List Nat} (h : Nums.Sl w v ds) {g i : Nat} {d : Bool} {ao : Option Addr} {k cap : Nat} (hb : NBx w g d (.slice ao k cap)) (u : Value) : Nums.Sl (w.setCell ⟨g, i, none⟩ u) v ds := by
  obtain ⟨h1, h2, h3⟩ := h
  refine ⟨h1, h2, ?_⟩
  rcases h3 with h3 | ⟨b, off, cap2, hv, hc, hl⟩
  · exact .inl h3
  · by_cases h0 : ds = []
    · subst h0
      exact .inl ⟨rfl, _, _, hv⟩
    · have hn : 0 < ds.length := List.length_pos_iff.2 h0
      have hbq : b ≠ g := fun e => by
        subst e
        have c := hl 0 hn
        rw [cell_of_row _ _ _ _ _ _ hb] at c
        by_cases ho : off = 0
        · subst ho; simp at c
        · by_cases ho1 : off = 1
          · subst ho1; simp at c
          · rw [show (#[Value.bool d, Value.slice ao k cap] : Array Value)[off + 0]? = none by simp; omega] at c
            cases c
      refine .inr ⟨b, off, cap2, hv, hc, fun j hj => ?_⟩
      exact (World.cell?_of_block (Below.heap_setCell _ _ _ _ (by simpa using hbq))).trans (hl j hj)
theorem nu_set {w : World} {b : Bool} {s : Value} {n : Nat} (h : NuA w b s n) {g i : Nat} {d : Bool} {ao : Option Addr} {k cap : Nat} (hb : NBx w g d (.slice ao k cap)) (u : Value) : NuA (w.setCell ⟨g, i, none⟩ u) b s n := by
  obtain ⟨s', e, h1, h2⟩ := h.nu
  exact ⟨⟨s', e, sl_set h1 hb u, h2⟩⟩
theorem nbx_put {w : World} {g : Nat} {d d' : Bool} {s s' : Value} (h : NBx w g d s) : NBx ((w.setCell ⟨g, 0, none⟩ (.bool d')).setCell ⟨g, 1, none⟩ s') g d' s' := by
  have q := heap_setCell_same _ g 0 _ 54 (.bool d') h
  exact heap_setCell_same _ g 1 _ 54 s' q
theorem nbx_put0 {w : World} {g : Nat} {d d' : Bool} {s : Value} (h : NBx w g d s) : NBx (w.setCell ⟨g, 0, none⟩ (.bool d')) g d' s := heap_setCell_same _ g 0 _ 54 (.bool d') h
/-- A number is written into a box: what lies elsewhere stays. -/
theorem nu_put {w : World} {b : Bool} {t : Value} {m : Nat} (h : NuA w b t m) {g : Nat} {d d' : Bool} {ao ao' : Option Addr} {k k' cap cap' : Nat} (hb : NBx w g d (.slice ao k cap)) : NuA ((w.setCell ⟨g, 0, none⟩ (.bool d')).setCell ⟨g, 1, none⟩ (.slice ao' k' cap')) b t m :=
  nu_set (nu_set h hb _) (nbx_put0 hb) _
theorem NB.put {w : World} {g n m : Nat} {d : Bool} {ao : Option Addr} {k cap : Nat} (h : NB w g n) (hm : NuA w d (.slice ao k cap) m) : NB ((w.setCell ⟨g, 0, none⟩ (.bool d)).setCell ⟨g, 1, none⟩ (.slice ao k cap)) g m := by
  obtain ⟨d0, a0, k0, c0, h1, h2⟩ := h
  exact ⟨d, ao, k, cap, nbx_put h1, nu_put hm h1⟩
theorem NB.other {w : World} {g q n m : Nat} {d : Bool} {ao : Option Addr} {k cap : Nat} (h : NB w q n) (hg : NB w g m) (hq : q ≠ g) : NB ((w.setCell ⟨g, 0, none⟩ (.bool d)).setCell ⟨g, 1, none⟩ (.slice ao k cap)) q n := by
  obtain ⟨d0, a0, k0, c0, h1, h2⟩ := h
  obtain ⟨d9, a9, k9, c9, g1, g2⟩ := hg
  exact ⟨d0, a0, k0, c0, (Below.heap_setCell _ _ _ _ (by simpa using hq)).trans ((Below.heap_setCell _ _ _ _ (by simpa using hq)).trans h1), nu_put h2 g1⟩

/-- What the operations of product's drawn region return. -/
def PDV (D : Value) (m p : Nat) : Nat → Value → World → Prop
  | 0, u, _ => u = D
  | 1, u, _ => u = .int .i64 (m : Int)
  | 2, u, w => ∃ d ao k cap, u = .agg #[.bool d, .slice ao k cap] ∧ NuA w d (.slice ao k cap) m
  | 3, u, w => ∃ d ao k cap, u = .tuple #[.agg #[.bool d, .slice ao k cap], .bool true] ∧ NuA w d (.slice ao k cap) p
  | 4, u, w => ∃ d ao k cap, u = .tuple #[.agg #[.bool d, .slice ao k cap], .bool true] ∧ NuA w d (.slice ao k cap) p
  | 5, u, w => ∃ d ao k cap, u = .agg #[.bool d, .slice ao k cap] ∧ NuA w d (.slice ao k cap) p
  | 6, u, _ => u = .bool true
  | 9, u, _ => u = .bool true
  | _, _, _ => True
theorem PDV.keep {D : Value} {m p : Nat} {w w' : World} (hk : ∀ d s n, NuA w d s n → NuA w' d s n) : ∀ i x, PDV D m p i x w → PDV D m p i x w'
  | 0, _, h => h
  | 1, _, h => h
  | 2, _, ⟨d, a, k, c, e, h⟩ => ⟨d, a, k, c, e, hk _ _ _ h⟩
  | 3, _, ⟨d, a, k, c, e, h⟩ => ⟨d, a, k, c, e, hk _ _ _ h⟩
  | 4, _, ⟨d, a, k, c, e, h⟩ => ⟨d, a, k, c, e, hk _ _ _ h⟩
  | 5, _, ⟨d, a, k, c, e, h⟩ => ⟨d, a, k, c, e, hk _ _ _ h⟩
  | 6, _, h => h
  | 7, _, h => h
  | 8, _, h => h
  | 9, _, h => h
  | _ + 10, _, h => h
/-- What the world is there. -/
structure PDW (X : World) (p : Nat) (l : Array Bool) (vals : Nat → Value) (w : World) : Prop where
  b : Below X.heap.size X w
  g : l.getD 7 true = true → ∃ g, vals 7 = .pointer (some ⟨g, 0, none⟩) ∧ X.heap.size ≤ g ∧ (∃ d ao k cap, NBx w g d (.slice ao k cap)) ∧ (l.getD 8 true = true → NB w g p)
section
variable {X w w' : World} {p : Nat} {l : Array Bool} {vals : Nat → Value}
theorem PDW.const (h : PDW X p l vals w) {i : Nat} (hi : 7 ≠ i) (hj : 8 ≠ i) (v : Value) : PDW X p (l.setIfInBounds i true) (fun u => if u = i then v else vals u) w := by
  refine ⟨h.b, ?_⟩
  rw [gset_ne hi, gset_ne hj]
  simpa [hi] using h.g
theorem PDW.later (h : PDW X p l vals w) (hb : Below w.heap.size w w') : PDW X p l vals w' := by
  refine ⟨h.b.trans (hb.mono h.b.size), fun h7 => ?_⟩
  obtain ⟨g, e, hg, ⟨d, a, k, c, hx⟩, h8⟩ := h.g h7
  exact ⟨g, e, hg, ⟨d, a, k, c, hx.later hb⟩, fun h9 => (h8 h9).later hb⟩
theorem PDW.made (h : PDW X p l vals w) (h8 : l.getD 8 true = false) : PDW X p (l.setIfInBounds 7 true) (fun u => if u = 7 then .pointer (some ⟨w.heap.size, 0, none⟩) else vals u) (w.alloc (.cells #[.bool false, .slice none 0 0] 54)) := by
  refine ⟨h.b.alloc h.b.size _, fun _ => ⟨w.heap.size, by simp, h.b.size, ⟨false, none, 0, 0, heap_alloc_new _ _⟩, fun h9 => ?_⟩⟩
  rw [gset_ne (by decide), h8] at h9; cases h9
theorem PDW.put {g k cap : Nat} {d : Bool} {ao : Option Addr} (h : PDW X p l vals w) (he : vals 7 = .pointer (some ⟨g, 0, none⟩)) (h7 : l.getD 7 true = true) (hn : NuA w d (.slice ao k cap) p) :
    PDW X p (l.setIfInBounds 8 true) vals ((w.setCell ⟨g, 0, none⟩ (.bool d)).setCell ⟨g, 1, none⟩ (.slice ao k cap)) := by
  obtain ⟨g', e, hg, ⟨d0, a0, k0, c0, hx⟩, h8⟩ := h.g h7
  rw [he] at e
  have eg : g = g' := by injection e with e; injection e with e; injection e
  subst eg
  refine ⟨(h.b.setCell (by simpa using hg) _).setCell (by simpa using hg) _, fun _ => ⟨g, he, hg, ⟨_, _, _, _, nbx_put hx⟩, fun _ => ⟨d, ao, k, cap, nbx_put hx, nu_put hn hx⟩⟩⟩
end

end Go.Proofs.Ytjlneggfkpjnpaa

namespace Go.Proofs.Ytjlneggfkpjnpaa
set_option linter.unusedSimpArgs false
set_option linter.unusedVariables false
open Go Go.RowKit

def pdCh : List (Nat × Nat) := [(2, 1), (3, 0), (3, 2), (4, 3), (5, 4), (6, 4), (8, 7), (8, 5), (9, 6)]

set_option maxRecDepth 100000 in
set_option maxHeartbeats 4000000 in
theorem product_any {W : World} {b : Bool} {s : Value} {n m : Nat} (hn : NuA W b s n) (hm : m ≤ 1000) (hs : SmallN (n * m)) :
    Calls Try.prog 25 #[.agg #[.bool b, s], .int .i64 (m : Int)] W fun e w' => ∃ d ao k cap, e = .returned (.agg #[.bool d, .slice ao k cap]) ∧ NuA w' d (.slice ao k cap) (n * m) ∧ Below W.heap.size W w' := by
  have HOF := Lib.hid (of_num m hm)
  have hbX : Below W.heap.size W ((W.alloc (.cells #[.bool b, s] 54)).alloc (.cells #[.bool false, .slice none 0 0] 54)) := ((Below.refl W.heap.size W).alloc (Nat.le_refl _) (.cells #[.bool b, s] 54)).alloc (by simp only [World.size_alloc]; omega) (.cells #[.bool false, .slice none 0 0] 54)
  have HBX := Lib.hid hbX
  have HMU : Hid (∀ W', Below ((W.alloc (.cells #[.bool b, s] 54)).alloc (.cells #[.bool false, .slice none 0 0] 54)).drew.heap.size ((W.alloc (.cells #[.bool b, s] 54)).alloc (.cells #[.bool false, .slice none 0 0] 54)).drew W' → ∀ c t, NuA W' c t m → Calls Try.prog 23 #[.agg #[.bool b, s], .agg #[.bool c, t]] W' fun e w' => ∃ d ao k cap, e = .returned (.tuple #[.agg #[.bool d, .slice ao k cap], .bool true]) ∧ NuA w' d (.slice ao k cap) (n * m) ∧ Below W'.heap.size W' w') := Lib.hid (fun W' h c t hc => mul_num (hn.below (hbX.drew.trans (h.mono hbX.drew.size))) hc hs)
  have h0 : ((W.alloc (.cells #[.bool b, s] 54)).alloc (.cells #[.bool false, .slice none 0 0] 54)).heap[W.heap.size]? = some (.cells #[.bool b, s] 54 (0, 0)) := (((Below.refl _ _).alloc (Nat.le_refl _) _).block W.heap.size (by simp)).trans (heap_alloc_new _ _)
  have h1 : NBx ((W.alloc (.cells #[.bool b, s] 54)).alloc (.cells #[.bool false, .slice none 0 0] 54)) (W.heap.size + 1) false (.slice none 0 0) := by
    have h := heap_alloc_new (W.alloc (.cells #[.bool b, s] 54)) (.cells #[.bool false, .slice none 0 0] 54)
    rw [World.size_alloc] at h; exact h
  have HKE : Hid (∀ W', Below ((W.alloc (.cells #[.bool b, s] 54)).alloc (.cells #[.bool false, .slice none 0 0] 54)).drew.heap.size ((W.alloc (.cells #[.bool b, s] 54)).alloc (.cells #[.bool false, .slice none 0 0] 54)).drew W' → W'.cell? ⟨W.heap.size, 0, none⟩ = some (.bool b) ∧ W'.cell? ⟨W.heap.size, 1, none⟩ = some s) := Lib.hid (fun W' h => by
    have h2 := ((Below.refl ((W.alloc (.cells #[.bool b, s] 54)).alloc (.cells #[.bool false, .slice none 0 0] 54)).heap.size ((W.alloc (.cells #[.bool b, s] 54)).alloc (.cells #[.bool false, .slice none 0 0] 54))).drew.trans h).block W.heap.size (by simp only [World.size_alloc]; omega) |>.trans h0
    exact ⟨cell_of_row _ _ _ _ _ _ h2, cell_of_row _ _ _ _ _ _ h2⟩)
  have HRS : Hid (∀ W', Below ((W.alloc (.cells #[.bool b, s] 54)).alloc (.cells #[.bool false, .slice none 0 0] 54)).drew.heap.size ((W.alloc (.cells #[.bool b, s] 54)).alloc (.cells #[.bool false, .slice none 0 0] 54)).drew W' → NBx W' (W.heap.size + 1) false (.slice none 0 0)) := Lib.hid (fun W' h => h1.later ((Below.refl ((W.alloc (.cells #[.bool b, s] 54)).alloc (.cells #[.bool false, .slice none 0 0] 54)).heap.size ((W.alloc (.cells #[.bool b, s] 54)).alloc (.cells #[.bool false, .slice none 0 0] 54))).drew.trans h))
  clear hn hm hs hbX h0 h1
  go_enter Try.func25, Try.ntmps25
  go_upto_region 1 with fail
  refine (wpIn_wide (n := 6)).1 ?_
  refine frame_namedIn ?_
  intro T hT
  obtain ⟨R, hRd⟩ : ∃ R : Array Bool → Act → World → Prop, R = (fun l a w' => ∃ vals, RH pdCh T [some 8, some 9, some 10, some 11, some 7, some 12, some 13, some 5, none, some 6] (PDW ((W.alloc (.cells #[.bool b, s] 54)).alloc (.cells #[.bool false, .slice none 0 0] 54)).drew (n * m)) (PDV (.agg #[.bool b, s]) m (n * m)) vals l a w') := ⟨_, rfl⟩
  refine region_inv (by kernel_rfl) R ?h0r1 ?stepr1 ?finr1
  case h0r1 => rw [hRd]; exact RH.start rfl (fun i j h => by simp [pdCh] at h; simp only [List.length_cons, List.length_nil]; omega) (by exact ⟨Below.refl _ _, fun h => absurd h (by decide)⟩)
  case stepr1 =>
    rintro l a w' i' hR0 hi'
    have hR1 := hR0
    rw [hRd] at hR1
    obtain ⟨vals, hR⟩ := hR1
    obtain ⟨hl0, o, ho, hdep⟩ := mem_ready.1 hi'
    have h15 : i' < 10 := by
      have := (Array.getElem?_eq_some_iff.1 ho).1
      simpa using this
    rcases (show i' = 0 ∨ i' = 1 ∨ i' = 2 ∨ i' = 3 ∨ i' = 4 ∨ i' = 5 ∨ i' = 6 ∨ i' = 7 ∨ i' = 8 ∨ i' = 9 by omega) with rfl | rfl | rfl | rfl | rfl | rfl | rfl | rfl | rfl | rfl
    · simp at ho
      subst ho
      simp [Region.binds] at hdep
      have k0 : a.tmps.getD 2 undef = .pointer (some ⟨W.heap.size, 0, none⟩) := (hR.fr.kept rfl (by simp [hT])).trans (by rw [hT]; try rfl)
      have hc : ∀ j, (0, j) ∈ pdCh → l.getD j true = true := by intro j hj; simp [pdCh] at hj
      clear hi' hdep
      obtain ⟨x0, x1⟩ := HKE.out _ hR.wd.b
      have k0g := k0
      rw [Array.getD_eq_getD_getElem?] at k0g
      unfold wpOpIn
      simp [Region.wanted]
      unfold Oper.wpIn
      simp [Oper.about, execOp, go_sem, Act.eval, k0, k0g, x0, x1]
      rw [hRd]
      exact hR.op 0 8 _ rfl (by decide) hl0 hc (PDW.const hR.wd (by decide) (by decide) _) (fun _ _ h => h) (rfl)
    · simp at ho
      subst ho
      simp [Region.binds] at hdep
      have k0 : a.tmps.getD 1 undef = .int .i64 (m : Int) := (hR.fr.kept rfl (by simp [hT])).trans (by rw [hT]; try rfl)
      have hc : ∀ j, (1, j) ∈ pdCh → l.getD j true = true := by intro j hj; simp [pdCh] at hj
      clear hi' hdep
      have k0g := k0
      rw [Array.getD_eq_getD_getElem?] at k0g
      unfold wpOpIn
      simp [Region.wanted]
      unfold Oper.wpIn
      simp [Oper.about, execOp, go_sem, Act.eval, k0, k0g]
      rw [hRd]
      exact hR.op 1 9 _ rfl (by decide) hl0 hc (PDW.const hR.wd (by decide) (by decide) _) (fun _ _ h => h) (rfl)
    · simp at ho
      subst ho
      simp [Region.binds] at hdep
      have d0 : l.getD 1 true = true := getD_true (by simp_all)
      have k0 : a.tmps.getD 9 undef = vals 1 := hR.get rfl (by simp_all) (by simp [hT])
      have e0 : vals 1 = .int .i64 (m : Int) := hR.vl 1 (by decide) d0
      rw [e0] at k0
      have hc : ∀ j, (2, j) ∈ pdCh → l.getD j true = true := by intro j hj; simp [pdCh] at hj; rcases hj with rfl <;> exact getD_true (by simp_all)
      clear hi' hdep
      have k0g := k0
      rw [Array.getD_eq_getD_getElem?] at k0g
      unfold wpOpIn
      simp [Region.wanted]
      unfold Oper.wpIn
      simp [Oper.about, execOp, go_sem, Act.eval, k0, k0g]
      refine ⟨trivial, (callsIn_wide.2 (HOF.out _)).mono ?_⟩
      rintro e w'' ⟨d9, a9, k9, c9, rfl, hi, hb⟩
      rw [hRd]
      exact hR.op 2 10 _ rfl (by decide) hl0 hc (PDW.const (PDW.later hR.wd hb) (by decide) (by decide) _) (PDV.keep (fun _ _ _ h => h.below hb)) (⟨_, _, _, _, rfl, hi⟩)
    · simp at ho
      subst ho
      simp [Region.binds] at hdep
      have d0 : l.getD 0 true = true := getD_true (by simp_all)
      have k0 : a.tmps.getD 8 undef = vals 0 := hR.get rfl (by simp_all) (by simp [hT])
      have e0 : vals 0 = .agg #[.bool b, s] := hR.vl 0 (by decide) d0
      rw [e0] at k0
      have d1 : l.getD 2 true = true := getD_true (by simp_all)
      have k1 : a.tmps.getD 10 undef = vals 2 := hR.get rfl (by simp_all) (by simp [hT])
      obtain ⟨d1x, a1x, k1x, c1x, e1, hi1⟩ : ∃ d ao k cap, vals 2 = .agg #[.bool d, .slice ao k cap] ∧ NuA w' d (.slice ao k cap) m := hR.vl 2 (by decide) d1
      rw [e1] at k1
      have hc : ∀ j, (3, j) ∈ pdCh → l.getD j true = true := by intro j hj; simp [pdCh] at hj; rcases hj with rfl | rfl <;> exact getD_true (by simp_all)
      clear hi' hdep
      have k0g := k0
      rw [Array.getD_eq_getD_getElem?] at k0g
      have k1g := k1
      rw [Array.getD_eq_getD_getElem?] at k1g
      unfold wpOpIn
      simp [Region.wanted]
      unfold Oper.wpIn
      simp [Oper.about, execOp, go_sem, Act.eval, k0, k1, k0g, k1g]
      refine ⟨trivial, (callsIn_wide.2 (HMU.out _ hR.wd.b _ _ hi1)).mono ?_⟩
      rintro e w'' ⟨d9, a9, k9, c9, rfl, hi, hb⟩
      rw [hRd]
      exact hR.op 3 11 _ rfl (by decide) hl0 hc (PDW.const (PDW.later hR.wd hb) (by decide) (by decide) _) (PDV.keep (fun _ _ _ h => h.below hb)) (⟨_, _, _, _, rfl, hi⟩)
    · simp at ho
      subst ho
      simp [Region.binds] at hdep
      have d0 : l.getD 3 true = true := getD_true (by simp_all)
      have k0 : a.tmps.getD 11 undef = vals 3 := hR.get rfl (by simp_all) (by simp [hT])
      obtain ⟨d0x, a0x, k0x, c0x, e0, hi0⟩ : ∃ d ao k cap, vals 3 = .tuple #[.agg #[.bool d, .slice ao k cap], .bool true] ∧ NuA w' d (.slice ao k cap) (n * m) := hR.vl 3 (by decide) d0
      rw [e0] at k0
      have hc : ∀ j, (4, j) ∈ pdCh → l.getD j true = true := by intro j hj; simp [pdCh] at hj; rcases hj with rfl <;> exact getD_true (by simp_all)
      clear hi' hdep
      have k0g := k0
      rw [Array.getD_eq_getD_getElem?] at k0g
      unfold wpOpIn
      simp [Region.wanted]
      unfold Oper.wpIn
      simp [Oper.about, execOp, go_sem, Act.eval, k0, k0g]
      rw [hRd]
      exact hR.op 4 7 _ rfl (by decide) hl0 hc (PDW.const hR.wd (by decide) (by decide) _) (fun _ _ h => h) (⟨_, _, _, _, rfl, hi0⟩)
    · simp at ho
      subst ho
      simp [Region.binds] at hdep
      have d0 : l.getD 4 true = true := getD_true (by simp_all)
      have k0 : a.tmps.getD 7 undef = vals 4 := hR.get rfl (by simp_all) (by simp [hT])
      obtain ⟨d0x, a0x, k0x, c0x, e0, hi0⟩ : ∃ d ao k cap, vals 4 = .tuple #[.agg #[.bool d, .slice ao k cap], .bool true] ∧ NuA w' d (.slice ao k cap) (n * m) := hR.vl 4 (by decide) d0
      rw [e0] at k0
      have hc : ∀ j, (5, j) ∈ pdCh → l.getD j true = true := by intro j hj; simp [pdCh] at hj; rcases hj with rfl <;> exact getD_true (by simp_all)
      clear hi' hdep
      have k0g := k0
      rw [Array.getD_eq_getD_getElem?] at k0g
      unfold wpOpIn
      simp [Region.wanted]
      unfold Oper.wpIn
      simp [Oper.about, execOp, go_sem, Act.eval, k0, k0g]
      rw [hRd]
      exact hR.op 5 12 _ rfl (by decide) hl0 hc (PDW.const hR.wd (by decide) (by decide) _) (fun _ _ h => h) (⟨_, _, _, _, rfl, hi0⟩)
    · simp at ho
      subst ho
      simp [Region.binds] at hdep
      have d0 : l.getD 4 true = true := getD_true (by simp_all)
      have k0 : a.tmps.getD 7 undef = vals 4 := hR.get rfl (by simp_all) (by simp [hT])
      obtain ⟨d0x, a0x, k0x, c0x, e0, hi0⟩ : ∃ d ao k cap, vals 4 = .tuple #[.agg #[.bool d, .slice ao k cap], .bool true] ∧ NuA w' d (.slice ao k cap) (n * m) := hR.vl 4 (by decide) d0
      rw [e0] at k0
      have hc : ∀ j, (6, j) ∈ pdCh → l.getD j true = true := by intro j hj; simp [pdCh] at hj; rcases hj with rfl <;> exact getD_true (by simp_all)
      clear hi' hdep
      have k0g := k0
      rw [Array.getD_eq_getD_getElem?] at k0g
      unfold wpOpIn
      simp [Region.wanted]
      unfold Oper.wpIn
      simp [Oper.about, execOp, go_sem, Act.eval, k0, k0g]
      rw [hRd]
      exact hR.op 6 13 _ rfl (by decide) hl0 hc (PDW.const hR.wd (by decide) (by decide) _) (fun _ _ h => h) (rfl)
    · simp at ho
      subst ho
      simp [Region.binds] at hdep
      have hc : ∀ j, (7, j) ∈ pdCh → l.getD j true = true := by intro j hj; simp [pdCh] at hj
      have n8 := hR.no (s := 8) hl0 (fun hs => (hR.dep 8 7 (by decide) hs))
      clear hi' hdep
      unfold wpOpIn
      simp [Region.wanted]
      unfold Oper.wpIn
      simp [Oper.about, execOp, go_sem, Act.eval, ]
      rw [hRd]
      exact hR.op 7 5 _ rfl (by decide) hl0 hc (PDW.made hR.wd n8) (PDV.keep (fun _ _ _ h => h.below ((Below.refl _ _).alloc (Nat.le_refl _) _))) (trivial)
    · simp at ho
      subst ho
      simp [Region.binds] at hdep
      have d0 : l.getD 7 true = true := getD_true (by simp_all)
      have k0 : a.tmps.getD 5 undef = vals 7 := hR.get rfl (by simp_all) (by simp [hT])
      obtain ⟨g0x, e0, hg0, ⟨dd0, aa0, kk0, cc0, hx0⟩, -⟩ := hR.wd.g d0
      rw [e0] at k0
      have d1 : l.getD 5 true = true := getD_true (by simp_all)
      have k1 : a.tmps.getD 12 undef = vals 5 := hR.get rfl (by simp_all) (by simp [hT])
      obtain ⟨d1x, a1x, k1x, c1x, e1, hi1⟩ : ∃ d ao k cap, vals 5 = .agg #[.bool d, .slice ao k cap] ∧ NuA w' d (.slice ao k cap) (n * m) := hR.vl 5 (by decide) d1
      rw [e1] at k1
      have hc : ∀ j, (8, j) ∈ pdCh → l.getD j true = true := by intro j hj; simp [pdCh] at hj; rcases hj with rfl | rfl <;> exact getD_true (by simp_all)
      clear hi' hdep
      obtain ⟨y0, y1⟩ := hx0.cells
      have f0 := hx0.free 0
      have f1 := hx0.free 1
      have l0 := hx0.lt
      have k0g := k0
      rw [Array.getD_eq_getD_getElem?] at k0g
      have k1g := k1
      rw [Array.getD_eq_getD_getElem?] at k1g
      unfold wpOpIn
      simp [Region.wanted]
      unfold Oper.wpIn
      simp [Oper.about, execOp, go_sem, Act.eval, k0, k1, k0g, k1g, y0, y1, f0, f1, l0]
      rw [hRd]
      exact hR.bare 8 undef rfl hl0 hc (PDW.put hR.wd e0 d0 hi1) (PDV.keep (fun _ _ _ h => nu_put h hx0)) (fun _ => trivial)
    · simp at ho
      subst ho
      simp [Region.binds] at hdep
      have d0 : l.getD 6 true = true := getD_true (by simp_all)
      have k0 : a.tmps.getD 13 undef = vals 6 := hR.get rfl (by simp_all) (by simp [hT])
      have e0 : vals 6 = .bool true := hR.vl 6 (by decide) d0
      rw [e0] at k0
      have hc : ∀ j, (9, j) ∈ pdCh → l.getD j true = true := by intro j hj; simp [pdCh] at hj; rcases hj with rfl <;> exact getD_true (by simp_all)
      clear hi' hdep
      have k0g := k0
      rw [Array.getD_eq_getD_getElem?] at k0g
      unfold wpOpIn
      simp [Region.wanted]
      unfold Oper.wpIn
      simp [Oper.about, execOp, go_sem, Act.eval, k0, k0g]
      rw [hRd]
      exact hR.op 9 6 _ rfl (by decide) hl0 hc (PDW.const hR.wd (by decide) (by decide) _) (fun _ _ h => h) (rfl)
  case' finr1 =>
    rintro l a w' hR0 hz
    rw [hRd] at hR0
    obtain ⟨vals, hR⟩ := hR0
    clear hRd R
    have hnot := List.eq_nil_iff_forall_not_mem.1 hz
    have hk : ∀ k, k < 10 → (l.getD k true = false → False) → l.getD k false = true := fun k h12 h => by
      have hs := hR.size
      cases h' : l.getD k true with
      | false => exact (h h').elim
      | true => simp at hs; simp [Array.getD, hs, h12] at h' ⊢; exact h'
    have st0 := hk 0 (by omega) (fun h => hnot 0 (mem_ready.2 ⟨h, _, rfl, by simp [Region.binds]⟩))
    have st1 := hk 1 (by omega) (fun h => hnot 1 (mem_ready.2 ⟨h, _, rfl, by simp [Region.binds]⟩))
    have st2 := hk 2 (by omega) (fun h => hnot 2 (mem_ready.2 ⟨h, _, rfl, by simp [Region.binds] <;> simp_all⟩))
    have st3 := hk 3 (by omega) (fun h => hnot 3 (mem_ready.2 ⟨h, _, rfl, by simp [Region.binds] <;> simp_all⟩))
    have st4 := hk 4 (by omega) (fun h => hnot 4 (mem_ready.2 ⟨h, _, rfl, by simp [Region.binds] <;> simp_all⟩))
    have st5 := hk 5 (by omega) (fun h => hnot 5 (mem_ready.2 ⟨h, _, rfl, by simp [Region.binds] <;> simp_all⟩))
    have st6 := hk 6 (by omega) (fun h => hnot 6 (mem_ready.2 ⟨h, _, rfl, by simp [Region.binds] <;> simp_all⟩))
    have st7 := hk 7 (by omega) (fun h => hnot 7 (mem_ready.2 ⟨h, _, rfl, by simp [Region.binds]⟩))
    have st8 := hk 8 (by omega) (fun h => hnot 8 (mem_ready.2 ⟨h, _, rfl, by simp [Region.binds] <;> simp_all⟩))
    have st9 := hk 9 (by omega) (fun h => hnot 9 (mem_ready.2 ⟨h, _, rfl, by simp [Region.binds] <;> simp_all⟩))
    have hall : ∀ i, i < 10 → l.getD i true = true := fun i hi => by
      rcases (show i = 0 ∨ i = 1 ∨ i = 2 ∨ i = 3 ∨ i = 4 ∨ i = 5 ∨ i = 6 ∨ i = 7 ∨ i = 8 ∨ i = 9 by omega) with rfl | rfl | rfl | rfl | rfl | rfl | rfl | rfl | rfl | rfl
      · exact getD_true st0
      · exact getD_true st1
      · exact getD_true st2
      · exact getD_true st3
      · exact getD_true st4
      · exact getD_true st5
      · exact getD_true st6
      · exact getD_true st7
      · exact getD_true st8
      · exact getD_true st9
    clear st0 st1 st2 st3 st4 st5 st6 st7 st8 st9 hk hnot hz
    have hTs : T.size = 15 := by rw [hT]; rfl
    have ha := hR.all (T' := (((((((((T.setIfInBounds 8 (vals 0)).setIfInBounds 9 (vals 1)).setIfInBounds 10 (vals 2)).setIfInBounds 11 (vals 3)).setIfInBounds 7 (vals 4)).setIfInBounds 12 (vals 5)).setIfInBounds 13 (vals 6)).setIfInBounds 5 (vals 7)).setIfInBounds 6 (vals 9))) (fun i hi => hall i (by simpa using hi)) (by simp) (fun j hj => by
      by_cases h1 : j = 8 ∨ j = 9 ∨ j = 10 ∨ j = 11 ∨ j = 7 ∨ j = 12 ∨ j = 13 ∨ j = 5 ∨ j = 6
      · rcases h1 with rfl | rfl | rfl | rfl | rfl | rfl | rfl | rfl | rfl <;> simp [rv_sets, tOwn, List.findIdx?, List.findIdx?.go, hTs]
      · simp only [not_or] at h1
        obtain ⟨m8, m9, m10, m11, m7, m12, m13, m5, m6⟩ := h1
        have e : tOwn [some 8, some 9, some 10, some 11, some 7, some 12, some 13, some 5, none, some 6] vals j = none := by
          unfold tOwn
          simp [List.findIdx?, List.findIdx?.go, Ne.symm m8, Ne.symm m9, Ne.symm m10, Ne.symm m11, Ne.symm m7, Ne.symm m12, Ne.symm m13, Ne.symm m5, Ne.symm m6]
        rw [e]
        simp only [rv_sets]
        repeat rw [if_neg (by omega)])
    have v0 : vals 0 = .agg #[.bool b, s] := hR.vl 0 (by decide) (hall 0 (by decide))
    have v1 : vals 1 = .int .i64 (m : Int) := hR.vl 1 (by decide) (hall 1 (by decide))
    have v6 : vals 6 = .bool true := hR.vl 6 (by decide) (hall 6 (by decide))
    have v9 : vals 9 = .bool true := hR.vl 9 (by decide) (hall 9 (by decide))
    obtain ⟨gN, e7, hgN, -, hNB⟩ := hR.wd.g (hall 7 (by decide))
    have hNB2 := hNB (hall 8 (by decide))
    have HNB := Lib.hid (And.intro hR.wd.b (And.intro hgN hNB2))
    clear hNB hNB2 hgN
    subst ha
    clear hR hall hTs
    rw [v0, v1, v6, v9, hT]
    simp only [List.setIfInBounds_toArray, List.set_cons_succ, List.set_cons_zero]
    clear v0 v1 v6 v9 hT T
  rw [e7]
  generalize vals 2 = y2
  generalize vals 3 = y3
  generalize vals 4 = y4
  generalize vals 5 = y5
  obtain ⟨dN, aN, kN, cN, hN1, hN2⟩ := HNB.out.2.2
  obtain ⟨y0, y1⟩ := hN1.cells
  have hR1 := HRS.out _ HNB.out.1
  obtain ⟨z0, z1⟩ := hR1.cells
  have f0 := hR1.free 0
  have f1 := hR1.free 1
  have l0 := hR1.lt
  have HB := Lib.hid ((HBX.out.drew.trans (HNB.out.1.mono HBX.out.drew.size)))
  have HRN := Lib.hid hR1
  have HN2 := Lib.hid hN2
  clear hN1 hN2 hR1 e7
  go_wp2
  refine bodyPost_ret (results_cell54 (t := 4) rfl rfl (nbx_put HRN.out)) rfl ?_
  exact ⟨_, _, _, _, rfl, nu_put HN2.out HRN.out, (HB.out.setCell (by simp only; omega) _).setCell (by simp only; omega) _⟩
end Go.Proofs.Ytjlneggfkpjnpaa
