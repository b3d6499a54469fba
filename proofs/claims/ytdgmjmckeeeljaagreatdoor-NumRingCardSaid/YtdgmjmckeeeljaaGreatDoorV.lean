/- A region that draws its order, met by what holds behind each set of its operations: each operation is looked at once, whatever the order. No condition. -/
import Derived.OrdersIn
import Derived.WalkKit
import Derived.OwnWalkIn
namespace Go.Proofs.YtdgmjmckeeeljaaGreatDoor
open Go

variable {F : Fence} {n : Nat} {P : Program} {ops : Array Oper} {Q : Exit → Act → World → Prop} {md : Region.Mode}

def left (l : Array Bool) : Nat := (l.toList.filter (!·)).length

theorem left_zero {l : Array Bool} (h : left l = 0) (j : Nat) : l.getD j true = true := by
  have h0 : l.toList.filter (!·) = [] := List.eq_nil_of_length_eq_zero h
  by_cases hj : j < l.size
  · have hm : l[j] ∈ l.toList := by simp
    have := List.filter_eq_nil_iff.1 h0 _ hm
    simpa [Array.getD, hj] using this
  · simp [Array.getD, hj]

theorem filter_set : ∀ (l : List Bool) (i : Nat), l[i]? = some false → ((l.set i true).filter (!·)).length + 1 = (l.filter (!·)).length := by
  intro l
  induction l with
  | nil => intro i h; simp at h
  | cons b l ih =>
    intro i h
    cases i with
    | zero => simp at h; subst h; simp
    | succ i =>
      have := ih i (by simpa using h)
      cases b <;> simp only [List.set_cons_succ, List.filter_cons] <;> simp <;> omega

theorem left_set {l : Array Bool} {i : Nat} (h : l.getD i true = false) : left (l.setIfInBounds i true) + 1 = left l := by
  unfold left
  have hi : i < l.size := by
    by_cases hi : i < l.size
    · exact hi
    · simp [Array.getD, hi] at h
  rw [Array.toList_setIfInBounds]
  apply filter_set
  simp [Array.getD, hi] at h
  simp [hi, h]

theorem any_inv (R : Array Bool → Act → World → Prop)
    (hstep : ∀ l a w i, R l a w → i ∈ Region.ready md ops l → wpOpIn F n P ops Q i (R (l.setIfInBounds i true)) a w)
    (hend : ∀ l a w, R l a w → Region.ready md ops l = [] → Q .normal a w) :
    ∀ (fuel : Nat) (l : Array Bool) (a : Act) (w : World), left l ≤ fuel → R l a w → wpAnyIn F n P md ops Q fuel l a w := by
  intro fuel
  induction fuel with
  | zero =>
    intro l a w hl hr
    have hz : Region.ready md ops l = [] := by
      apply List.eq_nil_iff_forall_not_mem.2
      intro j hj
      have := (mem_ready.1 hj).1
      rw [left_zero (by omega)] at this
      cases this
    exact ⟨hz, hend l a w hr hz⟩
  | succ fuel ih =>
    intro l a w hl hr
    refine ⟨fun hz => hend l a w hr hz, fun i hi => ?_⟩
    refine wpOpIn_mono (fun a' w' hr' => ih _ a' w' ?_ hr') (hstep l a w i hr hi)
    have := left_set (mem_ready.1 hi).1
    omega

/-- **A region that draws, by what holds behind each set of its operations.** -/
theorem region_inv {id : Nat} {a : Act} {w : World} (hm : P.follows .mixedOrders = true) (R : Array Bool → Act → World → Prop)
    (h0 : R (Array.replicate ops.size false) a w.drew)
    (hstep : ∀ l a w i, R l a w → i ∈ Region.ready .any ops l → wpOpIn F n P ops Q i (R (l.setIfInBounds i true)) a w)
    (hend : ∀ l a w, R l a w → Region.ready .any ops l = [] → Q .normal a w) : (Code.region id ops true).wpIn F n P Q a w := by
  refine wpIn_region_any hm (any_inv R hstep hend _ _ _ _ ?_ h0)
  unfold left
  rw [Array.toList_replicate]
  exact Nat.le_trans (List.length_filter_le _ _) (by simp)

/-- The frame when the operations of l are done: each one's slot holds its value, whatever else is as it was. -/
structure Fr (own : Nat → Option (Nat × Value)) (T : Array Value) (l : Array Bool) (a : Act) : Prop where
  defers : a.defers = []
  size : a.tmps.size = T.size
  slot : ∀ j, j < T.size → a.tmps.getD j undef = match own j with
    | some (i, v) => if l.getD i true = true then v else T.getD j undef
    | none => T.getD j undef

theorem Fr.start (own : Nat → Option (Nat × Value)) (T : Array Value) (l : Array Bool) (h : ∀ j i v, own j = some (i, v) → l.getD i true = false) : Fr own T l ⟨T, []⟩ :=
  ⟨rfl, rfl, fun j _ => by
    cases ho : own j with
    | none => rfl
    | some p => obtain ⟨i, v⟩ := p; simp only []; rw [h j i v ho]; rfl⟩

/-- An operation with a slot of its own. -/
theorem Fr.put {own : Nat → Option (Nat × Value)} {T : Array Value} {l : Array Bool} {a : Act} (h : Fr own T l a) {i d : Nat} {v : Value} (hd : own d = some (i, v)) (hi : i < l.size) (hu : ∀ j p, own j = some p → p.1 = i → j = d) : Fr own T (l.setIfInBounds i true) (a.put (some d) v) := by
  refine ⟨h.defers, by simp [Act.put, h.size], fun j hj => ?_⟩
  have hs := h.slot j hj
  by_cases hjd : j = d
  · subst hjd
    have hsz : j < a.tmps.size := by rw [h.size]; exact hj
    simp [Act.put, Array.getD, hsz, hd, hi]
  · have e1 : (a.put (some d) v).tmps.getD j undef = a.tmps.getD j undef := by
      simp only [Act.put, Array.getD_eq_getD_getElem?]
      rw [Array.getElem?_setIfInBounds_ne (by omega)]
    rw [e1, hs]
    cases ho : own j with
    | none => rfl
    | some p =>
      obtain ⟨k, u⟩ := p
      simp only []
      have hk : k ≠ i := fun e => hjd (hu j _ ho e)
      rw [getD_set_ne true (by omega)]

/-- An operation without one. -/
theorem Fr.bare {own : Nat → Option (Nat × Value)} {T : Array Value} {l : Array Bool} {a : Act} (h : Fr own T l a) {i : Nat} (v : Value) (hu : ∀ j p, own j = some p → p.1 ≠ i) : Fr own T (l.setIfInBounds i true) (a.put none v) := by
  refine ⟨h.defers, h.size, fun j hj => ?_⟩
  show a.tmps.getD j undef = _
  rw [h.slot j hj]
  cases ho : own j with
  | none => rfl
  | some p =>
    obtain ⟨k, u⟩ := p
    simp only []
    rw [getD_set_ne true (fun e => hu j _ ho e.symm)]

/-- What a slot holds whose operation is done. -/
theorem Fr.done {own : Nat → Option (Nat × Value)} {T : Array Value} {l : Array Bool} {a : Act} (h : Fr own T l a) {i j : Nat} {v : Value} (hd : own j = some (i, v)) (hl : l.getD i false = true) (hj : j < T.size) : a.tmps.getD j undef = v := by
  have hl' : l.getD i true = true := by
    have hi : i < l.size := by
      by_cases hi : i < l.size
      · exact hi
      · simp [Array.getD, hi] at hl
    simp [Array.getD, hi] at hl ⊢
    exact hl
  rw [h.slot j hj, hd]
  simp only []
  rw [if_pos hl']

/-- What a slot holds that is none of the region's. -/
theorem Fr.kept {own : Nat → Option (Nat × Value)} {T : Array Value} {l : Array Bool} {a : Act} (h : Fr own T l a) {j : Nat} (hd : own j = none) (hj : j < T.size) : a.tmps.getD j undef = T.getD j undef := by
  rw [h.slot j hj, hd]

/-- The frame when all is done. -/
theorem Fr.all {own : Nat → Option (Nat × Value)} {T T' : Array Value} {l : Array Bool} {a : Act} (h : Fr own T l a) (hl : ∀ j i v, own j = some (i, v) → l.getD i true = true) (hs : T'.size = T.size)
    (ht : ∀ j, j < T.size → T'.getD j undef = match own j with | some (_, v) => v | none => T.getD j undef) : a = ⟨T', []⟩ := by
  obtain ⟨tmps, defers⟩ := a
  obtain ⟨h1, h2, h3⟩ := h
  simp only at h1 h2 h3
  subst h1
  congr 1
  apply Array.ext
  · rw [h2, hs]
  · intro j hj1 hj2
    have e := h3 j (by omega)
    have e' := ht j (by omega)
    have x1 : tmps.getD j undef = tmps[j] := by simp [Array.getD, hj1]
    have x2 : T'.getD j undef = T'[j] := by simp [Array.getD, hj2]
    rw [← x1, ← x2, e, e']
    cases ho : own j with
    | none => rfl
    | some p => obtain ⟨i, v⟩ := p; simp only []; rw [hl j i v ho]; rfl

end Go.Proofs.YtdgmjmckeeeljaaGreatDoor
