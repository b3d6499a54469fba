/- A region that draws its order, outside fences, met by what holds behind each set of its operations; and three numbers made, each in a box of its own. No condition. -/
import Derived.Orders
import Derived.Test.YtdgmjmckeeeljaaGreatDoorSS
namespace Go.Proofs.YtdgmjmckeeeljaaGreatDoor
open Go Go.RowKit

section
variable {P : Program} {ops : Array Oper} {Q : Exit → Act → World → Prop} {md : Region.Mode}

theorem anyP_inv (R : Array Bool → Act → World → Prop)
    (hstep : ∀ l a w i, R l a w → i ∈ Region.ready md ops l → wpOp P ops Q i (R (l.setIfInBounds i true)) a w)
    (hend : ∀ l a w, R l a w → Region.ready md ops l = [] → Q .normal a w) :
    ∀ (fuel : Nat) (l : Array Bool) (a : Act) (w : World), left l ≤ fuel → R l a w → wpAny P md ops Q fuel l a w := by
  intro fuel
  induction fuel with
  | zero =>
    intro l a w hl hr
    have hz : Region.ready md ops l = [] := by
      apply List.eq_nil_iff_forall_not_mem.2
      intro j hj
      have := (mem_ready.1 hj).1
      rw [left_zero (by omega)] at this
      cases this
    exact ⟨hz, hend l a w hr hz⟩
  | succ fuel ih =>
    intro l a w hl hr
    refine ⟨fun hz => hend l a w hr hz, fun i hi => ?_⟩
    refine wpOp_mono (fun a' w' hr' => ih _ a' w' ?_ hr') (hstep l a w i hr hi)
    have := left_set (mem_ready.1 hi).1
    omega

theorem regionP_inv {id : Nat} {a : Act} {w : World} (hm : P.follows .mixedOrders = true) (R : Array Bool → Act → World → Prop)
    (h0 : R (Array.replicate ops.size false) a w.drew)
    (hstep : ∀ l a w i, R l a w → i ∈ Region.ready .any ops l → wpOp P ops Q i (R (l.setIfInBounds i true)) a w)
    (hend : ∀ l a w, R l a w → Region.ready .any ops l = [] → Q .normal a w) : (Code.region id ops true).wp P Q a w := by
  refine wp_region_any hm (anyP_inv R hstep hend _ _ _ _ ?_ h0)
  unfold left
  rw [Array.toList_replicate]
  exact Nat.le_trans (List.length_filter_le _ _) (by simp)
end

theorem Fr.swap {own own' : Nat → Option (Nat × Value)} {T : Array Value} {l : Array Bool} {a : Act} (h : Fr own T l a)
    (h1 : ∀ j p, own' j = some p → l.getD p.1 true = true → own j = some p) (h2 : ∀ j p, own j = some p → l.getD p.1 true = true → own' j = some p) : Fr own' T l a := by
  refine ⟨h.defers, h.size, fun j hj => ?_⟩
  have hs := h.slot j hj
  cases ho' : own' j with
  | none =>
    cases ho : own j with
    | none => rw [ho] at hs; exact hs
    | some p =>
      rw [ho] at hs
      obtain ⟨i, v⟩ := p
      simp only [] at hs ⊢
      by_cases hd : l.getD i true = true
      · have := h2 j _ ho hd
        rw [ho'] at this
        cases this
      · rw [if_neg hd] at hs; exact hs
  | some p =>
    obtain ⟨i, v⟩ := p
    simp only []
    by_cases hd : l.getD i true = true
    · have := h1 j _ ho' hd
      rw [this] at hs
      simp only [] at hs
      exact hs
    · rw [if_neg hd]
      cases ho : own j with
      | none => rw [ho] at hs; exact hs
      | some q =>
        obtain ⟨i2, v2⟩ := q
        rw [ho] at hs
        simp only [] at hs
        by_cases hd2 : l.getD i2 true = true
        · have := h2 j _ ho hd2
          rw [ho'] at this
          cases this
          exact absurd hd2 hd
        · rw [if_neg hd2] at hs; exact hs

/-- What the slots hold: s0 the first scratch slot, b0 the first box's; k numbers. -/
def mOwn (k s0 b0 lb : Nat) (sl vs : Nat → Value) (gs : Nat → Nat) (j : Nat) : Option (Nat × Value) :=
  if s0 ≤ j ∧ j < s0 + 3 * k then
    (if (j - s0) % 3 = 0 then some (j - s0, .pointer (some ⟨lb, (j - s0) / 3, none⟩)) else if (j - s0) % 3 = 1 then some (j - s0, sl ((j - s0) / 3)) else some (j - s0, vs ((j - s0) / 3)))
  else if b0 ≤ j ∧ j < b0 + k then some (3 * k + (j - b0), .pointer (some ⟨gs (j - b0), 0, none⟩)) else none

/-- A number as Made makes it. -/
def Md (W : World) (v : Value) : Prop := ∃ neg ao n cap z, v = .agg #[.bool neg, .slice ao n cap] ∧ Nu W v z ∧ z.natAbs < 4294967296 ^ 6
/-- A box that holds a value. -/
def Bf (W : World) (g : Nat) (v : Value) : Prop := ∃ neg ao n cap, v = .agg #[.bool neg, .slice ao n cap] ∧ W.heap[g]? = some (.cells #[.bool neg, .slice ao n cap] 27 (0, 0))

theorem Md.below {W W' : World} {v : Value} (h : Md W v) (hb : Below W.heap.size W W') : Md W' v := by
  obtain ⟨neg, ao, n, cap, z, h1, h2, h3⟩ := h
  exact ⟨neg, ao, n, cap, z, h1, h2.below hb, h3⟩
theorem Bf.block {W W' : World} {g : Nat} {v : Value} (h : Bf W g v) (hb : W'.heap[g]? = W.heap[g]?) : Bf W' g v := by
  obtain ⟨neg, ao, n, cap, h1, h2⟩ := h
  exact ⟨neg, ao, n, cap, h1, hb.trans h2⟩
theorem Bf.lt {W : World} {g : Nat} {v : Value} (h : Bf W g v) : g < W.heap.size := by
  obtain ⟨neg, ao, n, cap, h1, h2⟩ := h
  exact (Array.getElem?_eq_some_iff.1 h2).1

structure RM (W0 : World) (T : Array Value) (k s0 b0 lb : Nat) (sl : Nat → Value) (vs : Nat → Value) (gs : Nat → Nat) (l : Array Bool) (a : Act) (w : World) : Prop where
  size : l.size = 5 * k
  fr : Fr (mOwn k s0 b0 lb sl vs gs) T l a
  bl : Below W0.heap.size W0 w
  val : ∀ t, t < k → l.getD (3 * t + 2) true = true → Md w (vs t)
  box : ∀ t, t < k → l.getD (3 * k + t) true = true → l.getD (4 * k + t) true = false → w.heap[gs t]? = some (.cells #[.bool false, .slice none 0 0] 27 (0, 0))
  big : ∀ t, t < k → l.getD (3 * k + t) true = true → W0.heap.size ≤ gs t ∧ gs t < w.heap.size
  full : ∀ t, t < k → l.getD (4 * k + t) true = true → Bf w (gs t) (vs t)
  dep : ∀ t, t < k → l.getD (4 * k + t) true = true → l.getD (3 * k + t) true = true ∧ l.getD (3 * t + 2) true = true
  ne : ∀ t u, t < k → u < k → t ≠ u → l.getD (3 * k + t) true = true → l.getD (3 * k + u) true = true → gs t ≠ gs u

end Go.Proofs.YtdgmjmckeeeljaaGreatDoor
