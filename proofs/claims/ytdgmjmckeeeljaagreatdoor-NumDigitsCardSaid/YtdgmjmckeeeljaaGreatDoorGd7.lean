/- A region that draws its order, of which each operation's result is known by its kind, and which lays at most one number into a box of its own. No condition. A region that draws its order, of which each operation's result is known beforehand, and which stores once into a cell that it may load. No condition. A region that draws its order, of which each operation's result is known beforehand, while calls make memory. No condition. -/
import Derived.Test.YtdgmjmckeeeljaaGreatDoorGd6
namespace Go.Proofs.YtdgmjmckeeeljaaGreatDoor
open Go Go.RowKit

/-- What an operation's result is known to be. -/
inductive Kd where
  | val (v : Value)
  | nu (z : Int)
  | pair (z : Int)
  | any
  | byte (b : Int)

def Kd.ok : Kd → Value → World → Prop
  | .val v, x, _ => x = v
  | .nu z, x, w => ∃ neg ao n cap, x = .agg #[.bool neg, .slice ao n cap] ∧ Nu w (.agg #[.bool neg, .slice ao n cap]) z
  | .pair z, x, w => ∃ neg ao n cap, x = .tuple #[.agg #[.bool neg, .slice ao n cap], .bool true] ∧ Nu w (.agg #[.bool neg, .slice ao n cap]) z
  | .any, _, _ => True
  | .byte b, x, w => ∃ g, x = .slice (some ⟨g, 0, none⟩) 1 1 ∧ w.heap[g]? = some (.cells #[.int .u8 b] 5 (0, 0))

theorem Kd.ok.below {k : Kd} {v : Value} {w w' : World} (h : k.ok v w) (hb : Below w.heap.size w w') : k.ok v w' := by
  cases k with
  | val u => exact h
  | nu z => obtain ⟨neg, ao, n, cap, e, hn⟩ := h; exact ⟨neg, ao, n, cap, e, hn.below hb⟩
  | pair z => obtain ⟨neg, ao, n, cap, e, hn⟩ := h; exact ⟨neg, ao, n, cap, e, hn.below hb⟩
  | any => exact trivial
  | byte b => obtain ⟨g, e, hg⟩ := h; exact ⟨g, e, (hb.block _ (Array.getElem?_eq_some_iff.1 hg).1).trans hg⟩

theorem Kd.ok.stored {k : Kd} {v : Value} {w : World} (h : k.ok v w) {g m c : Nat} {b : Bool} {so : Option Addr} (hg : w.heap[g]? = some (.cells #[.bool b, .slice so m c] 27 (0, 0))) (nb : Bool) (u : Value) :
    k.ok v ((w.setCell ⟨g, 0, none⟩ (.bool nb)).setCell ⟨g, 1, none⟩ u) := by
  have hr1 : (w.setCell ⟨g, 0, none⟩ (.bool nb)).heap[g]? = some (.cells #[.bool nb, .slice so m c] 27 (0, 0)) := by
    have := heap_setCell_same w g 0 _ 27 (.bool nb) hg
    simpa using this
  cases k with
  | val u => exact h
  | nu z => obtain ⟨neg, ao, n, cap, e, hn⟩ := h; exact ⟨neg, ao, n, cap, e, nu_setBox (nu_setBox hn hg 0 _) hr1 1 _⟩
  | pair z => obtain ⟨neg, ao, n, cap, e, hn⟩ := h; exact ⟨neg, ao, n, cap, e, nu_setBox (nu_setBox hn hg 0 _) hr1 1 _⟩
  | any => exact trivial
  | byte b =>
    obtain ⟨g', e, hg'⟩ := h
    have hne : g' ≠ g := fun e => by
      subst e
      rw [hg] at hg'
      cases hg'
    exact ⟨g', e, by rw [heap_setCell_other _ _ _ _ hne, heap_setCell_other _ _ _ _ hne]; exact hg'⟩

/-- The slot that each operation writes, and what it holds. -/
def tOwn (ds : List (Option Nat)) (vals : Nat → Value) (j : Nat) : Option (Nat × Value) :=
  match ds.findIdx? (fun x => x == some j) with
  | some i => some (i, vals i)
  | none => none

theorem tOwn_some {ds : List (Option Nat)} {vals : Nat → Value} {j i : Nat} (h : ds.findIdx? (fun x => x == some j) = some i) : tOwn ds vals j = some (i, vals i) := by
  unfold tOwn
  rw [h]
theorem tOwn_inv {ds : List (Option Nat)} {vals : Nat → Value} {j : Nat} {p : Nat × Value} (h : tOwn ds vals j = some p) : ds[p.1]? = some (some j) ∧ p.2 = vals p.1 := by
  unfold tOwn at h
  split at h
  · rename_i i hi
    cases h
    rw [List.findIdx?_eq_some_iff_getElem] at hi
    obtain ⟨h1, h2, _⟩ := hi
    exact ⟨by rw [List.getElem?_eq_getElem h1]; rw [beq_iff_eq] at h2; rw [h2], rfl⟩
  · cases h

structure RG (W0 : World) (T : Array Value) (ds : List (Option Nat)) (ks : List Kd) (bx : Option (Nat × Nat × Int)) (vals : Nat → Value) (l : Array Bool) (a : Act) (w : World) : Prop where
  size : l.size = ds.length
  fr : Fr (tOwn ds vals) T l a
  bl : Below W0.heap.size W0 w
  val : ∀ i, i < ds.length → l.getD i true = true → (ks.getD i .any).ok (vals i) w
  dep : ∀ ai si z, bx = some (ai, si, z) → l.getD si true = true → l.getD ai true = true
  box : ∀ ai si z, bx = some (ai, si, z) → l.getD ai true = true → ∃ g, vals ai = .pointer (some ⟨g, 0, none⟩) ∧ W0.heap.size ≤ g ∧ g < w.heap.size ∧
    (l.getD si true = false → w.heap[g]? = some (.cells #[.bool false, .slice none 0 0] 27 (0, 0))) ∧ (l.getD si true = true → ∃ neg ao n cap, Bx w g neg ao n cap z)

section
variable {W0 : World} {T : Array Value} {ds : List (Option Nat)} {ks : List Kd} {bx : Option (Nat × Nat × Int)} {vals : Nat → Value} {l : Array Bool} {a : Act} {w : World}

theorem Fr.stepT (h : Fr (tOwn ds vals) T l a) {i d : Nat} (hd : ds.findIdx? (fun x => x == some d) = some i) (hi : i < l.size) (hl : l.getD i true = false) (v : Value) :
    Fr (tOwn ds (fun u => if u = i then v else vals u)) T (l.setIfInBounds i true) (a.put (some d) v) := by
  have hf : Fr (tOwn ds (fun u => if u = i then v else vals u)) T l a := h.swap
    (fun j p hp hq => by
      obtain ⟨h1, h2⟩ := tOwn_inv hp
      have hne : p.1 ≠ i := fun e => by rw [e, hl] at hq; cases hq
      simp only [hne, if_false] at h2
      unfold tOwn at hp ⊢
      split at hp
      · cases hp; simp only [] at h2 ⊢; rw [h2]
      · cases hp)
    (fun j p hp hq => by
      obtain ⟨h1, h2⟩ := tOwn_inv hp
      have hne : p.1 ≠ i := fun e => by rw [e, hl] at hq; cases hq
      unfold tOwn at hp ⊢
      split at hp
      · cases hp; simp only [hne, if_false]
      · cases hp)
  refine hf.put (by rw [tOwn_some hd, if_pos rfl]) hi (fun j p hp e => ?_)
  obtain ⟨h1, _⟩ := tOwn_inv hp
  rw [List.findIdx?_eq_some_iff_getElem] at hd
  obtain ⟨h2, h3, _⟩ := hd
  rw [beq_iff_eq] at h3
  rw [e, List.getElem?_eq_getElem h2, h3] at h1
  cases h1
  rfl

/-- An operation that writes a slot. -/
theorem RG.op (h : RG W0 T ds ks bx vals l a w) (i d : Nat) (hd : ds.findIdx? (fun x => x == some d) = some i) (hi : i < ds.length) (hl : l.getD i true = false) {v : Value} {w' : World} (hb : Below w.heap.size w w') (hv : (ks.getD i .any).ok v w')
    (hnb : ∀ ai si z, bx = some (ai, si, z) → i ≠ ai ∧ i ≠ si) :
    RG W0 T ds ks bx (fun u => if u = i then v else vals u) (l.setIfInBounds i true) (a.put (some d) v) w' := by
  refine ⟨by rw [Array.size_setIfInBounds]; exact h.size, h.fr.stepT hd (by rw [h.size]; exact hi) hl v, h.bl.trans (hb.mono h.bl.size), fun k hk h1 => ?_, fun ai si z e h1 => ?_, fun ai si z e h1 => ?_⟩
  · by_cases e : k = i
    · subst e
      simp only [if_true]
      exact hv
    · simp only [e, if_false]
      rcases gset_true h1 with e2 | h1
      · exact absurd e2 e
      · exact (h.val k hk h1).below hb
  · obtain ⟨n1, n2⟩ := hnb _ _ _ e
    rcases gset_true h1 with e2 | h1
    · exact absurd e2.symm n2
    · exact gset_old (h.dep _ _ _ e h1)
  · obtain ⟨n1, n2⟩ := hnb _ _ _ e
    rcases gset_true h1 with e2 | h1
    · exact absurd e2.symm n1
    · obtain ⟨g, q1, q2, q3, q4, q5⟩ := h.box _ _ _ e h1
      refine ⟨g, ?_, q2, Nat.lt_of_lt_of_le q3 hb.size, fun h2 => ?_, fun h2 => ?_⟩
      · simp only [Ne.symm n1, if_false]; exact q1
      · exact (hb.block _ q3).trans (q4 (gset_false h2).2)
      · rcases gset_true h2 with e2 | h2
        · exact absurd e2.symm n2
        · obtain ⟨neg, ao, n, cap, hx⟩ := q5 h2
          exact ⟨neg, ao, n, cap, hx.below hb⟩

/-- The box made. -/
theorem RG.alloc {ai si : Nat} {z : Int} (h : RG W0 T ds ks (some (ai, si, z)) vals l a w) {d : Nat} (hd : ds.findIdx? (fun x => x == some d) = some ai) (hi : ai < ds.length) (hl : l.getD ai true = false) (hk : ks.getD ai .any = .any) (hne : ai ≠ si) :
    RG W0 T ds ks (some (ai, si, z)) (fun u => if u = ai then .pointer (some ⟨w.heap.size, 0, none⟩) else vals u) (l.setIfInBounds ai true) (a.put (some d) (.pointer (some ⟨w.heap.size, 0, none⟩))) (w.alloc (.cells #[.bool false, .slice none 0 0] 27)) := by
  have hb := alloc_b w (.cells #[.bool false, .slice none 0 0] 27)
  have hsf : l.getD si true = false := by
    cases hs : l.getD si true with
    | false => rfl
    | true => rw [h.dep _ _ _ rfl hs] at hl; cases hl
  refine ⟨by rw [Array.size_setIfInBounds]; exact h.size, h.fr.stepT hd (by rw [h.size]; exact hi) hl _, h.bl.trans (hb.mono h.bl.size), fun k hk2 h1 => ?_, fun ai' si' z' e h1 => ?_, fun ai' si' z' e h1 => ?_⟩
  · by_cases e : k = ai
    · subst e
      rw [hk]
      exact trivial
    · simp only [e, if_false]
      rcases gset_true h1 with e2 | h1
      · exact absurd e2 e
      · exact (h.val k hk2 h1).below hb
  · cases e
    rcases gset_true h1 with e2 | h1
    · exact absurd e2.symm hne
    · rw [hsf] at h1; cases h1
  · cases e
    refine ⟨w.heap.size, by simp only [if_true], h.bl.size, by simp, fun _ => heap_alloc_new _ _, fun h2 => ?_⟩
    rcases gset_true h2 with e2 | h2
    · exact absurd e2.symm hne
    · rw [hsf] at h2; cases h2

/-- The store. -/
theorem RG.store {ai si : Nat} {z : Int} (h : RG W0 T ds ks (some (ai, si, z)) vals l a w) (hds : ds[si]? = some none) (hl : l.getD si true = false) (h1 : l.getD ai true = true) (hk : ks.getD si .any = .any) {g : Nat} (hg : vals ai = .pointer (some ⟨g, 0, none⟩)) {neg : Bool} {ao : Option Addr} {n cap : Nat} (hn : Nu w (.agg #[.bool neg, .slice ao n cap]) z) (u : Value) :
    RG W0 T ds ks (some (ai, si, z)) vals (l.setIfInBounds si true) (a.put none u) ((w.setCell ⟨g, 0, none⟩ (.bool neg)).setCell ⟨g, 1, none⟩ (.slice ao n cap)) := by
  obtain ⟨g', q1, q2, q3, q4, q5⟩ := h.box _ _ _ rfl h1
  rw [hg] at q1
  cases q1
  have hz := q4 hl
  have hr1 : (w.setCell ⟨g, 0, none⟩ (.bool neg)).heap[g]? = some (.cells #[.bool neg, .slice none 0 0] 27 (0, 0)) := by
    have := heap_setCell_same w g 0 _ 27 (.bool neg) hz
    simpa using this
  have hr2 : ((w.setCell ⟨g, 0, none⟩ (.bool neg)).setCell ⟨g, 1, none⟩ (.slice ao n cap)).heap[g]? = some (.cells #[.bool neg, .slice ao n cap] 27 (0, 0)) := by
    have := heap_setCell_same _ g 1 _ 27 (.slice ao n cap) hr1
    simpa using this
  have hb : Below W0.heap.size W0 ((w.setCell ⟨g, 0, none⟩ (.bool neg)).setCell ⟨g, 1, none⟩ (.slice ao n cap)) := (h.bl.setCell q2 _).setCell q2 _
  refine ⟨by rw [Array.size_setIfInBounds]; exact h.size, h.fr.bare u (fun j p hp e => ?_), hb, fun k hk2 h3 => ?_, fun ai' si' z' e h3 => ?_, fun ai' si' z' e h3 => ?_⟩
  · obtain ⟨e1, _⟩ := tOwn_inv hp
    rw [e, hds] at e1
    cases e1
  · by_cases e : k = si
    · subst e
      rw [hk]
      exact trivial
    · rcases gset_true h3 with e2 | h3
      · exact absurd e2 e
      · exact (h.val k hk2 h3).stored hz _ _
  · cases e
    exact gset_old h1
  · cases e
    exact ⟨g, hg, q2, by simpa using q3, fun h4 => absurd rfl (gset_false h4).1, fun _ => ⟨neg, ao, n, cap, hr2, nu_setBox (nu_setBox hn hz 0 _) hr1 1 _⟩⟩

/-- What the store needs. -/
theorem RG.ready {ai si : Nat} {z : Int} (h : RG W0 T ds ks (some (ai, si, z)) vals l a w) (hl : l.getD si true = false) (h1 : l.getD ai true = true) :
    ∃ g, vals ai = .pointer (some ⟨g, 0, none⟩) ∧ w.cell? ⟨g, 0, none⟩ = some (.bool false) ∧ w.cell? ⟨g, 1, none⟩ = some (.slice none 0 0) ∧ w.frozen? ⟨g, 0, none⟩ = false ∧ w.frozen? ⟨g, 1, none⟩ = false ∧ g < w.heap.size := by
  obtain ⟨g, q1, q2, q3, q4, q5⟩ := h.box _ _ _ rfl h1
  have hz := q4 hl
  refine ⟨g, q1, ?_, ?_, frozen_of_row _ _ _ _ _ hz, frozen_of_row _ _ _ _ _ hz, q3⟩
  · rw [cell_of_row _ _ _ _ _ _ hz]; rfl
  · rw [cell_of_row _ _ _ _ _ _ hz]; rfl

/-- The beginning. -/
theorem RG.start (hT : l = Array.replicate ds.length false) (hb : Below W0.heap.size W0 w) (hbx : ∀ ai si z, bx = some (ai, si, z) → ai < ds.length ∧ si < ds.length) : RG W0 T ds ks bx vals l ⟨T, []⟩ w := by
  have hf : ∀ j, j < ds.length → l.getD j true = false := fun j hj => by rw [hT]; simp [Array.getD, hj]
  refine ⟨by rw [hT]; simp, Fr.start _ _ _ (fun j i v h => hf i ?_), hb, fun i hi h => ?_, fun ai si z e h => ?_, fun ai si z e h => ?_⟩
  · obtain ⟨h1, _⟩ := tOwn_inv h
    exact (List.getElem?_eq_some_iff.1 h1).1
  · rw [hf _ hi] at h; cases h
  · rw [hf _ (hbx _ _ _ e).2] at h; cases h
  · rw [hf _ (hbx _ _ _ e).1] at h; cases h

/-- The end. -/
theorem RG.all (h : RG W0 T ds ks bx vals l a w) (hl : ∀ i, i < ds.length → l.getD i true = true) {T' : Array Value} (hs : T'.size = T.size)
    (ht : ∀ j, j < T.size → T'.getD j undef = match tOwn ds vals j with | some (_, v) => v | none => T.getD j undef) : a = ⟨T', []⟩ :=
  h.fr.all (fun j i v hj => hl i (List.getElem?_eq_some_iff.1 (tOwn_inv hj).1).1) hs ht
theorem RG.boxed {ai si : Nat} {z : Int} (h : RG W0 T ds ks (some (ai, si, z)) vals l a w) (h1 : l.getD ai true = true) (h2 : l.getD si true = true) : ∃ g neg ao n cap, vals ai = .pointer (some ⟨g, 0, none⟩) ∧ Bx w g neg ao n cap z := by
  obtain ⟨g, q1, _, _, _, q5⟩ := h.box _ _ _ rfl h1
  obtain ⟨neg, ao, n, cap, hx⟩ := q5 h2
  exact ⟨g, neg, ao, n, cap, q1, hx⟩
end

theorem nu_parts {w : World} {x : Value} {z : Int} (h : Nu w x z) : ∃ neg ao n cap, x = .agg #[.bool neg, .slice ao n cap] ∧ Nu w (.agg #[.bool neg, .slice ao n cap]) z := by
  obtain ⟨s, rfl, hs, hl⟩ := h
  obtain ⟨ao, cap, rfl⟩ := hs.mk'
  exact ⟨_, ao, _, cap, rfl, _, rfl, hs, hl⟩
theorem nu_abs {w : World} {neg : Bool} {s : Value} {z : Int} {u : Nat} (h : Nu w (.agg #[.bool neg, s]) z) (hu : u = z.natAbs) : Nu w (.agg #[.bool false, s]) (u : Int) := by
  obtain ⟨s', e, hs, hl⟩ := h
  injection e with e
  simp only [Array.mk.injEq, List.cons.injEq, and_true] at e
  obtain ⟨_, rfl⟩ := e
  subst hu
  refine ⟨s, ?_, hs, hl⟩
  rw [show decide (((z.natAbs : Nat) : Int) < 0) = false from decide_eq_false (by omega)]

end Go.Proofs.YtdgmjmckeeeljaaGreatDoor

namespace Go.Proofs.YtdgmjmckeeeljaaGreatDoor
open Go Go.RowKit

structure RV (W : World) (c : Addr) (u : Value) (si : Nat) (ch : List (Nat × Nat)) (T : Array Value) (ds : List (Option Nat)) (vals : Nat → Value) (l : Array Bool) (a : Act) (w : World) : Prop where
  size : l.size = ds.length
  fr : Fr (tOwn ds vals) T l a
  wld : w = if l.getD si true = true then W.setCell c u else W
  dep : ∀ i j, (i, j) ∈ ch → l.getD i true = true → l.getD j true = true

section
variable {W : World} {c : Addr} {u : Value} {si : Nat} {ch : List (Nat × Nat)} {T : Array Value} {ds : List (Option Nat)} {vals : Nat → Value} {l : Array Bool} {a : Act} {w : World}

theorem dep_set {i : Nat} (h : ∀ i j, (i, j) ∈ ch → l.getD i true = true → l.getD j true = true) (hc : ∀ j, (i, j) ∈ ch → l.getD j true = true) : ∀ k j, (k, j) ∈ ch → (l.setIfInBounds i true).getD k true = true → (l.setIfInBounds i true).getD j true = true := by
  intro k j hm hk
  rcases gset_true hk with e | hk
  · subst e; exact gset_old (hc j hm)
  · exact gset_old (h k j hm hk)

/-- An operation that writes a slot. -/
theorem RV.op (h : RV W c u si ch T ds vals l a w) (i d : Nat) {v : Value} (hv : vals i = v) (hd : ds.findIdx? (fun x => x == some d) = some i) (hi : i < ds.length) (hl : l.getD i true = false) (hne : i ≠ si) (hc : ∀ j, (i, j) ∈ ch → l.getD j true = true) :
    RV W c u si ch T ds vals (l.setIfInBounds i true) (a.put (some d) v) w := by
  subst hv
  refine ⟨by rw [Array.size_setIfInBounds]; exact h.size, ?_, ?_, dep_set h.dep hc⟩
  · have := h.fr.stepT hd (by rw [h.size]; exact hi) hl (vals i)
    rwa [show (fun t => if t = i then vals i else vals t) = vals from funext fun t => by by_cases e : t = i <;> simp [e]] at this
  · rw [h.wld, getD_set_ne true (by omega)]

/-- The store. -/
theorem RV.store (h : RV W c u si ch T ds vals l a w) (hds : ds[si]? = some none) (hl : l.getD si true = false) (hc : ∀ j, (si, j) ∈ ch → l.getD j true = true) (v : Value) :
    RV W c u si ch T ds vals (l.setIfInBounds si true) (a.put none v) (w.setCell c u) := by
  have hs : si < l.size := by
    by_cases hi : si < l.size
    · exact hi
    · simp [Array.getD, hi] at hl
  refine ⟨by rw [Array.size_setIfInBounds]; exact h.size, h.fr.bare v (fun j p hp e => ?_), ?_, dep_set h.dep hc⟩
  · obtain ⟨e1, _⟩ := tOwn_inv hp
    rw [e, hds] at e1
    cases e1
  · have e := h.wld
    rw [if_neg (by rw [hl]; exact Bool.false_ne_true)] at e
    rw [if_pos (by simp [Array.getD, hs]), e]

/-- Before the store the world is as it was. -/
theorem RV.before (h : RV W c u si ch T ds vals l a w) {i : Nat} (hl : l.getD i true = false) (hr : l.getD si true = true → l.getD i true = true) : w = W := by
  rw [h.wld, if_neg]
  intro hs
  rw [hr hs] at hl
  cases hl

theorem RV.start (hT : l = Array.replicate ds.length false) (hch : ∀ i j, (i, j) ∈ ch → i < ds.length) (hs : si < ds.length) : RV W c u si ch T ds vals l ⟨T, []⟩ W := by
  have hf : ∀ j, j < ds.length → l.getD j true = false := fun j hj => by rw [hT]; simp [Array.getD, hj]
  refine ⟨by rw [hT]; simp, Fr.start _ _ _ (fun j i v h => hf i ?_), ?_, fun i j hm h => ?_⟩
  · obtain ⟨h1, _⟩ := tOwn_inv h
    exact (List.getElem?_eq_some_iff.1 h1).1
  · rw [if_neg (by rw [hf si hs]; exact Bool.false_ne_true)]
  · rw [hf _ (hch _ _ hm)] at h
    cases h

theorem RV.all (h : RV W c u si ch T ds vals l a w) (hl : ∀ i, i < ds.length → l.getD i true = true) (hs : si < ds.length) {T' : Array Value} (hT : T'.size = T.size)
    (ht : ∀ j, j < T.size → T'.getD j undef = match tOwn ds vals j with | some (_, v) => v | none => T.getD j undef) : a = ⟨T', []⟩ ∧ w = W.setCell c u := by
  refine ⟨h.fr.all (fun j i v hj => hl i (List.getElem?_eq_some_iff.1 (tOwn_inv hj).1).1) hT ht, ?_⟩
  rw [h.wld, if_pos (hl si hs)]
end

theorem rv_sets (T : Array Value) (i j : Nat) (v : Value) : (T.setIfInBounds i v).getD j undef = if i = j ∧ i < T.size then v else T.getD j undef := by
  by_cases h : i = j
  · subst h
    by_cases h2 : i < T.size
    · simp [Array.getD, h2]
    · simp [Array.getD, h2]
  · rw [if_neg (fun e => h e.1)]
    simp only [Array.getD_eq_getD_getElem?]
    rw [Array.getElem?_setIfInBounds_ne h]

/-- What a slot holds whose operation is not done. -/
theorem Fr.undone {own : Nat → Option (Nat × Value)} {T : Array Value} {l : Array Bool} {a : Act} (h : Fr own T l a) {i j : Nat} {v : Value} (hd : own j = some (i, v)) (hl : l.getD i true = false) (hj : j < T.size) : a.tmps.getD j undef = T.getD j undef := by
  rw [h.slot j hj, hd]
  simp only []
  rw [if_neg (by rw [hl]; exact Bool.false_ne_true)]

theorem false_of {l : Array Bool} {i k : Nat} (hl : l.getD i true = false) (h : l.getD k true = true → l.getD i true = true) : l.getD k true = false := by
  cases hk : l.getD k true with
  | false => rfl
  | true => rw [h hk] at hl; cases hl

theorem frame_named {P : Program} {c : Code} {Q : Exit → Act → World → Prop} {T0 : Array Value} {w : World} (h : ∀ T, T = T0 → c.wp P Q ⟨T, []⟩ w) : c.wp P Q ⟨T0, []⟩ w := h T0 rfl
theorem frame_namedIn {F : Fence} {n : Nat} {P : Program} {c : Code} {Q : Exit → Act → World → Prop} {T0 : Array Value} {w : World} (h : ∀ T, T = T0 → c.wpIn F n P Q ⟨T, []⟩ w) : c.wpIn F n P Q ⟨T0, []⟩ w := h T0 rfl

end Go.Proofs.YtdgmjmckeeeljaaGreatDoor

namespace Go.Proofs.YtdgmjmckeeeljaaGreatDoor
open Go Go.RowKit

structure RB (W0 : World) (T : Array Value) (ds : List (Option Nat)) (vals : Nat → Value) (l : Array Bool) (a : Act) (w : World) : Prop where
  size : l.size = ds.length
  fr : Fr (tOwn ds vals) T l a
  bl : Below W0.heap.size W0 w

section
variable {W0 : World} {T : Array Value} {ds : List (Option Nat)} {vals : Nat → Value} {l : Array Bool} {a : Act} {w : World}

theorem RB.op (h : RB W0 T ds vals l a w) (i d : Nat) {v : Value} (hv : vals i = v) (hd : ds.findIdx? (fun x => x == some d) = some i) (hi : i < ds.length) (hl : l.getD i true = false) {w' : World} (hb : Below w.heap.size w w') :
    RB W0 T ds vals (l.setIfInBounds i true) (a.put (some d) v) w' := by
  subst hv
  refine ⟨by rw [Array.size_setIfInBounds]; exact h.size, ?_, h.bl.trans (hb.mono h.bl.size)⟩
  have := h.fr.stepT hd (by rw [h.size]; exact hi) hl (vals i)
  rwa [show (fun t => if t = i then vals i else vals t) = vals from funext fun t => by by_cases e : t = i <;> simp [e]] at this

theorem RB.start (hT : l = Array.replicate ds.length false) (hb : Below W0.heap.size W0 w) : RB W0 T ds vals l ⟨T, []⟩ w := by
  have hf : ∀ j, j < ds.length → l.getD j true = false := fun j hj => by rw [hT]; simp [Array.getD, hj]
  refine ⟨by rw [hT]; simp, Fr.start _ _ _ (fun j i v h => hf i ?_), hb⟩
  obtain ⟨h1, _⟩ := tOwn_inv h
  exact (List.getElem?_eq_some_iff.1 h1).1

theorem RB.all (h : RB W0 T ds vals l a w) (hl : ∀ i, i < ds.length → l.getD i true = true) {T' : Array Value} (hT : T'.size = T.size)
    (ht : ∀ j, j < T.size → T'.getD j undef = match tOwn ds vals j with | some (_, v) => v | none => T.getD j undef) : a = ⟨T', []⟩ :=
  h.fr.all (fun j i v hj => hl i (List.getElem?_eq_some_iff.1 (tOwn_inv hj).1).1) hT ht
end

theorem Fr.opt {own : Nat → Option (Nat × Value)} {T : Array Value} {l : Array Bool} {a : Act} (h : Fr own T l a) {j : Nat} {v : Value} (hj : j < T.size) (hv : a.tmps.getD j undef = v) : a.tmps[j]? = some v := by
  have hs : j < a.tmps.size := by rw [h.size]; exact hj
  rw [Array.getElem?_eq_getElem hs, ← hv]
  simp [Array.getD, hs]

end Go.Proofs.YtdgmjmckeeeljaaGreatDoor
