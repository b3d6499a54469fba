/- What Shuffle returns is an order; rows of bools. -/
import Derived.Test.YtafdjohgoopcmaaLV
namespace Go.Proofs.Ytafdjohgoopcmaa
open Go.RowKit

/-- Each number below n once. -/
structure Good (L : List Nat) (n : Nat) : Prop where
  len : L.length = n
  lt : ∀ i, i < n → L.getD i 0 < n
  inj : ∀ i j, i < n → j < n → L.getD i 0 = L.getD j 0 → i = j

theorem good_range (n : Nat) : Good (List.range n) n := by
  have e : ∀ i, i < n → (List.range n).getD i 0 = i := fun i h => by simp [List.getD, h]
  exact ⟨by simp, fun i h => by rw [e i h]; exact h, fun i j hi hj h => by rwa [e i hi, e j hj] at h⟩

theorem swap_get (L : List Nat) (i o x : Nat) (hi : i < L.length) (ho : o < L.length) : ((L.set i (L.getD o 0)).set o (L.getD i 0)).getD x 0 = L.getD (if x = o then i else if x = i then o else x) 0 := by
  simp only [List.getD, List.getElem?_set, List.length_set]
  by_cases h1 : x = o
  · subst h1; simp [ho]
  · by_cases h2 : x = i
    · subst h2
      rw [if_neg (fun e => h1 e.symm), if_neg h1]
      simp [hi]
    · rw [if_neg (fun e => h1 e.symm), if_neg (fun e => h2 e.symm), if_neg h1, if_neg h2]

theorem Good.swap {L : List Nat} {n : Nat} (h : Good L n) {i o : Nat} (hi : i < n) (ho : o < n) : Good ((L.set i (L.getD o 0)).set o (L.getD i 0)) n := by
  have hs : ∀ x, x < n → (if x = o then i else if x = i then o else x) < n := fun x hx => by split; exact hi; split; exact ho; exact hx
  refine ⟨by simp [h.len], fun x hx => ?_, fun x y hx hy e => ?_⟩
  · rw [swap_get L i o x (by rw [h.len]; exact hi) (by rw [h.len]; exact ho)]
    exact h.lt _ (hs x hx)
  · rw [swap_get L i o x (by rw [h.len]; exact hi) (by rw [h.len]; exact ho), swap_get L i o y (by rw [h.len]; exact hi) (by rw [h.len]; exact ho)] at e
    have := h.inj _ _ (hs x hx) (hs y hy) e
    split at this <;> split at this <;> (try split at this) <;> (try split at this) <;> omega

theorem good_shufD {s : ByteArray} (hs : s.size ≠ 0) {n : Nat} (hn : n ≤ 400) : ∀ (i : Nat) (L : List Nat), (i = 0 ∨ i < n) → Good L n → Good (shufD s i L) n
  | 0, L, _, h => h
  | i + 1, L, hi, h => by
    have hi2 : i + 1 < n := by omega
    have ho := (numV_self hs (show i + 1 < 1073741824 by omega)).2
    exact good_shufD hs hn i _ (by omega) (h.swap hi2 (Nat.lt_of_le_of_lt ho hi2))

theorem good_shuf {s : ByteArray} (hs : s.size ≠ 0) {n : Nat} (hn : n ≤ 400) : Good (shufV s n) n := good_shufD hs hn (n - 1) _ (by omega) (good_range n)

/-- Which numbers came among the first k. -/
def marks (L : List Nat) (n k : Nat) : List Bool := (List.range n).map fun i => decide (i ∈ L.take k)
theorem marks_len (L : List Nat) (n k : Nat) : (marks L n k).length = n := by simp [marks]
theorem marks_zero (L : List Nat) (n : Nat) : marks L n 0 = List.replicate n false := by
  apply List.ext_getElem (by simp [marks])
  intro i h1 h2
  simp [marks]
theorem take_getD {L : List Nat} {k : Nat} (h : k < L.length) : L.take (k + 1) = L.take k ++ [L.getD k 0] := by
  rw [List.take_add_one, List.getElem?_eq_getElem h]
  simp [List.getD, h]
theorem marks_set {L : List Nat} {n k : Nat} (h : Good L n) (hk : k < n) : (marks L n k).set (L.getD k 0) true = marks L n (k + 1) := by
  apply List.ext_getElem (by simp [marks])
  intro i h1 h2
  rw [List.getElem_set]
  simp only [marks, List.getElem_map, List.getElem_range]
  have et : (i ∈ L.take (k + 1)) ↔ (i ∈ L.take k ∨ i = L.getD k 0) := by rw [take_getD (by rw [h.len]; exact hk), List.mem_append, List.mem_singleton]
  by_cases e : L.getD k 0 = i
  · rw [if_pos e]
    exact (decide_eq_true (et.2 (.inr e.symm))).symm
  · rw [if_neg e, decide_eq_decide, et]
    exact ⟨.inl, fun q => q.elim id (fun q => absurd q.symm e)⟩
theorem marks_get {L : List Nat} {n k : Nat} (h : Good L n) (hk : k < n) : (marks L n k).getD (L.getD k 0) false = false := by
  have hl := h.lt k hk
  have e : (marks L n k).getD (L.getD k 0) false = decide (L.getD k 0 ∈ L.take k) := by
    rw [List.getD_eq_getElem?_getD, List.getElem?_eq_getElem (by rw [marks_len]; exact hl)]
    simp only [marks, List.getElem_map, List.getElem_range, Option.getD_some]
  rw [e, decide_eq_false_iff_not]
  intro hm
  obtain ⟨i, hi, he⟩ := List.getElem_of_mem hm
  rw [List.length_take] at hi
  have e2 : L.getD i 0 = L.getD k 0 := by
    rw [← he]
    simp [List.getD, show i < L.length by omega]
  have := h.inj i k (by omega) hk e2
  omega

def bv (b : Bool) : Value := .bool b
/-- A row of bools. -/
abbrev RowB (W : World) (g : Nat) (L : List Bool) : Prop := W.heap[g]? = some (.cells (L.map bv).toArray 4 (0, 0))
theorem RowB.cell {W : World} {g : Nat} {L : List Bool} (h : RowB W g L) {j : Nat} (hj : j < L.length) : W.cell? ⟨g, j, none⟩ = some (.bool (L.getD j false)) := by
  rw [cell_of_row _ _ _ _ _ _ h]
  simp [bv, List.getD, hj]
theorem RowB.free {W : World} {g : Nat} {L : List Bool} (h : RowB W g L) (j : Nat) : W.frozen? ⟨g, j, none⟩ = false := frozen_of_row _ _ _ _ _ h
theorem RowB.set {W : World} {g : Nat} {L : List Bool} (h : RowB W g L) (j : Nat) (x : Bool) : RowB (W.setCell ⟨g, j, none⟩ (.bool x)) g (L.set j x) := by
  have := heap_setCell_same W g j _ 4 (.bool x) h
  rw [List.setIfInBounds_toArray] at this
  rw [RowB, this, List.map_set]
  rfl
theorem RowB.below {W W' : World} {g : Nat} {L : List Bool} (h : RowB W g L) (hb : Below W.heap.size W W') : RowB W' g L := (hb.block g (Array.getElem?_eq_some_iff.1 h).1).trans h
theorem RowB.other {W : World} {g g2 j : Nat} {L : List Bool} {v : Value} (h : RowB W g L) (hg : g ≠ g2) : RowB (W.setCell ⟨g2, j, none⟩ v) g L := (Below.heap_setCell W ⟨g2, j, none⟩ v g hg).trans h
theorem RowI.other {W : World} {g g2 j : Nat} {L : List Nat} {v : Value} (h : RowI W g L) (hg : g ≠ g2) : RowI (W.setCell ⟨g2, j, none⟩ v) g L := (Below.heap_setCell W ⟨g2, j, none⟩ v g hg).trans h

theorem Try.info4 : (Try.prog.info? 4).map (fun i => (i.zero, i.size, i.bytes)) = some (some (.bool false), 1, 1) := by kernel_rfl
theorem false_cells (k : Nat) : madeCells (Value.bool false).cells (k * 1) = ((List.replicate k false).map bv).toArray := by
  apply Array.ext'
  rw [show (Value.bool false).cells = #[.bool false] from rfl, toList_madeCells_one]
  simp [bv]
theorem makeB_run (k : Nat) (hk : k ≤ 1000) (W : World) : (Instr.makeSlice 46 (.int .i64 (k : Int)) (.int .i64 (k : Int))).run Try.prog W = .ok (.slice (some ⟨W.heap.size, 0, none⟩) k k) (W.alloc (.cells ((List.replicate k false).map bv).toArray 4)) := by
  obtain ⟨i0, hii, hz0, hz1, hz2⟩ := info_parts Try.info4
  have h := run_makeSlice (P := Try.prog) W 46 4 i0 (.bool false) Try.underlying46 hii hz0 .i64 .i64 (k : Int) (k : Int) (by omega) (Int.le_refl _) (by rw [hz1]; simp; omega) (by rw [hz2]; omega) (by omega)
  rw [hz1] at h
  simp only [Int.toNat_natCast] at h
  rw [false_cells] at h
  exact h

end Go.Proofs.Ytafdjohgoopcmaa
