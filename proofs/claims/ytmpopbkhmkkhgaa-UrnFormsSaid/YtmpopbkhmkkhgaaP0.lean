/- What the laws share: a made row is ints; the choices in order; the box of the numbers. -/
import Derived.Test.YtmpopbkhmkkhgaaN
namespace Go.Proofs.Ytmpopbkhmkkhgaa
open Go.RowKit

theorem RowOk.in8 {r row : List Int} (h : RowOk r row) : inB 0 8 row = true ∧ (row.length = 0 ∨ row.length = r.length) := by
  rcases h with rfl | ⟨h1, h2⟩
  · exact ⟨rfl, .inl rfl⟩
  · exact ⟨h2, .inr h1⟩
theorem fit8 {l : List Int} (h : inB 0 8 l = true) (k : Nat) : I64 (l.getD k 0) := by
  by_cases hk : k < l.length
  · have := (inB_iff.1 h) k hk
    constructor <;> omega
  · rw [show l.getD k 0 = 0 by simp [List.getD, List.getElem?_eq_none (Nat.le_of_not_lt hk)]]; decide
theorem MadeOk.in8 {r : List Int} {a : Int} (h : MadeOk r a) : inB 0 8 r = true := inB_iff.2 fun k hk => by have := h.rr k hk; omega
theorem MadeOk.ix {W : World} {B n : Nat} {v : Value} {r : List Int} {a : Int} (h : OwI W B v n r) (hm : MadeOk r a) : Ix W v r :=
  h.ix (by have := owI_len h; have := hm.l4; omega) (fit8 hm.in8)
theorem RowOk.ix {W : World} {B n : Nat} {v : Value} {r row : List Int} (h : OwI W B v n row) (hr : RowOk r row) (lr : r.length ≤ 8) : Ix W v row :=
  h.ix (by have := owI_len h; have := hr.in8.2; omega) (fit8 hr.in8.1)

theorem cho_split (r b : List Int) {k : Nat} : ∀ {n : Nat}, k ≤ n → ∃ t, cho r b n = cho r b k ++ t
  | 0, h => ⟨[], by rw [show k = 0 by omega]; simp⟩
  | n + 1, h => by
    by_cases hk : k = n + 1
    · exact ⟨[], by rw [hk]; simp⟩
    · obtain ⟨t, ht⟩ := cho_split r b (k := k) (n := n) (by omega)
      exact ⟨t ++ _, by rw [cho, ht, List.append_assoc]⟩
theorem cho_at {r b : List Int} {k n : Nat} (h : k < n) (hr : 0 < r.getD k 0) (hb : 0 < b.getD k 0) : (cho r b k).length < (cho r b n).length ∧ (cho r b n).getD (cho r b k).length (0, 0, 0) = (b.getD k 0, 0, (k : Int)) := by
  obtain ⟨t, ht⟩ := cho_split r b (k := k + 1) (n := n) (by omega)
  rw [cho, if_pos ⟨hr, hb⟩] at ht
  rw [ht]
  constructor
  · simp
  · rw [List.append_assoc, List.getD, List.getElem?_append_right (Nat.le_refl _)]
    simp
theorem cho_used {r b : List Int} {k : Nat} (hr : 0 < r.getD k 0) (hb : 0 < b.getD k 0) : (cho r b (k + 1)).length = (cho r b k).length + 1 := by
  rw [cho, if_pos ⟨hr, hb⟩]; simp
theorem cho_skip {r b : List Int} {k : Nat} (h : ¬ (0 < r.getD k 0 ∧ 0 < b.getD k 0)) : cho r b (k + 1) = cho r b k := by
  rw [cho, if_neg h, List.append_nil]

/-- The box of the six numbers. -/
abbrev lW (W : World) (l0 l1 l2 l3 l4 l5 : Int) : World := W.alloc (.cells #[.int .i64 l0, .int .i64 l1, .int .i64 l2, .int .i64 l3, .int .i64 l4, .int .i64 l5] 22)
theorem l_box {W W' : World} {l0 l1 l2 l3 l4 l5 : Int} (h : Below (lW W l0 l1 l2 l3 l4 l5).heap.size (lW W l0 l1 l2 l3 l4 l5) W') : W'.cell? ⟨W.heap.size, 0, none⟩ = some (.int .i64 l0) ∧ W'.cell? ⟨W.heap.size, 1, none⟩ = some (.int .i64 l1) ∧ W'.cell? ⟨W.heap.size, 2, none⟩ = some (.int .i64 l2) ∧ W'.cell? ⟨W.heap.size, 3, none⟩ = some (.int .i64 l3) ∧ W'.cell? ⟨W.heap.size, 4, none⟩ = some (.int .i64 l4) ∧ W'.cell? ⟨W.heap.size, 5, none⟩ = some (.int .i64 l5) := by
  have h1 : W'.heap[W.heap.size]? = some (.cells #[.int .i64 l0, .int .i64 l1, .int .i64 l2, .int .i64 l3, .int .i64 l4, .int .i64 l5] 22 (0, 0)) := (h.block W.heap.size (by simp)).trans (heap_alloc_new _ _)
  exact ⟨cell_of_row _ _ _ _ _ _ h1, cell_of_row _ _ _ _ _ _ h1, cell_of_row _ _ _ _ _ _ h1, cell_of_row _ _ _ _ _ _ h1, cell_of_row _ _ _ _ _ _ h1, cell_of_row _ _ _ _ _ _ h1⟩
theorem l_up (W : World) (l0 l1 l2 l3 l4 l5 : Int) : Below W.heap.size W (lW W l0 l1 l2 l3 l4 l5) := (Below.refl _ W).alloc (Nat.le_refl _) _

theorem Ix.le {w : World} {ao : Option Addr} {n cap : Nat} {l : List Int} (h : Ix w (.slice ao n cap) l) : n ≤ cap := by
  rcases h.is with ⟨rfl, ao2, cap2, e, hc⟩ | ⟨b, off, cap2, e, h1, h2, h3⟩
  · injection e with e1 e2 e3
    omega
  · injection e with e1 e2 e3
    omega

theorem Ix.take {w : World} {ao : Option Addr} {n cap : Nat} {l : List Int} (h : Ix w (.slice ao n cap) l) (m : Nat) (hm : m ≤ n) : Ix w (.slice ao m cap) (l.take m) := by
  have hfit : ∀ k, I64 ((l.take m).getD k 0) := fun k => by
    by_cases hk : k < m
    · have := h.fit k
      simpa [List.getD, List.getElem?_take, hk] using this
    · have : (l.take m).getD k 0 = 0 := by simp [List.getD, List.getElem?_take, hk]
      rw [this]
      exact ⟨by decide, by decide⟩
  have hlen := h.len
  rcases h.is with ⟨rfl, ao2, cap2, e, hc⟩ | ⟨b, off, cap2, e, h1, h2, h3⟩
  · injection e with e1 e2 e3
    subst e2
    obtain rfl : m = 0 := by omega
    exact ⟨by simp, hfit, .inl ⟨by simp, _, _, rfl, fun h => by rw [e3]; exact hc (by rw [← e1]; exact h)⟩⟩
  · injection e with e1 e2 e3
    subst e1 e2 e3
    have hl : (l.take m).length = m := by rw [List.length_take]; omega
    refine ⟨by rw [hl]; omega, hfit, .inr ⟨b, off, cap, by rw [hl], by rw [hl]; omega, h2, fun j hj => ?_⟩⟩
    rw [hl] at hj
    have := h3 j (by omega)
    have e : (l.take m).getD j 0 = l.getD j 0 := by simp [List.getD, List.getElem?_take, hj]
    rw [e]
    exact this

/-- What is known of the balls of a made design and row, and of its choices. -/
structure BalI (r : List Int) (a : Int) (b : List Int) : Prop where
  m : MadeOk r a
  l : b.length = r.length
  i : ∀ k, k < b.length → 0 ≤ b.getD k 0 ∧ b.getD k 0 ≤ 8

/-- A row that is made: balls and choices as contracts. -/
theorem bal_of {r row : List Int} {a : Int} (hm : MadeOk r a) (hr : RowOk r row) : BalI r a (balV r a row) := by
  obtain ⟨h1, _, h3, _, _⟩ := made_bal hm hr
  exact ⟨hm, h1, inB_iff.1 h3⟩

end Go.Proofs.Ytmpopbkhmkkhgaa
