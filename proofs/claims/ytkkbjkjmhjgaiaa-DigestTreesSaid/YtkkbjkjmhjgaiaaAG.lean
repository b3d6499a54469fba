/- A slice of strings of one's own, one cell set. -/
import Derived.Test.YtkkbjkjmhjgaiaaAE
namespace Go.Proofs.Ytkkbjkjmhjgaiaa
open Go.RowKit

theorem own_set {W : World} {B n cap : Nat} {ao : Option Addr} {xs : List ByteArray} (h : W.ownsRow B 9 1 (.slice ao n cap) n (sv xs)) (j : Nat) (hj : j < n) (s : ByteArray) :
    ∃ g, ao = some ⟨g, 0, none⟩ ∧ B ≤ g ∧ g < W.heap.size ∧ W.frozen? ⟨g, j, none⟩ = false ∧ W.cell? ⟨g, j, none⟩ = some (.string (xs.getD j ⟨#[]⟩)) ∧ (W.setCell ⟨g, j, none⟩ (.string s)).ownsRow B 9 1 (.slice ao n cap) n (sv (xs.set j s)) := by
  have hn : xs.length = n := by have := h.1; simpa [sv] using this
  rcases h.2 with ⟨_, h0⟩ | ⟨g, cap2, cur, hv, hB, hg, hc, hm, hs, ht⟩
  · omega
  · injection hv with h1 h2 h3
    subst h1 h3
    refine ⟨g, rfl, hB, (Array.getElem?_eq_some_iff.1 hg).1, frozen_of_row _ _ _ _ _ hg, ?_, by simp [sv, hn], .inr ⟨g, _, _, rfl, hB, Go.heap_setCell_same _ _ _ _ _ _ hg, hc, hm, by simpa using hs, ?_⟩⟩
    · rw [cell_of_row _ _ _ _ _ _ hg, ← Array.getElem?_toList]
      have e : (cur.toList.take (n * 1))[j]? = (sv xs)[j]? := by rw [ht]
      rw [List.getElem?_take_of_lt (by omega)] at e
      rw [e]
      simp [sv, List.getD, hn, hj]
    · rw [Array.toList_setIfInBounds, List.take_set, ht]
      simp [sv, List.map_set]

end Go.Proofs.Ytkkbjkjmhjgaiaa
