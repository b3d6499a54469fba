/- Facts on the proofs of a list and of the same list with one string more; the bits of a number and of the number before it. -/
import Derived.Test.YtpkhnfmeackccaaII
namespace Go.Proofs.Ytpkhnfmeackccaa
open Go.RowKit

theorem and_pred0 : ∀ m : Nat, m < 6 → ∀ n : Nat, n < 21 → (1 ≤ n ∧ n ≤ 2 ^ m ∧ (m = 0 ∨ 2 ^ (m - 1) < n)) → (decide (bits .and .i64 (n : Int) ((n : Int) - 1) = 0) = decide (n = 2 ^ m)) := by
  decide +kernel

theorem and_pred {m n : Nat} (hm : m < 6) (hn : n < 21) (h1 : 1 ≤ n) (h2 : n ≤ 2 ^ m) (h3 : 0 < m → 2 ^ (m - 1) < n) : (decide (bits .and .i64 (n : Int) ((n : Int) - 1) = 0) = decide (n = 2 ^ m)) :=
  and_pred0 m hm n hn ⟨h1, h2, by
    by_cases h : m = 0
    · exact .inl h
    · exact .inr (h3 (by omega))⟩

/-- In how many of the first k places two lists differ. -/
def cntS (a b : List ByteArray) : Nat → Nat
  | 0 => 0
  | k + 1 => cntS a b k + (if a.getD k ⟨#[]⟩ = b.getD k ⟨#[]⟩ then 0 else 1)

theorem cntS_le (a b : List ByteArray) : ∀ k, cntS a b k ≤ k
  | 0 => Nat.le_refl _
  | k + 1 => by
    have := cntS_le a b k
    unfold cntS; split <;> omega

theorem cntS_zero {a b : List ByteArray} {m : Nat} (h : ∀ k, k < m → a.getD k ⟨#[]⟩ = b.getD k ⟨#[]⟩) : ∀ k, k ≤ m → cntS a b k = 0
  | 0, _ => rfl
  | k + 1, hk => by
    unfold cntS
    rw [cntS_zero h k (by omega), if_pos (h k (by omega))]

theorem cntS_one {a b : List ByteArray} {m p : Nat} (h : ∀ k, k < m → k ≠ p → a.getD k ⟨#[]⟩ = b.getD k ⟨#[]⟩) : ∀ k, k ≤ m → cntS a b k ≤ (if p < k then 1 else 0)
  | 0, _ => by simp [cntS]
  | k + 1, hk => by
    have ih := cntS_one h k (by omega)
    unfold cntS
    by_cases hkp : k = p
    · subst hkp
      rw [if_neg (by omega)] at ih
      rw [if_pos (show k < k + 1 by omega)]
      split <;> omega
    · rw [if_pos (h k (by omega) hkp)]
      by_cases hp : p < k
      · rw [if_pos hp] at ih; rw [if_pos (by omega)]; omega
      · rw [if_neg hp] at ih; rw [if_neg (by omega)]; omega

theorem grow_full {L : List ByteArray} {t : ByteArray} {m i : Nat} (hm : wid L.length = 2 ^ m) (hf : L.length = 2 ^ m) (hi : i < L.length) :
    wid (L ++ [t]).length = 2 ^ (m + 1) ∧ ∀ k, k < m → (proofS L m i).getD k ⟨#[]⟩ = (proofS (L ++ [t]) (m + 1) i).getD k ⟨#[]⟩ := by
  obtain ⟨m2, h1, h2, h3⟩ := wid_pow (L.length + 1)
  have hm2 : m2 = m + 1 := by
    have a1 : m < m2 := by
      apply Nat.lt_of_not_le
      intro h
      have := Nat.pow_le_pow_right (n := 2) (by omega) h
      omega
    have a2 : m2 ≤ m + 1 := by
      apply Nat.le_of_not_lt
      intro h
      have h4 := h3 (by omega)
      have := Nat.pow_le_pow_right (n := 2) (i := m + 1) (j := m2 - 1) (by omega) (by omega)
      have : 2 ^ (m + 1) = 2 * 2 ^ m := by rw [Nat.pow_succ]; omega
      have := Nat.one_le_two_pow (n := m)
      omega
    omega
  subst hm2
  refine ⟨by rw [List.length_append]; exact h1, fun k hk => ?_⟩
  have e : leavesD ((L ++ [t]).map by') = leavesD (L.map by') ++ (leafD (by' t) :: List.replicate (wid (L.length + 1) - (L.length + 1)) noneD) := by
    rw [List.map_append, List.map_cons, List.map_nil, leavesD_full (by rw [List.length_map, hm, hf]), List.length_map]
  have hb : (leafD (by' t) :: List.replicate (wid (L.length + 1) - (L.length + 1)) noneD).length = 2 ^ m := by
    rw [List.length_cons, List.length_replicate, h1, hf, Nat.pow_succ]
    have := Nat.one_le_two_pow (n := m)
    omega
  unfold proofS
  rw [e, proofD_low m _ _ i (by rw [leavesD_len, List.length_map, hm]) hb (by omega), List.map_append]
  simp only [List.getD]
  rw [List.getElem?_append_left (by rw [List.length_map, proofD_len]; exact hk)]

theorem grow_same {L : List ByteArray} {t : ByteArray} {m i : Nat} (hm : wid L.length = 2 ^ m) (hl : 0 < m → 2 ^ (m - 1) < L.length) (hf : L.length < 2 ^ m) (hi : i < L.length) :
    wid (L ++ [t]).length = 2 ^ m ∧ ∃ p, ∀ k, k < m → k ≠ p → (proofS L m i).getD k ⟨#[]⟩ = (proofS (L ++ [t]) m i).getD k ⟨#[]⟩ := by
  obtain ⟨m2, h1, h2, h3⟩ := wid_pow (L.length + 1)
  have hm2 : m2 = m := by
    have a1 : m ≤ m2 := by
      apply Nat.le_of_not_lt
      intro h
      have h4 := hl (by omega)
      have := Nat.pow_le_pow_right (n := 2) (i := m2) (j := m - 1) (by omega) (by omega)
      omega
    have a2 : m2 ≤ m := by
      apply Nat.le_of_not_lt
      intro h
      have h4 := h3 (by omega)
      have := Nat.pow_le_pow_right (n := 2) (i := m) (j := m2 - 1) (by omega) (by omega)
      omega
    omega
  subst hm2
  refine ⟨by rw [List.length_append]; exact h1, ?_⟩
  have e : leavesD ((L ++ [t]).map by') = (leavesD (L.map by')).set L.length (leafD (by' t)) := by
    rw [List.map_append, List.map_cons, List.map_nil, leavesD_more (by rw [List.length_map, h1, hm]), List.length_map]
  obtain ⟨p, u, hp⟩ := proofD_other m2 (leavesD (L.map by')) i L.length (leafD (by' t)) (by rw [leavesD_len, List.length_map, hm]) (by omega) hf
  refine ⟨p, fun k hk hkp => ?_⟩
  unfold proofS
  rw [e, hp]
  simp only [List.getD, List.getElem?_map]
  rw [List.getElem?_set_ne (fun h => hkp h.symm)]

end Go.Proofs.Ytpkhnfmeackccaa
