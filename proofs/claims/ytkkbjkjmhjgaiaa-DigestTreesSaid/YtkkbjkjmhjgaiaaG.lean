/- Trees of digests with one string more. -/
import Derived.Test.YtkkbjkjmhjgaiaaT
namespace Go.Proofs.Ytkkbjkjmhjgaiaa

theorem halveD_set : ∀ (l : List Dg) (j : Nat) (v : Dg) (m : Nat), l.length = 2 * m → j < l.length → ∃ u, halveD (l.set j v) = (halveD l).set (j / 2) u
  | [], j, v, m, _, h => by simp at h
  | [_], j, v, m, h, _ => by simp at h; omega
  | a :: b :: r, 0, v, m, _, _ => ⟨nodeD v b, rfl⟩
  | a :: b :: r, 1, v, m, _, _ => ⟨nodeD a v, rfl⟩
  | a :: b :: r, j + 2, v, m, hl, h => by
    obtain ⟨u, hu⟩ := halveD_set r j v (m - 1) (by simp at hl; omega) (by simp at h; omega)
    refine ⟨u, ?_⟩
    show nodeD a b :: halveD (r.set j v) = (nodeD a b :: halveD r).set ((j + 2) / 2) u
    rw [hu, show (j + 2) / 2 = j / 2 + 1 by omega]
    rfl

theorem getD_set_ne' {l : List Dg} {i j : Nat} {v : Dg} (h : j ≠ i) : (l.set j v).getD i [] = l.getD i [] := by
  simp [List.getD, h]

theorem proofD_same : ∀ (k : Nat) (l : List Dg) (i : Nat) (v : Dg), l.length = 2 ^ k → i < 2 ^ k → proofD k (l.set i v) i = proofD k l i
  | 0, _, _, _, _, _ => rfl
  | k + 1, l, i, v, hl, hi => by
    have hp : 2 ^ (k + 1) = 2 * 2 ^ k := by rw [Nat.pow_succ, Nat.mul_comm]
    obtain ⟨u, hu⟩ := halveD_set l i v (2 ^ k) (by omega) (by omega)
    show (l.set i v).getD _ [] :: proofD k (halveD (l.set i v)) (i / 2) = _
    rw [hu, proofD_same k (halveD l) (i / 2) u (by rw [halveD_len]; omega) (by omega), getD_set_ne' (by split <;> omega)]
    rfl

theorem proofD_other : ∀ (k : Nat) (l : List Dg) (i j : Nat) (v : Dg), l.length = 2 ^ k → i < 2 ^ k → j < 2 ^ k → ∃ p u, proofD k (l.set j v) i = (proofD k l i).set p u
  | 0, _, _, _, _, _, _, _ => ⟨0, [], rfl⟩
  | k + 1, l, i, j, v, hl, hi, hj => by
    have hp : 2 ^ (k + 1) = 2 * 2 ^ k := by rw [Nat.pow_succ, Nat.mul_comm]
    obtain ⟨u, hu⟩ := halveD_set l j v (2 ^ k) (by omega) (by omega)
    have e : proofD (k + 1) (l.set j v) i = (l.set j v).getD (if i % 2 = 0 then i + 1 else i - 1) [] :: proofD k (halveD (l.set j v)) (i / 2) := rfl
    have e2 : proofD (k + 1) l i = l.getD (if i % 2 = 0 then i + 1 else i - 1) [] :: proofD k (halveD l) (i / 2) := rfl
    rw [e, e2, hu]
    by_cases hij : i / 2 = j / 2
    · rw [← hij, proofD_same k (halveD l) (i / 2) u (by rw [halveD_len]; omega) (by omega)]
      exact ⟨0, _, rfl⟩
    · obtain ⟨p, u2, h⟩ := proofD_other k (halveD l) (i / 2) (j / 2) u (by rw [halveD_len]; omega) (by omega) (by omega)
      rw [h, getD_set_ne' (by split <;> omega)]
      exact ⟨p + 1, u2, rfl⟩

/-- In how many places two lists differ. -/
def manyD : List Dg → List Dg → Nat
  | a :: r, b :: s => (if a = b then 0 else 1) + manyD r s
  | _, _ => 0

theorem manyD_self : ∀ l : List Dg, manyD l l = 0
  | [] => rfl
  | a :: r => by simp [manyD, manyD_self r]

theorem manyD_set : ∀ (l : List Dg) (p : Nat) (u : Dg), manyD l (l.set p u) ≤ 1
  | [], _, _ => by simp [manyD]
  | a :: r, 0, u => by
    simp only [List.set_cons_zero, manyD, manyD_self]
    split <;> omega
  | a :: r, p + 1, u => by
    simp only [List.set_cons_succ, manyD]
    simpa using manyD_set r p u

theorem manyD_append : ∀ l r : List Dg, manyD l (l ++ r) = 0
  | [], _ => rfl
  | a :: l, r => by simp [manyD, manyD_append l r]

theorem wid_pow (n : Nat) : ∃ m, wid n = 2 ^ m ∧ n ≤ 2 ^ m ∧ (0 < m → 2 ^ (m - 1) < n) := by
  obtain ⟨m, _, h2, h3, h4⟩ := widFrom_pow 0 1 n rfl
  exact ⟨m, h2, h3, h4⟩

theorem leavesD_len (l : List (List UInt8)) : (leavesD l).length = wid l.length := by
  obtain ⟨m, h1, h2, _⟩ := wid_pow l.length
  simp [leavesD]; omega

/-- The number of levels above the lowest one. -/
def lev (n : Nat) : Nat := Nat.log2 (wid n)

theorem wid_lev (n : Nat) : wid n = 2 ^ lev n := by
  obtain ⟨m, h1, _⟩ := wid_pow n
  rw [lev, h1, Nat.log2_two_pow]

theorem leavesD_more {l : List (List UInt8)} {s : List UInt8} (h : wid (l.length + 1) = wid l.length) : leavesD (l ++ [s]) = (leavesD l).set l.length (leafD s) := by
  obtain ⟨m, h1, h2, _⟩ := wid_pow (l.length + 1)
  obtain ⟨c, hc⟩ : ∃ c, wid l.length - l.length = c + 1 := ⟨wid l.length - l.length - 1, by omega⟩
  simp only [leavesD, List.length_append, List.length_singleton, h, List.map_append, List.map_cons, List.map_nil]
  rw [hc, show wid l.length - (l.length + 1) = c by omega, List.replicate_succ]
  rw [List.set_append_right _ _ (by simp)]
  simp

theorem leavesD_full {l : List (List UInt8)} {s : List UInt8} (h : wid l.length = l.length) : leavesD (l ++ [s]) = leavesD l ++ (leafD s :: List.replicate (wid (l.length + 1) - (l.length + 1)) noneD) := by
  simp [leavesD, h]

end Go.Proofs.Ytkkbjkjmhjgaiaa
