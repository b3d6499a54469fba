/- The levels of a tree of digests, one after the other. -/
import Derived.Test.YtkkbjkjmhjgaiaaG
namespace Go.Proofs.Ytkkbjkjmhjgaiaa

/-- The level k. -/
def lvl : Nat → List Dg → List Dg
  | 0, l => l
  | k + 1, l => lvl k (halveD l)

theorem lvl_succ : ∀ (k : Nat) (l : List Dg), lvl (k + 1) l = halveD (lvl k l)
  | 0, _ => rfl
  | k + 1, l => by
    show lvl (k + 1) (halveD l) = halveD (lvl k (halveD l))
    exact lvl_succ k (halveD l)

theorem lvl_len : ∀ (k m : Nat) (l : List Dg), l.length = 2 ^ m → k ≤ m → (lvl k l).length = 2 ^ (m - k)
  | 0, m, l, h, _ => by simpa [lvl] using h
  | k + 1, m, l, h, hk => by
    obtain ⟨m, rfl⟩ : ∃ c, m = c + 1 := ⟨m - 1, by omega⟩
    have hp : 2 ^ (m + 1) = 2 * 2 ^ m := by rw [Nat.pow_succ, Nat.mul_comm]
    show (lvl k (halveD l)).length = _
    rw [lvl_len k m (halveD l) (by rw [halveD_len]; omega) (by omega), show m + 1 - (k + 1) = m - k by omega]

theorem rootD_lvl : ∀ (k : Nat) (l : List Dg), rootD k l = (lvl k l).headD []
  | 0, _ => rfl
  | k + 1, l => by
    show rootD k (halveD l) = _
    exact rootD_lvl k (halveD l)

/-- The index of the neighbour. -/
def nbr (i : Nat) : Nat := if i % 2 = 0 then i + 1 else i - 1

theorem proofD_snoc : ∀ (k : Nat) (l : List Dg) (i : Nat), proofD (k + 1) l i = proofD k l i ++ [(lvl k l).getD (nbr (i / 2 ^ k)) []]
  | 0, l, i => by simp [proofD, lvl, nbr]
  | k + 1, l, i => by
    have ih := proofD_snoc k (halveD l) (i / 2)
    show l.getD _ [] :: proofD (k + 1) (halveD l) (i / 2) = (l.getD _ [] :: proofD k (halveD l) (i / 2)) ++ _
    rw [ih]
    show _ = l.getD _ [] :: (proofD k (halveD l) (i / 2) ++ [(lvl k (halveD l)).getD (nbr (i / 2 ^ (k + 1))) []])
    rw [Nat.div_div_eq_div_mul, show 2 * 2 ^ k = 2 ^ (k + 1) by rw [Nat.pow_succ, Nat.mul_comm]]

theorem nbr_lt {i m : Nat} (h : i < 2 ^ (m + 1)) : nbr i < 2 ^ (m + 1) := by
  have hp : 2 ^ (m + 1) = 2 * 2 ^ m := by rw [Nat.pow_succ, Nat.mul_comm]
  unfold nbr
  split <;> omega

/-- All digests have eight bytes. -/
def All8 (l : List Dg) : Prop := ∀ d ∈ l, d.length = 8

theorem all8_halve : ∀ l : List Dg, All8 (halveD l)
  | [] => by simp [All8, halveD]
  | [_] => by simp [All8, halveD]
  | a :: b :: r => by
    intro d hd
    simp only [halveD, List.mem_cons] at hd
    rcases hd with rfl | hd
    · exact dig_len _
    · exact all8_halve r d hd

theorem all8_lvl : ∀ (k : Nat) (l : List Dg), All8 l → All8 (lvl k l)
  | 0, _, h => h
  | k + 1, l, _ => all8_lvl k (halveD l) (all8_halve l)

theorem all8_leaves (l : List (List UInt8)) : All8 (leavesD l) := by
  intro d hd
  simp only [leavesD, List.mem_append, List.mem_map, List.mem_replicate] at hd
  rcases hd with ⟨s, _, rfl⟩ | ⟨_, rfl⟩ <;> exact dig_len _

theorem all8_proof : ∀ (k : Nat) (l : List Dg) (i : Nat), All8 l → l.length = 2 ^ k → i < 2 ^ k → All8 (proofD k l i)
  | 0, _, _, _, _, _ => by simp [All8, proofD]
  | k + 1, l, i, h, hl, hi => by
    have hp : 2 ^ (k + 1) = 2 * 2 ^ k := by rw [Nat.pow_succ, Nat.mul_comm]
    intro d hd
    simp only [proofD, List.mem_cons] at hd
    rcases hd with rfl | hd
    · have hn : (if i % 2 = 0 then i + 1 else i - 1) < l.length := by split <;> omega
      obtain ⟨j, hj⟩ : ∃ j, j = (if i % 2 = 0 then i + 1 else i - 1) := ⟨_, rfl⟩
      rw [← hj] at hn ⊢
      rw [show l.getD j [] = l[j] by simp [List.getD, hn]]
      exact h _ (List.getElem_mem hn)
    · exact all8_proof k (halveD l) (i / 2) (all8_halve l) (by rw [halveD_len]; omega) (by omega) d hd

end Go.Proofs.Ytkkbjkjmhjgaiaa
