/- The mathematics of shares: residues modulo 251. -/
namespace Go.Proofs.Ytkagmbmkopdekaa

/-- What multiplying k times by b makes of a. -/
def mulN (a b : Int) : Nat → Int
  | 0 => a
  | k + 1 => mulN a b k * b % 251

theorem mulN_bd (a b : Int) (h0 : 0 ≤ a) (h1 : a ≤ 250) (k : Nat) : 0 ≤ mulN a b k ∧ mulN a b k ≤ 250 := by
  cases k with
  | zero => exact ⟨h0, h1⟩
  | succ k => unfold mulN; omega

theorem mulN_pow (a b : Int) (k : Nat) : mulN a b k % 251 = a * b ^ k % 251 := by
  induction k with
  | zero => simp [mulN]
  | succ k ih => rw [mulN, Int.emod_emod, Int.mul_emod, ih, ← Int.mul_emod, Int.pow_succ, Int.mul_assoc]

/-- The residue that makes 1 with b. -/
def inv (b : Int) : Int := if b = 1 then 1 else if b = 2 then 126 else if b = 3 then 84 else if b = 249 then 125 else if b = 250 then 250 else 0

theorem mulN_inv (a b : Int) (h0 : 0 ≤ a) (h1 : a ≤ 250) (hb : b = 1 ∨ b = 2 ∨ b = 3 ∨ b = 249 ∨ b = 250) : mulN a b 249 = a * inv b % 251 := by
  have hd := mulN_bd a b h0 h1 249
  have h := mulN_pow a b 249
  rw [Int.emod_eq_of_lt hd.1 (by omega)] at h
  rw [h, Int.mul_emod]
  have e : b ^ 249 % 251 = inv b := by
    rcases hb with rfl | rfl | rfl | rfl | rfl <;> decide +kernel
  rw [e]
  have e2 : inv b % 251 = inv b := by rcases hb with rfl | rfl | rfl | rfl | rfl <;> decide +kernel
  rw [← e2, ← Int.mul_emod, e2]

end Go.Proofs.Ytkagmbmkopdekaa
