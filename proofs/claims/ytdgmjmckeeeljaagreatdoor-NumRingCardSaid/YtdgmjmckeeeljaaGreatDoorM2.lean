/- Plain facts on bits of numbers of 32 and 64 binary digits. No condition. -/
import Derived.Test.YtdgmjmckeeeljaaGreatDoorM
import Derived.WalkKit
namespace Go.Proofs.YtdgmjmckeeeljaaGreatDoor

/-- What is left over by a subtraction, and what is borrowed. -/
def sbd (x y b : Nat) : Nat := (x + 4294967296 - y - b) % 4294967296
def sbb (x y b : Nat) : Nat := if x < y + b then 1 else 0

theorem sb_eq {x y b : Nat} (hx : x < 4294967296) (hy : y < 4294967296) (hb : b ≤ 1) : sbd x y b + y + b = x + 4294967296 * sbb x y b ∧ sbd x y b < 4294967296 ∧ sbb x y b ≤ 1 := by
  unfold sbd sbb; split <;> omega

theorem two_vals {n : Nat} (h : n < 2) : n = 0 ∨ n = 1 := by omega

theorem borrow_bit (x y b : Nat) (hx : x < 4294967296) (hy : y < 4294967296) (hb : b ≤ 1) :
    (((4294967295 - x) &&& y) ||| ((4294967295 - (x ^^^ y)) &&& sbd x y b)) / 2147483648 = sbb x y b := by
  have hxy : x ^^^ y < 2 ^ 32 := Nat.xor_lt_two_pow (by simpa using hx) (by simpa using hy)
  have ex : (x ^^^ y) / 2147483648 = (x / 2147483648) ^^^ (y / 2147483648) := Nat.xor_div_two_pow (n := 31)
  have e1 : ((((4294967295 - x) &&& y) ||| ((4294967295 - (x ^^^ y)) &&& sbd x y b))) / 2147483648 =
      (((4294967295 - x) / 2147483648 &&& y / 2147483648) ||| ((4294967295 - (x ^^^ y)) / 2147483648 &&& sbd x y b / 2147483648)) := by
    have a := Nat.or_div_two_pow (a := (4294967295 - x) &&& y) (b := (4294967295 - (x ^^^ y)) &&& sbd x y b) (n := 31)
    have b1 := Nat.and_div_two_pow (a := 4294967295 - x) (b := y) (n := 31)
    have c := Nat.and_div_two_pow (a := 4294967295 - (x ^^^ y)) (b := sbd x y b) (n := 31)
    simp only [show (2 : Nat) ^ 31 = 2147483648 from rfl] at a b1 c
    rw [a, b1, c]
  have g1 : (4294967295 - x) / 2147483648 = 1 - x / 2147483648 := by omega
  have g2 : (4294967295 - (x ^^^ y)) / 2147483648 = 1 - (x ^^^ y) / 2147483648 := by simp at hxy; omega
  rw [e1, g1, g2, ex]
  obtain ⟨s1, s2, s3⟩ := sb_eq hx hy hb
  rcases two_vals (show x / 2147483648 < 2 by omega) with h1 | h1 <;> rcases two_vals (show y / 2147483648 < 2 by omega) with h2 | h2 <;>
    rcases two_vals (show sbd x y b / 2147483648 < 2 by omega) with h3 | h3 <;> rw [h1, h2, h3] <;> simp <;> omega

theorem max_u32 : IntKind.max .u32 = 4294967295 := by decide
theorem max_u64 : IntKind.max .u64 = 18446744073709551615 := by decide

theorem not_u32 (x : Nat) (h : x < 4294967296) : bits .xor .u32 (IntKind.max .u32) (x : Int) = ((4294967295 - x : Nat) : Int) := by
  rw [max_u32, show (4294967295 : Int) = ((4294967295 : Nat) : Int) from rfl, u32_xor_nat _ _ (by omega) h]
  congr 1
  apply Nat.eq_of_testBit_eq
  intro i
  have h32 : x < 2 ^ 32 := h
  have a : Nat.testBit 4294967295 i = decide (i < 32) := Nat.testBit_two_pow_sub_one (n := 32) (i := i)
  have b := Nat.testBit_two_pow_sub_succ h32 i
  rw [Nat.testBit_xor, a, show 4294967295 - x = 2 ^ 32 - (x + 1) by omega, b]
  by_cases hi : i < 32
  · simp [hi]
  · simp [hi]
    exact Nat.testBit_lt_two_pow (Nat.lt_of_lt_of_le h32 (Nat.pow_le_pow_right (by omega) (by omega)))

/-- What Sub32's second result is reckoned from. -/
theorem borrow_int (x y b : Nat) (hx : x < 4294967296) (hy : y < 4294967296) (hb : b ≤ 1) (z : Int) (hz : z = ((sbd x y b : Nat) : Int)) :
    bits .or .u32 (bits .and .u32 (bits .xor .u32 (IntKind.max .u32) (x : Int)) (y : Int)) (bits .and .u32 (bits .xor .u32 (IntKind.max .u32) (bits .xor .u32 (x : Int) (y : Int))) z) / 2147483648 = ((sbb x y b : Nat) : Int) := by
  obtain ⟨s1, s2, s3⟩ := sb_eq hx hy hb
  have hxy : x ^^^ y < 4294967296 := by have : x ^^^ y < 2 ^ 32 := Nat.xor_lt_two_pow (by simpa using hx) (by simpa using hy); simpa using this
  have hA : (4294967295 - x) &&& y < 4294967296 := Nat.lt_of_le_of_lt Nat.and_le_right hy
  have hB : (4294967295 - (x ^^^ y)) &&& sbd x y b < 4294967296 := Nat.lt_of_le_of_lt Nat.and_le_right s2
  rw [hz, not_u32 x hx, u32_xor_nat x y hx hy, not_u32 _ hxy, u32_and_nat _ _ (by omega) hy, u32_and_nat _ _ (by omega) s2, u32_or_nat _ _ hA hB, ← borrow_bit x y b hx hy hb]
  rfl

theorem sbd_int (x y b : Nat) (hx : x < 4294967296) (hy : y < 4294967296) (hb : b ≤ 1) : ((x : Int) - y - b) % 4294967296 = ((sbd x y b : Nat) : Int) := by
  obtain ⟨s1, s2, s3⟩ := sb_eq hx hy hb
  rcases two_vals (show sbb x y b < 2 by omega) with h | h <;> rw [h] at s1 <;> omega

theorem or_join (x y : Nat) (hx : x < 4294967296) (hy : y < 4294967296) : bits .or .u64 ((x : Int) * 4294967296) (y : Int) = ((y + 4294967296 * x : Nat) : Int) := by
  have e : (x : Int) * 4294967296 = ((x * 4294967296 : Nat) : Int) := by omega
  rw [e, u64_or_nat _ _ (by omega) (by omega), nat_join 32 _ _ (by rw [show (2 : Nat) ^ 32 = 4294967296 from rfl]; omega) (by rw [show (2 : Nat) ^ 32 = 4294967296 from rfl]; exact hy)]
  congr 1; omega

end Go.Proofs.YtdgmjmckeeeljaaGreatDoor
