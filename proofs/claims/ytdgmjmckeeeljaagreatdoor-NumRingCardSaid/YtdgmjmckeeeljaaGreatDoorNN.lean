/- Decimal texts by groups of nine digits: the groups, the last one first, each but the first filled with zeros, are the text. -/
import Derived.Test.YtdgmjmckeeeljaaGreatDoorMM
namespace Go.Proofs.YtdgmjmckeeeljaaGreatDoor
open Go.Lib

/-- k decimal digits. -/
def pad : Nat → Nat → List UInt8
  | 0, _ => []
  | k + 1, g => pad k (g / 10) ++ [UInt8.ofNat (48 + g % 10)]

theorem repeatL_snoc (k : Nat) (b : UInt8) : repeatL [b] (k + 1) = repeatL [b] k ++ [b] := by
  induction k with
  | zero => rfl
  | succ k ih =>
    show [b] ++ repeatL [b] (k + 1) = ([b] ++ repeatL [b] k) ++ [b]
    rw [ih, List.append_assoc]

theorem pad_zero (k : Nat) : pad k 0 = repeatL [48] k := by
  induction k with
  | zero => rfl
  | succ k ih =>
    rw [repeatL_snoc, ← ih]
    rfl

theorem dec_ge {u : Nat} (h : ¬ u < 10) : decDigits u = decDigits (u / 10) ++ [UInt8.ofNat (48 + u % 10)] := by
  rw [decDigits, dif_neg h]

theorem pad_fill : ∀ (k g : Nat), g < 10 ^ (k + 1) → repeatL [48] (k + 1 - (decDigits g).length) ++ decDigits g = pad (k + 1) g
  | k, g, hg => by
    by_cases h : g < 10
    · rw [decDigits_one h]
      show repeatL [48] (k + 1 - 1) ++ _ = pad k (g / 10) ++ [UInt8.ofNat (48 + g % 10)]
      rw [Nat.add_sub_cancel, Nat.div_eq_of_lt h, Nat.mod_eq_of_lt h, pad_zero]
    · cases k with
      | zero => simp at hg; omega
      | succ k =>
        have ih := pad_fill k (g / 10) (by rw [Nat.div_lt_iff_lt_mul (by omega)]; rwa [Nat.pow_succ] at hg)
        rw [dec_ge h, List.length_append, List.length_singleton]
        show _ = pad (k + 1) (g / 10) ++ [UInt8.ofNat (48 + g % 10)]
        rw [← ih, List.append_assoc]
        congr 2
        omega

theorem dec_split : ∀ (k x : Nat), x / 10 ^ k ≠ 0 → decDigits x = decDigits (x / 10 ^ k) ++ pad k (x % 10 ^ k)
  | 0, x, _ => by simp [pad]
  | k + 1, x, h => by
    have hp : 10 ^ (k + 1) = 10 * 10 ^ k := by rw [Nat.pow_succ, Nat.mul_comm]
    rw [hp, ← Nat.div_div_eq_div_mul] at h
    have hx : ¬ x < 10 := fun hx => h (by rw [Nat.div_eq_of_lt hx, Nat.zero_div])
    have ih := dec_split k (x / 10) h
    rw [dec_ge hx, ih, hp, ← Nat.div_div_eq_div_mul]
    show _ = _ ++ (pad k (x % (10 * 10 ^ k) / 10) ++ [UInt8.ofNat (48 + x % (10 * 10 ^ k) % 10)])
    rw [Nat.mod_mul_right_div_self, Nat.mod_mul_right_mod, List.append_assoc]

/-- The text of groups, the lowest first. -/
def grpText : List Nat → List UInt8
  | [] => []
  | [g] => decDigits g
  | g :: r => grpText r ++ (repeatL [48] (9 - (decDigits g).length) ++ decDigits g)

theorem grpText_grp (x : Nat) : grpText (grp x) = decDigits x := by
  induction x using Nat.strongRecOn with
  | _ x ih =>
    rw [grp]
    by_cases h : x < 1000000000
    · rw [if_pos h]; rfl
    · rw [if_neg h]
      have h0 : x / 1000000000 ≠ 0 := by omega
      have hi := ih (x / 1000000000) (Nat.div_lt_self (by omega) (by omega))
      have hs := dec_split 9 x (by simpa using h0)
      have hf := pad_fill 8 (x % 1000000000) (Nat.mod_lt _ (by omega))
      simp only [show (10 : Nat) ^ 9 = 1000000000 from rfl] at hs
      rw [hs, ← hi, ← hf]
      rw [grp_step (x / 1000000000)]
      rfl

end Go.Proofs.YtdgmjmckeeeljaaGreatDoor
