/- Digits to the base 2^32 and the natural numbers that they stand for. No condition. -/
import Derived.Below
namespace Go.Proofs.YtdgmjmckeeeljaaGreatDoor

/-- The number of some digits, the lowest one first. -/
def val : List Nat → Nat
  | [] => 0
  | d :: ds => d + 4294967296 * val ds

/-- The digits of a number, without zeros at the end. -/
def digs (n : Nat) : List Nat := if h : n = 0 then [] else n % 4294967296 :: digs (n / 4294967296)
termination_by n
decreasing_by omega

def Bd (ds : List Nat) : Prop := ∀ d ∈ ds, d < 4294967296

theorem digs_zero : digs 0 = [] := by rw [digs]; simp
theorem digs_pos {n : Nat} (h : n ≠ 0) : digs n = n % 4294967296 :: digs (n / 4294967296) := by rw [digs]; simp [h]

theorem val_digs (n : Nat) : val (digs n) = n := by
  induction n using digs.induct with
  | case1 => rw [digs_zero]; rfl
  | case2 n h ih => rw [digs_pos h, val, ih]; omega

theorem bd_digs (n : Nat) : Bd (digs n) := by
  induction n using digs.induct with
  | case1 => rw [digs_zero]; intro d hd; cases hd
  | case2 n h ih =>
    rw [digs_pos h]; intro d hd
    rcases List.mem_cons.1 hd with rfl | hd
    · omega
    · exact ih d hd

theorem Bd.cons {d : Nat} {ds : List Nat} (h : Bd (d :: ds)) : d < 4294967296 ∧ Bd ds := ⟨h d (by simp), fun x hx => h x (by simp [hx])⟩
theorem Bd.mk {d : Nat} {ds : List Nat} (h : d < 4294967296) (k : Bd ds) : Bd (d :: ds) := by
  intro x hx; rcases List.mem_cons.1 hx with rfl | hx
  · exact h
  · exact k x hx
theorem bd_nil : Bd [] := fun _ h => by cases h

/-- A digit is what division says. -/
theorem val_digit {ds : List Nat} (h : Bd ds) (k : Nat) : ds.getD k 0 = val ds / 4294967296 ^ k % 4294967296 := by
  induction ds generalizing k with
  | nil => simp [val]
  | cons d ds ih =>
    obtain ⟨hd, hb⟩ := h.cons
    cases k with
    | zero => simp [val]; omega
    | succ k =>
      have := ih hb k
      simp only [List.getD_cons_succ, this, val, Nat.pow_succ]
      rw [Nat.mul_comm (4294967296 ^ k), ← Nat.div_div_eq_div_mul]
      have e : (d + 4294967296 * val ds) / 4294967296 = val ds := by omega
      rw [e]

theorem val_lt {ds : List Nat} (h : Bd ds) : val ds < 4294967296 ^ ds.length := by
  induction ds with
  | nil => simp [val]
  | cons d ds ih =>
    obtain ⟨hd, hb⟩ := h.cons
    have := ih hb
    simp only [val, List.length_cons, Nat.pow_succ]
    omega

theorem val_append (a b : List Nat) : val (a ++ b) = val a + 4294967296 ^ a.length * val b := by
  induction a with
  | nil => simp [val]
  | cons d a ih =>
    simp only [List.cons_append, val, ih, List.length_cons, Nat.pow_succ]
    grind

theorem val_zeros (n : Nat) : val (List.replicate n 0) = 0 := by
  induction n with
  | zero => rfl
  | succ n ih => simp [List.replicate_succ, val, ih]

/-- Digits whose last one is not 0 are those of their number. -/
theorem digs_val {ds : List Nat} (h : Bd ds) (ht : ds = [] ∨ ds.getLast? ≠ some 0) : digs (val ds) = ds := by
  induction ds with
  | nil => exact digs_zero
  | cons d ds ih =>
    obtain ⟨hd, hb⟩ := h.cons
    have ht' : (d :: ds).getLast? ≠ some 0 := by rcases ht with h | h; cases h; exact h
    have hpos : val (d :: ds) ≠ 0 := by
      cases ds with
      | nil => simp [val] at *; omega
      | cons e es =>
        have e1 := ih hb (.inr (by simpa using ht'))
        intro h0
        simp only [val] at h0
        have : val (e :: es) = 0 := by simp only [val]; omega
        rw [this, digs_zero] at e1
        cases e1
    rw [digs_pos hpos]
    have e1 : val (d :: ds) % 4294967296 = d := by simp only [val]; omega
    have e2 : val (d :: ds) / 4294967296 = val ds := by simp only [val]; omega
    rw [e1, e2]
    congr 1
    cases ds with
    | nil => exact digs_zero
    | cons e es => exact ih hb (.inr (by simpa using ht'))

theorem digs_last (n : Nat) : (digs n).getLast? ≠ some 0 := by
  induction n using digs.induct with
  | case1 => rw [digs_zero]; simp
  | case2 n h ih =>
    rw [digs_pos h]
    by_cases h0 : n / 4294967296 = 0
    · rw [h0, digs_zero]; simp; omega
    · rw [digs_pos h0] at ih ⊢
      simpa using ih

theorem digs_inj {n m : Nat} (h : digs n = digs m) : n = m := by rw [← val_digs n, h, val_digs]

theorem digs_length_le {n k : Nat} : (digs n).length ≤ k ↔ n < 4294967296 ^ k := by
  induction k generalizing n with
  | zero =>
    by_cases h : n = 0
    · subst h; simp [digs_zero]
    · rw [digs_pos h]; simp; omega
  | succ k ih =>
    by_cases h : n = 0
    · subst h; simp [digs_zero]; exact Nat.pow_pos (by omega)
    · rw [digs_pos h]; simp only [List.length_cons, Nat.add_le_add_iff_right, ih, Nat.pow_succ]; omega

theorem digs_getD (n k : Nat) : (digs n).getD k 0 = n / 4294967296 ^ k % 4294967296 := by rw [val_digit (bd_digs n), val_digs]

theorem mod_step (v k : Nat) : v % 4294967296 ^ (k + 1) = v % 4294967296 ^ k + 4294967296 ^ k * (v / 4294967296 ^ k % 4294967296) := by
  rw [Nat.mod_pow_succ]

theorem val_take_set {xs : List Nat} {k : Nat} (hk : k < xs.length) (d : Nat) : val ((xs.set k d).take (k + 1)) = val (xs.take k) + 4294967296 ^ k * d := by
  rw [List.take_add_one, val_append]
  have h1 : (xs.set k d).take k = xs.take k := by rw [List.take_set, List.set_eq_of_length_le (by simp; omega)]
  have h2 : (xs.set k d)[k]?.toList = [d] := by simp [hk]
  rw [h1, h2, List.length_take, Nat.min_eq_left (by omega)]
  simp [val]

theorem Bd.set {xs : List Nat} (h : Bd xs) (k : Nat) {d : Nat} (hd : d < 4294967296) : Bd (xs.set k d) := by
  intro x hx
  rcases List.mem_or_eq_of_mem_set hx with h1 | rfl
  · exact h x h1
  · exact hd

theorem bd_zeros (n : Nat) : Bd (List.replicate n 0) := by
  intro x hx
  have := (List.mem_replicate.1 hx).2
  omega

theorem pow_pos' (k : Nat) : 0 < 4294967296 ^ k := Nat.pow_pos (by omega)

/-- A round of a sum. -/
theorem sum_step {x p c a b : Nat} (h : x + p * c = a + b) (da db : Nat) :
    x + p * ((c + (da + db)) % 4294967296) + p * 4294967296 * ((c + (da + db)) / 4294967296) = a + p * da + (b + p * db) := by
  have e := Nat.mod_add_div (c + (da + db)) 4294967296
  have : x + p * ((c + (da + db)) % 4294967296) + p * 4294967296 * ((c + (da + db)) / 4294967296) = x + p * ((c + (da + db)) % 4294967296 + 4294967296 * ((c + (da + db)) / 4294967296)) := by grind
  rw [this, e]
  grind

theorem val_set {xs : List Nat} {k : Nat} (hk : k < xs.length) (d : Nat) : val (xs.set k d) + 4294967296 ^ k * xs.getD k 0 = val xs + 4294967296 ^ k * d := by
  induction xs generalizing k with
  | nil => simp at hk
  | cons a xs ih =>
    cases k with
    | zero => simp [val]; omega
    | succ k =>
      have := ih (k := k) (by simpa using hk)
      simp only [List.set_cons_succ, val, List.getD_cons_succ, Nat.pow_succ]
      have h1 : 4294967296 ^ k * 4294967296 * xs.getD k 0 = 4294967296 * (4294967296 ^ k * xs.getD k 0) := by grind
      have h2 : 4294967296 ^ k * 4294967296 * d = 4294967296 * (4294967296 ^ k * d) := by grind
      rw [h1, h2]
      omega

theorem val_set_zero {xs : List Nat} {k : Nat} (hk : k < xs.length) (d : Nat) (h0 : xs.getD k 0 = 0) : val (xs.set k d) = val xs + 4294967296 ^ k * d := by
  have := val_set hk d
  rw [h0] at this
  simpa using this

end Go.Proofs.YtdgmjmckeeeljaaGreatDoor
