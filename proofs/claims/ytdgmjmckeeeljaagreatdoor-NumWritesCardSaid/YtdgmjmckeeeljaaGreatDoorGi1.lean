/- Digits to the base 2^32 and the natural numbers that they stand for. No condition. Contracts of the smallest functions of num: what digits a slice reads as. No condition but that the slices read as digits. Rows of digits in the call's own memory. No condition. Plain facts on bits of numbers of 32 and 64 binary digits. No condition. Contracts of num: words, sums. No condition but that the slices read as digits. Contracts of num: sums. No condition but that the slices read as digits. Contracts of num: differences. Condition: what is subtracted is not greater. Contracts of num: products. No condition but that the slices read as digits. slices.Backward over digits, and compare. No condition but that the slices read as digits. compare. No condition but that the slices read as digits without zeros at the end. Contracts of num: right numbers, made. No condition but that the slices read as digits. Contracts of num: Mul. Contracts of num: Add. Contracts of num: Sub, Of, Int, Cmp, Bits. -/
import Derived.Below
import Derived.Test.YtdgmjmckeeeljaaGreatDoorProg
import Derived.WalkKit
import Derived.WalkSpells
import Derived.Handy
import Derived.Lib.Hide
import Derived.RangeFuncNested
import Derived.RangeFuncBound
import Derived.RangeFuncCalls
import Derived.RangeFuncLeaves
import Derived.Shelf.Abstract
import Derived.Shelf.RegionOpen
import Derived.OwnWalkIn
import Derived.TacticsInMore
import Derived.LoopNIn
import Derived.LoopIn
import Derived.Deep.RegionHeld3
namespace Go.Proofs.YtdgmjmckeeeljaaGreatDoor

/-- The number of some digits, the lowest one first. -/
def val : List Nat → Nat
  | [] => 0
  | d :: ds => d + 4294967296 * val ds

/-- The digits of a number, without zeros at the end. -/
def digs (n : Nat) : List Nat := if h : n = 0 then [] else n % 4294967296 :: digs (n / 4294967296)
termination_by n
decreasing_by omega

def Bd (ds : List Nat) : Prop := ∀ d ∈ ds, d < 4294967296

theorem digs_zero : digs 0 = [] := by rw [digs]; simp
theorem digs_pos {n : Nat} (h : n ≠ 0) : digs n = n % 4294967296 :: digs (n / 4294967296) := by rw [digs]; simp [h]

theorem val_digs (n : Nat) : val (digs n) = n := by
  induction n using digs.induct with
  | case1 => rw [digs_zero]; rfl
  | case2 n h ih => rw [digs_pos h, val, ih]; omega

theorem bd_digs (n : Nat) : Bd (digs n) := by
  induction n using digs.induct with
  | case1 => rw [digs_zero]; intro d hd; cases hd
  | case2 n h ih =>
    rw [digs_pos h]; intro d hd
    rcases List.mem_cons.1 hd with rfl | hd
    · omega
    · exact ih d hd

theorem Bd.cons {d : Nat} {ds : List Nat} (h : Bd (d :: ds)) : d < 4294967296 ∧ Bd ds := ⟨h d (by simp), fun x hx => h x (by simp [hx])⟩
theorem Bd.mk {d : Nat} {ds : List Nat} (h : d < 4294967296) (k : Bd ds) : Bd (d :: ds) := by
  intro x hx; rcases List.mem_cons.1 hx with rfl | hx
  · exact h
  · exact k x hx
theorem bd_nil : Bd [] := fun _ h => by cases h

/-- A digit is what division says. -/
theorem val_digit {ds : List Nat} (h : Bd ds) (k : Nat) : ds.getD k 0 = val ds / 4294967296 ^ k % 4294967296 := by
  induction ds generalizing k with
  | nil => simp [val]
  | cons d ds ih =>
    obtain ⟨hd, hb⟩ := h.cons
    cases k with
    | zero => simp [val]; omega
    | succ k =>
      have := ih hb k
      simp only [List.getD_cons_succ, this, val, Nat.pow_succ]
      rw [Nat.mul_comm (4294967296 ^ k), ← Nat.div_div_eq_div_mul]
      have e : (d + 4294967296 * val ds) / 4294967296 = val ds := by omega
      rw [e]

theorem val_lt {ds : List Nat} (h : Bd ds) : val ds < 4294967296 ^ ds.length := by
  induction ds with
  | nil => simp [val]
  | cons d ds ih =>
    obtain ⟨hd, hb⟩ := h.cons
    have := ih hb
    simp only [val, List.length_cons, Nat.pow_succ]
    omega

theorem val_append (a b : List Nat) : val (a ++ b) = val a + 4294967296 ^ a.length * val b := by
  induction a with
  | nil => simp [val]
  | cons d a ih =>
    simp only [List.cons_append, val, ih, List.length_cons, Nat.pow_succ]
    grind

theorem val_zeros (n : Nat) : val (List.replicate n 0) = 0 := by
  induction n with
  | zero => rfl
  | succ n ih => simp [List.replicate_succ, val, ih]

/-- Digits whose last one is not 0 are those of their number. -/
theorem digs_val {ds : List Nat} (h : Bd ds) (ht : ds = [] ∨ ds.getLast? ≠ some 0) : digs (val ds) = ds := by
  induction ds with
  | nil => exact digs_zero
  | cons d ds ih =>
    obtain ⟨hd, hb⟩ := h.cons
    have ht' : (d :: ds).getLast? ≠ some 0 := by rcases ht with h | h; cases h; exact h
    have hpos : val (d :: ds) ≠ 0 := by
      cases ds with
      | nil => simp [val] at *; omega
      | cons e es =>
        have e1 := ih hb (.inr (by simpa using ht'))
        intro h0
        simp only [val] at h0
        have : val (e :: es) = 0 := by simp only [val]; omega
        rw [this, digs_zero] at e1
        cases e1
    rw [digs_pos hpos]
    have e1 : val (d :: ds) % 4294967296 = d := by simp only [val]; omega
    have e2 : val (d :: ds) / 4294967296 = val ds := by simp only [val]; omega
    rw [e1, e2]
    congr 1
    cases ds with
    | nil => exact digs_zero
    | cons e es => exact ih hb (.inr (by simpa using ht'))

theorem digs_last (n : Nat) : (digs n).getLast? ≠ some 0 := by
  induction n using digs.induct with
  | case1 => rw [digs_zero]; simp
  | case2 n h ih =>
    rw [digs_pos h]
    by_cases h0 : n / 4294967296 = 0
    · rw [h0, digs_zero]; simp; omega
    · rw [digs_pos h0] at ih ⊢
      simpa using ih

theorem digs_inj {n m : Nat} (h : digs n = digs m) : n = m := by rw [← val_digs n, h, val_digs]

theorem digs_length_le {n k : Nat} : (digs n).length ≤ k ↔ n < 4294967296 ^ k := by
  induction k generalizing n with
  | zero =>
    by_cases h : n = 0
    · subst h; simp [digs_zero]
    · rw [digs_pos h]; simp; omega
  | succ k ih =>
    by_cases h : n = 0
    · subst h; simp [digs_zero]; exact Nat.pow_pos (by omega)
    · rw [digs_pos h]; simp only [List.length_cons, Nat.add_le_add_iff_right, ih, Nat.pow_succ]; omega

theorem digs_getD (n k : Nat) : (digs n).getD k 0 = n / 4294967296 ^ k % 4294967296 := by rw [val_digit (bd_digs n), val_digs]

theorem mod_step (v k : Nat) : v % 4294967296 ^ (k + 1) = v % 4294967296 ^ k + 4294967296 ^ k * (v / 4294967296 ^ k % 4294967296) := by
  rw [Nat.mod_pow_succ]

theorem val_take_set {xs : List Nat} {k : Nat} (hk : k < xs.length) (d : Nat) : val ((xs.set k d).take (k + 1)) = val (xs.take k) + 4294967296 ^ k * d := by
  rw [List.take_add_one, val_append]
  have h1 : (xs.set k d).take k = xs.take k := by rw [List.take_set, List.set_eq_of_length_le (by simp; omega)]
  have h2 : (xs.set k d)[k]?.toList = [d] := by simp [hk]
  rw [h1, h2, List.length_take, Nat.min_eq_left (by omega)]
  simp [val]

theorem Bd.set {xs : List Nat} (h : Bd xs) (k : Nat) {d : Nat} (hd : d < 4294967296) : Bd (xs.set k d) := by
  intro x hx
  rcases List.mem_or_eq_of_mem_set hx with h1 | rfl
  · exact h x h1
  · exact hd

theorem bd_zeros (n : Nat) : Bd (List.replicate n 0) := by
  intro x hx
  have := (List.mem_replicate.1 hx).2
  omega

theorem pow_pos' (k : Nat) : 0 < 4294967296 ^ k := Nat.pow_pos (by omega)

/-- A round of a sum. -/
theorem sum_step {x p c a b : Nat} (h : x + p * c = a + b) (da db : Nat) :
    x + p * ((c + (da + db)) % 4294967296) + p * 4294967296 * ((c + (da + db)) / 4294967296) = a + p * da + (b + p * db) := by
  have e := Nat.mod_add_div (c + (da + db)) 4294967296
  have : x + p * ((c + (da + db)) % 4294967296) + p * 4294967296 * ((c + (da + db)) / 4294967296) = x + p * ((c + (da + db)) % 4294967296 + 4294967296 * ((c + (da + db)) / 4294967296)) := by grind
  rw [this, e]
  grind

theorem val_set {xs : List Nat} {k : Nat} (hk : k < xs.length) (d : Nat) : val (xs.set k d) + 4294967296 ^ k * xs.getD k 0 = val xs + 4294967296 ^ k * d := by
  induction xs generalizing k with
  | nil => simp at hk
  | cons a xs ih =>
    cases k with
    | zero => simp [val]; omega
    | succ k =>
      have := ih (k := k) (by simpa using hk)
      simp only [List.set_cons_succ, val, List.getD_cons_succ, Nat.pow_succ]
      have h1 : 4294967296 ^ k * 4294967296 * xs.getD k 0 = 4294967296 * (4294967296 ^ k * xs.getD k 0) := by grind
      have h2 : 4294967296 ^ k * 4294967296 * d = 4294967296 * (4294967296 ^ k * d) := by grind
      rw [h1, h2]
      omega

theorem val_set_zero {xs : List Nat} {k : Nat} (hk : k < xs.length) (d : Nat) (h0 : xs.getD k 0 = 0) : val (xs.set k d) = val xs + 4294967296 ^ k * d := by
  have := val_set hk d
  rw [h0] at this
  simpa using this

end Go.Proofs.YtdgmjmckeeeljaaGreatDoor

namespace Go.Proofs.YtdgmjmckeeeljaaGreatDoor
open Go.RowKit

/-- The cells of a slice of digits. -/
def Cl (w : World) (b off : Nat) (ds : List Nat) : Prop := ∀ j, j < ds.length → w.cell? ⟨b, off + j, none⟩ = some (.int .u32 ((ds.getD j 0 : Nat) : Int))

/-- A slice that reads as digits. -/
structure Sl (w : World) (v : Value) (ds : List Nat) : Prop where
  bd : Bd ds
  len : ds.length ≤ maxLen
  is : (ds = [] ∧ ∃ ao cap, v = .slice ao 0 cap) ∨ ∃ b off cap, v = .slice (some ⟨b, off, none⟩) ds.length cap ∧ ds.length ≤ cap ∧ Cl w b off ds

theorem Sl.below {w w' : World} {v : Value} {ds : List Nat} (h : Sl w v ds) (hb : Below w.heap.size w w') : Sl w' v ds := by
  obtain ⟨h1, h2, h3⟩ := h
  refine ⟨h1, h2, ?_⟩
  rcases h3 with h3 | ⟨b, off, cap, hv, hc, hl⟩
  · exact .inl h3
  · refine .inr ⟨b, off, cap, hv, hc, fun j hj => ?_⟩
    exact cell_later hb (hl j hj)

theorem getD_big (ds : List Nat) (n : Nat) (h : ds.length ≤ n) : ds.getD n 0 = 0 := by simp [List.getD, List.getElem?_eq_none h]

/-- A digit by its place; 0 beyond. -/
def dg (ds : List Nat) (k : Int) : Nat := if k < 0 then 0 else ds.getD k.toNat 0

set_option maxHeartbeats 400000 in
theorem digit_any {w : World} {v : Value} {ds : List Nat} (h : Sl w v ds) (k : Int) :
    Calls Tryz.prog 78 #[v, .int .i64 k] w fun e w' => e = .returned (.int .u32 (dg ds k : Nat)) ∧ w' = w := by
  obtain ⟨hb, hl, h⟩ := h
  have key : ∀ z : Nat, z = dg ds k → dg ds k = z := fun z h => h.symm
  unfold maxLen at hl
  rcases h with ⟨rfl, ao, cap, rfl⟩ | ⟨b, off, cap, rfl, hc, hcl⟩
  · have e0 : dg [] k = 0 := by unfold dg; split <;> simp
    rw [e0]
    clear e0 key
    by_cases h : k < 0
    all_goals
      go_enter Tryz.func78, Tryz.ntmps78
      go_wp2
      go_ret
      exact ⟨rfl, rfl⟩
  · by_cases h : k < 0
    · have e0 : dg ds k = 0 := by unfold dg; rw [if_pos h]
      rw [e0]
      clear e0 key
      go_enter Tryz.func78, Tryz.ntmps78
      go_wp2
      go_ret
      exact ⟨rfl, rfl⟩
    · obtain ⟨n, rfl⟩ : ∃ n : Nat, k = n := ⟨k.toNat, by omega⟩
      by_cases hn : n < ds.length
      · have hc := hcl n hn
        have e0 : dg ds n = ds.getD n 0 := by unfold dg; rw [if_neg h]; rfl
        rw [e0]
        obtain ⟨x, hx⟩ : ∃ x, x = ds.getD n 0 := ⟨_, rfl⟩
        rw [← hx] at hc ⊢
        clear e0 key hx hcl
        go_enter Tryz.func78, Tryz.ntmps78
        go_wp2
        go_ret
        exact ⟨rfl, rfl⟩
      · have e0 : dg ds n = 0 := by unfold dg; rw [if_neg h]; exact getD_big ds n (by omega)
        rw [e0]
        clear e0 key hcl
        go_enter Tryz.func78, Tryz.ntmps78
        go_wp2
        go_ret
        exact ⟨rfl, rfl⟩

theorem dg_nat {ds : List Nat} (h : Bd ds) (n : Nat) : dg ds n = val ds / 4294967296 ^ n % 4294967296 := by
  unfold dg; rw [if_neg (by omega)]; exact val_digit h n
theorem dg_lt {ds : List Nat} (h : Bd ds) (k : Int) : dg ds k < 4294967296 := by
  unfold dg; split
  · omega
  · rw [val_digit h]; exact Nat.mod_lt _ (by omega)

/-- The digits without the zeros at their end. -/
theorem take_trim {ds : List Nat} (h : Bd ds) : digs (val ds) = ds.take (digs (val ds)).length ∧ (digs (val ds)).length ≤ ds.length := by
  induction ds with
  | nil => simp [val, digs_zero]
  | cons d ds ih =>
    obtain ⟨hd, hb⟩ := h.cons
    obtain ⟨i1, i2⟩ := ih hb
    by_cases h0 : val (d :: ds) = 0
    · rw [h0, digs_zero]; simp
    · have e1 : val (d :: ds) % 4294967296 = d := by simp only [val]; omega
      have e2 : val (d :: ds) / 4294967296 = val ds := by simp only [val]; omega
      rw [digs_pos h0, e1, e2]
      simp only [List.length_cons, List.take_succ_cons]
      exact ⟨by rw [← i1], by omega⟩

theorem trim_stop {ds : List Nat} (h : Bd ds) (k : Nat) (hk : k ≤ ds.length) (hv : val (ds.take k) = val ds) (hs : k = 0 ∨ ds.getD (k - 1) 0 ≠ 0) : k = (digs (val ds)).length := by
  have hb : Bd (ds.take k) := fun x hx => h x (List.mem_of_mem_take hx)
  have : digs (val (ds.take k)) = ds.take k := digs_val hb (by
    rcases hs with rfl | hs
    · exact .inl (by simp)
    · by_cases h0 : k = 0
      · subst h0; exact .inl (by simp)
      · refine .inr ?_
        rw [List.getLast?_eq_getElem?, List.getElem?_take]
        simp only [List.length_take]
        rw [Nat.min_eq_left hk, if_pos (by omega)]
        intro h; apply hs; simp [List.getD, h])
  rw [← hv, this]; simp; omega

theorem trim_step {ds : List Nat} (k : Nat) (hk : k + 1 ≤ ds.length) (hv : val (ds.take (k + 1)) = val ds) (hz : ds.getD k 0 = 0) : val (ds.take k) = val ds := by
  rw [← hv, List.take_add_one, val_append]
  have : ds[k]?.toList = [0] := by
    rw [List.getElem?_eq_getElem (by omega)]
    simp [List.getD, List.getElem?_eq_getElem (show k < ds.length by omega)] at hz
    simp [hz]
  rw [this]; simp [val]

set_option maxHeartbeats 400000 in
theorem trim_any {w : World} {ds : List Nat} (ao : Option Addr) (n cap : Nat) (h : Sl w (.slice ao n cap) ds) :
    Calls Tryz.prog 76 #[.slice ao n cap] w fun e w' => e = .returned (.slice ao (digs (val ds)).length cap) ∧ w' = w := by
  obtain ⟨hb, hl, h⟩ := h
  unfold maxLen at hl
  rcases h with ⟨rfl, ao', cap', hv⟩ | ⟨b, off, cap', hv, hc, hcl⟩
  · cases hv
    simp only [val, digs_zero, List.length_nil]
    go_enter Tryz.func76, Tryz.ntmps76
    go_wp2
    go_rounds 1
    go_ret
    exact ⟨rfl, rfl⟩
  · cases hv
    have hst := trim_stop hb
    have htk := @trim_step ds
    obtain ⟨m, hm⟩ : ∃ m, m = (digs (val ds)).length := ⟨_, rfl⟩
    rw [← hm] at hst ⊢
    have hml : m ≤ ds.length := by rw [hm]; exact (take_trim hb).2
    clear hb hm
    have HST := Lib.hid hst
    clear hst
    have HTK := Lib.hid htk
    clear htk
    have HCL := Lib.hid hcl
    clear hcl
    go_enter Tryz.func76, Tryz.ntmps76
    go_wp2
    go_loop [3] (fun n => ∃ k : Nat, k ≤ ds.length ∧ n = .int .i64 k ∧ Hid (val (ds.take k) = val ds)) (fun n => (intOf n).toNat)
    case atStart => exact ⟨ds.length, Nat.le_refl _, rfl, by simp [Hid]⟩
    case round =>
      obtain ⟨k, hk, rfl, hv⟩ := hrel
      cases k with
      | zero =>
        have e0 := HST.out 0 (by omega) hv.out (.inl rfl)
        subst e0
        go_wp2
        go_ret
        exact ⟨rfl, rfl⟩
      | succ k =>
        have hcc := HCL.out k (by omega)
        obtain ⟨x, hx⟩ : ∃ x, x = ds.getD k 0 := ⟨_, rfl⟩
        rw [← hx] at hcc
        by_cases h0 : x = 0
        · have hv' := HTK.out k hk hv.out (by omega)
          have HV' := Lib.hid hv'
          clear hv' hv hx
          subst h0
          go_wp2
          go_round
          case rel => exact ⟨k, by omega, by go_num, HV'⟩
          case measure => simp [intOf]
        · have e0 := HST.out (k + 1) hk hv.out (.inr (by rw [Nat.add_sub_cancel, ← hx]; exact h0))
          clear hx
          subst e0
          go_wp2
          go_ret
          exact ⟨rfl, rfl⟩

end Go.Proofs.YtdgmjmckeeeljaaGreatDoor

namespace Go.Proofs.YtdgmjmckeeeljaaGreatDoor
open Go.RowKit

def u32v (d : Nat) : Value := .int .u32 (d : Int)

/-- Block g is a row of these digits. -/
def Row (w : World) (g : Nat) (xs : List Nat) : Prop := w.heap[g]? = some (.cells (xs.map u32v).toArray 59 (0, 0))

theorem Row.lt {w : World} {g : Nat} {xs : List Nat} (h : Row w g xs) : g < w.heap.size := by
  unfold Row at h
  exact (Array.getElem?_eq_some_iff.1 h).1

theorem Row.cell {w : World} {g : Nat} {xs : List Nat} (h : Row w g xs) (j : Nat) (hj : j < xs.length) : w.cell? ⟨g, j, none⟩ = some (.int .u32 ((xs.getD j 0 : Nat) : Int)) := by
  rw [cell_of_row w g j _ 59 (0, 0) h]
  simp [hj, u32v, List.getD]

theorem Row.free {w : World} {g : Nat} {xs : List Nat} (h : Row w g xs) (j : Nat) : w.frozen? ⟨g, j, none⟩ = false := frozen_of_row w g j _ 59 h

theorem Row.set {w : World} {g : Nat} {xs : List Nat} (h : Row w g xs) (j d : Nat) : Row (w.setCell ⟨g, j, none⟩ (.int .u32 (d : Int))) g (xs.set j d) := by
  have := heap_setCell_same w g j _ 59 (.int .u32 (d : Int)) h
  unfold Row
  rw [this]
  congr 2
  apply Array.ext'
  simp [u32v, List.map_set]

theorem Row.set' {w : World} {g : Nat} {xs : List Nat} (h : Row w g xs) (j d : Nat) {x : Int} (hx : x = (d : Int)) : Row (w.setCell ⟨g, j, none⟩ (.int .u32 x)) g (xs.set j d) := hx ▸ h.set j d

theorem Row.other {w : World} {g k : Nat} {xs : List Nat} (h : Row w g xs) (hk : g ≠ k) (j : Nat) (u : Value) : Row (w.setCell ⟨k, j, none⟩ u) g xs := by
  unfold Row
  rw [heap_setCell_other w ⟨k, j, none⟩ g u (by simpa using hk)]
  exact h

theorem Row.below {w w' : World} {g : Nat} {xs : List Nat} (h : Row w g xs) (hb : Below w.heap.size w w') : Row w' g xs := (hb.block g h.lt).trans h

theorem Row.alloc {w : World} {g : Nat} {xs : List Nat} (h : Row w g xs) (o : Obj) : Row (w.alloc o) g xs := (Below.heap_alloc w o g h.lt).trans h

theorem row_new (w : World) (ds : List Nat) : Row (w.alloc (.cells (ds.map u32v).toArray 59)) w.heap.size ds := heap_alloc_new w _

/-- What is owned: a slice that is not empty begins in a block from B on, and may be written. -/
def Own (B : Nat) (w : World) (v : Value) : Prop :=
  ∀ ao n cap, v = .slice ao n cap → n ≠ 0 → ∃ b off, ao = some ⟨b, off, none⟩ ∧ B ≤ b ∧ ∀ j, j < n → w.frozen? ⟨b, off + j, none⟩ = false

/-- Digits in memory of the call's own. -/
structure Sw (B : Nat) (w : World) (v : Value) (ds : List Nat) : Prop where
  sl : Sl w v ds
  own : Own B w v

theorem Sl.mk' {w : World} {v : Value} {ds : List Nat} (h : Sl w v ds) : ∃ ao cap, v = .slice ao ds.length cap := by
  rcases h.is with ⟨rfl, ao, cap, rfl⟩ | ⟨b, off, cap, rfl, _⟩
  · exact ⟨_, _, rfl⟩
  · exact ⟨_, _, rfl⟩

theorem Sl.nil (w : World) (ao : Option Addr) (cap : Nat) : Sl w (.slice ao 0 cap) [] := ⟨bd_nil, by simp, .inl ⟨rfl, _, _, rfl⟩⟩

theorem Row.sw {w : World} {B g : Nat} {xs : List Nat} (h : Row w g xs) (hB : B ≤ g) (hb : Bd xs) (hl : xs.length ≤ maxLen) : Sw B w (.slice (some ⟨g, 0, none⟩) xs.length xs.length) xs := by
  refine ⟨⟨hb, hl, .inr ⟨g, 0, xs.length, rfl, Nat.le_refl _, fun j hj => by rw [Nat.zero_add]; exact h.cell j hj⟩⟩, ?_⟩
  intro ao n cap hv _
  cases hv
  exact ⟨g, 0, rfl, hB, fun j _ => h.free _⟩

theorem Own.below {B : Nat} {w w' : World} {v : Value} {ds : List Nat} (h : Own B w v) (hs : Sl w v ds) (hb : Below w.heap.size w w') : Own B w' v := by
  intro ao n cap hv hn
  obtain ⟨b, off, h1, h2, h3⟩ := h ao n cap hv hn
  refine ⟨b, off, h1, h2, fun j hj => ?_⟩
  have hlt : b < w.heap.size := by
    rcases hs.is with ⟨rfl, ao', cap', hv'⟩ | ⟨b', off', cap', hv', hc, hcl⟩
    · rw [hv] at hv'; cases hv'; exact absurd rfl hn
    · rw [hv, h1] at hv'; cases hv'
      exact block_lt_of_cell (hcl j hj)
  rw [hb.frozen (by exact hlt)]
  exact h3 j hj

theorem Sw.below {B : Nat} {w w' : World} {v : Value} {ds : List Nat} (h : Sw B w v ds) (hb : Below w.heap.size w w') : Sw B w' v ds := ⟨h.sl.below hb, h.own.below h.sl hb⟩
theorem Sw.mono {B B' : Nat} {w : World} {v : Value} {ds : List Nat} (h : Sw B w v ds) (hB : B' ≤ B) : Sw B' w v ds :=
  ⟨h.sl, fun ao n cap hv hn => let ⟨b, off, h1, h2, h3⟩ := h.own ao n cap hv hn; ⟨b, off, h1, Nat.le_trans hB h2, h3⟩⟩

theorem Sl.bytes {w : World} {v : Value} {ds : List Nat} (h : Sl w v ds) : Bd ds := h.bd

theorem getD_take (ds : List Nat) (m j : Nat) (h : j < m) : (ds.take m).getD j 0 = ds.getD j 0 := by
  simp [List.getD, List.getElem?_take, h]

/-- The digits without the zeros at their end, in the same memory. -/
theorem Sl.trim {w : World} {ao : Option Addr} {n cap : Nat} {ds : List Nat} (h : Sl w (.slice ao n cap) ds) : Sl w (.slice ao (digs (val ds)).length cap) (digs (val ds)) := by
  obtain ⟨hb, hl, h⟩ := h
  obtain ⟨t1, t2⟩ := take_trim hb
  refine ⟨bd_digs _, by omega, ?_⟩
  rcases h with ⟨rfl, ao', cap', hv⟩ | ⟨b, off, cap', hv, hc, hcl⟩
  · refine .inl ⟨by simp [val, digs_zero], ao, cap, by simp [val, digs_zero]⟩
  · cases hv
    refine .inr ⟨b, off, cap, rfl, by omega, fun j hj => ?_⟩
    rw [hcl j (by omega)]
    congr 3
    rw [t1, getD_take _ _ _ hj]

theorem Sw.trim {B : Nat} {w : World} {ao : Option Addr} {n cap : Nat} {ds : List Nat} (h : Sw B w (.slice ao n cap) ds) : Sw B w (.slice ao (digs (val ds)).length cap) (digs (val ds)) := by
  refine ⟨h.sl.trim, ?_⟩
  have hn : n = ds.length := by
    obtain ⟨ao', cap', hv⟩ := h.sl.mk'
    cases hv; rfl
  have t2 := (take_trim h.sl.bd).2
  intro ao' n' cap' hv hne
  cases hv
  obtain ⟨b, off, h1, h2, h3⟩ := h.own ao n cap rfl (by omega)
  exact ⟨b, off, h1, h2, fun j hj => h3 j (by omega)⟩

theorem Tryz.info59 : (Tryz.prog.info? 59).map (fun i => (i.zero, i.size, i.bytes)) = some (some (.int .u32 0), 1, 4) := by kernel_rfl

theorem zeros_cells (n : Nat) : madeCells (Value.int .u32 0).cells (n * 1) = ((List.replicate n 0).map u32v).toArray := by
  apply Array.ext'
  rw [show (Value.int .u32 0).cells = #[.int .u32 0] from rfl, toList_madeCells_one]
  simp [u32v]

/-- 'make([]uint32, n)': a row of zeros. -/
theorem wpList_make_row (w : World) {ops : Array Oper} {rest : List Oper} {o : Oper} {a : Act} {Q : Exit → Act → World → Prop}
    (hg : o.guard = none) (l c : Operand) (hop : o.op = Op.makeSlice 25 l c)
    (kl kc : IntKind) (L C : Int) (n : Nat) (hl : a.eval l = .int kl L) (hc : a.eval c = .int kc C) (hL : L = (n : Int)) (hC : C = (n : Int)) (b2 : 4 * n ≤ 281474976710656)
    (hK : ∀ w', Row w' w.heap.size (List.replicate n 0) → Below w.heap.size w w' → wpList Tryz.prog ops Q rest (a.put o.dst (.slice (some ⟨w.heap.size, 0, none⟩) n n)) w') :
    wpList Tryz.prog ops Q (o :: rest) a w := by
  obtain ⟨i, hi, hz0, hz1, hz2⟩ := info_parts Tryz.info59
  refine wpList_plain hg fun K hK' => ?_
  subst hL hC
  have hr := run_make (P := Tryz.prog) w 25 59 i _ Tryz.underlying25 hi hz0 kl kc n n (by omega) (Int.le_refl _) (by rw [hz2]; omega) (by omega)
  simp only [Int.toNat_natCast, hz1] at hr
  rw [zeros_cells] at hr
  unfold Oper.wp
  simp [execOp, hop, hl, hc, hr, Result.andThen]
  exact hK' _ _ (hK _ (by simpa using row_new w (List.replicate n 0)) ((Below.refl _ _).alloc (Nat.le_refl _) _))

theorem Row.sw' {w : World} {B g n : Nat} {xs : List Nat} (h : Row w g xs) (hB : B ≤ g) (hb : Bd xs) (hn : xs.length = n) (hl : n ≤ maxLen) : Sw B w (.slice (some ⟨g, 0, none⟩) n n) xs := by
  subst hn
  exact h.sw hB hb hl

theorem Sl.size {w : World} {ao : Option Addr} {n cap : Nat} {ds : List Nat} (h : Sl w (.slice ao n cap) ds) : n = ds.length := by
  obtain ⟨ao', cap', hv⟩ := h.mk'
  cases hv; rfl

/-- Where there is a digit, there is an address. -/
theorem Sl.at {w : World} {ao : Option Addr} {n cap : Nat} {ds : List Nat} (h : Sl w (.slice ao n cap) ds) (hn : n ≠ 0) :
    ∃ b off, ao = some ⟨b, off, none⟩ ∧ n ≤ cap ∧ b < w.heap.size ∧ Cl w b off ds := by
  have hs := h.size
  rcases h.is with ⟨rfl, ao', cap', hv⟩ | ⟨b, off, cap', hv, hc, hcl⟩
  · exact absurd hs hn
  · cases hv
    exact ⟨b, off, rfl, hc, block_lt_of_cell (hcl 0 (by omega)), hcl⟩

theorem Cl.at {w wr : World} {b off : Nat} {ds : List Nat} (h : Cl w b off ds) {g : Nat} (hb : Below g w wr) (hg : b < g) (k : Nat) (hk : k < ds.length) :
    wr.cell? ⟨b, off + k, none⟩ = some (.int .u32 ((ds.getD k 0 : Nat) : Int)) := (hb.cell (by exact hg)).trans (h k hk)

end Go.Proofs.YtdgmjmckeeeljaaGreatDoor

namespace Go.Proofs.YtdgmjmckeeeljaaGreatDoor

/-- What is left over by a subtraction, and what is borrowed. -/
def sbd (x y b : Nat) : Nat := (x + 4294967296 - y - b) % 4294967296
def sbb (x y b : Nat) : Nat := if x < y + b then 1 else 0

theorem sb_eq {x y b : Nat} (hx : x < 4294967296) (hy : y < 4294967296) (hb : b ≤ 1) : sbd x y b + y + b = x + 4294967296 * sbb x y b ∧ sbd x y b < 4294967296 ∧ sbb x y b ≤ 1 := by
  unfold sbd sbb; split <;> omega

theorem two_vals {n : Nat} (h : n < 2) : n = 0 ∨ n = 1 := by omega

theorem borrow_bit (x y b : Nat) (hx : x < 4294967296) (hy : y < 4294967296) (hb : b ≤ 1) :
    (((4294967295 - x) &&& y) ||| ((4294967295 - (x ^^^ y)) &&& sbd x y b)) / 2147483648 = sbb x y b := by
  have hxy : x ^^^ y < 2 ^ 32 := Nat.xor_lt_two_pow (by simpa using hx) (by simpa using hy)
  have ex : (x ^^^ y) / 2147483648 = (x / 2147483648) ^^^ (y / 2147483648) := Nat.xor_div_two_pow (n := 31)
  have e1 : ((((4294967295 - x) &&& y) ||| ((4294967295 - (x ^^^ y)) &&& sbd x y b))) / 2147483648 =
      (((4294967295 - x) / 2147483648 &&& y / 2147483648) ||| ((4294967295 - (x ^^^ y)) / 2147483648 &&& sbd x y b / 2147483648)) := by
    have a := Nat.or_div_two_pow (a := (4294967295 - x) &&& y) (b := (4294967295 - (x ^^^ y)) &&& sbd x y b) (n := 31)
    have b1 := Nat.and_div_two_pow (a := 4294967295 - x) (b := y) (n := 31)
    have c := Nat.and_div_two_pow (a := 4294967295 - (x ^^^ y)) (b := sbd x y b) (n := 31)
    simp only [show (2 : Nat) ^ 31 = 2147483648 from rfl] at a b1 c
    rw [a, b1, c]
  have g1 : (4294967295 - x) / 2147483648 = 1 - x / 2147483648 := by omega
  have g2 : (4294967295 - (x ^^^ y)) / 2147483648 = 1 - (x ^^^ y) / 2147483648 := by simp at hxy; omega
  rw [e1, g1, g2, ex]
  obtain ⟨s1, s2, s3⟩ := sb_eq hx hy hb
  rcases two_vals (show x / 2147483648 < 2 by omega) with h1 | h1 <;> rcases two_vals (show y / 2147483648 < 2 by omega) with h2 | h2 <;>
    rcases two_vals (show sbd x y b / 2147483648 < 2 by omega) with h3 | h3 <;> rw [h1, h2, h3] <;> simp <;> omega

theorem max_u32 : IntKind.max .u32 = 4294967295 := by decide
theorem max_u64 : IntKind.max .u64 = 18446744073709551615 := by decide

theorem not_u32 (x : Nat) (h : x < 4294967296) : bits .xor .u32 (IntKind.max .u32) (x : Int) = ((4294967295 - x : Nat) : Int) := by
  rw [max_u32, show (4294967295 : Int) = ((4294967295 : Nat) : Int) from rfl, u32_xor_nat _ _ (by omega) h]
  congr 1
  apply Nat.eq_of_testBit_eq
  intro i
  have h32 : x < 2 ^ 32 := h
  have a : Nat.testBit 4294967295 i = decide (i < 32) := Nat.testBit_two_pow_sub_one (n := 32) (i := i)
  have b := Nat.testBit_two_pow_sub_succ h32 i
  rw [Nat.testBit_xor, a, show 4294967295 - x = 2 ^ 32 - (x + 1) by omega, b]
  by_cases hi : i < 32
  · simp [hi]
  · simp [hi]
    exact Nat.testBit_lt_two_pow (Nat.lt_of_lt_of_le h32 (Nat.pow_le_pow_right (by omega) (by omega)))

/-- What Sub32's second result is reckoned from. -/
theorem borrow_int (x y b : Nat) (hx : x < 4294967296) (hy : y < 4294967296) (hb : b ≤ 1) (z : Int) (hz : z = ((sbd x y b : Nat) : Int)) :
    bits .or .u32 (bits .and .u32 (bits .xor .u32 (IntKind.max .u32) (x : Int)) (y : Int)) (bits .and .u32 (bits .xor .u32 (IntKind.max .u32) (bits .xor .u32 (x : Int) (y : Int))) z) / 2147483648 = ((sbb x y b : Nat) : Int) := by
  obtain ⟨s1, s2, s3⟩ := sb_eq hx hy hb
  have hxy : x ^^^ y < 4294967296 := by have : x ^^^ y < 2 ^ 32 := Nat.xor_lt_two_pow (by simpa using hx) (by simpa using hy); simpa using this
  have hA : (4294967295 - x) &&& y < 4294967296 := Nat.lt_of_le_of_lt Nat.and_le_right hy
  have hB : (4294967295 - (x ^^^ y)) &&& sbd x y b < 4294967296 := Nat.lt_of_le_of_lt Nat.and_le_right s2
  rw [hz, not_u32 x hx, u32_xor_nat x y hx hy, not_u32 _ hxy, u32_and_nat _ _ (by omega) hy, u32_and_nat _ _ (by omega) s2, u32_or_nat _ _ hA hB, ← borrow_bit x y b hx hy hb]
  rfl

theorem sbd_int (x y b : Nat) (hx : x < 4294967296) (hy : y < 4294967296) (hb : b ≤ 1) : ((x : Int) - y - b) % 4294967296 = ((sbd x y b : Nat) : Int) := by
  obtain ⟨s1, s2, s3⟩ := sb_eq hx hy hb
  rcases two_vals (show sbb x y b < 2 by omega) with h | h <;> rw [h] at s1 <;> omega

theorem or_join (x y : Nat) (hx : x < 4294967296) (hy : y < 4294967296) : bits .or .u64 ((x : Int) * 4294967296) (y : Int) = ((y + 4294967296 * x : Nat) : Int) := by
  have e : (x : Int) * 4294967296 = ((x * 4294967296 : Nat) : Int) := by omega
  rw [e, u64_or_nat _ _ (by omega) (by omega), nat_join 32 _ _ (by rw [show (2 : Nat) ^ 32 = 4294967296 from rfl]; omega) (by rw [show (2 : Nat) ^ 32 = 4294967296 from rfl]; exact hy)]
  congr 1; omega

end Go.Proofs.YtdgmjmckeeeljaaGreatDoor

namespace Go.Proofs.YtdgmjmckeeeljaaGreatDoor
open Go.RowKit

set_option maxHeartbeats 400000 in
theorem word_any {w : World} {v : Value} {ds : List Nat} (h : Sl w v ds) (hl : ds.length ≤ 2) :
    Calls Tryz.prog 66 #[v] w fun e w' => e = .returned (.int .u64 (val ds : Nat)) ∧ w' = w := by
  have d0 := digit_any h 0
  have d1 := digit_any h 1
  have b0 := dg_lt h.bd 0
  have b1 := dg_lt h.bd 1
  obtain ⟨x0, hx0⟩ : ∃ x0, x0 = dg ds 0 := ⟨_, rfl⟩
  obtain ⟨x1, hx1⟩ : ∃ x1, x1 = dg ds 1 := ⟨_, rfl⟩
  rw [← hx0] at d0 b0
  rw [← hx1] at d1 b1
  have ev : val ds = x0 + 4294967296 * x1 := by
    rw [hx0, hx1]
    match ds, hl with
    | [], _ => rfl
    | [a], _ => simp [dg, val]
    | [a, b], _ => simp [dg, val]
  have hj := or_join x1 x0 b1 b0
  have HEV := Lib.hid ev
  have HJ := Lib.hid hj
  clear hx0 hx1 ev hj
  go_enter Tryz.func66, Tryz.ntmps66
  go_wp2_with (first | (go_at_call 78; (with_reducible refine d1.mono ?_); rintro e w' ⟨rfl, rfl⟩) | (go_at_call 78; (with_reducible refine d0.mono ?_); rintro e w' ⟨rfl, rfl⟩))
  go_ret
  refine ⟨?_, rfl⟩
  show Ending.returned (.int .u64 _) = _
  rw [HJ.out, HEV.out]

set_option maxHeartbeats 400000 in
theorem sub32_any (x y b : Nat) (w : World) (hx : x < 4294967296) (hy : y < 4294967296) (hb : b ≤ 1) :
    Calls Tryz.prog 79 #[.int .u32 x, .int .u32 y, .int .u32 b] w fun e w' => e = .returned (.tuple #[.int .u32 (sbd x y b : Nat), .int .u32 (sbb x y b : Nat)]) ∧ w' = w := by
  go_enter Tryz.func79, Tryz.ntmps79
  go_wp2
  go_ret2
  refine ⟨?_, rfl⟩
  show Ending.returned (.tuple #[.int .u32 _, .int .u32 _]) = _
  rw [borrow_int x y b hx hy hb _ (sbd_int x y b hx hy hb), sbd_int x y b hx hy hb]

theorem sl_two (w : World) (a b : Nat) (ha : a < 4294967296) (hb : b < 4294967296) : Sw w.heap.size (w.alloc (.cells #[.int .u32 a, .int .u32 b] 59)) (.slice (some ⟨w.heap.size, 0, none⟩) 2 2) [a, b] :=
  (row_new w [a, b]).sw (Nat.le_refl _) (Bd.mk ha (Bd.mk hb bd_nil)) (by simp [maxLen])
theorem sl_one (w : World) (a : Nat) (ha : a < 4294967296) : Sw w.heap.size (w.alloc (.cells #[.int .u32 a] 59)) (.slice (some ⟨w.heap.size, 0, none⟩) 1 1) [a] :=
  (row_new w [a]).sw (Nat.le_refl _) (Bd.mk ha bd_nil) (by simp [maxLen])

/-- A digit slice in new memory, without zeros at the end. -/
def NewDigs (w : World) (n : Nat) (e : Ending) (w' : World) : Prop := ∃ v, e = .returned v ∧ Sw w.heap.size w' v (digs n) ∧ Below w.heap.size w w'

set_option maxHeartbeats 400000 in
theorem digitsOf_any (x : Nat) (w : World) (hx : x / 4294967296 < 4294967296) :
    Calls Tryz.prog 67 #[.int .u64 x] w (NewDigs w x) := by
  have hs := sl_two w (x % 4294967296) (x / 4294967296) (by omega) hx
  have ht := trim_any _ _ _ hs.sl
  have hu := hs.trim
  have ev : val [x % 4294967296, x / 4294967296] = x := by simp [val]; omega
  rw [ev] at ht hu
  have HU := Lib.hid hu
  clear hs ev hu
  go_enter Tryz.func67, Tryz.ntmps67
  go_wp2_with (go_at_call 76; refine ht.mono ?_; rintro e w' ⟨rfl, rfl⟩)
  go_ret
  exact ⟨_, rfl, HU.out, (Below.refl _ _).alloc (Nat.le_refl _) _⟩

end Go.Proofs.YtdgmjmckeeeljaaGreatDoor

namespace Go.Proofs.YtdgmjmckeeeljaaGreatDoor
open Go.RowKit

/-- What holds at the head of each round of plus. -/
def PlusRel (V U n g : Nat) (w : World) (c i : Value) (wr : World) : Prop :=
  ∃ k cv zs, k ≤ n ∧ i = .int .i64 (k : Nat) ∧ c = .int .u64 (cv : Nat) ∧ cv ≤ 1 ∧ zs.length = n ∧ Row wr g zs ∧ Below g w wr ∧ Bd zs ∧
    val (zs.take k) + 4294967296 ^ k * cv = V % 4294967296 ^ k + U % 4294967296 ^ k

theorem plus_start (V U n : Nat) (w w1 : World) (hr : Row w1 w.heap.size (List.replicate n 0)) (hb : Below w.heap.size w w1) : PlusRel V U n w.heap.size w (.int .u64 0) (.int .i64 0) w1 :=
  ⟨0, 0, _, Nat.zero_le _, rfl, rfl, by omega, by simp, hr, hb, bd_zeros n, by simp [val, Nat.mod_one]⟩

theorem plus_step {V U n g k cv x y : Nat} {zs : List Nat} {w wr : World} (hk : k < n) (hc : cv ≤ 1) (hz : zs.length = n) (hr : Row wr g zs) (hb : Below g w wr) (hd : Bd zs)
    (hv : val (zs.take k) + 4294967296 ^ k * cv = V % 4294967296 ^ k + U % 4294967296 ^ k) (hx : x = V / 4294967296 ^ k % 4294967296) (hy : y = U / 4294967296 ^ k % 4294967296) :
    PlusRel V U n g w (.int .u64 (((cv : Int) + (x + y)) / 4294967296)) (.int .i64 ((k : Int) + 1)) (wr.setCell ⟨g, k, none⟩ (.int .u32 (((cv : Int) + (x + y)) % 4294967296))) := by
  refine ⟨k + 1, (cv + (x + y)) / 4294967296, zs.set k ((cv + (x + y)) % 4294967296), hk, rfl, by congr 1, ?_, by simpa using hz, hr.set' _ _ (by omega), hb.setCell (by simp) _, hd.set _ (by omega), ?_⟩
  · have : x < 4294967296 := by rw [hx]; exact Nat.mod_lt _ (by omega)
    have : y < 4294967296 := by rw [hy]; exact Nat.mod_lt _ (by omega)
    omega
  · rw [val_take_set (by omega), mod_step V, mod_step U, ← hx, ← hy, Nat.pow_succ]
    exact sum_step hv x y

theorem plus_end_core {V U Z p q cv : Nat} (hq : q = p * 4294967296) (hV : V < p) (hU : U < p) (hv : Z + q * cv = V % q + U % q) : Z = V + U := by
  rw [Nat.mod_eq_of_lt (by omega), Nat.mod_eq_of_lt (by omega)] at hv
  cases cv with
  | zero => omega
  | succ c =>
    exfalso
    rw [Nat.mul_succ] at hv
    omega

theorem plus_end {V U n la lb : Nat} {zs : List Nat} (hz : zs.length = n + 1) {cv : Nat} (hV : V < 4294967296 ^ la) (hU : U < 4294967296 ^ lb) (h1 : la ≤ n) (h2 : lb ≤ n)
    (hv : val (zs.take (n + 1)) + 4294967296 ^ (n + 1) * cv = V % 4294967296 ^ (n + 1) + U % 4294967296 ^ (n + 1)) : val zs = V + U := by
  rw [List.take_of_length_le (Nat.le_of_eq hz)] at hv
  exact plus_end_core (Nat.pow_succ 4294967296 n) (Nat.lt_of_lt_of_le hV (Nat.pow_le_pow_right (by decide) h1)) (Nat.lt_of_lt_of_le hU (Nat.pow_le_pow_right (by decide) h2)) hv

set_option maxHeartbeats 1000000 in
theorem plus_any {w : World} {va vb : Value} {xs ys : List Nat} (ha : Sl w va xs) (hb : Sl w vb ys) (hla : 4 * xs.length ≤ 140737488351232) (hlb : 4 * ys.length ≤ 140737488351232) :
    Calls Tryz.prog 45 #[va, vb] w (NewDigs w (val xs + val ys)) := by
  obtain ⟨aa, ca, rfl⟩ := ha.mk'
  obtain ⟨ab, cb, rfl⟩ := hb.mk'
  have hV := val_lt ha.bd
  have hU := val_lt hb.bd
  obtain ⟨la, hla'⟩ : ∃ la : Nat, la = xs.length := ⟨_, rfl⟩
  obtain ⟨lb, hlb'⟩ : ∃ lb : Nat, lb = ys.length := ⟨_, rfl⟩
  rw [← hla'] at hla hV ha ⊢
  rw [← hlb'] at hlb hU hb ⊢
  clear hla' hlb'
  have HV := Lib.hid hV
  have HU := Lib.hid hU
  clear hV hU
  obtain ⟨n, hn1, hn2, hn3⟩ : ∃ n, la ≤ n ∧ lb ≤ n ∧ (n = la ∨ (n = lb ∧ la < n)) := ⟨max la lb, by omega, by omega, by omega⟩
  rcases hn3 with rfl | ⟨rfl, hn4⟩
  all_goals
    go_enter Tryz.func45, Tryz.ntmps45
    go_wp2_with (at_make; go_must (refine wpList_make_row _ rfl _ _ rfl _ _ _ _ (n + 1) rfl rfl (by omega) (by omega) (by omega) ?_; intro w1 hrow hbel))
    go_loopw [7, 19] (fun c i wr => PlusRel (val xs) (val ys) (n + 1) w.heap.size w c i wr) (fun _ i _ => n + 1 - (intOf i).toNat)
    case atStart => exact plus_start _ _ _ _ _ hrow hbel
    case round =>
      obtain ⟨k, cv, zs, hk, rfl, rfl, hcv, hz, hr, hbl, hd, hv⟩ := hrel
      have HVV := Lib.hid hv
      have HZ := Lib.hid hz
      clear hv
      by_cases hlt : k < n + 1
      · have dA := digit_any (ha.below hbl) k
        have dB := digit_any (hb.below hbl) k
        have ex := dg_nat ha.bd k
        have ey := dg_nat hb.bd k
        have lx := dg_lt ha.bd k
        have ly := dg_lt hb.bd k
        have hc := hr.cell k (by omega)
        have hf := hr.free k
        obtain ⟨x, hx⟩ : ∃ x, x = dg xs k := ⟨_, rfl⟩
        obtain ⟨y, hy⟩ : ∃ y, y = dg ys k := ⟨_, rfl⟩
        rw [← hx] at dA ex lx
        rw [← hy] at dB ey ly
        have EX := Lib.hid ex
        have EY := Lib.hid ey
        clear hx hy ex ey hz
        go_wp2_with (first | (go_at_call 78; (with_reducible refine dA.mono ?_); rintro e w' ⟨rfl, rfl⟩) | (go_at_call 78; (with_reducible refine dB.mono ?_); rintro e w' ⟨rfl, rfl⟩))
        go_roundw
        case rel => exact plus_step hlt hcv HZ.out hr hbl hd HVV.out EX.out EY.out
        case measure => simp [intOf]; omega
      · obtain rfl : k = n + 1 := by omega
        have hend := plus_end hz HV.out HU.out (by omega) (by omega) HVV.out
        have hsw := hr.sw' (Nat.le_refl _) hd hz (by unfold maxLen; omega)
        have ht := trim_any _ _ _ hsw.sl
        have hu := hsw.trim
        rw [hend] at ht hu
        have HE := Lib.hid hu
        clear hz hend hsw hu
        go_wp2_with (go_at_call 76; refine ht.mono ?_; rintro e w' ⟨rfl, rfl⟩)
        go_ret
        exact ⟨_, rfl, HE.out, hbl⟩

end Go.Proofs.YtdgmjmckeeeljaaGreatDoor

namespace Go.Proofs.YtdgmjmckeeeljaaGreatDoor
open Go.RowKit

/-- What holds at the head of each round of minus. -/
def MinusRel (V U n g : Nat) (w : World) (c i : Value) (wr : World) : Prop :=
  ∃ k bo zs, k ≤ n ∧ i = .int .i64 (k : Nat) ∧ c = .int .u32 (bo : Nat) ∧ bo ≤ 1 ∧ zs.length = n ∧ Row wr g zs ∧ Below g w wr ∧ Bd zs ∧
    val (zs.take k) + U % 4294967296 ^ k = V % 4294967296 ^ k + 4294967296 ^ k * bo

theorem minus_start (V U n : Nat) (w w1 : World) (hr : Row w1 w.heap.size (List.replicate n 0)) (hb : Below w.heap.size w w1) : MinusRel V U n w.heap.size w (.int .u32 0) (.int .i64 0) w1 :=
  ⟨0, 0, _, Nat.zero_le _, rfl, rfl, by omega, by simp, hr, hb, bd_zeros n, by simp [val, Nat.mod_one]⟩

theorem minus_sum {Z u v p bo x y d bb : Nat} (h : Z + u = v + p * bo) (e : d + y + bo = x + 4294967296 * bb) : Z + p * d + (u + p * y) = v + p * x + p * 4294967296 * bb := by
  have h1 : p * (d + y + bo) = p * (x + 4294967296 * bb) := by rw [e]
  have h2 : p * (d + y + bo) = p * d + p * y + p * bo := by grind
  have h3 : p * (x + 4294967296 * bb) = p * x + p * 4294967296 * bb := by grind
  omega

theorem minus_step {V U n g k bo x y : Nat} {zs : List Nat} {w wr : World} (hk : k < n) (hc : bo ≤ 1) (hz : zs.length = n) (hr : Row wr g zs) (hb : Below g w wr) (hd : Bd zs)
    (hv : val (zs.take k) + U % 4294967296 ^ k = V % 4294967296 ^ k + 4294967296 ^ k * bo) (hx : x = V / 4294967296 ^ k % 4294967296) (hy : y = U / 4294967296 ^ k % 4294967296) :
    MinusRel V U n g w (.int .u32 (sbb x y bo : Nat)) (.int .i64 ((k : Int) + 1)) (wr.setCell ⟨g, k, none⟩ (.int .u32 (sbd x y bo : Nat))) := by
  have lx : x < 4294967296 := by rw [hx]; exact Nat.mod_lt _ (by omega)
  have ly : y < 4294967296 := by rw [hy]; exact Nat.mod_lt _ (by omega)
  obtain ⟨s1, s2, s3⟩ := sb_eq lx ly hc
  refine ⟨k + 1, sbb x y bo, zs.set k (sbd x y bo), hk, rfl, rfl, s3, by simpa using hz, hr.set _ _, hb.setCell (by simp) _, hd.set _ s2, ?_⟩
  rw [val_take_set (by omega), mod_step V, mod_step U, ← hx, ← hy, Nat.pow_succ]
  exact minus_sum hv s1

theorem minus_end_core {V U Z q bo : Nat} (hZ : Z < q) (hV : V < q) (hU : U ≤ V) (hv : Z + U % q = V % q + q * bo) : Z = V - U := by
  rw [Nat.mod_eq_of_lt (by omega), Nat.mod_eq_of_lt (by omega)] at hv
  cases bo with
  | zero => omega
  | succ c =>
    exfalso
    rw [Nat.mul_succ] at hv
    omega

theorem minus_end {V U n : Nat} {zs : List Nat} (hd : Bd zs) (hz : zs.length = n) {bo : Nat} (hV : V < 4294967296 ^ n) (hU : U ≤ V)
    (hv : val (zs.take n) + U % 4294967296 ^ n = V % 4294967296 ^ n + 4294967296 ^ n * bo) : val zs = V - U := by
  rw [List.take_of_length_le (Nat.le_of_eq hz)] at hv
  have := val_lt hd
  rw [hz] at this
  exact minus_end_core this hV hU hv

set_option maxHeartbeats 1000000 in
theorem minus_any {w : World} {va vb : Value} {xs ys : List Nat} (ha : Sl w va xs) (hb : Sl w vb ys) (hla : 4 * xs.length ≤ 140737488351232) (hle : val ys ≤ val xs) :
    Calls Tryz.prog 46 #[va, vb] w (NewDigs w (val xs - val ys)) := by
  obtain ⟨aa, ca, rfl⟩ := ha.mk'
  have hV := val_lt ha.bd
  obtain ⟨n, hn⟩ : ∃ n : Nat, n = xs.length := ⟨_, rfl⟩
  rw [← hn] at hla hV ha ⊢
  have HV := Lib.hid hV
  have HN := Lib.hid hn
  have HLE := Lib.hid hle
  clear hV hn hle
  go_enter Tryz.func46, Tryz.ntmps46
  go_wp2_with (at_make; go_must (refine wpList_make_row _ rfl _ _ rfl _ _ _ _ n rfl rfl (by omega) (by omega) (by omega) ?_; intro w1 hrow hbel))
  go_loopw [6, 14] (fun c i wr => MinusRel (val xs) (val ys) n w.heap.size w c i wr) (fun _ i _ => n - (intOf i).toNat)
  case atStart => exact minus_start _ _ _ _ _ hrow hbel
  case round =>
    obtain ⟨k, cv, zs, hk, rfl, rfl, hcv, hz, hr, hbl, hd, hv⟩ := hrel
    have HVV := Lib.hid hv
    have HZ := Lib.hid hz
    clear hv
    by_cases hlt : k < n
    · obtain ⟨b, off, rfl, hcap, hbs, hcl⟩ := ha.at (by omega)
      have hca := hcl.at hbl hbs k (by rw [← HN.out]; exact hlt)
      have dB := digit_any (hb.below hbl) k
      have ex := val_digit ha.bd k
      have ey := dg_nat hb.bd k
      have ly := dg_lt hb.bd k
      have hc := hr.cell k (by omega)
      have hf := hr.free k
      obtain ⟨x, hx⟩ : ∃ x, x = xs.getD k 0 := ⟨_, rfl⟩
      obtain ⟨y, hy⟩ : ∃ y, y = dg ys k := ⟨_, rfl⟩
      rw [← hx] at hca ex
      rw [← hy] at dB ey ly
      have lx : x < 4294967296 := by rw [ex]; exact Nat.mod_lt _ (by omega)
      have EX := Lib.hid ex
      have EY := Lib.hid ey
      have HCL := Lib.hid hcl
      clear hx hy ex ey hz hcl
      go_wp2_with (first | (go_at_call 78; (with_reducible refine dB.mono ?_); rintro e w' ⟨rfl, rfl⟩) | (go_at_call 79; (refine (sub32_any x y cv _ lx ly hcv).mono ?_); rintro e w' ⟨rfl, rfl⟩))
      go_roundw
      case rel => exact minus_step hlt hcv HZ.out hr hbl hd HVV.out EX.out EY.out
      case measure => simp [intOf]; omega
    · obtain rfl : k = n := by omega
      have hend := minus_end hd hz HV.out HLE.out HVV.out
      have hsw := hr.sw' (Nat.le_refl _) hd hz (by unfold maxLen; omega)
      have ht := trim_any _ _ _ hsw.sl
      have hu := hsw.trim
      rw [hend] at ht hu
      have HE := Lib.hid hu
      clear hz hend hsw hu
      go_wp2_with (go_at_call 76; refine ht.mono ?_; rintro e w' ⟨rfl, rfl⟩)
      go_ret
      exact ⟨_, rfl, HE.out, hbl⟩

end Go.Proofs.YtdgmjmckeeeljaaGreatDoor

namespace Go.Proofs.YtdgmjmckeeeljaaGreatDoor
open Go.RowKit

/-- What holds at the head of each outer round of times. -/
def TimesRel (V U n m g : Nat) (w : World) (i : Value) (wr : World) : Prop :=
  ∃ k zs, k ≤ n ∧ i = .int .i64 (k : Nat) ∧ zs.length = n + m ∧ Row wr g zs ∧ Below g w wr ∧ Bd zs ∧ val zs = V % 4294967296 ^ k * U

theorem times_start (V U n m : Nat) (w w1 : World) (hr : Row w1 w.heap.size (List.replicate (n + m) 0)) (hb : Below w.heap.size w w1) : TimesRel V U n m w.heap.size w (.int .i64 0) w1 :=
  ⟨0, _, Nat.zero_le _, rfl, by simp, hr, hb, bd_zeros _, by simp [val_zeros, Nat.mod_one]⟩

/-- What holds at the head of each inner round: i digits are done, x is the next one; T is what was there before it. -/
def InnerRel (U x T i n m g : Nat) (w : World) (c jv : Value) (wr : World) : Prop :=
  ∃ j cv zs, j ≤ m ∧ jv = .int .i64 (j : Nat) ∧ c = .int .u64 (cv : Nat) ∧ cv < 4294967296 ∧ zs.length = n + m ∧ Row wr g zs ∧ Below g w wr ∧ Bd zs ∧ zs.getD (i + m) 0 = 0 ∧
    val zs + 4294967296 ^ (i + j) * cv = T + 4294967296 ^ i * (x * (U % 4294967296 ^ j))

theorem inner_start {V U x k n m g : Nat} {zs : List Nat} {w wr : World} (hk : k < n) (hU : U < 4294967296 ^ m) (hz : zs.length = n + m) (hr : Row wr g zs) (hb : Below g w wr) (hd : Bd zs) (hv : val zs = V % 4294967296 ^ k * U) :
    InnerRel U x (V % 4294967296 ^ k * U) k n m g w (.int .u64 0) (.int .i64 0) wr := by
  refine ⟨0, 0, zs, Nat.zero_le _, rfl, rfl, by decide, hz, hr, hb, hd, ?_, by simp [hv, Nat.mod_one]⟩
  rw [val_digit hd, hv, Nat.div_eq_of_lt]
  rw [Nat.pow_add]
  exact Nat.mul_lt_mul_of_lt_of_le (Nat.mod_lt _ (pow_pos' k)) (Nat.le_of_lt hU) (pow_pos' m)

theorem inner_sum {Z Z' T p q cv old s x u y s1 s2 : Nat} (hv : Z + p * q * cv = T + p * (x * u)) (hs : s = cv + (x * y + old)) (hz : Z' + p * q * old = Z + p * q * s1) (e : s = s1 + 4294967296 * s2) :
    Z' + p * (q * 4294967296) * s2 = T + p * (x * (u + q * y)) := by
  have h1 : p * q * s = p * q * s1 + p * (q * 4294967296) * s2 := by rw [e]; grind
  have h2 : p * q * s = p * q * cv + p * (x * (q * y)) + p * q * old := by rw [hs]; grind
  have h3 : p * (x * (u + q * y)) = p * (x * u) + p * (x * (q * y)) := by grind
  omega

theorem inner_step {U x T i j n m g cv y old : Nat} {zs : List Nat} {w wr : World} (hi : i < n) (hj : j < m) (hc : cv < 4294967296) (hx : x < 4294967296) (hz : zs.length = n + m) (hr : Row wr g zs) (hb : Below g w wr) (hd : Bd zs)
    (h0 : zs.getD (i + m) 0 = 0) (hv : val zs + 4294967296 ^ (i + j) * cv = T + 4294967296 ^ i * (x * (U % 4294967296 ^ j))) (hy : y = U / 4294967296 ^ j % 4294967296) (ho : old = zs.getD (i + j) 0) :
    InnerRel U x T i n m g w (.int .u64 (((cv : Int) + (((x * y : Nat) : Int) + old)) / 4294967296)) (.int .i64 ((j : Int) + 1)) (wr.setCell ⟨g, i + j, none⟩ (.int .u32 (((cv : Int) + (((x * y : Nat) : Int) + old)) % 4294967296))) := by
  have ly : y < 4294967296 := by rw [hy]; exact Nat.mod_lt _ (by omega)
  have lo : old < 4294967296 := by rw [ho, val_digit hd]; exact Nat.mod_lt _ (by omega)
  have hxy : x * y ≤ 4294967295 * 4294967295 := Nat.mul_le_mul (by omega) (by omega)
  refine ⟨j + 1, (cv + (x * y + old)) / 4294967296, zs.set (i + j) ((cv + (x * y + old)) % 4294967296), hj, rfl, by congr 1, by omega, by simpa using hz, hr.set' _ _ (by omega), hb.setCell (by simp) _, hd.set _ (by omega), ?_, ?_⟩
  · have e : (zs.set (i + j) ((cv + (x * y + old)) % 4294967296)).getD (i + m) 0 = zs.getD (i + m) 0 := by
      simp only [List.getD, List.getElem?_set]
      rw [if_neg (by omega)]
    rw [e, h0]
  · have hs := val_set (xs := zs) (k := i + j) (by omega) ((cv + (x * y + old)) % 4294967296)
    rw [← ho, Nat.pow_add] at hs
    rw [Nat.pow_add] at hv
    rw [mod_step U, ← hy, Nat.pow_add, Nat.pow_succ]
    exact inner_sum hv rfl hs (by omega)

theorem outer_step {V U x k n m g cv : Nat} {zs : List Nat} {w wr : World} (hk : k < n) (hU : U < 4294967296 ^ m) (hx : x = V / 4294967296 ^ k % 4294967296) (hc : cv < 4294967296) (hz : zs.length = n + m) (hr : Row wr g zs) (hb : Below g w wr) (hd : Bd zs)
    (h0 : zs.getD (k + m) 0 = 0) (hv : val zs + 4294967296 ^ (k + m) * cv = V % 4294967296 ^ k * U + 4294967296 ^ k * (x * (U % 4294967296 ^ m))) :
    TimesRel V U n m g w (.int .i64 ((k : Int) + 1)) (wr.setCell ⟨g, k + m, none⟩ (.int .u32 (cv : Nat))) := by
  refine ⟨k + 1, zs.set (k + m) cv, hk, rfl, by simpa using hz, hr.set _ _, hb.setCell (by simp) _, hd.set _ hc, ?_⟩
  rw [val_set_zero (by omega) cv h0, hv, Nat.mod_eq_of_lt hU, mod_step V, ← hx, Nat.add_mul]
  congr 1
  rw [Nat.mul_assoc]

theorem prod_wrap {x y : Nat} (hx : x < 4294967296) (hy : y < 4294967296) (c o : Nat) (hc : c < 4294967296) (ho : o < 4294967296) :
    IntKind.u64.wrap ((x : Int) * y) = ((x * y : Nat) : Int) ∧ IntKind.u64.wrap (((x * y : Nat) : Int) + o) = ((x * y : Nat) : Int) + o ∧ IntKind.u64.wrap ((c : Int) + (((x * y : Nat) : Int) + o)) = (c : Int) + (((x * y : Nat) : Int) + o) := by
  have hxy : x * y ≤ 4294967295 * 4294967295 := Nat.mul_le_mul (by omega) (by omega)
  have e : (x : Int) * y = ((x * y : Nat) : Int) := by simp
  rw [e]
  refine ⟨IntWalk.u64_in _ ⟨by omega, by omega⟩, IntWalk.u64_in _ ⟨by omega, by omega⟩, IntWalk.u64_in _ ⟨by omega, by omega⟩⟩

set_option maxHeartbeats 1000000 in
theorem times_any {w : World} {va vb : Value} {xs ys : List Nat} (ha : Sl w va xs) (hb : Sl w vb ys) (hla : 4 * xs.length ≤ 140737488351232) (hlb : 4 * ys.length ≤ 140737488351232) :
    Calls Tryz.prog 69 #[va, vb] w (NewDigs w (val xs * val ys)) := by
  obtain ⟨aa, ca, rfl⟩ := ha.mk'
  obtain ⟨ab, cb, rfl⟩ := hb.mk'
  have hV := val_lt ha.bd
  have hU := val_lt hb.bd
  obtain ⟨n, hn⟩ : ∃ n : Nat, n = xs.length := ⟨_, rfl⟩
  obtain ⟨m, hm⟩ : ∃ m : Nat, m = ys.length := ⟨_, rfl⟩
  rw [← hn] at hla hV ha ⊢
  rw [← hm] at hlb hU hb ⊢
  have HV := Lib.hid hV
  have HU := Lib.hid hU
  have HN := Lib.hid hn
  have HM := Lib.hid hm
  clear hV hU hn hm
  go_enter Tryz.func69, Tryz.ntmps69
  go_wp2_with (at_make; go_must (refine wpList_make_row _ rfl _ _ rfl _ _ _ _ (n + m) rfl rfl (by omega) (by omega) (by omega) ?_; intro w1 hrow hbel))
  go_loopw [19] (fun i wr => TimesRel (val xs) (val ys) n m w.heap.size w i wr) (fun i _ => n - (intOf i).toNat)
  case atStart => exact times_start _ _ _ _ _ _ hrow hbel
  case round =>
    obtain ⟨k, zs, hk, rfl, hz, hr, hbl, hd, hv⟩ := hrel
    have HVV := Lib.hid hv
    have HZ := Lib.hid hz
    clear hv hz
    by_cases hlt : k < n
    · obtain ⟨b, off, rfl, hcap, hbs, hcl⟩ := ha.at (by omega)
      have hca := hcl.at hbl hbs k (by rw [← HN.out]; exact hlt)
      have ex := val_digit ha.bd k
      obtain ⟨x, hx⟩ : ∃ x, x = xs.getD k 0 := ⟨_, rfl⟩
      rw [← hx] at hca ex
      have lx : x < 4294967296 := by rw [ex]; exact Nat.mod_lt _ (by omega)
      have EX := Lib.hid ex
      have HCL := Lib.hid hcl
      clear hx ex hcl
      go_wp2
      obtain ⟨wo, rfl⟩ : ∃ wo : World, wo = wr := ⟨_, rfl⟩
      go_loopw [8, 26] (fun c j wr => InnerRel (val ys) x (val xs % 4294967296 ^ k * val ys) k n m w.heap.size w c j wr) (fun _ j _ => m - (intOf j).toNat)
      case atStart => exact inner_start hlt HU.out HZ.out hr hbl hd HVV.out
      case round =>
        obtain ⟨j, cv, zs', hj, rfl, rfl, hcv, hz', hr', hbl', hd', h0', hv'⟩ := hrel
        have HVV' := Lib.hid hv'
        have HZ' := Lib.hid hz'
        have H0' := Lib.hid h0'
        clear hv' h0'
        by_cases hlj : j < m
        · obtain ⟨b', off', rfl, hcap', hbs', hcl'⟩ := hb.at (by omega)
          have hcb := hcl'.at hbl' hbs' j (by rw [← HM.out]; exact hlj)
          have ey := val_digit hb.bd j
          obtain ⟨y, hy⟩ : ∃ y, y = ys.getD j 0 := ⟨_, rfl⟩
          rw [← hy] at hcb ey
          have ly : y < 4294967296 := by rw [ey]; exact Nat.mod_lt _ (by omega)
          have hc := hr'.cell (k + j) (by omega)
          have hf := hr'.free (k + j)
          obtain ⟨z, hzz⟩ : ∃ z, z = zs'.getD (k + j) 0 := ⟨_, rfl⟩
          rw [← hzz] at hc
          have lz : z < 4294967296 := by rw [hzz, val_digit hd']; exact Nat.mod_lt _ (by omega)
          have EY := Lib.hid ey
          have HCL := Lib.hid hcl'
          have HZZ := Lib.hid hzz
          obtain ⟨e1, e2, e3⟩ := prod_wrap lx ly cv z hcv lz
          clear hy ey hcl' hzz hz' hca
          obtain ⟨p, hp⟩ : ∃ p, p = x * y := ⟨_, rfl⟩
          rw [← hp] at e1 e2 e3
          have HP := Lib.hid hp
          clear hp
          go_wp2
          go_roundw
          case rel =>
            have h := inner_step hlt hlj hcv lx HZ'.out hr' hbl' hd' H0'.out HVV'.out EY.out HZZ.out
            rw [← HP.out] at h
            exact h
          case measure => simp [intOf]; omega
        · obtain rfl : j = m := by omega
          have hc := hr'.cell (k + j) (by omega)
          have hf := hr'.free (k + j)
          have h0 := H0'.out
          rw [h0] at hc
          clear h0 hz'
          go_wp2
          go_roundw
          case rel => exact outer_step hlt HU.out EX.out hcv HZ'.out hr' hbl' hd' H0'.out HVV'.out
          case measure => simp [intOf]; omega
    · obtain rfl : k = n := by omega
      have hend : val zs = val xs * val ys := by rw [HVV.out, Nat.mod_eq_of_lt HV.out]
      have hsw := hr.sw' (Nat.le_refl _) hd HZ.out (by unfold maxLen; omega)
      have ht := trim_any _ _ _ hsw.sl
      have hu := hsw.trim
      rw [hend] at ht hu
      have HE := Lib.hid hu
      clear hend hsw hu
      go_wp2_with (go_at_call 76; refine ht.mono ?_; rintro e w' ⟨rfl, rfl⟩)
      go_ret
      exact ⟨_, rfl, HE.out, hbl⟩

end Go.Proofs.YtdgmjmckeeeljaaGreatDoor

namespace Go.Proofs.YtdgmjmckeeeljaaGreatDoor
open Go.RowKit Go.Shelf
attribute [local go_sem] Oper.semAt_some

/-- What has come when k rounds are over: the last digit first, each with its place. -/
def back (zs : List Nat) (k : Nat) : List (Nat × Nat) := (List.range k).map fun i => (zs.length - 1 - i, zs.getD (zs.length - 1 - i) 0)
theorem back_succ (zs : List Nat) (k : Nat) : back zs (k + 1) = back zs k ++ [(zs.length - 1 - k, zs.getD (zs.length - 1 - k) 0)] := by simp [back, List.range_succ]
theorem back_length (zs : List Nat) (k : Nat) : (back zs k).length = k := by simp [back]

/-- The place and the digit that a round is handed; whatever pair it is, they are in their ranges. -/
def ix (N : Nat) (x : Nat × Nat) : Nat := x.1 % N
def dv (x : Nat × Nat) : Nat := x.2 % 4294967296
theorem ix_lt {N : Nat} (h : 0 < N) (x : Nat × Nat) : ix N x < N := Nat.mod_lt _ h
theorem dv_lt (x : Nat × Nat) : dv x < 4294967296 := Nat.mod_lt _ (by omega)
theorem ix_of {N m : Nat} (h : m < N) (z : Nat) : ix N (m, z) = m := Nat.mod_eq_of_lt h
theorem dv_of {z : Nat} (h : z < 4294967296) (m : Nat) : dv (m, z) = z := Nat.mod_eq_of_lt h

/-- What a loop's body keeps: the slice's block and the box that holds the slice. -/
def Same2 (b B : Nat) (W W' : World) : Prop := W'.heap[b]? = W.heap[b]? ∧ W'.heap[B]? = W.heap[B]?
theorem Same2.trans {b B : Nat} {A C D : World} (h : Same2 b B A C) (k : Same2 b B C D) : Same2 b B A D := ⟨k.1.trans h.1, k.2.trans h.2⟩
theorem Same2.refl {b B : Nat} (A : World) : Same2 b B A A := ⟨rfl, rfl⟩
theorem same2_b {b B : Nat} {w : World} (hb : b < w.heap.size) (hB : B < w.heap.size) (W : World) (l : Nat) (o o' : Obj) (hl : w.heap.size ≤ l) (_ : W.heap[l]? = some o) (_ : o.isCells = false) (_ : o.isWalk = false) : Same2 b B W (W.putObj l o') :=
  ⟨World.putObj_heap_other (by omega), World.putObj_heap_other (by omega)⟩

/-- The slice and its box. -/
def Boxd (W : World) (b B off cap : Nat) (zs : List Nat) : Prop := W.cell? ⟨B, 0, none⟩ = some (.slice (some ⟨b, off, none⟩) zs.length cap) ∧ Cl W b off zs
theorem Boxd.same {W W' : World} {b B off cap : Nat} {zs : List Nat} (h : Boxd W b B off cap zs) (k : Same2 b B W W') : Boxd W' b B off cap zs :=
  ⟨(World.cell?_of_block (w := W) (a := ⟨B, 0, none⟩) k.2).trans h.1, fun j hj => (World.cell?_of_block (w := W) (a := ⟨b, off + j, none⟩) k.1).trans (h.2 j hj)⟩

set_option maxRecDepth 100000 in
set_option maxHeartbeats 2000000 in
theorem backward1_in (F : Fence) (n : Nat) (h90 : F.fn 90) (hro : F.round = none) (hn : 1 ≤ n) (l b B off cap : Nat) (zs : List Nat) (hbd : Bd zs) (hreach : zs.length ≤ 140737488351232) (hcap : zs.length ≤ cap) (J Jx : List (Nat × Nat) → World → Prop)
    (hY : ∀ pre x W, J pre W → pre.length < zs.length → YieldAt F (n - 1) Tryz.prog l #[.int .i64 (ix zs.length x : Nat), .int .u32 (dv x : Nat)] W fun e W' =>
      (e = .returned (.bool true) ∧ J (pre ++ [x]) W' ∧ Same2 b B W W') ∨ (e = .returned (.bool false) ∧ Jx (pre ++ [x]) W'))
    (W : World) (hBs : Boxd W b B off cap zs) (h0 : J [] W) :
    CallsIn F n Tryz.prog 90 #[.func (.yield l) #[] #[], .pointer (some ⟨B, 0, none⟩)] W fun e W' => (∃ v, e = .returned v) ∧
      ((∃ ys, ys = back zs zs.length ∧ J ys W') ∨ (∃ pre, (∃ k, k ≤ zs.length ∧ pre = back zs k) ∧ Jx pre W')) := by
  obtain ⟨len, hlen⟩ : ∃ len : Nat, len = zs.length := ⟨_, rfl⟩
  have hB1 := hBs.1
  rw [← hlen] at hB1 hreach hcap
  have HLEN := Lib.hid hlen
  clear hlen
  refine callsIn_of_wp Tryz.func90 rfl h90 ?_ hro
  simp only [Tryz.ntmps90, List.size_toArray, List.length_cons, List.length_nil, Nat.reduceAdd, Nat.reduceSub, Array.replicate_succ, Array.replicate_zero, List.push_toArray, List.append_toArray, List.nil_append, List.cons_append]
  gi_wp2
  gi_loopw [3] (fun i wr => ∃ m : Nat, m ≤ len ∧ i = .int .i64 ((m : Int) - 1) ∧ J (back zs (len - m)) wr ∧ Boxd wr b B off cap zs)
    (fun i _ => (intOf i + 1).toNat)
  case atStart => exact ⟨len, Nat.le_refl _, by go_num, by simpa [back] using h0, hBs⟩
  case round =>
    obtain ⟨m, hk, rfl, hJs, hnx⟩ := hrel
    have hb1 := hnx.1
    rw [← HLEN.out] at hb1
    cases m with
    | succ m =>
      have hcx := hnx.2 m (by rw [← HLEN.out]; omega)
      obtain ⟨fn, tmps, assign, body, hy, hR⟩ := hY _ (m, zs.getD m 0) wr hJs (by rw [back_length, ← HLEN.out]; omega)
      have hbs : back zs (len - m) = back zs (len - (m + 1)) ++ [(m, zs.getD m 0)] := by
        rw [show len - m = len - (m + 1) + 1 by omega, back_succ, ← HLEN.out]
        rw [show len - 1 - (len - (m + 1)) = m by omega]
      have lz : zs.getD m 0 < 4294967296 := by rw [val_digit hbd]; exact Nat.mod_lt _ (by omega)
      obtain ⟨z, hz⟩ : ∃ z, z = zs.getD m 0 := ⟨_, rfl⟩
      rw [← hz] at hcx hy hR hbs lz
      rw [ix_of (by rw [← HLEN.out]; omega), dv_of lz] at hy
      have HBS := Lib.hid hbs
      have HNX := Lib.hid hnx
      clear hbs hz hnx
      gi_wp2
      refine hR.mono ?_
      rintro e W3 (⟨rfl, hJ3, hk3⟩ | ⟨rfl, hJx3⟩)
      · gi_wp2
        go_roundw
        case rel => exact ⟨m, by omega, by go_num, by rw [HBS.out]; exact hJ3, HNX.out.same hk3⟩
        case measure => simp [intOf]
      · gi_wp2
        refine bodyPost_ret (results_none rfl _ _ _) rfl ?_
        exact ⟨⟨_, rfl⟩, .inr ⟨_, ⟨len - m, by rw [← HLEN.out]; omega, HBS.out.symm⟩, hJx3⟩⟩
    | zero =>
      have HJ := Lib.hid hJs
      clear hJs
      gi_wp2
      go_end0
      exact ⟨⟨_, rfl⟩, .inl ⟨_, by rw [← HLEN.out]; rfl, HJ.out⟩⟩

set_option maxRecDepth 100000 in
set_option maxHeartbeats 1000000 in
theorem backward1_nil_in (F : Fence) (n : Nat) (h90 : F.fn 90) (hro : F.round = none) (l B : Nat) (ao : Option Addr) (cap : Nat) (J : List (Nat × Nat) → World → Prop) (W : World) (hBs : W.cell? ⟨B, 0, none⟩ = some (.slice ao 0 cap)) (h0 : J [] W) :
    CallsIn F n Tryz.prog 90 #[.func (.yield l) #[] #[], .pointer (some ⟨B, 0, none⟩)] W fun e W' => (∃ v, e = .returned v) ∧ J [] W' := by
  refine callsIn_of_wp Tryz.func90 rfl h90 ?_ hro
  simp only [Tryz.ntmps90, List.size_toArray, List.length_cons, List.length_nil, Nat.reduceAdd, Nat.reduceSub, Array.replicate_succ, Array.replicate_zero, List.push_toArray, List.append_toArray, List.nil_append, List.cons_append]
  gi_wp2
  gi_loopw [3] (fun i wr => i = .int .i64 (-1) ∧ J [] wr) (fun _ _ => 0)
  case atStart => exact ⟨rfl, h0⟩
  case round =>
    obtain ⟨rfl, hJs⟩ := hrel
    have HJ := Lib.hid hJs
    clear hJs
    gi_wp2
    go_end0
    exact ⟨⟨_, rfl⟩, HJ.out⟩

set_option maxHeartbeats 1000000 in
theorem backward_in (F : Fence) (n : Nat) (h58 : F.fn 58) (hro : F.round = none) (ao : Option Addr) (len cap : Nat) (w : World) :
    CallsIn F n Tryz.prog 58 #[.slice ao len cap] w fun e w' => e = .returned (.func (.func 90) #[] #[.pointer (some ⟨w.heap.size, 0, none⟩)]) ∧ w' = w.alloc (.cells #[.slice ao len cap] 25) := by
  refine callsIn_of_wp Tryz.func58 rfl h58 ?_ hro
  simp only [Tryz.ntmps58, List.size_toArray, List.length_cons, List.length_nil, Nat.reduceAdd, Nat.reduceSub, Array.replicate_succ, Array.replicate_zero, List.push_toArray, List.append_toArray, List.nil_append, List.cons_append]
  gi_wp2
  go_ret
  exact ⟨rfl, rfl⟩

/-- The block of a slice that is not empty. -/
def blockOf : Value → Nat
  | .slice (some a) (_ + 1) _ => a.block
  | _ => 0

theorem Sl.blockOf_lt {w : World} {v : Value} {zs : List Nat} (h : Sl w v zs) (hp : 0 < w.heap.size) : blockOf v < w.heap.size := by
  rcases h.is with ⟨rfl, ao, cap, rfl⟩ | ⟨b, off, cap, rfl, hcap, hcl⟩
  · cases ao <;> exact hp
  · cases zs with
    | nil => exact hp
    | cons z zs => exact block_lt_of_cell (hcl 0 (by simp))

theorem back_stops (F : Fence) (n : Nat) (h90 : F.fn 90) (hro : F.round = none) (hn : 1 ≤ n) (B : Nat) (v : Value) (zs : List Nat) (hreach : zs.length ≤ 140737488351232) (w : World) (hB : B < w.heap.size)
    (hc : w.cell? ⟨B, 0, none⟩ = some v) (hI : Sl w v zs) :
    SeqStopsK F n Tryz.prog 90 #[.pointer (some ⟨B, 0, none⟩)] (fun x : Nat × Nat => #[Value.int .i64 (ix zs.length x : Nat), Value.int .u32 (dv x : Nat)]) (Same2 (blockOf v) B) (fun ys => ys = back zs zs.length)
      (fun pre => ∃ k, k ≤ zs.length ∧ pre = back zs k) zs.length w := fun l J Jx W hW _ _ hY h0 => by
  have hc' := (hW.cell (p := ⟨B, 0, none⟩) hB).trans hc
  rcases (hI.below hW).is with ⟨rfl, ao, cap, rfl⟩ | ⟨b, off, cap, rfl, hcap, hcl⟩
  · exact (backward1_nil_in F n h90 hro l B ao cap J W hc' h0).mono fun e W' ⟨he, hj⟩ => ⟨he, .inl ⟨_, rfl, hj⟩⟩
  · cases zs with
    | nil => exact (backward1_nil_in F n h90 hro l B _ cap J W hc' h0).mono fun e W' ⟨he, hj⟩ => ⟨he, .inl ⟨_, rfl, hj⟩⟩
    | cons z zs => exact backward1_in F n h90 hro hn l b B off cap _ hI.bd hreach hcap J Jx hY W ⟨hc', hcl⟩ h0

/-- Less, equal, greater. -/
def cmpN (x y : Nat) : Int := if x < y then -1 else if x = y then 0 else 1

set_option maxHeartbeats 1000000 in
theorem cmp32_any (x y : Nat) (w : World) :
    Calls Tryz.prog 99 #[.int .u32 x, .int .u32 y] w fun e w' => e = .returned (.int .i64 (cmpN x y)) ∧ w' = w := by
  rcases Nat.lt_trichotomy x y with h | h | h
  · have e0 : cmpN x y = -1 := by unfold cmpN; rw [if_pos h]
    rw [e0]
    clear e0
    go_enter Tryz.func99, Tryz.ntmps99
    go_wp2
    go_ret
    exact ⟨rfl, rfl⟩
  · have e0 : cmpN x y = 0 := by unfold cmpN; rw [if_neg (by omega), if_pos h]
    rw [e0]
    subst h
    clear e0
    go_enter Tryz.func99, Tryz.ntmps99
    go_wp2
    go_ret
    exact ⟨rfl, rfl⟩
  · have e0 : cmpN x y = 1 := by unfold cmpN; rw [if_neg (by omega), if_neg (by omega)]
    rw [e0]
    clear e0
    go_enter Tryz.func99, Tryz.ntmps99
    go_wp2
    go_ret
    exact ⟨rfl, rfl⟩

set_option maxHeartbeats 1000000 in
theorem cmp64_any (x y : Nat) (w : World) :
    Calls Tryz.prog 98 #[.int .i64 x, .int .i64 y] w fun e w' => e = .returned (.int .i64 (cmpN x y)) ∧ w' = w := by
  rcases Nat.lt_trichotomy x y with h | h | h
  · have e0 : cmpN x y = -1 := by unfold cmpN; rw [if_pos h]
    rw [e0]
    clear e0
    go_enter Tryz.func98, Tryz.ntmps98
    go_wp2
    go_ret
    exact ⟨rfl, rfl⟩
  · have e0 : cmpN x y = 0 := by unfold cmpN; rw [if_neg (by omega), if_pos h]
    rw [e0]
    subst h
    clear e0
    go_enter Tryz.func98, Tryz.ntmps98
    go_wp2
    go_ret
    exact ⟨rfl, rfl⟩
  · have e0 : cmpN x y = 1 := by unfold cmpN; rw [if_neg (by omega), if_neg (by omega)]
    rw [e0]
    clear e0
    go_enter Tryz.func98, Tryz.ntmps98
    go_wp2
    go_ret
    exact ⟨rfl, rfl⟩

end Go.Proofs.YtdgmjmckeeeljaaGreatDoor

namespace Go.Proofs.YtdgmjmckeeeljaaGreatDoor
open Go.RowKit Go.Shelf
attribute [local go_sem] Oper.semAt_some

set_option maxRecDepth 100000 in
set_option maxHeartbeats 2000000 in
theorem compare_eq_in (F : Fence) (n : Nat) (h68 : F.fn 68) (h58 : F.fn 58) (h90 : F.fn 90) (h99 : F.fn 99) (hc99 : ∀ k x y w, CallsIn F k Tryz.prog 99 #[.int .u32 (x : Nat), .int .u32 (y : Nat)] w fun e w' => e = .returned (.int .i64 (cmpN x y)) ∧ w' = w) (hro : F.round = none) (hn : 4 ≤ n) {w : World} {aa ab : Option Addr} {ca cb : Nat} {xs ys : List Nat} (ha : Sl w (.slice aa xs.length ca) xs) (hb : Sl w (.slice ab xs.length cb) ys) (hla : xs.length ≤ 140737488351232) (Z : Int)
    (hZ0 : (∀ j, j < xs.length → xs.getD j 0 = ys.getD j 0) → Z = 0) (hZ1 : ∀ k, k < xs.length → xs.getD k 0 ≠ ys.getD k 0 → (∀ j, k < j → j < xs.length → xs.getD j 0 = ys.getD j 0) → Z = cmpN (xs.getD k 0) (ys.getD k 0)) :
    CallsIn F n Tryz.prog 68 #[.slice aa xs.length ca, .slice ab xs.length cb] w fun e w' => e = .returned (.int .i64 Z) ∧ Below w.heap.size w w' := by
  have h1 : 1 ≤ n := by omega
  refine callsIn_of_wp_marks Tryz.func68 rfl h68 ?_ hro
  simp only [Tryz.ntmps68, List.size_toArray, List.length_cons, List.length_nil, Nat.reduceAdd, Nat.reduceSub, Array.replicate_succ, Array.replicate_zero, List.push_toArray, List.append_toArray, List.nil_append, List.cons_append]
  gi_wp2_with (gi_at_call 58; refine (backward_in F (n - 1) h58 hro _ _ _ _).mono ?_; rintro e w' ⟨rfl, rfl⟩)
  have bY := Boxed.new w 25 (.slice ab xs.length cb)
  have bR := Boxed.new (w.alloc (.cells #[.slice ab xs.length cb] 25)) 3 (.int .i64 0)
  have bN := Boxed.new ((w.alloc (.cells #[.slice ab xs.length cb] 25)).alloc (.cells #[.int .i64 0] 3)) 25 (.slice aa xs.length ca)
  simp only [World.size_alloc] at bR bN
  have hB0 : Below w.heap.size w (((w.alloc (.cells #[.slice ab xs.length cb] 25)).alloc (.cells #[.int .i64 0] 3)).alloc (.cells #[.slice aa xs.length ca] 25)) := (((Below.refl _ w).alloc (Nat.le_refl _) _).alloc (by simp) _).alloc (by simp; omega) _
  have hyl : xs.length = ys.length := hb.size
  have HYL := Lib.hid hyl
  clear hyl
  refine wpIn_rangeFunc_ownG hro h1 (gf := 90) (lb := #[.pointer (some ⟨w.heap.size + 1 + 1, 0, none⟩)]) rfl h90 (enters_of Tryz.func90 (by kernel_rfl) rfl)
    (back_stops F (n - 1) h90 hro (by omega) (w.heap.size + 1 + 1) _ xs (by omega) _ (by simp) bN.cell (ha.below hB0)) Same2.trans ?hKb (Below.refl _ _) (fun _ => rfl)
    (fun pre W => ((∀ p ∈ pre, dv p = ys.getD (ix xs.length p) 0) ∧ (W.cell? ⟨w.heap.size, 0, none⟩ = some (.slice ab xs.length cb) ∧ W.cell? ⟨w.heap.size + 1, 0, none⟩ = some (.int .i64 0)) ∧ W.frozen? ⟨w.heap.size + 1, 0, none⟩ = false) ∧ Below w.heap.size w W)
    (fun c pre W => (c = .ret ∧ ∃ ini last, pre = ini ++ [last] ∧ (∀ p ∈ ini, dv p = ys.getD (ix xs.length p) 0) ∧ dv last ≠ ys.getD (ix xs.length last) 0 ∧ W.cell? ⟨w.heap.size + 1, 0, none⟩ = some (.int .i64 (cmpN (dv last) (ys.getD (ix xs.length last) 0)))) ∧ Below w.heap.size w W)
    (OwnFrom.and (Own.from (fun s A B row hs hg hr => ⟨hs.1, ⟨cell_kept hs.2.1.1 hg hr, cell_kept hs.2.1.2 hg hr⟩, (frozen_kept hs.2.1.2 hg hr).trans hs.2.2⟩) _) (ownFrom_below (Nat.le_refl _) (by simp; omega)))
    (fun c => OwnFrom.and (Own.from (fun s A B row hs hg hr => by obtain ⟨hc, ini, last, e1, e2, e3, e4⟩ := hs; exact ⟨hc, ini, last, e1, e2, e3, cell_kept e4 hg hr⟩) _) (ownFrom_below (Nat.le_refl _) (by simp; omega)))
    ⟨⟨by simp, ⟨((bY.alloc _).alloc _).cell, (bR.alloc _).cell⟩, (bR.alloc _).frozen⟩, hB0⟩
    (fun x => { tmps := #[.slice aa xs.length ca, .slice ab xs.length cb, undef, .pointer (some ⟨w.heap.size, 0, none⟩), .pointer (some ⟨w.heap.size + 1, 0, none⟩), .int .i64 (ix xs.length x : Nat), .int .u32 (dv x : Nat), .slice aa xs.length ca, .int .i64 xs.length, .slice ab xs.length cb, .int .i64 xs.length, .bool false, undef, undef, undef, undef, undef, .slice aa xs.length ca, .func (.func 90) #[] #[.pointer (some ⟨w.heap.size + 1 + 1, 0, none⟩)], .int .i64 (ix xs.length x : Nat), .int .u32 (dv x : Nat), undef, undef, undef, undef, undef, undef, undef, undef, undef, undef, undef, undef], defers := [] }) ?assign ?body ?done ?stop
  case hKb => exact same2_b ((ha.below hB0).blockOf_lt (by simp)) (by simp)
  case assign =>
    intro l x W K hK
    gi_wp2
    exact hK
  case body =>
    rintro l pre x W ⟨⟨hp, ⟨hcy, hcr⟩, hfr⟩, hB⟩ hlen
    have hpos : 0 < xs.length := by omega
    have h3 : 1 ≤ n - 1 - 1 := by omega
    have hix := ix_lt hpos x
    have hdv := dv_lt x
    obtain ⟨b', off', rfl, hcap', hbs', hcl'⟩ := hb.at (by omega)
    have hcy' := hcl'.at hB hbs' (ix xs.length x) (by rw [← HYL.out]; exact hix)
    have HP := Lib.hid hp
    have HCL := Lib.hid hcl'
    clear hp hcl'
    obtain ⟨i, hi⟩ : ∃ i, i = ix xs.length x := ⟨_, rfl⟩
    obtain ⟨d, hd⟩ : ∃ d, d = dv x := ⟨_, rfl⟩
    obtain ⟨y, hy⟩ : ∃ y, y = ys.getD i 0 := ⟨_, rfl⟩
    rw [← hi, ← hy] at hcy'
    rw [← hi] at hix
    rw [← hd] at hdv
    rw [← hi, ← hd]
    have HI := Lib.hid hi
    have HD := Lib.hid hd
    have HY := Lib.hid hy
    clear hi hd hy
    by_cases hxy : d = y
    · subst hxy
      gi_wp2
      exact ⟨KeepsFrom.refl _ _, Same2.refl _, ⟨fun p hp' => (List.mem_append.1 hp').elim (HP.out p) (fun e => by simp only [List.mem_singleton] at e; subst e; rw [← HI.out, ← HD.out]; exact HY.out), ⟨hcy, hcr⟩, hfr⟩, hB⟩
    · have h2 : ((d : Int) != y) = true := by simp; omega
      gi_wp2_with (gi_at_call 99; refine (CallsIn.inRound l (hc99 _ d y _)).mono ?_; rintro e w' ⟨rfl, rfl⟩)
      exact ⟨(KeepsOthers.setCell _ _ _).from _, ⟨rfl, pre, x, rfl, HP.out, by rw [← HI.out, ← HD.out, ← HY.out]; exact hxy, by rw [← HI.out, ← HD.out, ← HY.out]; exact World.cell?_setCell_same' _ _ _ (by rw [hcr]; rfl)⟩, hB.setCell (p := ⟨w.heap.size + 1, 0, none⟩) (by simp) _⟩
  case done =>
    rintro D zs W hD rfl ⟨⟨hne, ⟨hcy, hcr⟩, hfr⟩, hB⟩ hK
    have hz := hZ0 (fun j hj => by
      have := hne (j, xs.getD j 0) (by
        simp only [back, List.mem_map, List.mem_range]
        exact ⟨xs.length - 1 - j, by omega, by rw [show xs.length - 1 - (xs.length - 1 - j) = j by omega]⟩)
      rw [dv_of (by rw [val_digit ha.bd]; exact Nat.mod_lt _ (by omega)), ix_of hj] at this
      exact this)
    subst hz
    clear hne
    gi_wp2
    have hK' := (KeepsOthers.setCell W ⟨w.heap.size + 1, 0, none⟩ (.int .i64 0)).same D _ hK rfl
    refine ⟨by simp, .inl ⟨_, _, rfl, run_takeDeferred hK', ?_⟩⟩
    have hc5 := cell_kept (World.cell?_setCell_same' W ⟨w.heap.size + 1, 0, none⟩ (.int .i64 0) (by rw [hcr]; rfl)) (grownBy_putObj' _ D (.deferred none)) (fun r e => by cases e; exact ⟨_, hK', rfl⟩)
    refine ⟨.int .i64 0, ?_, rfl, (hB.setCell (p := ⟨w.heap.size + 1, 0, none⟩) (by simp) _).trans (belowK_b (w := w) (Nat.le_refl _) _ D _ _ (by simp at hD; omega) hK' rfl rfl)⟩
    simp [results, Tryz.f68, go_sem, hc5]
  case stop =>
    rintro D c pre W hD ⟨k, hk, rfl⟩ ⟨⟨rfl, ini, last, e1, e2, e3, hcr⟩, hB⟩ hK
    gi_wp2
    refine ⟨by simp, .inl ⟨_, _, rfl, run_takeDeferred hK, ?_⟩⟩
    have hc5 := cell_kept hcr (grownBy_putObj' _ D (.deferred none)) (fun r e => by cases e; exact ⟨_, hK, rfl⟩)
    obtain ⟨k', rfl⟩ : ∃ k', k = k' + 1 := by
      cases k with
      | zero => simp [back] at e1
      | succ k' => exact ⟨k', rfl⟩
    rw [back_succ] at e1
    obtain ⟨rfl, e5⟩ := List.append_inj' e1 rfl
    obtain rfl : (xs.length - 1 - k', xs.getD (xs.length - 1 - k') 0) = last := by simpa using e5
    have lz : ∀ j, xs.getD j 0 < 4294967296 := fun j => by rw [val_digit ha.bd]; exact Nat.mod_lt _ (by omega)
    rw [dv_of (lz _), ix_of (by omega)] at e3 hc5
    have hz := hZ1 (xs.length - 1 - k') (by omega) e3 (fun j h1 h2 => by
      have := e2 (j, xs.getD j 0) (by
        simp only [back, List.mem_map, List.mem_range]
        exact ⟨xs.length - 1 - j, by omega, by rw [show xs.length - 1 - (xs.length - 1 - j) = j by omega]⟩)
      rw [dv_of (lz _), ix_of h2] at this
      exact this)
    refine ⟨.int .i64 Z, ?_, rfl, hB.trans (belowK_b (w := w) (Nat.le_refl _) W D _ _ (by simp at hD; omega) hK rfl rfl)⟩
    rw [hz]
    simp [results, Tryz.f68, go_sem, hc5]

theorem cmpN_eq (x : Nat) : cmpN x x = 0 := by unfold cmpN; rw [if_neg (by omega), if_pos rfl]
theorem cmpN_lt {x y : Nat} (h : x < y) : cmpN x y = -1 := by unfold cmpN; rw [if_pos h]
theorem cmpN_gt {x y : Nat} (h : y < x) : cmpN x y = 1 := by unfold cmpN; rw [if_neg (by omega), if_neg (by omega)]

/-- The digits above the place tell which number is greater. -/
theorem cmp_digits {xs ys : List Nat} (hx : Bd xs) (hy : Bd ys) (hl : xs.length = ys.length) :
    ((∀ j, j < xs.length → xs.getD j 0 = ys.getD j 0) → val xs = val ys) ∧
    (∀ k, k < xs.length → (∀ j, k < j → j < xs.length → xs.getD j 0 = ys.getD j 0) → (xs.getD k 0 < ys.getD k 0 → val xs < val ys) ∧ (ys.getD k 0 < xs.getD k 0 → val ys < val xs)) := by
  induction xs generalizing ys with
  | nil =>
    cases ys with
    | nil => exact ⟨fun _ => rfl, fun k hk => by simp at hk⟩
    | cons y ys => simp at hl
  | cons x xs ih =>
    cases ys with
    | nil => simp at hl
    | cons y ys =>
      obtain ⟨lx, bx⟩ := hx.cons
      obtain ⟨ly, by'⟩ := hy.cons
      obtain ⟨i1, i2⟩ := ih bx by' (by simpa using hl)
      refine ⟨fun h => ?_, fun k hk h => ?_⟩
      · have h0 := h 0 (by simp)
        have h1 := i1 (fun j hj => by simpa using h (j + 1) (by simpa using hj))
        simp only [val]
        simp at h0
        omega
      · cases k with
        | zero =>
          have h1 := i1 (fun j hj => by simpa using h (j + 1) (by omega) (by simpa using hj))
          simp only [val, List.getD_cons_zero]
          omega
        | succ k =>
          have h1 := i2 k (by simpa using hk) (fun j hj hj' => by simpa using h (j + 1) (by omega) (by simpa using hj'))
          simp only [val, List.getD_cons_succ]
          omega

set_option maxRecDepth 100000 in
set_option maxHeartbeats 2000000 in
theorem compare_ne {w : World} (aa ab : Option Addr) (ca cb n m : Nat) (h : n ≠ m) (hn : n ≤ 140737488351232) (hm : m ≤ 140737488351232) :
    Calls Tryz.prog 68 #[.slice aa n ca, .slice ab m cb] w fun e w' => e = .returned (.int .i64 (cmpN n m)) ∧ Below w.heap.size w w' := by
  have h2 : ((n : Int) != m) = true := by simp; omega
  go_enter Tryz.func68, Tryz.ntmps68
  go_wp2_with (go_at_call 98; refine (cmp64_any n m _).mono ?_; rintro e w' ⟨rfl, rfl⟩)
  go_returns
  exact ⟨rfl, (((Below.refl _ w).alloc (Nat.le_refl _) _).alloc (by simp) _)⟩

/-- compare of digits without zeros at the end. -/
theorem compare_any {w : World} {va vb : Value} {x y : Nat} (ha : Sl w va (digs x)) (hb : Sl w vb (digs y)) (hla : (digs x).length ≤ 140737488351232) (hlb : (digs y).length ≤ 140737488351232) :
    Calls Tryz.prog 68 #[va, vb] w fun e w' => e = .returned (.int .i64 (cmpN x y)) ∧ Below w.heap.size w w' := by
  obtain ⟨aa, ca, rfl⟩ := ha.mk'
  obtain ⟨ab, cb, rfl⟩ := hb.mk'
  by_cases h : (digs x).length = (digs y).length
  · rw [← h] at hb ⊢
    obtain ⟨c1, c2⟩ := cmp_digits (bd_digs x) (bd_digs y) h
    rw [val_digs, val_digs] at c1 c2
    refine callsIn_wide.1 (compare_eq_in Fence.wide 5 trivial trivial trivial trivial (fun k a b w => callsIn_wide.2 (cmp32_any a b w)) rfl (by omega) ha hb hla _ (fun hj => by rw [c1 hj, cmpN_eq]) (fun k hk hne hj => ?_))
    obtain ⟨d1, d2⟩ := c2 k hk hj
    rcases Nat.lt_or_gt_of_ne hne with h | h
    · rw [cmpN_lt h, cmpN_lt (d1 h)]
    · rw [cmpN_gt h, cmpN_gt (d2 h)]
  · have e : cmpN x y = cmpN (digs x).length (digs y).length := by
      rcases Nat.lt_or_gt_of_ne h with h | h
      · rw [cmpN_lt h, cmpN_lt]
        have h1 := (digs_length_le (n := x) (k := (digs x).length)).1 (Nat.le_refl _)
        exact Nat.lt_of_lt_of_le h1 (Nat.le_of_not_lt fun h2 => by have := digs_length_le.2 h2; omega)
      · rw [cmpN_gt h, cmpN_gt]
        have h1 := (digs_length_le (n := y) (k := (digs y).length)).1 (Nat.le_refl _)
        exact Nat.lt_of_lt_of_le h1 (Nat.le_of_not_lt fun h2 => by have := digs_length_le.2 h2; omega)
    rw [e]
    exact compare_ne aa ab ca cb _ _ h hla hlb

end Go.Proofs.YtdgmjmckeeeljaaGreatDoor

namespace Go.Proofs.YtdgmjmckeeeljaaGreatDoor
open Go.RowKit

/-- Whether a Num of this sign and these digits is right. -/
def rightB (neg : Bool) (ds : List Nat) : Bool := if ds = [] then !neg else decide (ds.length ≤ 256) && decide (ds.getD (ds.length - 1) 0 ≠ 0)

set_option maxRecDepth 10000 in
set_option maxHeartbeats 400000 in
theorem right_any {w : World} {s : Value} {ds : List Nat} (neg : Bool) (h : Sl w s ds) (hreach : ds.length ≤ 140737488351232) :
    Calls Tryz.prog 32 #[.agg #[.bool neg, s]] w fun e w' => e = .returned (.bool (rightB neg ds)) ∧ w' = w.alloc (.cells #[.bool neg, s] 27) := by
  obtain ⟨ao, cap, rfl⟩ := h.mk'
  obtain ⟨n, hn⟩ : ∃ n, n = ds.length := ⟨_, rfl⟩
  cases n with
  | zero =>
    obtain rfl : ds = [] := List.eq_nil_of_length_eq_zero hn.symm
    have e0 : rightB neg [] = !neg := rfl
    rw [e0]
    clear e0 hn
    go_enter Tryz.func32, Tryz.ntmps32
    go_wp2
    go_ret
    exact ⟨rfl, rfl⟩
  | succ n =>
    rw [← hn] at h hreach ⊢
    obtain ⟨b, off, rfl, hcap, hbs, hcl⟩ := h.at (by omega)
    have hc := hcl n (by omega)
    obtain ⟨x, hx⟩ : ∃ x, x = ds.getD n 0 := ⟨_, rfl⟩
    rw [← hx] at hc
    have e0 : rightB neg ds = (decide (n + 1 ≤ 256) && decide (x ≠ 0)) := by
      unfold rightB
      rw [if_neg (by intro h0; rw [h0] at hn; simp at hn), ← hn, hx]
      rfl
    rw [e0]
    clear e0 hcl hx hn h
    have h4 : ((n : Int) + 1 == 0) = false := by simp; omega
    by_cases h1 : n + 1 ≤ 256
    · by_cases h2 : x = 0
      · subst h2
        go_enter Tryz.func32, Tryz.ntmps32
        go_wp2
        go_ret
        exact ⟨by simp, rfl⟩
      · have h3 : ((x : Int) != 0) = true := by simp; omega
        go_enter Tryz.func32, Tryz.ntmps32
        go_wp2
        go_ret
        exact ⟨by simp [h1, h2], rfl⟩
    · go_enter Tryz.func32, Tryz.ntmps32
      go_wp2
      go_ret
      exact ⟨by simp [h1], rfl⟩

set_option maxHeartbeats 400000 in
theorem made_big (neg : Bool) (ao : Option Addr) (n cap : Nat) (w : World) (h1 : 256 < n) :
    Calls Tryz.prog 47 #[.bool neg, .slice ao n cap] w fun e w' => e = .returned (.tuple #[.agg #[.bool false, .slice none 0 0], .bool false]) ∧ w' = w.alloc (.cells #[.bool false, .slice none 0 0] 27) := by
  go_enter Tryz.func47, Tryz.ntmps47
  go_wp2
  go_returns
  exact ⟨rfl, rfl⟩

set_option maxHeartbeats 400000 in
theorem made_zero (neg : Bool) (ao : Option Addr) (cap : Nat) (w : World) :
    Calls Tryz.prog 47 #[.bool neg, .slice ao 0 cap] w fun e w' => e = .returned (.tuple #[.agg #[.bool false, .slice none 0 0], .bool true]) ∧ w' = w.alloc (.cells #[.bool false, .slice none 0 0] 27) := by
  go_enter Tryz.func47, Tryz.ntmps47
  go_wp2
  go_returns
  exact ⟨rfl, rfl⟩

set_option maxHeartbeats 400000 in
theorem made_ok (neg : Bool) (ao : Option Addr) (n cap : Nat) (w : World) (h1 : n ≤ 256) (h2 : n ≠ 0) :
    Calls Tryz.prog 47 #[.bool neg, .slice ao n cap] w fun e w' => e = .returned (.tuple #[.agg #[.bool neg, .slice ao n cap], .bool true]) ∧ w' = w.alloc (.cells #[.bool neg, .slice ao n cap] 27) := by
  have h3 : ((n : Int) == 0) = false := by simp; omega
  go_enter Tryz.func47, Tryz.ntmps47
  go_wp2
  go_returns
  exact ⟨rfl, rfl⟩

/-- What made makes of a sign and a slice of n digits. -/
def mkN (neg : Bool) (n : Nat) : Bool := if n ≤ 256 ∧ n ≠ 0 then neg else false
def mkA (ao : Option Addr) (n : Nat) : Option Addr := if n ≤ 256 ∧ n ≠ 0 then ao else none
def mkL (n : Nat) : Nat := if n ≤ 256 ∧ n ≠ 0 then n else 0
def mkC (n cap : Nat) : Nat := if n ≤ 256 ∧ n ≠ 0 then cap else 0
def mkK (n : Nat) : Bool := decide (n ≤ 256)

theorem made_any (neg : Bool) (ao : Option Addr) (n cap : Nat) (w : World) :
    Calls Tryz.prog 47 #[.bool neg, .slice ao n cap] w fun e w' => e = .returned (.tuple #[.agg #[.bool (mkN neg n), .slice (mkA ao n) (mkL n) (mkC n cap)], .bool (mkK n)]) ∧ w' = w.alloc (.cells #[.bool (mkN neg n), .slice (mkA ao n) (mkL n) (mkC n cap)] 27) := by
  by_cases h1 : 256 < n
  · have hn : ¬ (n ≤ 256 ∧ n ≠ 0) := by omega
    have hk : mkK n = false := by unfold mkK; simp; omega
    unfold mkN mkA mkL mkC
    rw [if_neg hn, if_neg hn, if_neg hn, if_neg hn, hk]
    exact made_big neg ao n cap w h1
  · have hk : mkK n = true := by unfold mkK; simp; omega
    rw [hk]
    by_cases h2 : n = 0
    · subst h2
      exact made_zero neg ao cap w
    · have hn : n ≤ 256 ∧ n ≠ 0 := by omega
      unfold mkN mkA mkL mkC
      rw [if_pos hn, if_pos hn, if_pos hn, if_pos hn]
      exact made_ok neg ao n cap w (by omega) h2

def fitsB (n : Nat) : Bool := decide ((digs n).length ≤ 256)

/-- What a function returns that makes a Num of the integer z: the Num, and whether it fits. -/
def NumRes (w : World) (z : Int) (e : Ending) (w' : World) : Prop :=
  ∃ neg ao n cap, e = .returned (.tuple #[.agg #[.bool neg, .slice ao n cap], .bool (fitsB z.natAbs)]) ∧ Below w.heap.size w w' ∧
    (fitsB z.natAbs = true → neg = decide (z < 0) ∧ Sw w.heap.size w' (.slice ao n cap) (digs z.natAbs)) ∧ (fitsB z.natAbs = false → neg = false ∧ ao = none ∧ n = 0 ∧ cap = 0)

theorem Sw.nil (B : Nat) (w : World) (ao : Option Addr) (cap : Nat) : Sw B w (.slice ao 0 cap) [] := ⟨Sl.nil w ao cap, fun ao n cap hv hn => by cases hv; exact absurd rfl hn⟩

/-- Out of made: a Num of the integer, where the sign is right. -/
theorem numRes_made {w W : World} {z : Int} {neg : Bool} {ao : Option Addr} {n cap : Nat} (hb : Below w.heap.size w W) (hn : n = (digs z.natAbs).length) (hneg : z ≠ 0 → neg = decide (z < 0)) (hs : n ≠ 0 → Sw w.heap.size W (.slice ao n cap) (digs z.natAbs)) :
    NumRes w z (.returned (.tuple #[.agg #[.bool (mkN neg n), .slice (mkA ao n) (mkL n) (mkC n cap)], .bool (mkK n)])) W := by
  have hk : mkK n = fitsB z.natAbs := by unfold mkK fitsB; rw [hn]
  refine ⟨_, _, _, _, by rw [hk], hb, fun hf => ?_, fun hf => ?_⟩
  · have hle : n ≤ 256 := by rw [hn]; simpa [fitsB] using hf
    by_cases h0 : n = 0
    · have hz : z = 0 := by
        have : digs z.natAbs = [] := List.eq_nil_of_length_eq_zero (by omega)
        have : z.natAbs = 0 := digs_inj (by rw [this, digs_zero])
        omega
      subst hz
      have hn' : ¬ (n ≤ 256 ∧ n ≠ 0) := by omega
      unfold mkN mkA mkL mkC
      rw [if_neg hn', if_neg hn', if_neg hn', if_neg hn']
      exact ⟨rfl, by rw [show digs (Int.natAbs 0) = [] from digs_zero]; exact Sw.nil _ _ _ _⟩
    · have hn' : n ≤ 256 ∧ n ≠ 0 := ⟨hle, h0⟩
      unfold mkN mkA mkL mkC
      rw [if_pos hn', if_pos hn', if_pos hn', if_pos hn']
      refine ⟨hneg ?_, hs h0⟩
      intro hz
      subst hz
      apply h0
      rw [hn]
      show (digs 0).length = 0
      rw [digs_zero]; rfl
  · have hle : 256 < n := by rw [hn]; simpa [fitsB] using hf
    have hn' : ¬ (n ≤ 256 ∧ n ≠ 0) := by omega
    unfold mkN mkA mkL mkC
    rw [if_neg hn', if_neg hn', if_neg hn', if_neg hn']
    exact ⟨rfl, rfl, rfl, rfl⟩

end Go.Proofs.YtdgmjmckeeeljaaGreatDoor

namespace Go.Proofs.YtdgmjmckeeeljaaGreatDoor
open Go.RowKit

/-- The right Num of an integer. -/
def Nu (w : World) (x : Value) (z : Int) : Prop := ∃ s, x = .agg #[.bool (decide (z < 0)), s] ∧ Sl w s (digs z.natAbs) ∧ (digs z.natAbs).length ≤ 256

theorem rightB_digs (z : Int) (h : (digs z.natAbs).length ≤ 256) : rightB (decide (z < 0)) (digs z.natAbs) = true := by
  unfold rightB
  by_cases h0 : digs z.natAbs = []
  · rw [if_pos h0]
    have : z.natAbs = 0 := digs_inj (by rw [h0, digs_zero])
    simp; omega
  · rw [if_neg h0]
    have hl := digs_last z.natAbs
    rw [List.getLast?_eq_getElem?] at hl
    have h1 : (digs z.natAbs).length - 1 < (digs z.natAbs).length := by
      have := List.length_pos_iff.2 h0; omega
    simp only [h, decide_true, Bool.true_and, decide_eq_true_eq, ne_eq]
    intro h2
    apply hl
    rw [List.getElem?_eq_getElem h1]
    simp only [List.getD, List.getElem?_eq_getElem h1, Option.getD_some] at h2
    rw [h2]

/-- Three boxes that a call made: two that were read, one for the result. -/
structure Box3 (W : World) (B : Nat) (na nb : Bool) (sa sb : Value) (x y : Nat) : Prop where
  a0 : W.cell? ⟨B, 0, none⟩ = some (.bool na)
  a1 : W.cell? ⟨B, 1, none⟩ = some sa
  b0 : W.cell? ⟨B + 1, 0, none⟩ = some (.bool nb)
  b1 : W.cell? ⟨B + 1, 1, none⟩ = some sb
  r : W.heap[B + 1 + 1]? = some (.cells #[.bool false, .slice none 0 0] 27 (0, 0))
  sa : Sl W sa (digs x)
  sb : Sl W sb (digs y)

theorem Box3.below {W W' : World} {B : Nat} {na nb : Bool} {sa sb : Value} {x y : Nat} (h : Box3 W B na nb sa sb x y) (hb : Below W.heap.size W W') : Box3 W' B na nb sa sb x y :=
  ⟨cell_later hb h.a0, cell_later hb h.a1, cell_later hb h.b0, cell_later hb h.b1, (hb.block _ (Array.getElem?_eq_some_iff.1 h.r).1).trans h.r, h.sa.below hb, h.sb.below hb⟩

theorem Box3.keep {W W' : World} {B : Nat} {na nb : Bool} {sa sb : Value} {x y : Nat} (h : Box3 W B na nb sa sb x y) (hb : Below (B + 1 + 1) W W') :
    W'.cell? ⟨B, 0, none⟩ = some (.bool na) ∧ W'.cell? ⟨B, 1, none⟩ = some sa ∧ W'.cell? ⟨B + 1, 0, none⟩ = some (.bool nb) ∧ W'.cell? ⟨B + 1, 1, none⟩ = some sb :=
  ⟨(hb.cell (p := ⟨B, 0, none⟩) (by simp; omega)).trans h.a0, (hb.cell (p := ⟨B, 1, none⟩) (by simp; omega)).trans h.a1, (hb.cell (p := ⟨B + 1, 0, none⟩) (by simp)).trans h.b0, (hb.cell (p := ⟨B + 1, 1, none⟩) (by simp)).trans h.b1⟩

theorem Box3.lt {W : World} {B : Nat} {na nb : Bool} {sa sb : Value} {x y : Nat} (h : Box3 W B na nb sa sb x y) : B + 1 + 1 < W.heap.size := (Array.getElem?_eq_some_iff.1 h.r).1
theorem Box3.cells {W : World} {B : Nat} {na nb : Bool} {sa sb : Value} {x y : Nat} (h : Box3 W B na nb sa sb x y) :
    W.cell? ⟨B + 1 + 1, 0, none⟩ = some (.bool false) ∧ W.cell? ⟨B + 1 + 1, 1, none⟩ = some (.slice none 0 0) ∧ W.frozen? ⟨B + 1 + 1, 0, none⟩ = false ∧ W.frozen? ⟨B + 1 + 1, 1, none⟩ = false := by
  refine ⟨?_, ?_, frozen_of_row W _ _ _ _ h.r, frozen_of_row W _ _ _ _ h.r⟩ <;> rw [cell_of_row W _ _ _ _ _ h.r] <;> rfl

/-- The result's two cells, when they were stored. -/
theorem res_cells {w1 : World} {g : Nat} {v0 v1 : Value} (h : w1.heap[g]? = some (.cells #[v0, v1] 27 (0, 0))) (u0 u1 : Value) (o : Obj) :
    (((w1.setCell ⟨g, 0, none⟩ u0).setCell ⟨g, 1, none⟩ u1).alloc o).cell? ⟨g, 0, none⟩ = some u0 ∧ (((w1.setCell ⟨g, 0, none⟩ u0).setCell ⟨g, 1, none⟩ u1).alloc o).cell? ⟨g, 1, none⟩ = some u1 := by
  have h1 := heap_setCell_same w1 g 0 _ 27 u0 h
  have h2 := heap_setCell_same _ g 1 _ 27 u1 h1
  have h3 : (((w1.setCell ⟨g, 0, none⟩ u0).setCell ⟨g, 1, none⟩ u1).alloc o).heap[g]? = _ := (Below.heap_alloc _ _ _ (Array.getElem?_eq_some_iff.1 h2).1).trans h2
  constructor <;> rw [cell_of_row _ _ _ _ _ _ h3] <;> rfl

theorem sign_mul {a b : Int} (h : a * b ≠ 0) : (!(decide (a < 0) == decide (b < 0))) = decide (a * b < 0) := by
  have ha : a ≠ 0 := fun h0 => h (by rw [h0, Int.zero_mul])
  have hb : b ≠ 0 := fun h0 => h (by rw [h0, Int.mul_zero])
  rcases Int.lt_or_gt_of_ne ha with h1 | h1 <;> rcases Int.lt_or_gt_of_ne hb with h2 | h2
  · have := Int.mul_pos_of_neg_of_neg h1 h2
    simp [h1, h2]; omega
  · have := Int.mul_neg_of_neg_of_pos h1 h2
    have h3 : ¬ b < 0 := by omega
    simp [h1, h3, this]
  · have := Int.mul_neg_of_pos_of_neg h1 h2
    have h3 : ¬ a < 0 := by omega
    simp [h2, h3, this]
  · have := Int.mul_pos h1 h2
    have h3 : ¬ a < 0 := by omega
    have h4 : ¬ b < 0 := by omega
    simp [h3, h4]; omega

/-- What is owned in new memory stays so when an older box is written, and behind a new block. -/
theorem Sw.after2 {B g : Nat} {w : World} {v : Value} {ds : List Nat} (h : Sw B w v ds) (hg : g < B) (u0 u1 : Value) : Sw B ((w.setCell ⟨g, 0, none⟩ u0).setCell ⟨g, 1, none⟩ u1) v ds := by
  have key : ∀ (w : World) (j : Nat) (u : Value), Sw B w v ds → Sw B (w.setCell ⟨g, j, none⟩ u) v ds := by
    intro w j u h
    have hc : ∀ b o, B ≤ b → (w.setCell ⟨g, j, none⟩ u).cell? ⟨b, o, none⟩ = w.cell? ⟨b, o, none⟩ := fun b o hb => World.cell?_of_block (w := w) (a := ⟨b, o, none⟩) (Below.heap_setCell _ _ _ _ (by simp; omega))
    have hf : ∀ b o, B ≤ b → (w.setCell ⟨g, j, none⟩ u).frozen? ⟨b, o, none⟩ = w.frozen? ⟨b, o, none⟩ := fun b o hb => World.frozen?_of_block (w := w) (a := ⟨b, o, none⟩) (Below.heap_setCell _ _ _ _ (by simp; omega))
    refine ⟨⟨h.sl.bd, h.sl.len, ?_⟩, ?_⟩
    · rcases h.sl.is with h1 | ⟨b, off, cap, hv, hcp, hcl⟩
      · exact .inl h1
      · refine .inr ⟨b, off, cap, hv, hcp, fun k hk => ?_⟩
        obtain ⟨b', off', e1, e2, _⟩ := h.own _ _ _ hv (by omega)
        cases e1
        rw [hc _ _ e2]
        exact hcl k hk
    · intro ao n cap hv hn
      obtain ⟨b, off, e1, e2, e3⟩ := h.own ao n cap hv hn
      exact ⟨b, off, e1, e2, fun k hk => by rw [hf _ _ e2]; exact e3 k hk⟩
  exact key _ 1 u1 (key _ 0 u0 h)
theorem Sw.after {B g : Nat} {w : World} {v : Value} {ds : List Nat} (h : Sw B w v ds) (hg : g < B) (u0 u1 : Value) (o : Obj) : Sw B (((w.setCell ⟨g, 0, none⟩ u0).setCell ⟨g, 1, none⟩ u1).alloc o) v ds :=
  (h.after2 hg u0 u1).below ((Below.refl _ _).alloc (Nat.le_refl _) _)

theorem heap_three (w : World) (o1 o2 o3 : Obj) : (((w.alloc o1).alloc o2).alloc o3).heap[w.heap.size]? = some o1 ∧ (((w.alloc o1).alloc o2).alloc o3).heap[w.heap.size + 1]? = some o2 ∧ (((w.alloc o1).alloc o2).alloc o3).heap[w.heap.size + 1 + 1]? = some o3 := by
  have h1 := heap_alloc_new w o1
  have h2 := heap_alloc_new (w.alloc o1) o2
  have h3 := heap_alloc_new ((w.alloc o1).alloc o2) o3
  simp only [World.size_alloc] at h2 h3
  refine ⟨?_, ?_, h3⟩
  · rw [Below.heap_alloc _ _ _ (by simp; omega), Below.heap_alloc _ _ _ (by simp)]
    exact h1
  · rw [Below.heap_alloc _ _ _ (by simp)]
    exact h2

theorem box3_new {w W : World} {na nb : Bool} {sa sb : Value} {x y : Nat} (ha : Sl w sa (digs x)) (hb : Sl w sb (digs y))
    (h : Below (w.heap.size + 1 + 1 + 1) (((w.alloc (.cells #[.bool na, sa] 27)).alloc (.cells #[.bool nb, sb] 27)).alloc (.cells #[.bool false, .slice none 0 0] 27)) W) : Box3 W w.heap.size na nb sa sb x y := by
  obtain ⟨h1, h2, h3⟩ := heap_three w (.cells #[.bool na, sa] 27) (.cells #[.bool nb, sb] 27) (.cells #[.bool false, .slice none 0 0] 27)
  rw [← h.block _ (by omega)] at h1 h2 h3
  have hw : Below w.heap.size w W := ((((Below.refl _ w).alloc (Nat.le_refl _) _).alloc (by simp) _).alloc (by simp; omega) _).trans (h.mono (by omega))
  refine ⟨?_, ?_, ?_, ?_, h3, ha.below hw, hb.below hw⟩
  · rw [cell_of_row W _ _ _ _ _ h1]; rfl
  · rw [cell_of_row W _ _ _ _ _ h1]; rfl
  · rw [cell_of_row W _ _ _ _ _ h2]; rfl
  · rw [cell_of_row W _ _ _ _ _ h2]; rfl

/-- times, its result written out. -/
theorem times_at {w : World} {va vb : Value} {x y n : Nat} (ha : Sl w va (digs x)) (hb : Sl w vb (digs y)) (hla : (digs x).length ≤ 256) (hlb : (digs y).length ≤ 256) (hn : (digs (x * y)).length = n) :
    Calls Tryz.prog 69 #[va, vb] w fun e w' => ∃ ao cap, e = .returned (.slice ao n cap) ∧ Sw w.heap.size w' (.slice ao n cap) (digs (x * y)) ∧ Below w.heap.size w w' := by
  have h := times_any ha hb (by omega) (by omega)
  rw [val_digs, val_digs] at h
  refine h.mono ?_
  rintro e w' ⟨v, rfl, hs, hbl⟩
  obtain ⟨ao, cap, rfl⟩ := hs.sl.mk'
  subst hn
  exact ⟨ao, cap, rfl, hs, hbl⟩

set_option maxRecDepth 10000 in
set_option maxHeartbeats 1000000 in
theorem mul_any {w : World} {x y : Value} {a b : Int} (hx : Nu w x a) (hy : Nu w y b) :
    Calls Tryz.prog 30 #[x, y] w (NumRes w (a * b)) := by
  obtain ⟨sa, rfl, ha, la⟩ := hx
  obtain ⟨sb, rfl, hb, lb⟩ := hy
  have ra := rightB_digs a la
  have rb := rightB_digs b lb
  obtain ⟨na, hna⟩ : ∃ na, na = decide (a < 0) := ⟨_, rfl⟩
  obtain ⟨nb, hnb⟩ : ∃ nb, nb = decide (b < 0) := ⟨_, rfl⟩
  rw [← hna] at ra ⊢
  rw [← hnb] at rb ⊢
  have HNA := Lib.hid hna
  have HNB := Lib.hid hnb
  clear hna hnb
  have R1 : ∀ W, Sl W sa (digs a.natAbs) → Calls Tryz.prog 32 #[.agg #[.bool na, sa]] W fun e w' => e = .returned (.bool true) ∧ w' = W.alloc (.cells #[.bool na, sa] 27) := fun W h => by have := right_any na h (by omega); rwa [ra] at this
  have R2 : ∀ W, Sl W sb (digs b.natAbs) → Calls Tryz.prog 32 #[.agg #[.bool nb, sb]] W fun e w' => e = .returned (.bool true) ∧ w' = W.alloc (.cells #[.bool nb, sb] 27) := fun W h => by have := right_any nb h (by omega); rwa [rb] at this
  have HR1 := Lib.hid R1
  have HR2 := Lib.hid R2
  clear R1 R2 ra rb
  go_enter Tryz.func30, Tryz.ntmps30
  go_wp2_with (first | (go_at_call_of 32 (Value.agg #[.bool na, sa]); refine (HR1.out _ (ha.below (by go_grown))).mono ?_; rintro e w' ⟨rfl, rfl⟩) | (go_at_call_of 32 (Value.agg #[.bool nb, sb]); refine (HR2.out _ (hb.below (by go_grown))).mono ?_; rintro e w' ⟨rfl, rfl⟩))
  have HB : Box3 ((((w.alloc (.cells #[.bool na, sa] 27)).alloc (.cells #[.bool nb, sb] 27)).alloc (.cells #[.bool false, .slice none 0 0] 27)).alloc (.cells #[.bool na, sa] 27) |>.alloc (.cells #[.bool nb, sb] 27)) w.heap.size na nb sa sb a.natAbs b.natAbs :=
    box3_new ha hb (by go_grown)
  have HBL : Below w.heap.size w ((((w.alloc (.cells #[.bool na, sa] 27)).alloc (.cells #[.bool nb, sb] 27)).alloc (.cells #[.bool false, .slice none 0 0] 27)).alloc (.cells #[.bool na, sa] 27) |>.alloc (.cells #[.bool nb, sb] 27)) := by go_grown
  revert HB HBL
  generalize ((((w.alloc (.cells #[.bool na, sa] 27)).alloc (.cells #[.bool nb, sb] 27)).alloc (.cells #[.bool false, .slice none 0 0] 27)).alloc (.cells #[.bool na, sa] 27) |>.alloc (.cells #[.bool nb, sb] 27)) = W
  intro HB HBL
  obtain ⟨n, hn⟩ : ∃ n, n = (digs (a.natAbs * b.natAbs)).length := ⟨_, rfl⟩
  have HN := Lib.hid hn
  clear hn
  have a0 := HB.a0
  have a1 := HB.a1
  have b0 := HB.b0
  have b1 := HB.b1
  go_region_held3 (fun w' => w'.cell? ⟨w.heap.size, 0, none⟩ = some (.bool na) ∧ w'.cell? ⟨w.heap.size, 1, none⟩ = some sa ∧ w'.cell? ⟨w.heap.size + 1, 0, none⟩ = some (.bool nb) ∧ w'.cell? ⟨w.heap.size + 1, 1, none⟩ = some sb)
      (first | (exact HB.keep (by go_grown)) | (exact HB.keep (hbw.alloc hbw0 _)) | (exact HB.keep ((hbw.alloc hbw0 _).setCell (by simp) _)))
      ((first | (go_at_call 69; refine (times_at (HB.below (by go_grown)).sa (HB.below (by go_grown)).sb la lb HN.out.symm).mono ?_; rintro e w1 ⟨ao, cap, rfl, hs1, hb1⟩; have hb1' : Below W.heap.size W w1 := Below.trans (by go_grown) hb1; have HB1 := HB.below hb1'; obtain ⟨r0, r1, f0, f1⟩ := HB1.cells; have hz := HB1.lt; have hbw := hb1'.mono (Nat.le_of_lt HB.lt); have hbw0 := Nat.le_of_lt hz) | (go_at_call 47; refine (made_any _ _ _ _ _).mono ?_; rintro e w2 ⟨rfl, rfl⟩)))
  have HHs := Lib.hid hs1
  clear hs1
  have hfin : Below w.heap.size w (((w1.setCell ⟨w.heap.size + 1 + 1, 0, none⟩ (.bool (mkN (!(na == nb)) n))).setCell ⟨w.heap.size + 1 + 1, 1, none⟩ (.slice (mkA ao n) (mkL n) (mkC n cap))).alloc (.cells #[.bool (mkN (!(na == nb)) n), .slice (mkA ao n) (mkL n) (mkC n cap)] 27)) :=
    (((HBL.trans (hb1'.mono (by have := HB.lt; omega))).setCell (by simp; omega) _).setCell (by simp; omega) _).alloc (by simp; omega) _
  obtain ⟨q0, q1⟩ := res_cells HB1.r (.bool (mkN (!(na == nb)) n)) (.slice (mkA ao n) (mkL n) (mkC n cap)) (.cells #[.bool (mkN (!(na == nb)) n), .slice (mkA ao n) (mkL n) (mkC n cap)] 27)
  have hsw := HHs.out.after (g := w.heap.size + 1 + 1) HB.lt (.bool (mkN (!(na == nb)) n)) (.slice (mkA ao n) (mkL n) (mkC n cap)) (.cells #[.bool (mkN (!(na == nb)) n), .slice (mkA ao n) (mkL n) (mkC n cap)] 27)
  revert q0 q1 hfin hsw
  generalize (((w1.setCell ⟨w.heap.size + 1 + 1, 0, none⟩ (.bool (mkN (!(na == nb)) n))).setCell ⟨w.heap.size + 1 + 1, 1, none⟩ (.slice (mkA ao n) (mkL n) (mkC n cap))).alloc (.cells #[.bool (mkN (!(na == nb)) n), .slice (mkA ao n) (mkL n) (mkC n cap)] 27)) = W3
  intro hfin q0 q1 hsw
  have HSW := Lib.hid hsw
  clear hsw
  go_wp2
  refine bodyPost_ret (v := .tuple #[.agg #[.bool (mkN (!(na == nb)) n), .slice (mkA ao n) (mkL n) (mkC n cap)], .bool (mkK n)]) (by simp [results, Tryz.results30, go_sem, q0, q1]) rfl ?_
  have hab : (a * b).natAbs = a.natAbs * b.natAbs := Int.natAbs_mul a b
  refine numRes_made hfin (by rw [hab]; exact HN.out) (fun hz => ?_) (fun _ => by rw [hab]; exact HSW.out.mono (by simp; exact HBL.size))
  rw [HNA.out, HNB.out]
  exact sign_mul hz

end Go.Proofs.YtdgmjmckeeeljaaGreatDoor

namespace Go.Proofs.YtdgmjmckeeeljaaGreatDoor
open Go.RowKit

theorem plus_at {w : World} {va vb : Value} {x y n : Nat} (ha : Sl w va (digs x)) (hb : Sl w vb (digs y)) (hla : (digs x).length ≤ 256) (hlb : (digs y).length ≤ 256) (hn : (digs (x + y)).length = n) :
    Calls Tryz.prog 45 #[va, vb] w fun e w' => ∃ ao cap, e = .returned (.slice ao n cap) ∧ Sw w.heap.size w' (.slice ao n cap) (digs (x + y)) ∧ Below w.heap.size w w' := by
  have h := plus_any ha hb (by omega) (by omega)
  rw [val_digs, val_digs] at h
  refine h.mono ?_
  rintro e w' ⟨v, rfl, hs, hbl⟩
  obtain ⟨ao, cap, rfl⟩ := hs.sl.mk'
  subst hn
  exact ⟨ao, cap, rfl, hs, hbl⟩

theorem minus_at {w : World} {va vb : Value} {x y n : Nat} (ha : Sl w va (digs x)) (hb : Sl w vb (digs y)) (hla : (digs x).length ≤ 256) (hle : y ≤ x) (hn : (digs (x - y)).length = n) :
    Calls Tryz.prog 46 #[va, vb] w fun e w' => ∃ ao cap, e = .returned (.slice ao n cap) ∧ Sw w.heap.size w' (.slice ao n cap) (digs (x - y)) ∧ Below w.heap.size w w' := by
  have h := minus_any ha hb (by omega) (by rw [val_digs, val_digs]; exact hle)
  rw [val_digs, val_digs] at h
  refine h.mono ?_
  rintro e w' ⟨v, rfl, hs, hbl⟩
  obtain ⟨ao, cap, rfl⟩ := hs.sl.mk'
  subst hn
  exact ⟨ao, cap, rfl, hs, hbl⟩

set_option maxRecDepth 10000 in
set_option maxHeartbeats 1000000 in
theorem add_same {w : World} {x y : Value} {a b : Int} (hx : Nu w x a) (hy : Nu w y b) (hs : decide (a < 0) = decide (b < 0)) :
    Calls Tryz.prog 28 #[x, y] w (NumRes w (a + b)) := by
  obtain ⟨sa, rfl, ha, la⟩ := hx
  obtain ⟨sb, rfl, hb, lb⟩ := hy
  have ra := rightB_digs a la
  have rb := rightB_digs b lb
  obtain ⟨na, hna⟩ : ∃ na, na = decide (a < 0) := ⟨_, rfl⟩
  obtain ⟨nb, hnb⟩ : ∃ nb, nb = decide (b < 0) := ⟨_, rfl⟩
  rw [← hna] at ra ⊢
  rw [← hnb] at rb ⊢
  have HNA := Lib.hid hna
  have HNB := Lib.hid hnb
  clear hna hnb
  have R1 : ∀ W, Sl W sa (digs a.natAbs) → Calls Tryz.prog 32 #[.agg #[.bool na, sa]] W fun e w' => e = .returned (.bool true) ∧ w' = W.alloc (.cells #[.bool na, sa] 27) := fun W h => by have := right_any na h (by omega); rwa [ra] at this
  have R2 : ∀ W, Sl W sb (digs b.natAbs) → Calls Tryz.prog 32 #[.agg #[.bool nb, sb]] W fun e w' => e = .returned (.bool true) ∧ w' = W.alloc (.cells #[.bool nb, sb] 27) := fun W h => by have := right_any nb h (by omega); rwa [rb] at this
  have HR1 := Lib.hid R1
  have HR2 := Lib.hid R2
  clear R1 R2 ra rb
  have hab : (a + b).natAbs = a.natAbs + b.natAbs := by
    by_cases h : a < 0 <;> by_cases h2 : b < 0 <;> simp [h, h2] at hs <;> omega
  have hsg : a + b ≠ 0 → decide (a < 0) = decide (a + b < 0) := by
    by_cases h : a < 0 <;> by_cases h2 : b < 0 <;> simp [h, h2] at hs ⊢ <;> omega
  have HAB := Lib.hid hab
  have HSG := Lib.hid hsg
  obtain rfl : nb = na := by rw [HNA.out, HNB.out, hs]
  clear hs hab hsg
  go_enter Tryz.func28, Tryz.ntmps28
  go_wp2_with (first | (go_at_call_of 32 (Value.agg #[.bool nb, sa]); refine (HR1.out _ (ha.below (by go_grown))).mono ?_; rintro e w' ⟨rfl, rfl⟩) | (go_at_call_of 32 (Value.agg #[.bool nb, sb]); refine (HR2.out _ (hb.below (by go_grown))).mono ?_; rintro e w' ⟨rfl, rfl⟩))
  have HB : Box3 ((((w.alloc (.cells #[.bool nb, sa] 27)).alloc (.cells #[.bool nb, sb] 27)).alloc (.cells #[.bool false, .slice none 0 0] 27)).alloc (.cells #[.bool nb, sa] 27) |>.alloc (.cells #[.bool nb, sb] 27)) w.heap.size nb nb sa sb a.natAbs b.natAbs :=
    box3_new ha hb (by go_grown)
  have HBL : Below w.heap.size w ((((w.alloc (.cells #[.bool nb, sa] 27)).alloc (.cells #[.bool nb, sb] 27)).alloc (.cells #[.bool false, .slice none 0 0] 27)).alloc (.cells #[.bool nb, sa] 27) |>.alloc (.cells #[.bool nb, sb] 27)) := by go_grown
  revert HB HBL
  generalize ((((w.alloc (.cells #[.bool nb, sa] 27)).alloc (.cells #[.bool nb, sb] 27)).alloc (.cells #[.bool false, .slice none 0 0] 27)).alloc (.cells #[.bool nb, sa] 27) |>.alloc (.cells #[.bool nb, sb] 27)) = W
  intro HB HBL
  have a0 := HB.a0
  have a1 := HB.a1
  have b0 := HB.b0
  have b1 := HB.b1
  obtain ⟨n, hn⟩ : ∃ n, n = (digs (a.natAbs + b.natAbs)).length := ⟨_, rfl⟩
  have HN := Lib.hid hn
  clear hn
  go_region_held3 (fun w' => w'.cell? ⟨w.heap.size, 0, none⟩ = some (.bool nb) ∧ w'.cell? ⟨w.heap.size, 1, none⟩ = some sa ∧ w'.cell? ⟨w.heap.size + 1, 0, none⟩ = some (.bool nb) ∧ w'.cell? ⟨w.heap.size + 1, 1, none⟩ = some sb)
      (first | (exact HB.keep (by go_grown)) | (exact HB.keep (hbw.alloc hbw0 _)) | (exact HB.keep ((hbw.alloc hbw0 _).setCell (by simp) _)))
      ((first | (go_at_call 45; refine (plus_at (HB.below (by go_grown)).sa (HB.below (by go_grown)).sb la lb HN.out.symm).mono ?_; rintro e w1 ⟨ao, cap, rfl, hs1, hb1⟩; have hb1' : Below W.heap.size W w1 := Below.trans (by go_grown) hb1; have HB1 := HB.below hb1'; obtain ⟨r0, r1, f0, f1⟩ := HB1.cells; have hz := HB1.lt; have hbw := hb1'.mono (Nat.le_of_lt HB.lt); have hbw0 := Nat.le_of_lt hz) | (go_at_call 47; refine (made_any _ _ _ _ _).mono ?_; rintro e w2 ⟨rfl, rfl⟩)))
  have HHs := Lib.hid hs1
  clear hs1
  have hfin : Below w.heap.size w (((w1.setCell ⟨w.heap.size + 1 + 1, 0, none⟩ (.bool (mkN nb n))).setCell ⟨w.heap.size + 1 + 1, 1, none⟩ (.slice (mkA ao n) (mkL n) (mkC n cap))).alloc (.cells #[.bool (mkN nb n), .slice (mkA ao n) (mkL n) (mkC n cap)] 27)) :=
    (((HBL.trans (hb1'.mono (by have := HB.lt; omega))).setCell (by simp; omega) _).setCell (by simp; omega) _).alloc (by simp; omega) _
  obtain ⟨q0, q1⟩ := res_cells HB1.r (.bool (mkN nb n)) (.slice (mkA ao n) (mkL n) (mkC n cap)) (.cells #[.bool (mkN nb n), .slice (mkA ao n) (mkL n) (mkC n cap)] 27)
  have hsw := HHs.out.after (g := w.heap.size + 1 + 1) HB.lt (.bool (mkN nb n)) (.slice (mkA ao n) (mkL n) (mkC n cap)) (.cells #[.bool (mkN nb n), .slice (mkA ao n) (mkL n) (mkC n cap)] 27)
  revert q0 q1 hfin hsw
  generalize (((w1.setCell ⟨w.heap.size + 1 + 1, 0, none⟩ (.bool (mkN nb n))).setCell ⟨w.heap.size + 1 + 1, 1, none⟩ (.slice (mkA ao n) (mkL n) (mkC n cap))).alloc (.cells #[.bool (mkN nb n), .slice (mkA ao n) (mkL n) (mkC n cap)] 27)) = W3
  intro hfin q0 q1 hsw
  have HSW := Lib.hid hsw
  clear hsw
  go_wp2
  refine bodyPost_ret (v := .tuple #[.agg #[.bool (mkN nb n), .slice (mkA ao n) (mkL n) (mkC n cap)], .bool (mkK n)]) (by simp [results, Tryz.results28, go_sem, q0, q1]) rfl ?_
  exact numRes_made hfin (by rw [HAB.out]; exact HN.out) (fun hz => by rw [HNA.out]; exact HSG.out hz) (fun _ => by rw [HAB.out]; exact HSW.out.mono (by simp; exact HBL.size))

set_option maxRecDepth 10000 in
set_option maxHeartbeats 1000000 in
theorem add_lt {w : World} {x y : Value} {a b : Int} (hx : Nu w x a) (hy : Nu w y b) (hs : decide (a < 0) ≠ decide (b < 0)) (hc : a.natAbs < b.natAbs) :
    Calls Tryz.prog 28 #[x, y] w (NumRes w (a + b)) := by
  obtain ⟨sa, rfl, ha, la⟩ := hx
  obtain ⟨sb, rfl, hb, lb⟩ := hy
  have ra := rightB_digs a la
  have rb := rightB_digs b lb
  obtain ⟨na, hna⟩ : ∃ na, na = decide (a < 0) := ⟨_, rfl⟩
  obtain ⟨nb, hnb⟩ : ∃ nb, nb = decide (b < 0) := ⟨_, rfl⟩
  rw [← hna] at ra ⊢
  rw [← hnb] at rb ⊢
  have HNA := Lib.hid hna
  have HNB := Lib.hid hnb
  clear hna hnb
  have R1 : ∀ W, Sl W sa (digs a.natAbs) → Calls Tryz.prog 32 #[.agg #[.bool na, sa]] W fun e w' => e = .returned (.bool true) ∧ w' = W.alloc (.cells #[.bool na, sa] 27) := fun W h => by have := right_any na h (by omega); rwa [ra] at this
  have R2 : ∀ W, Sl W sb (digs b.natAbs) → Calls Tryz.prog 32 #[.agg #[.bool nb, sb]] W fun e w' => e = .returned (.bool true) ∧ w' = W.alloc (.cells #[.bool nb, sb] 27) := fun W h => by have := right_any nb h (by omega); rwa [rb] at this
  have HR1 := Lib.hid R1
  have HR2 := Lib.hid R2
  clear R1 R2 ra rb
  have hab : (a + b).natAbs = b.natAbs - a.natAbs := by
    by_cases h : a < 0 <;> by_cases h2 : b < 0 <;> simp [h, h2] at hs <;> omega
  have hsg : a + b ≠ 0 → decide (b < 0) = decide (a + b < 0) := by
    by_cases h : a < 0 <;> by_cases h2 : b < 0 <;> simp [h, h2] at hs ⊢ <;> omega
  have HAB := Lib.hid hab
  have HSG := Lib.hid hsg
  have hne : (na == nb) = false := by rw [HNA.out, HNB.out]; simpa using hs
  have hcm : cmpN a.natAbs b.natAbs < 0 := by rw [cmpN_lt hc]; decide
  clear hs hab hsg
  go_enter Tryz.func28, Tryz.ntmps28
  go_wp2_with (first | (go_at_call_of 32 (Value.agg #[.bool na, sa]); refine (HR1.out _ (ha.below (by go_grown))).mono ?_; rintro e w' ⟨rfl, rfl⟩) | (go_at_call_of 32 (Value.agg #[.bool nb, sb]); refine (HR2.out _ (hb.below (by go_grown))).mono ?_; rintro e w' ⟨rfl, rfl⟩))
  have HB : Box3 ((((w.alloc (.cells #[.bool na, sa] 27)).alloc (.cells #[.bool nb, sb] 27)).alloc (.cells #[.bool false, .slice none 0 0] 27)).alloc (.cells #[.bool na, sa] 27) |>.alloc (.cells #[.bool nb, sb] 27)) w.heap.size na nb sa sb a.natAbs b.natAbs :=
    box3_new ha hb (by go_grown)
  have HBL : Below w.heap.size w ((((w.alloc (.cells #[.bool na, sa] 27)).alloc (.cells #[.bool nb, sb] 27)).alloc (.cells #[.bool false, .slice none 0 0] 27)).alloc (.cells #[.bool na, sa] 27) |>.alloc (.cells #[.bool nb, sb] 27)) := by go_grown
  revert HB HBL
  generalize ((((w.alloc (.cells #[.bool na, sa] 27)).alloc (.cells #[.bool nb, sb] 27)).alloc (.cells #[.bool false, .slice none 0 0] 27)).alloc (.cells #[.bool na, sa] 27) |>.alloc (.cells #[.bool nb, sb] 27)) = W
  intro HB HBL
  go_wp2_with (go_at_call 68; refine (compare_any HB.sa HB.sb (by omega) (by omega)).mono ?_; rintro e W5 ⟨rfl, hbW⟩)
  replace HBL := HBL.trans (hbW.mono HBL.size)
  replace HB := HB.below hbW
  clear hbW
  obtain ⟨W, rfl⟩ : ∃ W, W = W5 := ⟨_, rfl⟩
  have a0 := HB.a0
  have a1 := HB.a1
  have b0 := HB.b0
  have b1 := HB.b1
  obtain ⟨n, hn⟩ : ∃ n, n = (digs (b.natAbs - a.natAbs)).length := ⟨_, rfl⟩
  have HN := Lib.hid hn
  clear hn
  go_region_held3 (fun w' => w'.cell? ⟨w.heap.size, 0, none⟩ = some (.bool na) ∧ w'.cell? ⟨w.heap.size, 1, none⟩ = some sa ∧ w'.cell? ⟨w.heap.size + 1, 0, none⟩ = some (.bool nb) ∧ w'.cell? ⟨w.heap.size + 1, 1, none⟩ = some sb)
      (first | (exact HB.keep (by go_grown)) | (exact HB.keep (hbw.alloc hbw0 _)) | (exact HB.keep ((hbw.alloc hbw0 _).setCell (by simp) _)))
      ((first | (go_at_call 46; refine (minus_at (HB.below (by go_grown)).sb (HB.below (by go_grown)).sa lb (by omega) HN.out.symm).mono ?_; rintro e w1 ⟨ao, cap, rfl, hs1, hb1⟩; have hb1' : Below W.heap.size W w1 := Below.trans (by go_grown) hb1; have HB1 := HB.below hb1'; obtain ⟨r0, r1, f0, f1⟩ := HB1.cells; have hz := HB1.lt; have hbw := hb1'.mono (Nat.le_of_lt HB.lt); have hbw0 := Nat.le_of_lt hz) | (go_at_call 47; refine (made_any _ _ _ _ _).mono ?_; rintro e w2 ⟨rfl, rfl⟩)))
  have HHs := Lib.hid hs1
  clear hs1
  have hfin : Below w.heap.size w (((w1.setCell ⟨w.heap.size + 1 + 1, 0, none⟩ (.bool (mkN nb n))).setCell ⟨w.heap.size + 1 + 1, 1, none⟩ (.slice (mkA ao n) (mkL n) (mkC n cap))).alloc (.cells #[.bool (mkN nb n), .slice (mkA ao n) (mkL n) (mkC n cap)] 27)) :=
    (((HBL.trans (hb1'.mono (by have := HB.lt; omega))).setCell (by simp; omega) _).setCell (by simp; omega) _).alloc (by simp; omega) _
  obtain ⟨q0, q1⟩ := res_cells HB1.r (.bool (mkN nb n)) (.slice (mkA ao n) (mkL n) (mkC n cap)) (.cells #[.bool (mkN nb n), .slice (mkA ao n) (mkL n) (mkC n cap)] 27)
  have hsw := HHs.out.after (g := w.heap.size + 1 + 1) HB.lt (.bool (mkN nb n)) (.slice (mkA ao n) (mkL n) (mkC n cap)) (.cells #[.bool (mkN nb n), .slice (mkA ao n) (mkL n) (mkC n cap)] 27)
  revert q0 q1 hfin hsw
  generalize (((w1.setCell ⟨w.heap.size + 1 + 1, 0, none⟩ (.bool (mkN nb n))).setCell ⟨w.heap.size + 1 + 1, 1, none⟩ (.slice (mkA ao n) (mkL n) (mkC n cap))).alloc (.cells #[.bool (mkN nb n), .slice (mkA ao n) (mkL n) (mkC n cap)] 27)) = W3
  intro hfin q0 q1 hsw
  have HSW := Lib.hid hsw
  clear hsw
  go_wp2
  refine bodyPost_ret (v := .tuple #[.agg #[.bool (mkN nb n), .slice (mkA ao n) (mkL n) (mkC n cap)], .bool (mkK n)]) (by simp [results, Tryz.results28, go_sem, q0, q1]) rfl ?_
  exact numRes_made hfin (by rw [HAB.out]; exact HN.out) (fun hz => by rw [HNB.out]; exact HSG.out hz) (fun _ => by rw [HAB.out]; exact HSW.out.mono (by simp; exact HBL.size))

set_option maxRecDepth 10000 in
set_option maxHeartbeats 1000000 in
theorem add_ge {w : World} {x y : Value} {a b : Int} (hx : Nu w x a) (hy : Nu w y b) (hs : decide (a < 0) ≠ decide (b < 0)) (hc : b.natAbs ≤ a.natAbs) :
    Calls Tryz.prog 28 #[x, y] w (NumRes w (a + b)) := by
  obtain ⟨sa, rfl, ha, la⟩ := hx
  obtain ⟨sb, rfl, hb, lb⟩ := hy
  have ra := rightB_digs a la
  have rb := rightB_digs b lb
  obtain ⟨na, hna⟩ : ∃ na, na = decide (a < 0) := ⟨_, rfl⟩
  obtain ⟨nb, hnb⟩ : ∃ nb, nb = decide (b < 0) := ⟨_, rfl⟩
  rw [← hna] at ra ⊢
  rw [← hnb] at rb ⊢
  have HNA := Lib.hid hna
  have HNB := Lib.hid hnb
  clear hna hnb
  have R1 : ∀ W, Sl W sa (digs a.natAbs) → Calls Tryz.prog 32 #[.agg #[.bool na, sa]] W fun e w' => e = .returned (.bool true) ∧ w' = W.alloc (.cells #[.bool na, sa] 27) := fun W h => by have := right_any na h (by omega); rwa [ra] at this
  have R2 : ∀ W, Sl W sb (digs b.natAbs) → Calls Tryz.prog 32 #[.agg #[.bool nb, sb]] W fun e w' => e = .returned (.bool true) ∧ w' = W.alloc (.cells #[.bool nb, sb] 27) := fun W h => by have := right_any nb h (by omega); rwa [rb] at this
  have HR1 := Lib.hid R1
  have HR2 := Lib.hid R2
  clear R1 R2 ra rb
  have hab : (a + b).natAbs = a.natAbs - b.natAbs := by
    by_cases h : a < 0 <;> by_cases h2 : b < 0 <;> simp [h, h2] at hs <;> omega
  have hsg : a + b ≠ 0 → decide (a < 0) = decide (a + b < 0) := by
    by_cases h : a < 0 <;> by_cases h2 : b < 0 <;> simp [h, h2] at hs ⊢ <;> omega
  have HAB := Lib.hid hab
  have HSG := Lib.hid hsg
  have hne : (na == nb) = false := by rw [HNA.out, HNB.out]; simpa using hs
  have hcm : 0 ≤ cmpN a.natAbs b.natAbs := by unfold cmpN; rw [if_neg (by omega)]; split <;> decide
  clear hs hab hsg
  go_enter Tryz.func28, Tryz.ntmps28
  go_wp2_with (first | (go_at_call_of 32 (Value.agg #[.bool na, sa]); refine (HR1.out _ (ha.below (by go_grown))).mono ?_; rintro e w' ⟨rfl, rfl⟩) | (go_at_call_of 32 (Value.agg #[.bool nb, sb]); refine (HR2.out _ (hb.below (by go_grown))).mono ?_; rintro e w' ⟨rfl, rfl⟩))
  have HB : Box3 ((((w.alloc (.cells #[.bool na, sa] 27)).alloc (.cells #[.bool nb, sb] 27)).alloc (.cells #[.bool false, .slice none 0 0] 27)).alloc (.cells #[.bool na, sa] 27) |>.alloc (.cells #[.bool nb, sb] 27)) w.heap.size na nb sa sb a.natAbs b.natAbs :=
    box3_new ha hb (by go_grown)
  have HBL : Below w.heap.size w ((((w.alloc (.cells #[.bool na, sa] 27)).alloc (.cells #[.bool nb, sb] 27)).alloc (.cells #[.bool false, .slice none 0 0] 27)).alloc (.cells #[.bool na, sa] 27) |>.alloc (.cells #[.bool nb, sb] 27)) := by go_grown
  revert HB HBL
  generalize ((((w.alloc (.cells #[.bool na, sa] 27)).alloc (.cells #[.bool nb, sb] 27)).alloc (.cells #[.bool false, .slice none 0 0] 27)).alloc (.cells #[.bool na, sa] 27) |>.alloc (.cells #[.bool nb, sb] 27)) = W
  intro HB HBL
  go_wp2_with (go_at_call 68; refine (compare_any HB.sa HB.sb (by omega) (by omega)).mono ?_; rintro e W5 ⟨rfl, hbW⟩)
  replace HBL := HBL.trans (hbW.mono HBL.size)
  replace HB := HB.below hbW
  clear hbW
  obtain ⟨W, rfl⟩ : ∃ W, W = W5 := ⟨_, rfl⟩
  have a0 := HB.a0
  have a1 := HB.a1
  have b0 := HB.b0
  have b1 := HB.b1
  obtain ⟨n, hn⟩ : ∃ n, n = (digs (a.natAbs - b.natAbs)).length := ⟨_, rfl⟩
  have HN := Lib.hid hn
  clear hn
  go_region_held3 (fun w' => w'.cell? ⟨w.heap.size, 0, none⟩ = some (.bool na) ∧ w'.cell? ⟨w.heap.size, 1, none⟩ = some sa ∧ w'.cell? ⟨w.heap.size + 1, 0, none⟩ = some (.bool nb) ∧ w'.cell? ⟨w.heap.size + 1, 1, none⟩ = some sb)
      (first | (exact HB.keep (by go_grown)) | (exact HB.keep (hbw.alloc hbw0 _)) | (exact HB.keep ((hbw.alloc hbw0 _).setCell (by simp) _)))
      ((first | (go_at_call 46; refine (minus_at (HB.below (by go_grown)).sa (HB.below (by go_grown)).sb la (by omega) HN.out.symm).mono ?_; rintro e w1 ⟨ao, cap, rfl, hs1, hb1⟩; have hb1' : Below W.heap.size W w1 := Below.trans (by go_grown) hb1; have HB1 := HB.below hb1'; obtain ⟨r0, r1, f0, f1⟩ := HB1.cells; have hz := HB1.lt; have hbw := hb1'.mono (Nat.le_of_lt HB.lt); have hbw0 := Nat.le_of_lt hz) | (go_at_call 47; refine (made_any _ _ _ _ _).mono ?_; rintro e w2 ⟨rfl, rfl⟩)))
  have HHs := Lib.hid hs1
  clear hs1
  have hfin : Below w.heap.size w (((w1.setCell ⟨w.heap.size + 1 + 1, 0, none⟩ (.bool (mkN na n))).setCell ⟨w.heap.size + 1 + 1, 1, none⟩ (.slice (mkA ao n) (mkL n) (mkC n cap))).alloc (.cells #[.bool (mkN na n), .slice (mkA ao n) (mkL n) (mkC n cap)] 27)) :=
    (((HBL.trans (hb1'.mono (by have := HB.lt; omega))).setCell (by simp; omega) _).setCell (by simp; omega) _).alloc (by simp; omega) _
  obtain ⟨q0, q1⟩ := res_cells HB1.r (.bool (mkN na n)) (.slice (mkA ao n) (mkL n) (mkC n cap)) (.cells #[.bool (mkN na n), .slice (mkA ao n) (mkL n) (mkC n cap)] 27)
  have hsw := HHs.out.after (g := w.heap.size + 1 + 1) HB.lt (.bool (mkN na n)) (.slice (mkA ao n) (mkL n) (mkC n cap)) (.cells #[.bool (mkN na n), .slice (mkA ao n) (mkL n) (mkC n cap)] 27)
  revert q0 q1 hfin hsw
  generalize (((w1.setCell ⟨w.heap.size + 1 + 1, 0, none⟩ (.bool (mkN na n))).setCell ⟨w.heap.size + 1 + 1, 1, none⟩ (.slice (mkA ao n) (mkL n) (mkC n cap))).alloc (.cells #[.bool (mkN na n), .slice (mkA ao n) (mkL n) (mkC n cap)] 27)) = W3
  intro hfin q0 q1 hsw
  have HSW := Lib.hid hsw
  clear hsw
  go_wp2
  refine bodyPost_ret (v := .tuple #[.agg #[.bool (mkN na n), .slice (mkA ao n) (mkL n) (mkC n cap)], .bool (mkK n)]) (by simp [results, Tryz.results28, go_sem, q0, q1]) rfl ?_
  exact numRes_made hfin (by rw [HAB.out]; exact HN.out) (fun hz => by rw [HNA.out]; exact HSG.out hz) (fun _ => by rw [HAB.out]; exact HSW.out.mono (by simp; exact HBL.size))


/-- num.Add of right numbers. -/
theorem add_any {w : World} {x y : Value} {a b : Int} (hx : Nu w x a) (hy : Nu w y b) : Calls Tryz.prog 28 #[x, y] w (NumRes w (a + b)) := by
  by_cases hs : decide (a < 0) = decide (b < 0)
  · exact add_same hx hy hs
  · rcases Nat.lt_or_ge a.natAbs b.natAbs with h | h
    · exact add_lt hx hy hs h
    · exact add_ge hx hy hs h

end Go.Proofs.YtdgmjmckeeeljaaGreatDoor

namespace Go.Proofs.YtdgmjmckeeeljaaGreatDoor
open Go.RowKit

theorem Nu.below {w w' : World} {x : Value} {z : Int} (h : Nu w x z) (hb : Below w.heap.size w w') : Nu w' x z := by
  obtain ⟨s, e, h1, h2⟩ := h
  exact ⟨s, e, h1.below hb, h2⟩

theorem Nu.neg {w : World} {s : Value} {z : Int} (h : Sl w s (digs z.natAbs)) (hl : (digs z.natAbs).length ≤ 256) (hz : z ≠ 0) : Nu w (.agg #[.bool (!(decide (z < 0))), s]) (-z) := by
  refine ⟨s, ?_, by rw [Int.natAbs_neg]; exact h, by rw [Int.natAbs_neg]; exact hl⟩
  congr 3
  by_cases h : z < 0
  · simp [h]; omega
  · simp [h]; omega

/-- A box for a result. -/
def ResBox (W : World) (g : Nat) : Prop := W.heap[g]? = some (.cells #[.bool false, .slice none 0 0] 27 (0, 0))
theorem ResBox.lt {W : World} {g : Nat} (h : ResBox W g) : g < W.heap.size := (Array.getElem?_eq_some_iff.1 h).1
theorem ResBox.below {W W' : World} {g : Nat} (h : ResBox W g) (hb : Below W.heap.size W W') : ResBox W' g := (hb.block _ h.lt).trans h
theorem ResBox.cells {W : World} {g : Nat} (h : ResBox W g) :
    W.cell? ⟨g, 0, none⟩ = some (.bool false) ∧ W.cell? ⟨g, 1, none⟩ = some (.slice none 0 0) ∧ W.frozen? ⟨g, 0, none⟩ = false ∧ W.frozen? ⟨g, 1, none⟩ = false := by
  refine ⟨?_, ?_, frozen_of_row W _ _ _ _ h, frozen_of_row W _ _ _ _ h⟩ <;> rw [cell_of_row W _ _ _ _ _ h] <;> rfl
theorem ResBox.stored {w1 : World} {g : Nat} (h : ResBox w1 g) (u0 u1 : Value) :
    ((w1.setCell ⟨g, 0, none⟩ u0).setCell ⟨g, 1, none⟩ u1).cell? ⟨g, 0, none⟩ = some u0 ∧ ((w1.setCell ⟨g, 0, none⟩ u0).setCell ⟨g, 1, none⟩ u1).cell? ⟨g, 1, none⟩ = some u1 := by
  have h1 := heap_setCell_same w1 g 0 _ 27 u0 h
  have h2 := heap_setCell_same _ g 1 _ 27 u1 h1
  constructor <;> rw [cell_of_row _ _ _ _ _ _ h2] <;> rfl

/-- What a call returned, handed on through a box of an older number. -/
theorem NumRes.handed {w W W1 : World} {z : Int} {neg : Bool} {ao : Option Addr} {n cap g : Nat} (hB : Below w.heap.size w W) (hb : Below W.heap.size W W1) (hg : w.heap.size ≤ g) (hgW : g < W.heap.size)
    (h1 : fitsB z.natAbs = true → neg = decide (z < 0) ∧ Sw W.heap.size W1 (.slice ao n cap) (digs z.natAbs)) (h2 : fitsB z.natAbs = false → neg = false ∧ ao = none ∧ n = 0 ∧ cap = 0) (u0 u1 : Value) :
    NumRes w z (.returned (.tuple #[.agg #[.bool neg, .slice ao n cap], .bool (fitsB z.natAbs)])) ((W1.setCell ⟨g, 0, none⟩ u0).setCell ⟨g, 1, none⟩ u1) := by
  refine ⟨_, _, _, _, rfl, ((hB.trans (hb.mono hB.size)).setCell (by simpa using hg) _).setCell (by simpa using hg) _, fun hf => ?_, h2⟩
  obtain ⟨e1, e2⟩ := h1 hf
  refine ⟨e1, ?_⟩
  have := (e2.after2 hgW u0 u1).mono hB.size
  exact this

set_option maxRecDepth 10000 in
set_option maxHeartbeats 1000000 in
theorem sub_any {w : World} {x y : Value} {a b : Int} (hx : Nu w x a) (hy : Nu w y b) : Calls Tryz.prog 29 #[x, y] w (NumRes w (a - b)) := by
  have hx' := hx
  have hy' := hy
  obtain ⟨sa, rfl, ha, la⟩ := hx
  obtain ⟨sb, rfl, hb, lb⟩ := hy
  obtain ⟨ab, cb, rfl⟩ := hb.mk'
  have hyn : b ≠ 0 → Nu w (.agg #[.bool (!(decide (b < 0))), .slice ab (digs b.natAbs).length cb]) (-b) := Nu.neg hb lb
  obtain ⟨na, hna⟩ : ∃ na, na = decide (a < 0) := ⟨_, rfl⟩
  obtain ⟨nb, hnb⟩ : ∃ nb, nb = decide (b < 0) := ⟨_, rfl⟩
  obtain ⟨m, hm⟩ : ∃ m, m = (digs b.natAbs).length := ⟨_, rfl⟩
  rw [← hna] at hx'
  rw [← hnb, ← hm] at hyn hy'
  rw [← hna, ← hnb, ← hm]
  by_cases h0 : m = 0
  · subst h0
    have hb0 : b = 0 := by
      have : digs b.natAbs = [] := List.eq_nil_of_length_eq_zero hm.symm
      have : b.natAbs = 0 := digs_inj (by rw [this, digs_zero])
      omega
    have e1 : a + b = a - b := by omega
    have E1 := Lib.hid e1
    clear hyn hna hnb hm hb0 ha la hb lb e1
    go_enter Tryz.func29, Tryz.ntmps29
    go_wp2_with fail
    have hr : ResBox (((w.alloc (.cells #[.bool na, sa] 27)).alloc (.cells #[.bool nb, .slice ab 0 cb] 27)).alloc (.cells #[.bool false, .slice none 0 0] 27)) (w.heap.size + 1 + 1) := (heap_three w _ _ _).2.2
    have hbl : Below w.heap.size w (((w.alloc (.cells #[.bool na, sa] 27)).alloc (.cells #[.bool nb, .slice ab 0 cb] 27)).alloc (.cells #[.bool false, .slice none 0 0] 27)) := by go_grown
    have hadd := add_any (hx'.below hbl) (hy'.below hbl)
    rw [E1.out] at hadd
    revert hr hbl hadd
    generalize ((w.alloc (.cells #[.bool na, sa] 27)).alloc (.cells #[.bool nb, .slice ab 0 cb] 27)).alloc (.cells #[.bool false, .slice none 0 0] 27) = W0
    intro hr hbl hadd
    refine hadd.mono ?_
    rintro e W1 ⟨neg, ao, n, cap, rfl, hb1, h1, h2⟩
    have hr1 := hr.below hb1
    obtain ⟨r0, r1, f0, f1⟩ := hr1.cells
    obtain ⟨q0, q1⟩ := hr1.stored (.bool neg) (.slice ao n cap)
    have hfin := NumRes.handed hbl hb1 (show w.heap.size ≤ w.heap.size + 1 + 1 by omega) hr.lt h1 h2 (.bool neg) (.slice ao n cap)
    have HF := Lib.hid hfin
    have H1 := Lib.hid h1
    have H2 := Lib.hid h2
    clear hfin h1 h2 hr hr1 hbl hb1
    go_wp2
    refine bodyPost_ret (v := .tuple #[.agg #[.bool neg, .slice ao n cap], .bool (fitsB (a - b).natAbs)]) (by simp [results, Tryz.results29, go_sem, q0, q1]) rfl ?_
    exact HF.out
  · have hb0 : b ≠ 0 := by
      intro h; apply h0; rw [hm, h]; show (digs 0).length = 0; rw [digs_zero]; rfl
    have hyn' := hyn hb0
    have hpos : 0 < (m : Int) := by omega
    have e1 : a + -b = a - b := by omega
    have E1 := Lib.hid e1
    clear hyn hna hnb hm hb0 ha la hb lb e1
    go_enter Tryz.func29, Tryz.ntmps29
    go_wp2_with fail
    have hr : ResBox (((w.alloc (.cells #[.bool na, sa] 27)).alloc (.cells #[.bool !nb, .slice ab m cb] 27)).alloc (.cells #[.bool false, .slice none 0 0] 27)) (w.heap.size + 1 + 1) := (heap_three w _ _ _).2.2
    have hbl : Below w.heap.size w (((w.alloc (.cells #[.bool na, sa] 27)).alloc (.cells #[.bool !nb, .slice ab m cb] 27)).alloc (.cells #[.bool false, .slice none 0 0] 27)) := by go_grown
    have hadd := add_any (hx'.below hbl) (hyn'.below hbl)
    rw [E1.out] at hadd
    revert hr hbl hadd
    generalize ((w.alloc (.cells #[.bool na, sa] 27)).alloc (.cells #[.bool !nb, .slice ab m cb] 27)).alloc (.cells #[.bool false, .slice none 0 0] 27) = W0
    intro hr hbl hadd
    refine hadd.mono ?_
    rintro e W1 ⟨neg, ao, n, cap, rfl, hb1, h1, h2⟩
    have hr1 := hr.below hb1
    obtain ⟨r0, r1, f0, f1⟩ := hr1.cells
    obtain ⟨q0, q1⟩ := hr1.stored (.bool neg) (.slice ao n cap)
    have hfin := NumRes.handed hbl hb1 (show w.heap.size ≤ w.heap.size + 1 + 1 by omega) hr.lt h1 h2 (.bool neg) (.slice ao n cap)
    have HF := Lib.hid hfin
    have H1 := Lib.hid h1
    have H2 := Lib.hid h2
    clear hfin h1 h2 hr hr1 hbl hb1
    go_wp2
    refine bodyPost_ret (v := .tuple #[.agg #[.bool neg, .slice ao n cap], .bool (fitsB (a - b).natAbs)]) (by simp [results, Tryz.results29, go_sem, q0, q1]) rfl ?_
    exact HF.out

end Go.Proofs.YtdgmjmckeeeljaaGreatDoor
