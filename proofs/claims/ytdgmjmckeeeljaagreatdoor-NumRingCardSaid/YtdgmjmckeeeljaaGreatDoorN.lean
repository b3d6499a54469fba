/- Contracts of num: Int. -/
import Derived.Test.YtdgmjmckeeeljaaGreatDoorL
namespace Go.Proofs.YtdgmjmckeeeljaaGreatDoor
open Go.RowKit

theorem of_any (n : Int) (w : World) (h1 : -9223372036854775808 ≤ n) (h2 : n ≤ 9223372036854775807) : Calls Tryz.prog 27 #[.int .i64 n] w (NewNum w n) := by
  by_cases h : 0 ≤ n
  · obtain ⟨m, rfl⟩ : ∃ m : Nat, n = m := ⟨n.toNat, by omega⟩
    exact of_nonneg m w (by omega)
  · obtain ⟨m, rfl⟩ : ∃ m : Nat, n = -(m : Int) := ⟨(-n).toNat, by omega⟩
    exact of_neg m w (by omega) (by omega)

theorem NewNum.nu {w w' : World} {z : Int} {e : Ending} (h : NewNum w z e w') (hl : (digs z.natAbs).length ≤ 256) : ∃ x, e = .returned x ∧ Nu w' x z ∧ Below w.heap.size w w' := by
  obtain ⟨neg, ao, n, cap, rfl, hb, rfl, hs⟩ := h
  exact ⟨_, rfl, ⟨_, rfl, hs.sl, hl⟩, hb⟩

theorem rightB_of (neg : Bool) (x : Nat) (h : neg = true → x ≠ 0) (hl : (digs x).length ≤ 256) : rightB neg (digs x) = true := by
  cases neg with
  | false =>
    have := rightB_digs (x : Int) (by simpa using hl)
    have e : decide ((x : Int) < 0) = false := decide_eq_false (by omega)
    rw [e] at this
    simpa using this
  | true =>
    have := rightB_digs (-(x : Int)) (by simpa using hl)
    have e : decide (-(x : Int) < 0) = true := by have := h rfl; simp; omega
    rw [e] at this
    simpa using this

theorem lss_big (x : Nat) (h : x < 9223372036854775808) : binOp BinOp.lss 69 (.int .u64 (x : Int)) (.int .u64 9223372036854775808) = (pure (.bool true) : Sem Value) := by
  have h' : decide ((x : Int) < 9223372036854775808) = true := decide_eq_true (by omega)
  have e : binOp BinOp.lss 69 (.int .u64 (x : Int)) (.int .u64 9223372036854775808) = (pure (.bool (decide ((x : Int) < 9223372036854775808))) : Sem Value) := rfl
  rw [e, h']
theorem lss_big' (x : Nat) (h : 9223372036854775808 ≤ x) : binOp BinOp.lss 69 (.int .u64 (x : Int)) (.int .u64 9223372036854775808) = (pure (.bool false) : Sem Value) := by
  have h' : decide ((x : Int) < 9223372036854775808) = false := decide_eq_false (by omega)
  have e : binOp BinOp.lss 69 (.int .u64 (x : Int)) (.int .u64 9223372036854775808) = (pure (.bool (decide ((x : Int) < 9223372036854775808))) : Sem Value) := rfl
  rw [e, h']

def IntRes (w : World) (z : Int) (ok : Bool) (e : Ending) (w' : World) : Prop := e = .returned (.tuple #[.int .i64 z, .bool ok]) ∧ Below w.heap.size w w'

set_option maxRecDepth 10000 in
set_option maxHeartbeats 1000000 in
theorem int_pos {w : World} {sa : Value} (x : Nat) (ha : Sl w sa (digs x)) (la : (digs x).length ≤ 256) (h : x < 9223372036854775808) :
    Calls Tryz.prog 26 #[.agg #[.bool false, sa]] w (IntRes w (x) true) := by
  have ra : ∀ W, Sl W sa (digs x) → Calls Tryz.prog 32 #[.agg #[.bool false, sa]] W fun e w' => e = .returned (.bool true) ∧ w' = W.alloc (.cells #[.bool false, sa] 27) := fun W h => by
    have := right_any false h (by omega)
    have e : rightB false (digs x) = true := rightB_of _ _ (fun h => by cases h) la
    rwa [e] at this
  have HR := Lib.hid ra
  clear ra
  obtain ⟨aa, ca, rfl⟩ := ha.mk'
  obtain ⟨n, hn⟩ : ∃ n, n = (digs x).length := ⟨_, rfl⟩
  have hv := val_digs x
  rw [← hn] at ha ⊢
  rw [← hn] at HR
  have h2 : n ≤ 2 := by rw [hn]; exact digs_word (by omega)
  have WD : Hid (∀ W, Sl W (.slice aa n ca) (digs x) → Calls Tryz.prog 66 #[.slice aa n ca] W fun e w' => e = .returned (.int .u64 (x : Nat)) ∧ w' = W) := fun W h => by
    have := word_any h (by omega)
    rwa [hv] at this
  have HL := Lib.hid la
  have HN := Lib.hid hn
  have hb := lss_big x h
  have HW := Lib.hid (IntWalk.wrap64_in (x : Int) (by omega))
  clear hn la hv h
  go_enter Tryz.func26, Tryz.ntmps26
  go_wp2_with (first | (go_at_call 32; refine (HR.out _ (ha.below (by go_grown))).mono ?_; rintro e w' ⟨rfl, rfl⟩) | (go_at_call 66; refine (WD.out _ (ha.below (by go_grown))).mono ?_; rintro e w' ⟨rfl, rfl⟩))
  go_returns
  refine ⟨?_, by go_grown⟩
  show Ending.returned (.tuple #[.int .i64 (wrap64 (x : Int)), .bool true]) = _
  rw [HW.out]

set_option maxRecDepth 10000 in
set_option maxHeartbeats 1000000 in
theorem int_neg {w : World} {sa : Value} (x : Nat) (ha : Sl w sa (digs x)) (la : (digs x).length ≤ 256) (h : x ≤ 9223372036854775808) (h0 : x ≠ 0) :
    Calls Tryz.prog 26 #[.agg #[.bool true, sa]] w (IntRes w (-(x : Int)) true) := by
  have ra : ∀ W, Sl W sa (digs x) → Calls Tryz.prog 32 #[.agg #[.bool true, sa]] W fun e w' => e = .returned (.bool true) ∧ w' = W.alloc (.cells #[.bool true, sa] 27) := fun W h => by
    have := right_any true h (by omega)
    have e : rightB true (digs x) = true := rightB_of _ _ (fun _ => h0) la
    rwa [e] at this
  have HR := Lib.hid ra
  clear ra
  obtain ⟨aa, ca, rfl⟩ := ha.mk'
  obtain ⟨n, hn⟩ : ∃ n, n = (digs x).length := ⟨_, rfl⟩
  have hv := val_digs x
  rw [← hn] at ha ⊢
  rw [← hn] at HR
  have h2 : n ≤ 2 := by rw [hn]; exact digs_word (by omega)
  have WD : Hid (∀ W, Sl W (.slice aa n ca) (digs x) → Calls Tryz.prog 66 #[.slice aa n ca] W fun e w' => e = .returned (.int .u64 (x : Nat)) ∧ w' = W) := fun W h => by
    have := word_any h (by omega)
    rwa [hv] at this
  have HL := Lib.hid la
  have HN := Lib.hid hn
  obtain ⟨U, hU⟩ : ∃ U, U = IntKind.u64.wrap (-(x : Int)) := ⟨_, rfl⟩
  have hU2 : IntKind.i64.wrap U = -(x : Int) := by rw [hU]; simp only [IntKind.wrap_u64, IntKind.wrap_i64]; omega
  replace hU := hU.symm
  have hle : (x : Int) ≤ 9223372036854775808 := by omega
  clear hn la hv h h0
  go_enter Tryz.func26, Tryz.ntmps26
  go_wp2_with (first | (go_at_call 32; refine (HR.out _ (ha.below (by go_grown))).mono ?_; rintro e w' ⟨rfl, rfl⟩) | (go_at_call 66; refine (WD.out _ (ha.below (by go_grown))).mono ?_; rintro e w' ⟨rfl, rfl⟩))
  go_returns
  exact ⟨rfl, by go_grown⟩

set_option maxRecDepth 10000 in
set_option maxHeartbeats 1000000 in
theorem int_long {w : World} {sa : Value} (x : Nat) (ha : Sl w sa (digs x)) (la : (digs x).length ≤ 256) (neg : Bool) (h0 : neg = true → x ≠ 0) (h : 2 < (digs x).length) :
    Calls Tryz.prog 26 #[.agg #[.bool neg, sa]] w (IntRes w (0) false) := by
  have ra : ∀ W, Sl W sa (digs x) → Calls Tryz.prog 32 #[.agg #[.bool neg, sa]] W fun e w' => e = .returned (.bool true) ∧ w' = W.alloc (.cells #[.bool neg, sa] 27) := fun W h => by
    have := right_any neg h (by omega)
    have e : rightB neg (digs x) = true := rightB_of _ _ h0 la
    rwa [e] at this
  have HR := Lib.hid ra
  clear ra
  obtain ⟨aa, ca, rfl⟩ := ha.mk'
  obtain ⟨n, hn⟩ : ∃ n, n = (digs x).length := ⟨_, rfl⟩
  have hv := val_digs x
  rw [← hn] at ha ⊢
  rw [← hn] at HR
  have h2 : 2 < n := by rw [hn]; exact h
  clear hn la hv h
  go_enter Tryz.func26, Tryz.ntmps26
  go_wp2_with (first | (go_at_call 32; refine (HR.out _ (ha.below (by go_grown))).mono ?_; rintro e w' ⟨rfl, rfl⟩))
  go_returns
  exact ⟨rfl, by go_grown⟩

set_option maxRecDepth 10000 in
set_option maxHeartbeats 1000000 in
theorem int_over {w : World} {sa : Value} (x : Nat) (ha : Sl w sa (digs x)) (la : (digs x).length ≤ 256) (h : 9223372036854775808 ≤ x) (h2' : (digs x).length ≤ 2) :
    Calls Tryz.prog 26 #[.agg #[.bool false, sa]] w (IntRes w (0) false) := by
  have ra : ∀ W, Sl W sa (digs x) → Calls Tryz.prog 32 #[.agg #[.bool false, sa]] W fun e w' => e = .returned (.bool true) ∧ w' = W.alloc (.cells #[.bool false, sa] 27) := fun W h => by
    have := right_any false h (by omega)
    have e : rightB false (digs x) = true := rightB_of _ _ (fun h => by cases h) la
    rwa [e] at this
  have HR := Lib.hid ra
  clear ra
  obtain ⟨aa, ca, rfl⟩ := ha.mk'
  obtain ⟨n, hn⟩ : ∃ n, n = (digs x).length := ⟨_, rfl⟩
  have hv := val_digs x
  rw [← hn] at ha ⊢
  rw [← hn] at HR
  have h2 : n ≤ 2 := by rw [hn]; exact h2'
  have WD : Hid (∀ W, Sl W (.slice aa n ca) (digs x) → Calls Tryz.prog 66 #[.slice aa n ca] W fun e w' => e = .returned (.int .u64 (x : Nat)) ∧ w' = W) := fun W h => by
    have := word_any h (by omega)
    rwa [hv] at this
  have HL := Lib.hid la
  have HN := Lib.hid hn
  have hb := lss_big' x h
  clear hn la hv h h2'
  go_enter Tryz.func26, Tryz.ntmps26
  go_wp2_with (first | (go_at_call 32; refine (HR.out _ (ha.below (by go_grown))).mono ?_; rintro e w' ⟨rfl, rfl⟩) | (go_at_call 66; refine (WD.out _ (ha.below (by go_grown))).mono ?_; rintro e w' ⟨rfl, rfl⟩))
  go_returns
  exact ⟨rfl, by go_grown⟩

set_option maxRecDepth 10000 in
set_option maxHeartbeats 1000000 in
theorem int_under {w : World} {sa : Value} (x : Nat) (ha : Sl w sa (digs x)) (la : (digs x).length ≤ 256) (h : 9223372036854775808 < x) (h2' : (digs x).length ≤ 2) (h0 : x ≠ 0) :
    Calls Tryz.prog 26 #[.agg #[.bool true, sa]] w (IntRes w (0) false) := by
  have ra : ∀ W, Sl W sa (digs x) → Calls Tryz.prog 32 #[.agg #[.bool true, sa]] W fun e w' => e = .returned (.bool true) ∧ w' = W.alloc (.cells #[.bool true, sa] 27) := fun W h => by
    have := right_any true h (by omega)
    have e : rightB true (digs x) = true := rightB_of _ _ (fun _ => h0) la
    rwa [e] at this
  have HR := Lib.hid ra
  clear ra
  obtain ⟨aa, ca, rfl⟩ := ha.mk'
  obtain ⟨n, hn⟩ : ∃ n, n = (digs x).length := ⟨_, rfl⟩
  have hv := val_digs x
  rw [← hn] at ha ⊢
  rw [← hn] at HR
  have h2 : n ≤ 2 := by rw [hn]; exact h2'
  have WD : Hid (∀ W, Sl W (.slice aa n ca) (digs x) → Calls Tryz.prog 66 #[.slice aa n ca] W fun e w' => e = .returned (.int .u64 (x : Nat)) ∧ w' = W) := fun W h => by
    have := word_any h (by omega)
    rwa [hv] at this
  have HL := Lib.hid la
  have HN := Lib.hid hn
  have hle : ¬ (x : Int) ≤ 9223372036854775808 := by omega
  clear hn la hv h h2' h0
  go_enter Tryz.func26, Tryz.ntmps26
  go_wp2_with (first | (go_at_call 32; refine (HR.out _ (ha.below (by go_grown))).mono ?_; rintro e w' ⟨rfl, rfl⟩) | (go_at_call 66; refine (WD.out _ (ha.below (by go_grown))).mono ?_; rintro e w' ⟨rfl, rfl⟩))
  go_returns
  exact ⟨rfl, by go_grown⟩

/-- num.Int of a right number whose int there is. -/
theorem int_yes {w : World} {x : Value} {z : Int} (hx : Nu w x z) (h1 : -9223372036854775808 ≤ z) (h2 : z ≤ 9223372036854775807) : Calls Tryz.prog 26 #[x] w (IntRes w z true) := by
  obtain ⟨sa, rfl, ha, la⟩ := hx
  by_cases h : 0 ≤ z
  · have e1 : decide (z < 0) = false := decide_eq_false (by omega)
    have e2 : ((z.natAbs : Nat) : Int) = z := by omega
    have := int_pos z.natAbs ha la (by omega)
    rw [e2] at this
    rw [e1]
    exact this
  · have e1 : decide (z < 0) = true := decide_eq_true (by omega)
    have e2 : -((z.natAbs : Nat) : Int) = z := by omega
    have := int_neg z.natAbs ha la (by omega) (by omega)
    rw [e2] at this
    rw [e1]
    exact this

/-- num.Int of a right number whose int there is none. -/
theorem int_no {w : World} {x : Value} {z : Int} (hx : Nu w x z) (h : z < -9223372036854775808 ∨ 9223372036854775807 < z) : Calls Tryz.prog 26 #[x] w (IntRes w 0 false) := by
  obtain ⟨sa, rfl, ha, la⟩ := hx
  by_cases hl : 2 < (digs z.natAbs).length
  · exact int_long z.natAbs ha la _ (fun h => by have := of_decide_eq_true h; omega) hl
  · by_cases h0 : 0 ≤ z
    · have e1 : decide (z < 0) = false := decide_eq_false (by omega)
      rw [e1]
      exact int_over z.natAbs ha la (by omega) (by omega)
    · have e1 : decide (z < 0) = true := decide_eq_true (by omega)
      rw [e1]
      exact int_under z.natAbs ha la (by omega) (by omega) (by omega)

end Go.Proofs.YtdgmjmckeeeljaaGreatDoor
