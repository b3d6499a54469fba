/- Contracts of num: Cmp, Bits. -/
import Derived.Test.YtdgmjmckeeeljaaGreatDoorO
namespace Go.Proofs.YtdgmjmckeeeljaaGreatDoor
open Go.RowKit

/-- Less, equal, greater, of integers. -/
def cmpZ (a b : Int) : Int := if a < b then -1 else if a = b then 0 else 1

set_option maxRecDepth 10000 in
set_option maxHeartbeats 1000000 in
theorem cmp_pp {w : World} {x y : Value} {a b : Int} (hx : Nu w x a) (hy : Nu w y b) (h1 : 0 ≤ a) (h2 : 0 ≤ b) :
    Calls Tryz.prog 31 #[x, y] w fun e w' => e = .returned (.int .i64 (cmpZ a b)) ∧ Below w.heap.size w w' := by
  have hz : cmpZ a b = cmpN a.natAbs b.natAbs := by
    unfold cmpZ
    try unfold cmpN
    repeat' split
    all_goals omega
  rw [hz]
  have ea : decide (a < 0) = false := by simp; omega
  have eb : decide (b < 0) = false := by simp; omega
  clear hz
  obtain ⟨sa, rfl, ha, la⟩ := hx
  obtain ⟨sb, rfl, hb, lb⟩ := hy
  have ra := rightB_digs a la
  have rb := rightB_digs b lb
  obtain ⟨na, hna⟩ : ∃ na, na = decide (a < 0) := ⟨_, rfl⟩
  obtain ⟨nb, hnb⟩ : ∃ nb, nb = decide (b < 0) := ⟨_, rfl⟩
  rw [← hna] at ra ⊢
  rw [← hnb] at rb ⊢
  have HNA := Lib.hid hna
  have HNB := Lib.hid hnb
  clear hna hnb
  have R1 : ∀ W, Sl W sa (digs a.natAbs) → Calls Tryz.prog 32 #[.agg #[.bool na, sa]] W fun e w' => e = .returned (.bool true) ∧ w' = W.alloc (.cells #[.bool na, sa] 27) := fun W h => by have := right_any na h (by omega); rwa [ra] at this
  have R2 : ∀ W, Sl W sb (digs b.natAbs) → Calls Tryz.prog 32 #[.agg #[.bool nb, sb]] W fun e w' => e = .returned (.bool true) ∧ w' = W.alloc (.cells #[.bool nb, sb] 27) := fun W h => by have := right_any nb h (by omega); rwa [rb] at this
  have HR1 := Lib.hid R1
  have HR2 := Lib.hid R2
  clear R1 R2 ra rb
  obtain rfl : na = false := by rw [HNA.out, ea]
  obtain rfl : nb = false := by rw [HNB.out, eb]
  clear ea eb
  go_enter Tryz.func31, Tryz.ntmps31
  go_wp2_with (first | (go_at_call_of 32 (Value.agg #[.bool false, sa]); refine (HR1.out _ (ha.below (by go_grown))).mono ?_; rintro e w' ⟨rfl, rfl⟩) | (go_at_call_of 32 (Value.agg #[.bool false, sb]); refine (HR2.out _ (hb.below (by go_grown))).mono ?_; rintro e w' ⟨rfl, rfl⟩) | (go_at_call 68; refine (compare_any (ha.below (by go_grown)) (hb.below (by go_grown)) (by omega) (by omega)).mono ?_; rintro e W5 ⟨rfl, hbW⟩; have hbW' : Below w.heap.size w W5 := Below.trans (by go_grown) (hbW.mono (by simp; omega))))
  go_returns
  exact ⟨rfl, by go_grown⟩

set_option maxRecDepth 10000 in
set_option maxHeartbeats 1000000 in
theorem cmp_nn {w : World} {x y : Value} {a b : Int} (hx : Nu w x a) (hy : Nu w y b) (h1 : a < 0) (h2 : b < 0) :
    Calls Tryz.prog 31 #[x, y] w fun e w' => e = .returned (.int .i64 (cmpZ a b)) ∧ Below w.heap.size w w' := by
  have hz : cmpZ a b = cmpN b.natAbs a.natAbs := by
    unfold cmpZ
    try unfold cmpN
    repeat' split
    all_goals omega
  rw [hz]
  have ea : decide (a < 0) = true := by simp; omega
  have eb : decide (b < 0) = true := by simp; omega
  clear hz
  obtain ⟨sa, rfl, ha, la⟩ := hx
  obtain ⟨sb, rfl, hb, lb⟩ := hy
  have ra := rightB_digs a la
  have rb := rightB_digs b lb
  obtain ⟨na, hna⟩ : ∃ na, na = decide (a < 0) := ⟨_, rfl⟩
  obtain ⟨nb, hnb⟩ : ∃ nb, nb = decide (b < 0) := ⟨_, rfl⟩
  rw [← hna] at ra ⊢
  rw [← hnb] at rb ⊢
  have HNA := Lib.hid hna
  have HNB := Lib.hid hnb
  clear hna hnb
  have R1 : ∀ W, Sl W sa (digs a.natAbs) → Calls Tryz.prog 32 #[.agg #[.bool na, sa]] W fun e w' => e = .returned (.bool true) ∧ w' = W.alloc (.cells #[.bool na, sa] 27) := fun W h => by have := right_any na h (by omega); rwa [ra] at this
  have R2 : ∀ W, Sl W sb (digs b.natAbs) → Calls Tryz.prog 32 #[.agg #[.bool nb, sb]] W fun e w' => e = .returned (.bool true) ∧ w' = W.alloc (.cells #[.bool nb, sb] 27) := fun W h => by have := right_any nb h (by omega); rwa [rb] at this
  have HR1 := Lib.hid R1
  have HR2 := Lib.hid R2
  clear R1 R2 ra rb
  obtain rfl : na = true := by rw [HNA.out, ea]
  obtain rfl : nb = true := by rw [HNB.out, eb]
  clear ea eb
  go_enter Tryz.func31, Tryz.ntmps31
  go_wp2_with (first | (go_at_call_of 32 (Value.agg #[.bool true, sa]); refine (HR1.out _ (ha.below (by go_grown))).mono ?_; rintro e w' ⟨rfl, rfl⟩) | (go_at_call_of 32 (Value.agg #[.bool true, sb]); refine (HR2.out _ (hb.below (by go_grown))).mono ?_; rintro e w' ⟨rfl, rfl⟩) | (go_at_call 68; refine (compare_any (hb.below (by go_grown)) (ha.below (by go_grown)) (by omega) (by omega)).mono ?_; rintro e W5 ⟨rfl, hbW⟩; have hbW' : Below w.heap.size w W5 := Below.trans (by go_grown) (hbW.mono (by simp; omega))))
  go_returns
  exact ⟨rfl, by go_grown⟩

set_option maxRecDepth 10000 in
set_option maxHeartbeats 1000000 in
theorem cmp_np {w : World} {x y : Value} {a b : Int} (hx : Nu w x a) (hy : Nu w y b) (h1 : a < 0) (h2 : 0 ≤ b) :
    Calls Tryz.prog 31 #[x, y] w fun e w' => e = .returned (.int .i64 (cmpZ a b)) ∧ Below w.heap.size w w' := by
  have hz : cmpZ a b = -1 := by
    unfold cmpZ
    try unfold cmpN
    repeat' split
    all_goals omega
  rw [hz]
  have ea : decide (a < 0) = true := by simp; omega
  have eb : decide (b < 0) = false := by simp; omega
  clear hz
  obtain ⟨sa, rfl, ha, la⟩ := hx
  obtain ⟨sb, rfl, hb, lb⟩ := hy
  have ra := rightB_digs a la
  have rb := rightB_digs b lb
  obtain ⟨na, hna⟩ : ∃ na, na = decide (a < 0) := ⟨_, rfl⟩
  obtain ⟨nb, hnb⟩ : ∃ nb, nb = decide (b < 0) := ⟨_, rfl⟩
  rw [← hna] at ra ⊢
  rw [← hnb] at rb ⊢
  have HNA := Lib.hid hna
  have HNB := Lib.hid hnb
  clear hna hnb
  have R1 : ∀ W, Sl W sa (digs a.natAbs) → Calls Tryz.prog 32 #[.agg #[.bool na, sa]] W fun e w' => e = .returned (.bool true) ∧ w' = W.alloc (.cells #[.bool na, sa] 27) := fun W h => by have := right_any na h (by omega); rwa [ra] at this
  have R2 : ∀ W, Sl W sb (digs b.natAbs) → Calls Tryz.prog 32 #[.agg #[.bool nb, sb]] W fun e w' => e = .returned (.bool true) ∧ w' = W.alloc (.cells #[.bool nb, sb] 27) := fun W h => by have := right_any nb h (by omega); rwa [rb] at this
  have HR1 := Lib.hid R1
  have HR2 := Lib.hid R2
  clear R1 R2 ra rb
  obtain rfl : na = true := by rw [HNA.out, ea]
  obtain rfl : nb = false := by rw [HNB.out, eb]
  clear ea eb
  go_enter Tryz.func31, Tryz.ntmps31
  go_wp2_with (first | (go_at_call_of 32 (Value.agg #[.bool true, sa]); refine (HR1.out _ (ha.below (by go_grown))).mono ?_; rintro e w' ⟨rfl, rfl⟩) | (go_at_call_of 32 (Value.agg #[.bool false, sb]); refine (HR2.out _ (hb.below (by go_grown))).mono ?_; rintro e w' ⟨rfl, rfl⟩))
  go_returns
  exact ⟨rfl, by go_grown⟩

set_option maxRecDepth 10000 in
set_option maxHeartbeats 1000000 in
theorem cmp_pn {w : World} {x y : Value} {a b : Int} (hx : Nu w x a) (hy : Nu w y b) (h1 : 0 ≤ a) (h2 : b < 0) :
    Calls Tryz.prog 31 #[x, y] w fun e w' => e = .returned (.int .i64 (cmpZ a b)) ∧ Below w.heap.size w w' := by
  have hz : cmpZ a b = 1 := by
    unfold cmpZ
    try unfold cmpN
    repeat' split
    all_goals omega
  rw [hz]
  have ea : decide (a < 0) = false := by simp; omega
  have eb : decide (b < 0) = true := by simp; omega
  clear hz
  obtain ⟨sa, rfl, ha, la⟩ := hx
  obtain ⟨sb, rfl, hb, lb⟩ := hy
  have ra := rightB_digs a la
  have rb := rightB_digs b lb
  obtain ⟨na, hna⟩ : ∃ na, na = decide (a < 0) := ⟨_, rfl⟩
  obtain ⟨nb, hnb⟩ : ∃ nb, nb = decide (b < 0) := ⟨_, rfl⟩
  rw [← hna] at ra ⊢
  rw [← hnb] at rb ⊢
  have HNA := Lib.hid hna
  have HNB := Lib.hid hnb
  clear hna hnb
  have R1 : ∀ W, Sl W sa (digs a.natAbs) → Calls Tryz.prog 32 #[.agg #[.bool na, sa]] W fun e w' => e = .returned (.bool true) ∧ w' = W.alloc (.cells #[.bool na, sa] 27) := fun W h => by have := right_any na h (by omega); rwa [ra] at this
  have R2 : ∀ W, Sl W sb (digs b.natAbs) → Calls Tryz.prog 32 #[.agg #[.bool nb, sb]] W fun e w' => e = .returned (.bool true) ∧ w' = W.alloc (.cells #[.bool nb, sb] 27) := fun W h => by have := right_any nb h (by omega); rwa [rb] at this
  have HR1 := Lib.hid R1
  have HR2 := Lib.hid R2
  clear R1 R2 ra rb
  obtain rfl : na = false := by rw [HNA.out, ea]
  obtain rfl : nb = true := by rw [HNB.out, eb]
  clear ea eb
  go_enter Tryz.func31, Tryz.ntmps31
  go_wp2_with (first | (go_at_call_of 32 (Value.agg #[.bool false, sa]); refine (HR1.out _ (ha.below (by go_grown))).mono ?_; rintro e w' ⟨rfl, rfl⟩) | (go_at_call_of 32 (Value.agg #[.bool true, sb]); refine (HR2.out _ (hb.below (by go_grown))).mono ?_; rintro e w' ⟨rfl, rfl⟩))
  go_returns
  exact ⟨rfl, by go_grown⟩

/-- num.Cmp of right numbers. -/
theorem cmp_any {w : World} {x y : Value} {a b : Int} (hx : Nu w x a) (hy : Nu w y b) : Calls Tryz.prog 31 #[x, y] w fun e w' => e = .returned (.int .i64 (cmpZ a b)) ∧ Below w.heap.size w w' := by
  by_cases h1 : 0 ≤ a <;> by_cases h2 : 0 ≤ b
  · exact cmp_pp hx hy h1 h2
  · exact cmp_pn hx hy h1 (by omega)
  · exact cmp_np hx hy (by omega) h2
  · exact cmp_nn hx hy (by omega) (by omega)

end Go.Proofs.YtdgmjmckeeeljaaGreatDoor
