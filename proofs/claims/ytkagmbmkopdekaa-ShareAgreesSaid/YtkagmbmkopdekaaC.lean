/- Contracts: calculate, share, shares, isResidue, isCustodian. -/
import Derived.Test.YtkagmbmkopdekaaB
namespace Go.Proofs.Ytkagmbmkopdekaa
open Go.RowKit

theorem field57 (x : Int) : ∀ w, (Instr.field 57 (.agg #[.int .i64 x]) 0).run Try.prog w = .ok (.int .i64 x) w := fun _ => by kernel_rfl

set_option maxRecDepth 10000 in
theorem calc_plus (a b : Int) (w : World) (a0 : 0 ≤ a) (a1 : a ≤ 250) (b0 : 0 ≤ b) (b1 : b ≤ 250) :
    Calls Try.prog 35 #[.int .i64 0, .int .i64 a, .int .i64 b] w fun e w' => e = .returned (.int .i64 ((a + b) % 251)) ∧ Below w.heap.size w w' := by
  have H := Lib.hid (fun W => plus_any a b W a0 a1 b0 b1)
  have hi := agg4 (.func (.func 38) #[] #[]) (.func (.func 39) #[] #[]) (.func (.func 40) #[] #[]) (.func (.func 41) #[] #[])
  obtain ⟨R, hR⟩ : ∃ R : Int, R = (a + b) % 251 := ⟨_, rfl⟩
  rw [← hR] at H ⊢
  clear hR
  have hf := field57 R
  go_enter Try.func35, Try.ntmps35
  go_wp2_with (first | (go_at_call 37; refine (operations_any _).mono ?_; rintro e w1 ⟨rfl, hb1⟩; have HB1 := Lib.hid hb1; clear hb1) | (go_at_call 38; refine (H.out _).mono ?_; rintro e w2 ⟨rfl, hb2⟩; have HB2 := Lib.hid hb2; clear hb2))
  go_ret
  exact ⟨rfl, HB1.out.trans (HB2.out.mono HB1.out.size)⟩

set_option maxRecDepth 10000 in
theorem calc_minus (a b : Int) (w : World) (a0 : 0 ≤ a) (a1 : a ≤ 250) (b0 : 0 ≤ b) (b1 : b ≤ 250) :
    Calls Try.prog 35 #[.int .i64 1, .int .i64 a, .int .i64 b] w fun e w' => e = .returned (.int .i64 ((a + 251 - b) % 251)) ∧ Below w.heap.size w w' := by
  have H := Lib.hid (fun W => minus_any a b W a0 a1 b0 b1)
  have hi := agg4_1 (.func (.func 38) #[] #[]) (.func (.func 39) #[] #[]) (.func (.func 40) #[] #[]) (.func (.func 41) #[] #[])
  obtain ⟨R, hR⟩ : ∃ R : Int, R = (a + 251 - b) % 251 := ⟨_, rfl⟩
  rw [← hR] at H ⊢
  clear hR
  have hf := field57 R
  go_enter Try.func35, Try.ntmps35
  go_wp2_with (first | (go_at_call 37; refine (operations_any _).mono ?_; rintro e w1 ⟨rfl, hb1⟩; have HB1 := Lib.hid hb1; clear hb1) | (go_at_call 39; refine (H.out _).mono ?_; rintro e w2 ⟨rfl, hb2⟩; have HB2 := Lib.hid hb2; clear hb2))
  go_ret
  exact ⟨rfl, HB1.out.trans (HB2.out.mono HB1.out.size)⟩

set_option maxRecDepth 10000 in
theorem calc_times (a b : Int) (w : World) (a0 : 0 ≤ a) (a1 : a ≤ 250) (b0 : 0 ≤ b) (b1 : b ≤ 250) :
    Calls Try.prog 35 #[.int .i64 2, .int .i64 a, .int .i64 b] w fun e w' => e = .returned (.int .i64 (a * b % 251)) ∧ Below w.heap.size w w' := by
  have H := Lib.hid (fun W => times_any a b W a0 a1 b0 b1)
  have hi := agg4_2 (.func (.func 38) #[] #[]) (.func (.func 39) #[] #[]) (.func (.func 40) #[] #[]) (.func (.func 41) #[] #[])
  obtain ⟨R, hR⟩ : ∃ R : Int, R = a * b % 251 := ⟨_, rfl⟩
  rw [← hR] at H ⊢
  clear hR
  have hf := field57 R
  go_enter Try.func35, Try.ntmps35
  go_wp2_with (first | (go_at_call 37; refine (operations_any _).mono ?_; rintro e w1 ⟨rfl, hb1⟩; have HB1 := Lib.hid hb1; clear hb1) | (go_at_call 40; refine (H.out _).mono ?_; rintro e w2 ⟨rfl, hb2⟩; have HB2 := Lib.hid hb2; clear hb2))
  go_ret
  exact ⟨rfl, HB1.out.trans (HB2.out.mono HB1.out.size)⟩

set_option maxRecDepth 10000 in
theorem calc_over (a b : Int) (w : World) (a0 : 0 ≤ a) (a1 : a ≤ 250) (b0 : 0 ≤ b) (b1 : b ≤ 250) :
    Calls Try.prog 35 #[.int .i64 3, .int .i64 a, .int .i64 b] w fun e w' => e = .returned (.int .i64 (mulN a b 249)) ∧ Below w.heap.size w w' := by
  have H := Lib.hid (fun W => over_raw a b W a0 a1 b0 b1)
  have hi := agg4_3 (.func (.func 38) #[] #[]) (.func (.func 39) #[] #[]) (.func (.func 40) #[] #[]) (.func (.func 41) #[] #[])
  obtain ⟨R, hR⟩ : ∃ R : Int, R = mulN a b 249 := ⟨_, rfl⟩
  rw [← hR] at H ⊢
  clear hR
  have hf := field57 R
  go_enter Try.func35, Try.ntmps35
  go_wp2_with (first | (go_at_call 37; refine (operations_any _).mono ?_; rintro e w1 ⟨rfl, hb1⟩; have HB1 := Lib.hid hb1; clear hb1) | (go_at_call 41; refine (H.out _).mono ?_; rintro e w2 ⟨rfl, hb2⟩; have HB2 := Lib.hid hb2; clear hb2))
  go_ret
  exact ⟨rfl, HB1.out.trans (HB2.out.mono HB1.out.size)⟩

/-- A residue. -/
def resB (n : Int) : Bool := decide (0 ≤ n ∧ n < 251)
/-- A custodian's number. -/
def cusB (n : Int) : Bool := decide (1 ≤ n ∧ n ≤ 3)

theorem isRes_any (n : Int) (w : World) : Calls Try.prog 26 #[.int .i64 n] w fun e w' => e = .returned (.bool (resB n)) ∧ w = w' := by
  by_cases h0 : 0 ≤ n
  · by_cases h1 : n < 251
    · have hr : resB n = true := decide_eq_true ⟨h0, h1⟩
      rw [hr]; clear hr
      go_enter Try.func26, Try.ntmps26
      go_wp2
      go_ret
      exact ⟨by simp [h0, h1], rfl⟩
    · have hr : resB n = false := decide_eq_false (fun h => h1 h.2)
      rw [hr]; clear hr
      go_enter Try.func26, Try.ntmps26
      go_wp2
      go_ret
      exact ⟨by simp [h0, h1], rfl⟩
  · have hr : resB n = false := decide_eq_false (fun h => h0 h.1)
    rw [hr]; clear hr
    go_enter Try.func26, Try.ntmps26
    go_wp2
    go_ret
    exact ⟨by simp [h0], rfl⟩

end Go.Proofs.Ytkagmbmkopdekaa
