/- Contracts: the four operations of residues, and calculate. -/
import Derived.Test.YtkagmbmkopdekaaProg
import Derived.Test.YtkagmbmkopdekaaM
import Derived.WalkKit
import Derived.WalkSpells
import Derived.Handy
import Derived.Lib.Hide
namespace Go.Proofs.Ytkagmbmkopdekaa
open Go.RowKit

theorem ret_agg1 {a b : Int} (h : a = b) : Ending.returned (.agg #[.int .i64 a]) = .returned (.agg #[.int .i64 b]) := by rw [h]

set_option maxRecDepth 10000 in
theorem plus_any (a b : Int) (w : World) (a0 : 0 ≤ a) (a1 : a ≤ 250) (b0 : 0 ≤ b) (b1 : b ≤ 250) :
    Calls Try.prog 38 #[.agg #[.int .i64 a], .agg #[.int .i64 b]] w fun e w' => e = .returned (.agg #[.int .i64 ((a + b) % 251)]) ∧ Below w.heap.size w w' := by
  go_enter Try.func38, Try.ntmps38
  go_wp2
  refine bodyPost_ret (v := .agg #[.int .i64 ((a + b) % 251)]) (by simp [results, Try.results38, go_sem]) rfl ⟨rfl, ?_⟩
  go_grown

set_option maxRecDepth 10000 in
theorem minus_any (a b : Int) (w : World) (a0 : 0 ≤ a) (a1 : a ≤ 250) (b0 : 0 ≤ b) (b1 : b ≤ 250) :
    Calls Try.prog 39 #[.agg #[.int .i64 a], .agg #[.int .i64 b]] w fun e w' => e = .returned (.agg #[.int .i64 ((a + 251 - b) % 251)]) ∧ Below w.heap.size w w' := by
  go_enter Try.func39, Try.ntmps39
  go_wp2
  refine bodyPost_ret (v := .agg #[.int .i64 ((a + 251 - b) % 251)]) (by simp [results, Try.results39, go_sem]) rfl ⟨rfl, ?_⟩
  go_grown

set_option maxRecDepth 10000 in
theorem times_any (a b : Int) (w : World) (a0 : 0 ≤ a) (a1 : a ≤ 250) (b0 : 0 ≤ b) (b1 : b ≤ 250) :
    Calls Try.prog 40 #[.agg #[.int .i64 a], .agg #[.int .i64 b]] w fun e w' => e = .returned (.agg #[.int .i64 (a * b % 251)]) ∧ Below w.heap.size w w' := by
  have p0 : 0 ≤ a * b := Int.mul_nonneg a0 b0
  have p1 : a * b ≤ 62500 := by
    have := Int.mul_le_mul a1 b1 b0 (by omega)
    omega
  go_enter Try.func40, Try.ntmps40
  go_wp2
  refine bodyPost_ret (v := .agg #[.int .i64 (a * b % 251)]) (by simp [results, Try.results40, go_sem]) rfl ⟨rfl, ?_⟩
  go_grown

end Go.Proofs.Ytkagmbmkopdekaa
