/- Contracts: part, near. -/
import Derived.Test.YtkagmbmkopdekaaO
namespace Go.Proofs.Ytkagmbmkopdekaa
open Go.RowKit

theorem part_any (n : Int) (w : World) (n0 : 0 ≤ n) (n1 : n ≤ 100000) : Calls Try.prog 20 #[.int .i64 n] w fun e w' => e = .returned (.int .i64 (n % 251)) ∧ w = w' := by
  have e : n % 251 = (n % 251 + 251) % 251 := by omega
  rw [e]
  clear e
  go_enter Try.func20, Try.ntmps20
  go_wp2
  go_ret
  exact ⟨by simp, rfl⟩

/-- A number from -3 to 255. -/
def nearV (n : Int) : Int := (n.tmod 259 + 259) % 259 - 3

theorem near_bd (n : Int) : -3 ≤ nearV n ∧ nearV n ≤ 255 := by unfold nearV; omega

theorem near_any (n : Int) (w : World) : Calls Try.prog 11 #[.int .i64 n] w fun e w' => e = .returned (.int .i64 (nearV n)) ∧ w = w' := by
  have h1 : -259 < n.tmod 259 := by
    have := Int.lt_tmod_of_pos n (b := 259) (by decide)
    omega
  have h2 : n.tmod 259 < 259 := Int.tmod_lt_of_pos n (by decide)
  unfold nearV
  go_enter Try.func11, Try.ntmps11
  go_wp2
  go_ret
  exact ⟨by simp, rfl⟩

end Go.Proofs.Ytkagmbmkopdekaa
