/- Two arrays of three ints compared. -/
import Derived.Test.YtkagmbmkopdekaaH
import Derived.Laws.StructEq
namespace Go.Proofs.Ytkagmbmkopdekaa
open Go.RowKit

def eq3 (a b c x y z : Int) : Bool := a == x && (b == y && c == z)

theorem size3 : ∀ w, (sizeOf 3).run Try.prog w = .ok 1 w := fun _ => by kernel_rfl

theorem part26 (xs : Array Value) (i : Nat) (v : Int) (h : xs[i]? = some (.int .i64 v)) (w : World) : (part 3 xs i).run Try.prog w = .ok (.int .i64 v) w := by
  simp [part, isAgg, run_underlying Try.underlying3, h]

theorem equal26 (a b c x y z : Int) (w : World) :
    (Op.equalIn 10000 26 (.agg #[.int .i64 a, .int .i64 b, .int .i64 c]) (.agg #[.int .i64 x, .int .i64 y, .int .i64 z])).run Try.prog w = .ok (eq3 a b c x y z) w := by
  have e : ∀ p q : Int, ∀ w, (Op.equalIn 9999 3 (.int .i64 p) (.int .i64 q)).run Try.prog w = .ok (p == q) w := fun p q w => run_equalIn_int w 9998 3 .i64 .i64 p q Try.underlying3
  rw [show (10000 : Nat) = 9999 + 1 from rfl, Op.equalIn]
  simp only [Sem.run_bind, run_underlying Try.underlying26, Result.andThen_ok, size3, Std.Legacy.Range.forIn_eq_forIn_range', Std.Legacy.Range.size, Nat.sub_zero, Nat.add_one_sub_one, Nat.div_one]
  have h0 : List.range' 0 3 1 = [0, 1, 2] := rfl
  have a0 := part26 #[.int .i64 a, .int .i64 b, .int .i64 c] 0 a rfl
  have a1 := part26 #[.int .i64 a, .int .i64 b, .int .i64 c] 1 b rfl
  have a2 := part26 #[.int .i64 a, .int .i64 b, .int .i64 c] 2 c rfl
  have x0 := part26 #[.int .i64 x, .int .i64 y, .int .i64 z] 0 x rfl
  have x1 := part26 #[.int .i64 x, .int .i64 y, .int .i64 z] 1 y rfl
  have x2 := part26 #[.int .i64 x, .int .i64 y, .int .i64 z] 2 z rfl
  rw [h0]
  simp only [List.forIn_cons, List.forIn_nil, Sem.run_bind, Nat.zero_mul, Nat.one_mul, Nat.mul_one, a0, x0, e, Result.andThen_ok]
  unfold eq3
  cases h1 : (a == x)
  · simp
  simp only [Bool.not_true, Bool.false_eq_true, if_false, Sem.run_pure, Result.andThen_ok, Bool.true_and, Sem.run_bind, a1, x1, e]
  cases h2 : (b == y)
  · simp
  simp only [Bool.not_true, Bool.false_eq_true, if_false, Sem.run_pure, Result.andThen_ok, Bool.true_and, Sem.run_bind, a2, x2, e]
  cases h3 : (c == z) <;> simp

theorem eq3_same (a b c : Int) : eq3 a b c a b c = true := by simp [eq3]
theorem eq3_two (a b c z : Int) : eq3 a b c a b z = (c == z) := by simp [eq3]

end Go.Proofs.Ytkagmbmkopdekaa
