/- Contracts: is, divides of the statements; Div and Gcd with a divisor of one digit. -/
import Derived.Test.YtdgmjmckeeeljaaGreatDoorCC
namespace Go.Proofs.YtdgmjmckeeeljaaGreatDoor
open Go.RowKit

set_option maxRecDepth 10000 in
set_option maxHeartbeats 1000000 in
theorem is_any {w : World} {sa sb : Value} {xs ys : List Nat} (na nb r : Bool) (hr : r = decide (na = nb ∧ xs = ys)) (ha : Sl w sa xs) (hb : Sl w sb ys) :
    Calls Tryz.prog 34 #[.agg #[.bool na, sa], .bool true, .bool nb, sb] w (SameRes w r) := by
  have HS : Hid (∀ W, Sl W sa xs → Sl W sb ys → Calls Tryz.prog 19 #[.agg #[.bool na, sa], .agg #[.bool nb, sb]] W (SameRes W (decide (na = nb ∧ xs = ys)))) := fun W h1 h2 => same_any na nb h1 h2
  rw [← hr] at HS
  clear hr
  obtain ⟨aa, ca, rfl⟩ := ha.mk'
  obtain ⟨ab, cb, rfl⟩ := hb.mk'
  obtain ⟨n, hn⟩ : ∃ n, n = xs.length := ⟨_, rfl⟩
  obtain ⟨m, hm⟩ : ∃ m, m = ys.length := ⟨_, rfl⟩
  rw [← hn, ← hm] at HS
  rw [← hn] at ha ⊢
  rw [← hm] at hb ⊢
  clear hn hm
  go_enter Tryz.func34, Tryz.ntmps34
  go_wp2_with (go_at_call 19; refine (HS.out _ (ha.below (by go_grown)) (hb.below (by go_grown))).mono ?_; rintro e W2 ⟨rfl, hb2⟩)
  go_returns
  exact ⟨rfl, Below.trans (by go_grown) (hb2.mono (by simp))⟩

/-- divide by a divisor of one digit. -/
theorem divide_small {w : World} {va vb : Value} {x y : Nat} (ha : Sl w va (digs x)) (hb : Sl w vb (digs y)) (h0 : y ≠ 0) (hy : y < 4294967296) (hla : (digs x).length ≤ 256) :
    Calls Tryz.prog 44 #[va, vb] w (DivRes w x y) := by
  rcases Nat.lt_or_ge x y with h | h
  · exact divide_less ha hb h hla (by rw [digs_small h0 hy]; simp)
  · exact divide_one ha hb h0 h hy hla

theorem div_small {w : World} {x y : Value} {a b : Int} (hx : Nu w x a) (hy : Nu w y b) (hb0 : b ≠ 0) (hb : b.natAbs < 4294967296) : Calls Tryz.prog 15 #[x, y] w (DivOut w a b) :=
  div_any hx hy hb0 (fun W va vb h1 h2 => divide_small h1 h2 (by omega) hb hx.choose_spec.2.2)

/-- Gcd of numbers that have one digit each. -/
theorem gcd_small {w : World} {x y : Value} {a b : Int} (hx : Nu w x a) (hy : Nu w y b) (ha : a.natAbs < 4294967296) (hb : b.natAbs < 4294967296) : Calls Tryz.prog 17 #[x, y] w (NumRes w (Nat.gcd a.natAbs b.natAbs : Nat)) :=
  gcd_any hx hy (.inl (digs_length_le.2 (by omega))) (fun u v W va vb h hv h1 h2 => divide_small h1 h2 hv (by omega) (by
    rcases h with ⟨rfl, -⟩ | ⟨rfl, -⟩
    · exact hx.choose_spec.2.2
    · exact hy.choose_spec.2.2))

theorem fit_i64 {z : Int} (h1 : -9223372036854775808 ≤ z) (h2 : z ≤ 9223372036854775807) : (digs z.natAbs).length ≤ 256 :=
  Nat.le_trans (digs_word (by omega)) (by omega)

set_option maxRecDepth 10000 in
set_option maxHeartbeats 1000000 in
theorem divides_yes {w : World} (a b : Int) (hb0 : b ≠ 0) (hb : b.natAbs < 4294967296) (ha1 : -2147483648 ≤ a) (ha2 : a ≤ 2147483647) :
    Calls Tryz.prog 35 #[.int .i64 a, .int .i64 b, .int .i64 (a / b), .int .i64 (a % b)] w (SameRes w true) := by
  have hq : (a / b).natAbs ≤ a.natAbs := Int.natAbs_ediv_le_natAbs a b
  have hr : (a % b).natAbs < b.natAbs := by
    have h1 := Int.emod_nonneg a hb0
    have h2 := Int.emod_lt a hb0
    omega
  have O1 : Hid (∀ W, Calls Tryz.prog 27 #[.int .i64 a] W fun e w' => ∃ x, e = .returned x ∧ Nu w' x a ∧ Below W.heap.size W w') := fun W => (of_any a W (by omega) (by omega)).mono fun e w' h => h.nu (fit_i64 (by omega) (by omega))
  have O2 : Hid (∀ W, Calls Tryz.prog 27 #[.int .i64 b] W fun e w' => ∃ x, e = .returned x ∧ Nu w' x b ∧ Below W.heap.size W w') := fun W => (of_any b W (by omega) (by omega)).mono fun e w' h => h.nu (fit_i64 (by omega) (by omega))
  have DV : Hid (∀ W x y, Nu W x a → Nu W y b → Calls Tryz.prog 15 #[x, y] W (DivOut W a b)) := fun W x y h1 h2 => div_small h1 h2 hb0 hb
  obtain ⟨q, hq0⟩ : ∃ q, q = a / b := ⟨_, rfl⟩
  obtain ⟨r, hr0⟩ : ∃ r, r = a % b := ⟨_, rfl⟩
  have I1 : Hid (∀ W x, Nu W x q → Calls Tryz.prog 26 #[x] W (IntRes W q true)) := fun W x h => int_yes h (by omega) (by omega)
  have I2 : Hid (∀ W x, Nu W x r → Calls Tryz.prog 26 #[x] W (IntRes W r true)) := fun W x h => int_yes h (by omega) (by omega)
  unfold DivOut at DV
  rw [← hq0, ← hr0] at DV ⊢
  clear hq hr hq0 hr0 hb0 hb ha1 ha2
  go_enter Tryz.func35, Tryz.ntmps35
  go_wp2_with (first | (go_at_call_of 27 (Value.int IntKind.i64 a); refine (O1.out _).mono ?_; rintro e W1 ⟨x, rfl, hx, hb1⟩) | (go_at_call_of 27 (Value.int IntKind.i64 b); refine (O2.out _).mono ?_; rintro e W2 ⟨y, rfl, hy, hb2⟩) | (go_at_call 15; refine (DV.out _ _ _ (hx.below hb2) hy).mono ?_; rintro e W3 ⟨n1, a1, l1, c1, n2, a2, l2, c2, rfl, hb3, hq, hr⟩) | (go_at_call_of 26 (Value.agg #[Value.bool n1, Value.slice a1 l1 c1]); refine (I1.out _ _ (hq.below (by go_grown))).mono ?_; rintro e W4 ⟨rfl, hb4⟩; have k0 : W4.cell? ⟨W3.heap.size + 1, 0, none⟩ = some (.bool n2) := (hb4.cell (p := ⟨W3.heap.size + 1, 0, none⟩) (by simp)).trans (by simp [go_sem]); have k1 : W4.cell? ⟨W3.heap.size + 1, 1, none⟩ = some (.slice a2 l2 c2) := (hb4.cell (p := ⟨W3.heap.size + 1, 1, none⟩) (by simp)).trans (by simp [go_sem])) | (go_at_call_of 26 (Value.agg #[Value.bool n2, Value.slice a2 l2 c2]); refine (I2.out _ _ (hr.below (Below.trans (by go_grown) (hb4.mono (by simp; omega))))).mono ?_; rintro e W5 ⟨rfl, hb5⟩))
  go_returns
  have hx1 := hb1.size
  have hx2 := hb2.size
  have hx3 := hb3.size
  have hx4 := hb4.size
  simp at hx4
  have h5 : Below w.heap.size w W3 := (hb1.trans (hb2.mono hx1)).trans (hb3.mono (by omega))
  have h6 : Below w.heap.size w W4 := by
    refine Below.trans ?_ (hb4.mono (by simp; omega))
    refine Below.trans h5 ?_
    go_grown
  exact ⟨rfl, h6.trans (hb5.mono (by omega))⟩

end Go.Proofs.YtdgmjmckeeeljaaGreatDoor
