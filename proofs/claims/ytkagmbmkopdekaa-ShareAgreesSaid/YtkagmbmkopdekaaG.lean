/- Contracts: through, and the reference's through; the mathematics of a line through two shares. -/
import Derived.Test.YtkagmbmkopdekaaF
namespace Go.Proofs.Ytkagmbmkopdekaa
open Go.RowKit

/-- Whether two shares of two custodians are at hand. -/
def thB (i a j b : Int) : Bool := cusB i && (cusB j && (!(i == j) && (resB a && resB b)))
/-- The blind of the line through two shares. -/
def blV (i a j b : Int) : Int := (b + 251 - a) % 251 * inv ((j + 251 - i) % 251) % 251
/-- The secret of the line through two shares. -/
def seV (i a j b : Int) : Int := (a + 251 - i * blV i a j b % 251) % 251
/-- The same, or 0. -/
def thS (i a j b : Int) : Int := if thB i a j b then seV i a j b else 0
def thX (i a j b : Int) : Int := if thB i a j b then blV i a j b else 0

theorem blV_bd (i a j b : Int) : 0 ≤ blV i a j b ∧ blV i a j b ≤ 250 := by unfold blV; omega
theorem seV_bd (i a j b : Int) : 0 ≤ seV i a j b ∧ seV i a j b ≤ 250 := by unfold seV; omega

theorem diff_in {i j : Int} (i0 : 1 ≤ i) (i1 : i ≤ 3) (j0 : 1 ≤ j) (j1 : j ≤ 3) (h : i ≠ j) : (j + 251 - i) % 251 = 1 ∨ (j + 251 - i) % 251 = 2 ∨ (j + 251 - i) % 251 = 3 ∨ (j + 251 - i) % 251 = 249 ∨ (j + 251 - i) % 251 = 250 := by omega

set_option maxRecDepth 10000 in
set_option maxHeartbeats 1000000 in
theorem through_yes (i a j b : Int) (w : World) (ci : cusB i = true) (cj : cusB j = true) (hij : (i == j) = false) (ra : resB a = true) (rb : resB b = true) :
    Calls Try.prog 30 #[.int .i64 i, .int .i64 a, .int .i64 j, .int .i64 b] w fun e w' => e = .returned (.tuple #[.agg #[.int .i64 (seV i a j b), .int .i64 (blV i a j b)], .bool true]) ∧ Below w.heap.size w w' := by
  obtain ⟨i0, i1⟩ := cus_yes ci
  obtain ⟨j0, j1⟩ := cus_yes cj
  obtain ⟨a0, a1⟩ := res_yes ra
  obtain ⟨b0, b1⟩ := res_yes rb
  have hne : i ≠ j := by simpa using hij
  have H1 := Lib.hid (fun W => calc_minus b a W b0 b1 a0 a1)
  have H2 := Lib.hid (fun W => calc_minus j i W (by omega) (by omega) (by omega) (by omega))
  have y := diff_in i0 i1 j0 j1 hne
  have H3 : Hid (∀ W, Calls Try.prog 35 #[.int .i64 3, .int .i64 ((b + 251 - a) % 251), .int .i64 ((j + 251 - i) % 251)] W fun e w' => e = .returned (.int .i64 (blV i a j b)) ∧ Below W.heap.size W w') := fun W => by
    have := calc_over ((b + 251 - a) % 251) ((j + 251 - i) % 251) W (by omega) (by omega) (by omega) (by omega)
    rwa [mulN_inv _ _ (by omega) (by omega) y] at this
  have B := blV_bd i a j b
  have H4 := Lib.hid (fun W => calc_times i (blV i a j b) W (by omega) (by omega) B.1 B.2)
  have H5 : Hid (∀ W, Calls Try.prog 35 #[.int .i64 1, .int .i64 a, .int .i64 (i * blV i a j b % 251)] W fun e w' => e = .returned (.int .i64 (seV i a j b)) ∧ Below W.heap.size W w') := fun W => calc_minus a (i * blV i a j b % 251) W a0 a1 (by omega) (by omega)
  clear y B
  revert H1 H2 H3 H4 H5
  generalize blV i a j b = bl
  generalize seV i a j b = se
  generalize i * bl % 251 = t
  generalize (b + 251 - a) % 251 = x
  generalize (j + 251 - i) % 251 = y
  intro H1 H2 H3 H4 H5
  clear i0 i1 j0 j1 a0 a1 b0 b1
  have T0 : Two (w.alloc (.cells #[.int .i64 0, .int .i64 0] 48)) w.heap.size 0 0 48 := heap_alloc_new _ _
  have HT := Lib.hid T0
  have HB : Hid (Below (w.heap.size + 1) (w.alloc (.cells #[.int .i64 0, .int .i64 0] 48)) (w.alloc (.cells #[.int .i64 0, .int .i64 0] 48))) := Below.refl _ _
  have HZ : Hid (w.heap.size + 1 ≤ (w.alloc (.cells #[.int .i64 0, .int .i64 0] 48)).heap.size) := Lib.hid (by simp)
  have HW : Hid (Below w.heap.size w (w.alloc (.cells #[.int .i64 0, .int .i64 0] 48))) := Lib.hid (by go_grown)
  clear T0
  go_enter Try.func30, Try.ntmps30
  go_wp2_with (first | (go_at_call_of 32 (Value.int .i64 i); refine (isCus_any i _).mono ?_; rintro e w' ⟨rfl, rfl⟩) | (go_at_call_of 32 (Value.int .i64 j); refine (isCus_any j _).mono ?_; rintro e w' ⟨rfl, rfl⟩) | (go_at_call_of 26 (Value.int .i64 a); refine (isRes_any a _).mono ?_; rintro e w' ⟨rfl, rfl⟩) | (go_at_call_of 26 (Value.int .i64 b); refine (isRes_any b _).mono ?_; rintro e w' ⟨rfl, rfl⟩) | (go_at_call_of 35 (Value.int .i64 b); refine (H1.out _).mono ?_; rintro e w1 ⟨rfl, hb⟩; (first | (have HBB := step1 HB HZ hb) | (have HBB := step2 HB HZ hb) | (have HBB := stepD HB HZ hb)); have HB := HBB.1; have HZ := HBB.2; clear HBB hb) | (go_at_call_of 35 (Value.int .i64 j); refine (H2.out _).mono ?_; rintro e w2 ⟨rfl, hb⟩; (first | (have HBB := step1 HB HZ hb) | (have HBB := step2 HB HZ hb) | (have HBB := stepD HB HZ hb)); have HB := HBB.1; have HZ := HBB.2; clear HBB hb) | (go_at_call_of 35 (Value.int .i64 x); refine (H3.out _).mono ?_; rintro e w3 ⟨rfl, hb⟩; (first | (have HBB := step1 HB HZ hb) | (have HBB := step2 HB HZ hb) | (have HBB := stepD HB HZ hb)); have HB := HBB.1; have HZ := HBB.2; clear HBB hb) | (go_at_call_of 35 (Value.int .i64 bl); refine (H4.out _).mono ?_; rintro e w4 ⟨rfl, hb⟩; (first | (have HBB := step1 HB HZ hb) | (have HBB := step2 HB HZ hb) | (have HBB := stepD HB HZ hb)); have HB := HBB.1; have HZ := HBB.2; clear HBB hb) | (go_at_call_of 35 (Value.int .i64 t); refine (H5.out _).mono ?_; rintro e w5 ⟨rfl, hb⟩; (first | (have HBB := step1 HB HZ hb) | (have HBB := step2 HB HZ hb) | (have HBB := stepD HB HZ hb)); have HB := HBB.1; have HZ := HBB.2; clear HBB hb; have g1 : Two w5 w.heap.size 0 0 48 := (HB.out.block _ (by omega)).trans HT.out; have hz := g1.lt; obtain ⟨p0, p1, q0, q1⟩ := g1.cells; have G1 := Lib.hid g1; clear g1))
  have g4 := (G1.out.st0 se).st1 bl
  obtain ⟨r0, r1, _⟩ := g4.cells
  refine bodyPost_ret (v := .tuple #[.agg #[.int .i64 se, .int .i64 bl], .bool true]) (by simp [results, Try.results30, go_sem, r0, r1]) rfl ⟨rfl, ?_⟩
  exact ((HW.out.trans (HB.out.mono (by omega))).setCell (by simp) _).setCell (by simp) _

set_option maxRecDepth 10000 in
theorem through_no (i a j b : Int) (w : World) (h : thB i a j b = false) :
    Calls Try.prog 30 #[.int .i64 i, .int .i64 a, .int .i64 j, .int .i64 b] w fun e w' => e = .returned (.tuple #[.agg #[.int .i64 0, .int .i64 0], .bool false]) ∧ Below w.heap.size w w' := by
  unfold thB at h
  cases ci : cusB i
  · clear h
    go_enter Try.func30, Try.ntmps30
    go_wp2_with (first | (go_at_call_of 32 (Value.int .i64 i); refine (isCus_any i _).mono ?_; rintro e w' ⟨rfl, rfl⟩) | (go_at_call_of 32 (Value.int .i64 j); refine (isCus_any j _).mono ?_; rintro e w' ⟨rfl, rfl⟩) | (go_at_call_of 26 (Value.int .i64 a); refine (isRes_any a _).mono ?_; rintro e w' ⟨rfl, rfl⟩) | (go_at_call_of 26 (Value.int .i64 b); refine (isRes_any b _).mono ?_; rintro e w' ⟨rfl, rfl⟩))
    refine bodyPost_ret (v := .tuple #[.agg #[.int .i64 0, .int .i64 0], .bool false]) (by simp [results, Try.results30, go_sem]) rfl ⟨rfl, ?_⟩
    go_grown
  cases cj : cusB j
  · clear h
    go_enter Try.func30, Try.ntmps30
    go_wp2_with (first | (go_at_call_of 32 (Value.int .i64 i); refine (isCus_any i _).mono ?_; rintro e w' ⟨rfl, rfl⟩) | (go_at_call_of 32 (Value.int .i64 j); refine (isCus_any j _).mono ?_; rintro e w' ⟨rfl, rfl⟩) | (go_at_call_of 26 (Value.int .i64 a); refine (isRes_any a _).mono ?_; rintro e w' ⟨rfl, rfl⟩) | (go_at_call_of 26 (Value.int .i64 b); refine (isRes_any b _).mono ?_; rintro e w' ⟨rfl, rfl⟩))
    refine bodyPost_ret (v := .tuple #[.agg #[.int .i64 0, .int .i64 0], .bool false]) (by simp [results, Try.results30, go_sem]) rfl ⟨rfl, ?_⟩
    go_grown
  by_cases hij : i = j
  · subst hij
    have hii : (i == i) = true := by simp
    clear h cj
    go_enter Try.func30, Try.ntmps30
    go_wp2_with (first | (go_at_call_of 32 (Value.int .i64 i); refine (isCus_any i _).mono ?_; rintro e w' ⟨rfl, rfl⟩) | (go_at_call_of 32 (Value.int .i64 j); refine (isCus_any j _).mono ?_; rintro e w' ⟨rfl, rfl⟩) | (go_at_call_of 26 (Value.int .i64 a); refine (isRes_any a _).mono ?_; rintro e w' ⟨rfl, rfl⟩) | (go_at_call_of 26 (Value.int .i64 b); refine (isRes_any b _).mono ?_; rintro e w' ⟨rfl, rfl⟩))
    refine bodyPost_ret (v := .tuple #[.agg #[.int .i64 0, .int .i64 0], .bool false]) (by simp [results, Try.results30, go_sem]) rfl ⟨rfl, ?_⟩
    go_grown
  have hii : (i == j) = false := by simpa using hij
  cases ra : resB a
  · clear h
    go_enter Try.func30, Try.ntmps30
    go_wp2_with (first | (go_at_call_of 32 (Value.int .i64 i); refine (isCus_any i _).mono ?_; rintro e w' ⟨rfl, rfl⟩) | (go_at_call_of 32 (Value.int .i64 j); refine (isCus_any j _).mono ?_; rintro e w' ⟨rfl, rfl⟩) | (go_at_call_of 26 (Value.int .i64 a); refine (isRes_any a _).mono ?_; rintro e w' ⟨rfl, rfl⟩) | (go_at_call_of 26 (Value.int .i64 b); refine (isRes_any b _).mono ?_; rintro e w' ⟨rfl, rfl⟩))
    refine bodyPost_ret (v := .tuple #[.agg #[.int .i64 0, .int .i64 0], .bool false]) (by simp [results, Try.results30, go_sem]) rfl ⟨rfl, ?_⟩
    go_grown
  cases rb : resB b
  · clear h
    go_enter Try.func30, Try.ntmps30
    go_wp2_with (first | (go_at_call_of 32 (Value.int .i64 i); refine (isCus_any i _).mono ?_; rintro e w' ⟨rfl, rfl⟩) | (go_at_call_of 32 (Value.int .i64 j); refine (isCus_any j _).mono ?_; rintro e w' ⟨rfl, rfl⟩) | (go_at_call_of 26 (Value.int .i64 a); refine (isRes_any a _).mono ?_; rintro e w' ⟨rfl, rfl⟩) | (go_at_call_of 26 (Value.int .i64 b); refine (isRes_any b _).mono ?_; rintro e w' ⟨rfl, rfl⟩))
    refine bodyPost_ret (v := .tuple #[.agg #[.int .i64 0, .int .i64 0], .bool false]) (by simp [results, Try.results30, go_sem]) rfl ⟨rfl, ?_⟩
    go_grown
  rw [ci, cj, hii, ra, rb] at h
  cases h

theorem thB_parts {i a j b : Int} (h : thB i a j b = true) : cusB i = true ∧ cusB j = true ∧ (i == j) = false ∧ resB a = true ∧ resB b = true := by
  unfold thB at h
  simp only [Bool.and_eq_true, Bool.not_eq_true'] at h
  exact ⟨h.1, h.2.1, h.2.2.1, h.2.2.2.1, h.2.2.2.2⟩

theorem through_any (i a j b : Int) (w : World) :
    Calls Try.prog 30 #[.int .i64 i, .int .i64 a, .int .i64 j, .int .i64 b] w fun e w' => e = .returned (.tuple #[.agg #[.int .i64 (thS i a j b), .int .i64 (thX i a j b)], .bool (thB i a j b)]) ∧ Below w.heap.size w w' := by
  cases h : thB i a j b
  · have e1 : thS i a j b = 0 := if_neg (by rw [h]; simp)
    have e2 : thX i a j b = 0 := if_neg (by rw [h]; simp)
    rw [e1, e2]
    exact through_no i a j b w h
  · have e1 : thS i a j b = seV i a j b := if_pos h
    have e2 : thX i a j b = blV i a j b := if_pos h
    rw [e1, e2]
    obtain ⟨p1, p2, p3, p4, p5⟩ := thB_parts h
    exact through_yes i a j b w p1 p2 p3 p4 p5

end Go.Proofs.Ytkagmbmkopdekaa
