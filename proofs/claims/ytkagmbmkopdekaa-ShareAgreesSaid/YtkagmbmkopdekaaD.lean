/- Contracts: isCustodian, the reference's tests and its line, near, part, is; share, shares. -/
import Derived.Test.YtkagmbmkopdekaaC
namespace Go.Proofs.Ytkagmbmkopdekaa
open Go.RowKit

theorem step1 {B : Nat} {w W W' : World} (h : Hid (Below B w W)) (hB : Hid (B ≤ W.heap.size)) (hb : Below W.heap.size W W') : Hid (Below B w W') ∧ Hid (B ≤ W'.heap.size) := ⟨h.out.trans (hb.mono hB.out), Nat.le_trans hB.out hb.size⟩
theorem step2 {B : Nat} {w W W' : World} {o : Obj} (h : Hid (Below B w W)) (hB : Hid (B ≤ W.heap.size)) (hb : Below (W.alloc o).heap.size (W.alloc o) W') : Hid (Below B w W') ∧ Hid (B ≤ W'.heap.size) :=
  step1 h hB (((Below.refl W.heap.size W).alloc (Nat.le_refl _) o).trans (hb.mono (by simp)))
theorem stepD {B : Nat} {w W W' : World} (h : Hid (Below B w W)) (hB : Hid (B ≤ W.heap.size)) (hb : Below W.drew.heap.size W.drew W') : Hid (Below B w W') ∧ Hid (B ≤ W'.heap.size) :=
  step1 h hB ((show Below W.heap.size W W.drew from ⟨rfl, rfl, rfl, Nat.le_refl _, fun _ _ => rfl⟩).trans hb)

theorem isCus_any (n : Int) (w : World) : Calls Try.prog 32 #[.int .i64 n] w fun e w' => e = .returned (.bool (cusB n)) ∧ w = w' := by
  by_cases h0 : 1 ≤ n
  · by_cases h1 : n ≤ 3
    · have hr : cusB n = true := decide_eq_true ⟨h0, h1⟩
      rw [hr]; clear hr
      go_enter Try.func32, Try.ntmps32
      go_wp2
      go_ret
      exact ⟨by simp [h0, h1], rfl⟩
    · have hr : cusB n = false := decide_eq_false (fun h => h1 h.2)
      rw [hr]; clear hr
      go_enter Try.func32, Try.ntmps32
      go_wp2
      go_ret
      exact ⟨by simp [h0, h1], rfl⟩
  · have hr : cusB n = false := decide_eq_false (fun h => h0 h.1)
    rw [hr]; clear hr
    go_enter Try.func32, Try.ntmps32
    go_wp2
    go_ret
    exact ⟨by simp [h0], rfl⟩

theorem rRes_any (n : Int) (w : World) : Calls Try.prog 28 #[.int .i64 n] w fun e w' => e = .returned (.bool (resB n)) ∧ w = w' := by
  by_cases h0 : 0 ≤ n
  · by_cases h1 : n < 251
    · have hr : resB n = true := decide_eq_true ⟨h0, h1⟩
      rw [hr]; clear hr
      go_enter Try.func28, Try.ntmps28
      go_wp2
      go_ret
      exact ⟨by simp [h0, h1], rfl⟩
    · have hr : resB n = false := decide_eq_false (fun h => h1 h.2)
      rw [hr]; clear hr
      go_enter Try.func28, Try.ntmps28
      go_wp2
      go_ret
      exact ⟨by simp [h0, h1], rfl⟩
  · have hr : resB n = false := decide_eq_false (fun h => h0 h.1)
    rw [hr]; clear hr
    go_enter Try.func28, Try.ntmps28
    go_wp2
    go_ret
    exact ⟨by simp [h0], rfl⟩

theorem rCus_any (n : Int) (w : World) : Calls Try.prog 34 #[.int .i64 n] w fun e w' => e = .returned (.bool (cusB n)) ∧ w = w' := by
  by_cases h0 : 1 ≤ n
  · by_cases h1 : n ≤ 3
    · have hr : cusB n = true := decide_eq_true ⟨h0, h1⟩
      rw [hr]; clear hr
      go_enter Try.func34, Try.ntmps34
      go_wp2
      go_ret
      exact ⟨by simp [h0, h1], rfl⟩
    · have hr : cusB n = false := decide_eq_false (fun h => h1 h.2)
      rw [hr]; clear hr
      go_enter Try.func34, Try.ntmps34
      go_wp2
      go_ret
      exact ⟨by simp [h0, h1], rfl⟩
  · have hr : cusB n = false := decide_eq_false (fun h => h0 h.1)
    rw [hr]; clear hr
    go_enter Try.func34, Try.ntmps34
    go_wp2
    go_ret
    exact ⟨by simp [h0], rfl⟩

/-- The share of a custodian. -/
def lineV (s b k : Int) : Int := (s + k * b % 251) % 251

theorem lineV_bd (s b k : Int) : 0 ≤ lineV s b k ∧ lineV s b k ≤ 250 := by unfold lineV; omega

theorem rLine_any (s b k : Int) (w : World) (s0 : 0 ≤ s) (s1 : s ≤ 250) (b0 : 0 ≤ b) (b1 : b ≤ 250) (k0 : 1 ≤ k) (k1 : k ≤ 3) :
    Calls Try.prog 29 #[.int .i64 s, .int .i64 b, .int .i64 k] w fun e w' => e = .returned (.int .i64 (lineV s b k)) ∧ w = w' := by
  have e : lineV s b k = (s + k * b) % 251 := by unfold lineV; omega
  have p0 : 0 ≤ k * b := Int.mul_nonneg (by omega) b0
  have p1 : k * b ≤ 750 := by
    have := Int.mul_le_mul k1 b1 b0 (by omega)
    omega
  rw [e]
  clear e
  go_enter Try.func29, Try.ntmps29
  go_wp2
  go_ret
  exact ⟨rfl, rfl⟩

set_option maxRecDepth 10000 in
theorem share_any (s b k : Int) (w : World) (s0 : 0 ≤ s) (s1 : s ≤ 250) (b0 : 0 ≤ b) (b1 : b ≤ 250) (k0 : 1 ≤ k) (k1 : k ≤ 3) :
    Calls Try.prog 33 #[.agg #[.int .i64 s, .int .i64 b], .int .i64 k] w fun e w' => e = .returned (.int .i64 (lineV s b k)) ∧ Below w.heap.size w w' := by
  have HT := Lib.hid (fun W => calc_times k b W (by omega) (by omega) b0 b1)
  have m0 : 0 ≤ k * b % 251 := by omega
  have m1 : k * b % 251 ≤ 250 := by omega
  have HP := Lib.hid (fun W => calc_plus s (k * b % 251) W s0 s1 m0 m1)
  have hR : lineV s b k = (s + k * b % 251) % 251 := rfl
  rw [← hR] at HP
  clear hR
  obtain ⟨R, hR⟩ : ∃ R : Int, R = lineV s b k := ⟨_, rfl⟩
  rw [← hR] at HP ⊢
  clear hR
  revert HT HP m0 m1
  generalize k * b % 251 = m
  intro HT m0 m1 HP
  have HB : Hid (Below (w.heap.size + 1) (w.alloc (.cells #[.int .i64 s, .int .i64 b] 48)) (w.alloc (.cells #[.int .i64 s, .int .i64 b] 48))) := Below.refl _ _
  have HZ : Hid (w.heap.size + 1 ≤ (w.alloc (.cells #[.int .i64 s, .int .i64 b] 48)).heap.size) := Lib.hid (by simp)
  have HW : Hid (Below w.heap.size w (w.alloc (.cells #[.int .i64 s, .int .i64 b] 48))) := Lib.hid (by go_grown)
  have HKP : Hid (∀ w', Below (w.heap.size + 1) (w.alloc (.cells #[.int .i64 s, .int .i64 b] 48)) w' → w'.cell? ⟨w.heap.size, 0, none⟩ = some (.int .i64 s) ∧ w'.cell? ⟨w.heap.size, 1, none⟩ = some (.int .i64 b)) := fun w' hb' => by
    have q1 := heap_alloc_new w (.cells #[.int .i64 s, .int .i64 b] 48)
    have r1 := (hb'.block _ (by omega)).trans q1
    refine ⟨?_, ?_⟩
    · rw [cell_of_row _ _ _ _ _ _ r1]; rfl
    · rw [cell_of_row _ _ _ _ _ _ r1]; rfl
  go_enter Try.func33, Try.ntmps33
  go_wp2
  obtain ⟨g0, g1⟩ := HKP.out _ HB.out
  go_region_held3 (fun w' => w'.cell? ⟨w.heap.size, 0, none⟩ = some (.int .i64 s) ∧ w'.cell? ⟨w.heap.size, 1, none⟩ = some (.int .i64 b))
    (first | (with_reducible exact HKP.out _ HB.out) | (exact HKP.out _ HB.out.drew))
    ((first | (go_at_call_of 35 (Value.int .i64 k); refine (HT.out _).mono ?_; rintro e wa ⟨rfl, hb⟩; (first | (have HBB := step1 HB HZ hb) | (have HBB := step2 HB HZ hb) | (have HBB := stepD HB HZ hb)); have HB := HBB.1; have HZ := HBB.2; clear HBB hb) | (go_at_call_of 35 (Value.int .i64 s); refine (HP.out _).mono ?_; rintro e wb ⟨rfl, hb⟩; (first | (have HBB := step1 HB HZ hb) | (have HBB := step2 HB HZ hb) | (have HBB := stepD HB HZ hb)); have HB := HBB.1; have HZ := HBB.2; clear HBB hb)))
  go_wp2
  go_ret
  exact ⟨rfl, HW.out.trans (HB.out.mono (by omega))⟩

end Go.Proofs.Ytkagmbmkopdekaa
