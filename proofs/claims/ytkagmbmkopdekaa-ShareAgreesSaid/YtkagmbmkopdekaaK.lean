/- Contracts of the reference: Split, through, Join, Third, Blind. -/
import Derived.Test.YtkagmbmkopdekaaR
namespace Go.Proofs.Ytkagmbmkopdekaa
open Go.RowKit

set_option maxRecDepth 10000 in
theorem rSplit_any (s b : Int) (w : World) :
    Calls Try.prog 13 #[.int .i64 s, .int .i64 b] w fun e w' => e = .returned (.tuple #[.agg #[.int .i64 (spV s b 1), .int .i64 (spV s b 2), .int .i64 (spV s b 3)], .bool (spB s b)]) ∧ Below w.heap.size w w' := by
  by_cases hs : resB s = true
  · by_cases hb : resB b = true
    · have h : spB s b = true := by unfold spB; rw [hs, hb]; rfl
      have e1 : ∀ k, spV s b k = lineV s b k := fun k => if_pos h
      rw [h, e1, e1, e1]
      have H1 := Lib.hid (fun W => rLine_any s b 1 W (res_yes hs).1 (res_yes hs).2 (res_yes hb).1 (res_yes hb).2 (by omega) (by omega))
      have H2 := Lib.hid (fun W => rLine_any s b 2 W (res_yes hs).1 (res_yes hs).2 (res_yes hb).1 (res_yes hb).2 (by omega) (by omega))
      have H3 := Lib.hid (fun W => rLine_any s b 3 W (res_yes hs).1 (res_yes hs).2 (res_yes hb).1 (res_yes hb).2 (by omega) (by omega))
      clear h e1
      revert H1 H2 H3
      generalize lineV s b 1 = x
      generalize lineV s b 2 = y
      generalize lineV s b 3 = z
      intro H1 H2 H3
      go_enter Try.func13, Try.ntmps13
      go_wp2_with (first | (go_at_call_of 28 (Value.int .i64 s); refine (rRes_any s _).mono ?_; rintro e w' ⟨rfl, rfl⟩) | (go_at_call_of 28 (Value.int .i64 b); refine (rRes_any b _).mono ?_; rintro e w' ⟨rfl, rfl⟩) | (go_at_call_of 29 (Value.int .i64 1); refine (H1.out _).mono ?_; rintro e w' ⟨rfl, rfl⟩) | (go_at_call_of 29 (Value.int .i64 2); refine (H2.out _).mono ?_; rintro e w' ⟨rfl, rfl⟩) | (go_at_call_of 29 (Value.int .i64 3); refine (H3.out _).mono ?_; rintro e w' ⟨rfl, rfl⟩))
      refine bodyPost_ret (v := .tuple #[.agg #[.int .i64 x, .int .i64 y, .int .i64 z], .bool true]) (by simp [results, Try.results13, go_sem]) rfl ⟨rfl, ?_⟩
      go_grown
    · have hb' : resB b = false := by simpa using hb
      have h : spB s b = false := by unfold spB; rw [hs, hb']; rfl
      have e1 : ∀ k, spV s b k = 0 := fun k => if_neg (by rw [h]; simp)
      rw [h, e1, e1, e1]
      clear h e1 hb
      go_enter Try.func13, Try.ntmps13
      go_wp2_with (first | (go_at_call_of 28 (Value.int .i64 s); refine (rRes_any s _).mono ?_; rintro e w' ⟨rfl, rfl⟩) | (go_at_call_of 28 (Value.int .i64 b); refine (rRes_any b _).mono ?_; rintro e w' ⟨rfl, rfl⟩))
      refine bodyPost_ret (v := .tuple #[.agg #[.int .i64 0, .int .i64 0, .int .i64 0], .bool false]) (by simp [results, Try.results13, go_sem]) rfl ⟨rfl, ?_⟩
      go_grown
  · have hs' : resB s = false := by simpa using hs
    have h : spB s b = false := by unfold spB; rw [hs']; rfl
    have e1 : ∀ k, spV s b k = 0 := fun k => if_neg (by rw [h]; simp)
    rw [h, e1, e1, e1]
    clear h e1 hs
    go_enter Try.func13, Try.ntmps13
    go_wp2_with (first | (go_at_call_of 28 (Value.int .i64 s); refine (rRes_any s _).mono ?_; rintro e w' ⟨rfl, rfl⟩))
    refine bodyPost_ret (v := .tuple #[.agg #[.int .i64 0, .int .i64 0, .int .i64 0], .bool false]) (by simp [results, Try.results13, go_sem]) rfl ⟨rfl, ?_⟩
    go_grown

set_option maxRecDepth 10000 in
set_option maxHeartbeats 1000000 in
theorem rThrough_yes (i a j b : Int) (w : World) (ci : cusB i = true) (cj : cusB j = true) (hij : (i == j) = false) (ra : resB a = true) (rb : resB b = true) :
    Calls Try.prog 31 #[.int .i64 i, .int .i64 a, .int .i64 j, .int .i64 b] w fun e w' => e = .returned (.tuple #[.int .i64 (seV i a j b), .int .i64 (blV i a j b), .bool true]) ∧ w = w' := by
  obtain ⟨i0, i1⟩ := cus_yes ci
  obtain ⟨j0, j1⟩ := cus_yes cj
  obtain ⟨a0, a1⟩ := res_yes ra
  obtain ⟨b0, b1⟩ := res_yes rb
  have hne : i ≠ j := by simpa using hij
  obtain ⟨l0, l1⟩ := blV_bd i a j b
  obtain ⟨n, hn⟩ : ∃ n : Nat, blV i a j b = n := ⟨(blV i a j b).toNat, by omega⟩
  have HF : Hid (∀ (k : Nat), k ≤ 250 → ∀ W, Calls Try.prog 29 #[.int .i64 (tryS i a k), .int .i64 k, .int .i64 i] W fun e w' => e = .returned (.int .i64 a) ∧ W = w') := fun k hk W => by
    have h := rLine_any (tryS i a k) k i W (tryS_bd i a k).1 (tryS_bd i a k).2 (by omega) (by omega) i0 i1
    rwa [try_first a0 a1] at h
  have HG : Hid (∀ (k : Nat), k ≤ 250 → ∃ v : Int, (v == b) = decide (k = n) ∧ ∀ W, Calls Try.prog 29 #[.int .i64 (tryS i a k), .int .i64 k, .int .i64 j] W fun e w' => e = .returned (.int .i64 v) ∧ W = w') := fun k hk => by
    refine ⟨lineV (tryS i a k) k j, ?_, fun W => rLine_any (tryS i a k) k j W (tryS_bd i a k).1 (tryS_bd i a k).2 (by omega) (by omega) j0 j1⟩
    have h := try_second (k := (k : Int)) i0 i1 j0 j1 hne a0 a1 b0 b1 (by omega) (by omega)
    rw [hn] at h
    rw [Bool.eq_iff_iff, beq_iff_eq, h, decide_eq_true_eq]
    omega
  have HT : Hid (tryS i a n = seV i a j b) := Lib.hid (by rw [← hn]; exact try_sec i a j b)
  rw [hn] at l1 ⊢
  have hn1 : n ≤ 250 := by omega
  clear hn l0 l1 b0 b1
  revert HT
  generalize seV i a j b = S
  intro HT
  go_enter Try.func31, Try.ntmps31
  go_wp2_with (first | (go_at_call_of 34 (Value.int .i64 i); refine (rCus_any i _).mono ?_; rintro e w' ⟨rfl, rfl⟩) | (go_at_call_of 34 (Value.int .i64 j); refine (rCus_any j _).mono ?_; rintro e w' ⟨rfl, rfl⟩) | (go_at_call_of 28 (Value.int .i64 a); refine (rRes_any a _).mono ?_; rintro e w' ⟨rfl, rfl⟩) | (go_at_call_of 28 (Value.int .i64 b); refine (rRes_any b _).mono ?_; rintro e w' ⟨rfl, rfl⟩))
  go_loop [11] (fun kv => ∃ k : Nat, k ≤ n ∧ kv = .int .i64 k) (fun kv => 251 - (intOf kv).toNat)
  case atStart => exact ⟨0, by omega, rfl⟩
  case round =>
    obtain ⟨k, hk, rfl⟩ := hrel
    have m0 : 0 ≤ i * (k : Int) := Int.mul_nonneg (by omega) (by omega)
    have m1 : i * (k : Int) ≤ 750 := by
      have := Int.mul_le_mul i1 (show (k : Int) ≤ 250 by omega) (by omega) (by omega)
      omega
    have HR : Hid ((a + 753 - i * (k : Int)) % 251 = tryS i a k) := Lib.hid rfl
    have HX := HF.out k (by omega)
    obtain ⟨v, hv, HY⟩ := HG.out k (by omega)
    have HXX := Lib.hid HX
    have HYY := Lib.hid HY
    clear HX HY
    have hk2 : (k : Int) < 251 := by omega
    have haa : (a == a) = true := by simp
    by_cases hlt : k < n
    · have hv2 : (v == b) = false := by rw [hv, decide_eq_false (by omega)]
      clear hv
      go_wp2_with (first | (go_at_call_of 29 (Value.int .i64 i); rw [HR.out]; refine (HXX.out _).mono ?_; rintro e w' ⟨rfl, rfl⟩) | (go_at_call_of 29 (Value.int .i64 j); rw [HR.out]; refine (HYY.out _).mono ?_; rintro e w' ⟨rfl, rfl⟩))
      go_round
      case rel => exact ⟨k + 1, by omega, by go_num⟩
      case measure => simp [intOf]; omega
    · have e : k = n := by omega
      subst e
      have hv2 : (v == b) = true := by rw [hv, decide_eq_true rfl]
      clear hv
      rw [HT.out] at HR HXX HYY
      go_wp2_with (first | (go_at_call_of 29 (Value.int .i64 i); rw [HR.out]; refine (HXX.out _).mono ?_; rintro e w' ⟨rfl, rfl⟩) | (go_at_call_of 29 (Value.int .i64 j); rw [HR.out]; refine (HYY.out _).mono ?_; rintro e w' ⟨rfl, rfl⟩))
      go_ret3
      exact ⟨rfl, rfl⟩

end Go.Proofs.Ytkagmbmkopdekaa
