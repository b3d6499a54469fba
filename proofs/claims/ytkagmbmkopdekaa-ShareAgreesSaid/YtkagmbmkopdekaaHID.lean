/- The law ShareHides, walked. -/
import Derived.Test.YtkagmbmkopdekaaP
namespace Go.Proofs.Ytkagmbmkopdekaa
open Go.RowKit

theorem spY {s b : Int} (s0 : 0 ≤ s) (s1 : s ≤ 250) (b0 : 0 ≤ b) (b1 : b ≤ 250) (W : World) : Calls Try.prog 12 #[.int .i64 s, .int .i64 b] W fun e w' => e = .returned (.tuple #[.agg #[.int .i64 (lineV s b 1), .int .i64 (lineV s b 2), .int .i64 (lineV s b 3)], .bool true]) ∧ Below W.heap.size W w' := by
  have h := split_any s b W
  obtain ⟨q1, q2⟩ := spV_of s0 s1 b0 b1
  rwa [q1, q2, q2, q2] at h

def one (n k : Nat) : Int := if n < k then 1 else 0

set_option maxRecDepth 100000 in
set_option maxHeartbeats 2000000 in
theorem hides_0 (i v s : Int) (w : World) (i0 : 0 ≤ i) (i1 : i ≤ 255) (v0 : 0 ≤ v) (v1 : v ≤ 255) (s0 : 0 ≤ s) (s1 : s ≤ 255) (hd : i % 3 = 0) :
    Calls Try.prog 6 #[.int .u8 i, .int .u8 v, .int .u8 s] w fun e w' => e = .returned (.bool true) ∧ Below w.heap.size w w' := by
  have PV := Lib.hid (fun W => part_any v W v0 (by omega))
  have PS := Lib.hid (fun W => part_any s W s0 (by omega))
  have A0 : 0 ≤ v % 251 := by omega
  have A1 : v % 251 ≤ 250 := by omega
  have N0 : 0 ≤ s % 251 := by omega
  have N1 : s % 251 ≤ 250 := by omega
  revert PV PS A0 A1 N0 N1
  generalize v % 251 = A
  generalize s % 251 = N
  intro PV PS A0 A1 N0 N1
  obtain ⟨l0, l1⟩ := bvV_bd N 1 A
  obtain ⟨n, hn⟩ : ∃ n : Nat, bvV N 1 A = n := ⟨(bvV N 1 A).toNat, by omega⟩
  have HB : Hid (∀ W, Calls Try.prog 18 #[.int .i64 N, .int .i64 1, .int .i64 A] W fun e w' => e = .returned (.tuple #[.int .i64 n, .bool true]) ∧ Below W.heap.size W w') := fun W => by
    have h := blind_any N 1 A W
    have h1 : bdB N 1 A = true := by unfold bdB; rw [res_mk N0 N1, res_mk A0 A1]; decide
    have e1 : bdV N 1 A = n := (if_pos h1).trans hn
    rwa [e1, h1] at h
  have HG : Hid (∀ (k : Nat), k ≤ 250 → ∃ x y z : Int, ((x : Int) == A) = decide (k = n) ∧ ∀ W, Calls Try.prog 12 #[.int .i64 N, .int .i64 k] W fun e w' => e = .returned (.tuple #[.agg #[.int .i64 x, .int .i64 y, .int .i64 z], .bool true]) ∧ Below W.heap.size W w') := fun k hk => by
    refine ⟨_, _, _, ?_, spY N0 N1 (show 0 ≤ (k : Int) by omega) (by omega)⟩
    have h := blind_at (i := 1) (k := (k : Int)) (by omega) (by omega) N0 N1 A0 A1 (by omega) (by omega)
    rw [hn] at h
    rw [Bool.eq_iff_iff, beq_iff_eq, h, decide_eq_true_eq]
    omega
  rw [hn] at l1
  have hn1 : n ≤ 250 := by omega
  clear hn l0 l1 A0 A1 N0 N1
  have HBW : Hid (Below w.heap.size w w) := Lib.hid (Below.refl _ _)
  go_enter Try.func6, Try.ntmps6
  go_wp2_with (first | (go_at_call 10; refine (sanity_any _).mono ?_; rintro e w1 ⟨rfl, hb⟩; have HBW := Lib.hid (carry HBW hb); clear hb) | (go_at_call_of 20 (Value.int .i64 v); refine (PV.out _).mono ?_; rintro e w' ⟨rfl, rfl⟩) | (go_at_call_of 20 (Value.int .i64 s); refine (PS.out _).mono ?_; rintro e w' ⟨rfl, rfl⟩) | (go_at_call 18; refine (HB.out _).mono ?_; rintro e w2 ⟨rfl, hb⟩; have HBW := Lib.hid (carry HBW hb); clear hb))
  go_loopw [13, 14] (fun m kv wr => ∃ k : Nat, k ≤ 251 ∧ kv = .int .i64 k ∧ m = .int .i64 (one n k) ∧ Hid (Below w.heap.size w wr)) (fun _ kv _ => 251 - (intOf kv).toNat)
  case atStart => exact ⟨0, by omega, rfl, rfl, HBW⟩
  case round =>
    obtain ⟨k, hk, rfl, rfl, hb⟩ := hrel
    by_cases hlt : k ≤ 250
    · obtain ⟨x, y, z, hv, hc⟩ := HG.out k hlt
      have HC := Lib.hid hc
      have hk2 : (k : Int) < 251 := by omega
      clear hc
      by_cases hkn : k = n
      · have e1 : one n k = 0 := if_neg (by omega)
        have e2 : one n (k + 1) = 1 := if_pos (by omega)
        have hv2 : ((x : Int) == A) = true := by rw [hv, decide_eq_true hkn]
        rw [e1]
        have HE2 := Lib.hid e2
        clear e1 e2 hv
        subst hkn
        have hkk : ((k : Int) == (k : Int)) = true := by simp
        go_wp2_with (go_at_call 12; refine (HC.out _).mono ?_; rintro e w3 ⟨rfl, hb3⟩; have HB3 := Lib.hid (carry hb hb3); clear hb3)
        go_roundw
        case rel => exact ⟨k + 1, by omega, by go_num, by rw [HE2.out], HB3.out.alloc HB3.out.size _⟩
        case measure => simp [intOf]; omega
      · have e1 : one n (k + 1) = one n k := by unfold one; by_cases h : n < k <;> simp [h] <;> omega
        have hv2 : ((x : Int) == A) = false := by rw [hv, decide_eq_false hkn]
        have HE2 := Lib.hid e1
        clear e1 hv
        have hkk : ((k : Int) == (n : Int)) = false := by simp; omega
        have o0 : 0 ≤ one n k := by unfold one; split <;> omega
        have o1 : one n k ≤ 1 := by unfold one; split <;> omega
        go_wp2_with (go_at_call 12; refine (HC.out _).mono ?_; rintro e w3 ⟨rfl, hb3⟩; have HB3 := Lib.hid (carry hb hb3); clear hb3)
        go_roundw
        case rel => exact ⟨k + 1, by omega, by go_num, by rw [HE2.out], HB3.out.alloc HB3.out.size _⟩
        case measure => simp [intOf]; omega
    · have e : k = 251 := by omega
      subst e
      have e1 : one n 251 = 1 := if_pos (by omega)
      rw [e1]
      clear e1
      go_wp2
      go_ret
      exact ⟨rfl, hb.out⟩

set_option maxRecDepth 100000 in
set_option maxHeartbeats 2000000 in
theorem hides_1 (i v s : Int) (w : World) (i0 : 0 ≤ i) (i1 : i ≤ 255) (v0 : 0 ≤ v) (v1 : v ≤ 255) (s0 : 0 ≤ s) (s1 : s ≤ 255) (hd : i % 3 = 1) :
    Calls Try.prog 6 #[.int .u8 i, .int .u8 v, .int .u8 s] w fun e w' => e = .returned (.bool true) ∧ Below w.heap.size w w' := by
  have PV := Lib.hid (fun W => part_any v W v0 (by omega))
  have PS := Lib.hid (fun W => part_any s W s0 (by omega))
  have A0 : 0 ≤ v % 251 := by omega
  have A1 : v % 251 ≤ 250 := by omega
  have N0 : 0 ≤ s % 251 := by omega
  have N1 : s % 251 ≤ 250 := by omega
  revert PV PS A0 A1 N0 N1
  generalize v % 251 = A
  generalize s % 251 = N
  intro PV PS A0 A1 N0 N1
  obtain ⟨l0, l1⟩ := bvV_bd N 2 A
  obtain ⟨n, hn⟩ : ∃ n : Nat, bvV N 2 A = n := ⟨(bvV N 2 A).toNat, by omega⟩
  have HB : Hid (∀ W, Calls Try.prog 18 #[.int .i64 N, .int .i64 2, .int .i64 A] W fun e w' => e = .returned (.tuple #[.int .i64 n, .bool true]) ∧ Below W.heap.size W w') := fun W => by
    have h := blind_any N 2 A W
    have h1 : bdB N 2 A = true := by unfold bdB; rw [res_mk N0 N1, res_mk A0 A1]; decide
    have e1 : bdV N 2 A = n := (if_pos h1).trans hn
    rwa [e1, h1] at h
  have HG : Hid (∀ (k : Nat), k ≤ 250 → ∃ x y z : Int, ((y : Int) == A) = decide (k = n) ∧ ∀ W, Calls Try.prog 12 #[.int .i64 N, .int .i64 k] W fun e w' => e = .returned (.tuple #[.agg #[.int .i64 x, .int .i64 y, .int .i64 z], .bool true]) ∧ Below W.heap.size W w') := fun k hk => by
    refine ⟨_, _, _, ?_, spY N0 N1 (show 0 ≤ (k : Int) by omega) (by omega)⟩
    have h := blind_at (i := 2) (k := (k : Int)) (by omega) (by omega) N0 N1 A0 A1 (by omega) (by omega)
    rw [hn] at h
    rw [Bool.eq_iff_iff, beq_iff_eq, h, decide_eq_true_eq]
    omega
  rw [hn] at l1
  have hn1 : n ≤ 250 := by omega
  clear hn l0 l1 A0 A1 N0 N1
  have HBW : Hid (Below w.heap.size w w) := Lib.hid (Below.refl _ _)
  go_enter Try.func6, Try.ntmps6
  go_wp2_with (first | (go_at_call 10; refine (sanity_any _).mono ?_; rintro e w1 ⟨rfl, hb⟩; have HBW := Lib.hid (carry HBW hb); clear hb) | (go_at_call_of 20 (Value.int .i64 v); refine (PV.out _).mono ?_; rintro e w' ⟨rfl, rfl⟩) | (go_at_call_of 20 (Value.int .i64 s); refine (PS.out _).mono ?_; rintro e w' ⟨rfl, rfl⟩) | (go_at_call 18; refine (HB.out _).mono ?_; rintro e w2 ⟨rfl, hb⟩; have HBW := Lib.hid (carry HBW hb); clear hb))
  go_loopw [13, 14] (fun m kv wr => ∃ k : Nat, k ≤ 251 ∧ kv = .int .i64 k ∧ m = .int .i64 (one n k) ∧ Hid (Below w.heap.size w wr)) (fun _ kv _ => 251 - (intOf kv).toNat)
  case atStart => exact ⟨0, by omega, rfl, rfl, HBW⟩
  case round =>
    obtain ⟨k, hk, rfl, rfl, hb⟩ := hrel
    by_cases hlt : k ≤ 250
    · obtain ⟨x, y, z, hv, hc⟩ := HG.out k hlt
      have HC := Lib.hid hc
      have hk2 : (k : Int) < 251 := by omega
      clear hc
      by_cases hkn : k = n
      · have e1 : one n k = 0 := if_neg (by omega)
        have e2 : one n (k + 1) = 1 := if_pos (by omega)
        have hv2 : ((y : Int) == A) = true := by rw [hv, decide_eq_true hkn]
        rw [e1]
        have HE2 := Lib.hid e2
        clear e1 e2 hv
        subst hkn
        have hkk : ((k : Int) == (k : Int)) = true := by simp
        go_wp2_with (go_at_call 12; refine (HC.out _).mono ?_; rintro e w3 ⟨rfl, hb3⟩; have HB3 := Lib.hid (carry hb hb3); clear hb3)
        go_roundw
        case rel => exact ⟨k + 1, by omega, by go_num, by rw [HE2.out], HB3.out.alloc HB3.out.size _⟩
        case measure => simp [intOf]; omega
      · have e1 : one n (k + 1) = one n k := by unfold one; by_cases h : n < k <;> simp [h] <;> omega
        have hv2 : ((y : Int) == A) = false := by rw [hv, decide_eq_false hkn]
        have HE2 := Lib.hid e1
        clear e1 hv
        have hkk : ((k : Int) == (n : Int)) = false := by simp; omega
        have o0 : 0 ≤ one n k := by unfold one; split <;> omega
        have o1 : one n k ≤ 1 := by unfold one; split <;> omega
        go_wp2_with (go_at_call 12; refine (HC.out _).mono ?_; rintro e w3 ⟨rfl, hb3⟩; have HB3 := Lib.hid (carry hb hb3); clear hb3)
        go_roundw
        case rel => exact ⟨k + 1, by omega, by go_num, by rw [HE2.out], HB3.out.alloc HB3.out.size _⟩
        case measure => simp [intOf]; omega
    · have e : k = 251 := by omega
      subst e
      have e1 : one n 251 = 1 := if_pos (by omega)
      rw [e1]
      clear e1
      go_wp2
      go_ret
      exact ⟨rfl, hb.out⟩

set_option maxRecDepth 100000 in
set_option maxHeartbeats 2000000 in
theorem hides_2 (i v s : Int) (w : World) (i0 : 0 ≤ i) (i1 : i ≤ 255) (v0 : 0 ≤ v) (v1 : v ≤ 255) (s0 : 0 ≤ s) (s1 : s ≤ 255) (hd : i % 3 = 2) :
    Calls Try.prog 6 #[.int .u8 i, .int .u8 v, .int .u8 s] w fun e w' => e = .returned (.bool true) ∧ Below w.heap.size w w' := by
  have PV := Lib.hid (fun W => part_any v W v0 (by omega))
  have PS := Lib.hid (fun W => part_any s W s0 (by omega))
  have A0 : 0 ≤ v % 251 := by omega
  have A1 : v % 251 ≤ 250 := by omega
  have N0 : 0 ≤ s % 251 := by omega
  have N1 : s % 251 ≤ 250 := by omega
  revert PV PS A0 A1 N0 N1
  generalize v % 251 = A
  generalize s % 251 = N
  intro PV PS A0 A1 N0 N1
  obtain ⟨l0, l1⟩ := bvV_bd N 3 A
  obtain ⟨n, hn⟩ : ∃ n : Nat, bvV N 3 A = n := ⟨(bvV N 3 A).toNat, by omega⟩
  have HB : Hid (∀ W, Calls Try.prog 18 #[.int .i64 N, .int .i64 3, .int .i64 A] W fun e w' => e = .returned (.tuple #[.int .i64 n, .bool true]) ∧ Below W.heap.size W w') := fun W => by
    have h := blind_any N 3 A W
    have h1 : bdB N 3 A = true := by unfold bdB; rw [res_mk N0 N1, res_mk A0 A1]; decide
    have e1 : bdV N 3 A = n := (if_pos h1).trans hn
    rwa [e1, h1] at h
  have HG : Hid (∀ (k : Nat), k ≤ 250 → ∃ x y z : Int, ((z : Int) == A) = decide (k = n) ∧ ∀ W, Calls Try.prog 12 #[.int .i64 N, .int .i64 k] W fun e w' => e = .returned (.tuple #[.agg #[.int .i64 x, .int .i64 y, .int .i64 z], .bool true]) ∧ Below W.heap.size W w') := fun k hk => by
    refine ⟨_, _, _, ?_, spY N0 N1 (show 0 ≤ (k : Int) by omega) (by omega)⟩
    have h := blind_at (i := 3) (k := (k : Int)) (by omega) (by omega) N0 N1 A0 A1 (by omega) (by omega)
    rw [hn] at h
    rw [Bool.eq_iff_iff, beq_iff_eq, h, decide_eq_true_eq]
    omega
  rw [hn] at l1
  have hn1 : n ≤ 250 := by omega
  clear hn l0 l1 A0 A1 N0 N1
  have HBW : Hid (Below w.heap.size w w) := Lib.hid (Below.refl _ _)
  go_enter Try.func6, Try.ntmps6
  go_wp2_with (first | (go_at_call 10; refine (sanity_any _).mono ?_; rintro e w1 ⟨rfl, hb⟩; have HBW := Lib.hid (carry HBW hb); clear hb) | (go_at_call_of 20 (Value.int .i64 v); refine (PV.out _).mono ?_; rintro e w' ⟨rfl, rfl⟩) | (go_at_call_of 20 (Value.int .i64 s); refine (PS.out _).mono ?_; rintro e w' ⟨rfl, rfl⟩) | (go_at_call 18; refine (HB.out _).mono ?_; rintro e w2 ⟨rfl, hb⟩; have HBW := Lib.hid (carry HBW hb); clear hb))
  go_loopw [13, 14] (fun m kv wr => ∃ k : Nat, k ≤ 251 ∧ kv = .int .i64 k ∧ m = .int .i64 (one n k) ∧ Hid (Below w.heap.size w wr)) (fun _ kv _ => 251 - (intOf kv).toNat)
  case atStart => exact ⟨0, by omega, rfl, rfl, HBW⟩
  case round =>
    obtain ⟨k, hk, rfl, rfl, hb⟩ := hrel
    by_cases hlt : k ≤ 250
    · obtain ⟨x, y, z, hv, hc⟩ := HG.out k hlt
      have HC := Lib.hid hc
      have hk2 : (k : Int) < 251 := by omega
      clear hc
      by_cases hkn : k = n
      · have e1 : one n k = 0 := if_neg (by omega)
        have e2 : one n (k + 1) = 1 := if_pos (by omega)
        have hv2 : ((z : Int) == A) = true := by rw [hv, decide_eq_true hkn]
        rw [e1]
        have HE2 := Lib.hid e2
        clear e1 e2 hv
        subst hkn
        have hkk : ((k : Int) == (k : Int)) = true := by simp
        go_wp2_with (go_at_call 12; refine (HC.out _).mono ?_; rintro e w3 ⟨rfl, hb3⟩; have HB3 := Lib.hid (carry hb hb3); clear hb3)
        go_roundw
        case rel => exact ⟨k + 1, by omega, by go_num, by rw [HE2.out], HB3.out.alloc HB3.out.size _⟩
        case measure => simp [intOf]; omega
      · have e1 : one n (k + 1) = one n k := by unfold one; by_cases h : n < k <;> simp [h] <;> omega
        have hv2 : ((z : Int) == A) = false := by rw [hv, decide_eq_false hkn]
        have HE2 := Lib.hid e1
        clear e1 hv
        have hkk : ((k : Int) == (n : Int)) = false := by simp; omega
        have o0 : 0 ≤ one n k := by unfold one; split <;> omega
        have o1 : one n k ≤ 1 := by unfold one; split <;> omega
        go_wp2_with (go_at_call 12; refine (HC.out _).mono ?_; rintro e w3 ⟨rfl, hb3⟩; have HB3 := Lib.hid (carry hb hb3); clear hb3)
        go_roundw
        case rel => exact ⟨k + 1, by omega, by go_num, by rw [HE2.out], HB3.out.alloc HB3.out.size _⟩
        case measure => simp [intOf]; omega
    · have e : k = 251 := by omega
      subst e
      have e1 : one n 251 = 1 := if_pos (by omega)
      rw [e1]
      clear e1
      go_wp2
      go_ret
      exact ⟨rfl, hb.out⟩

theorem hides_any (i v s : Int) (w : World) (i0 : 0 ≤ i) (i1 : i ≤ 255) (v0 : 0 ≤ v) (v1 : v ≤ 255) (s0 : 0 ≤ s) (s1 : s ≤ 255) :
    Calls Try.prog 6 #[.int .u8 i, .int .u8 v, .int .u8 s] w fun e w' => e = .returned (.bool true) ∧ Below w.heap.size w w' := by
  have h : i % 3 = 0 ∨ i % 3 = 1 ∨ i % 3 = 2 := by omega
  rcases h with h | h | h
  · exact hides_0 i v s w i0 i1 v0 v1 s0 s1 h
  · exact hides_1 i v s w i0 i1 v0 v1 s0 s1 h
  · exact hides_2 i v s w i0 i1 v0 v1 s0 s1 h

end Go.Proofs.Ytkagmbmkopdekaa
