/- The law ShareForged, walked. -/
import Derived.Test.YtkagmbmkopdekaaHID
namespace Go.Proofs.Ytkagmbmkopdekaa
open Go.RowKit

theorem joY {i a j b : Int} (i0 : 1 ≤ i) (i1 : i ≤ 3) (j0 : 1 ≤ j) (j1 : j ≤ 3) (h : i ≠ j) (a0 : 0 ≤ a) (a1 : a ≤ 250) (b0 : 0 ≤ b) (b1 : b ≤ 250) (W : World) :
    Calls Try.prog 14 #[.int .i64 i, .int .i64 a, .int .i64 j, .int .i64 b] W fun e w' => e = .returned (.tuple #[.int .i64 (seV i a j b), .bool true]) ∧ Below W.heap.size W w' := by
  have h1 : thB i a j b = true := by
    unfold thB
    rw [cus_mk i0 i1, cus_mk j0 j1, res_mk a0 a1, res_mk b0 b1]
    simpa using h
  have e1 : thS i a j b = seV i a j b := if_pos h1
  have h2 := join_any i a j b W
  rwa [e1, h1] at h2

set_option maxHeartbeats 4000000 in
theorem forge_12 {A N B x : Int} (_A0 : 0 ≤ A) (_A1 : A ≤ 250) (N0 : 0 ≤ N) (N1 : N ≤ 250) (B0 : 0 ≤ B) (B1 : B ≤ 250) (x0 : 0 ≤ x) (x1 : x ≤ 250) :
    (seV 1 A 2 x = seV 1 A 2 B ↔ x = B) ∧ (seV 1 A 2 x = N ↔ x = lineV N (bvV N 1 A) 2) := by
  have e : inv ((2 + 251 - 1) % 251) = 1 := by decide
  have f : inv 1 = 1 := by decide
  unfold seV blV lineV bvV
  rw [e, f]
  constructor <;> omega

set_option maxHeartbeats 4000000 in
theorem forge_13 {A N B x : Int} (_A0 : 0 ≤ A) (_A1 : A ≤ 250) (N0 : 0 ≤ N) (N1 : N ≤ 250) (B0 : 0 ≤ B) (B1 : B ≤ 250) (x0 : 0 ≤ x) (x1 : x ≤ 250) :
    (seV 1 A 3 x = seV 1 A 3 B ↔ x = B) ∧ (seV 1 A 3 x = N ↔ x = lineV N (bvV N 1 A) 3) := by
  have e : inv ((3 + 251 - 1) % 251) = 126 := by decide
  have f : inv 1 = 1 := by decide
  unfold seV blV lineV bvV
  rw [e, f]
  constructor <;> omega

set_option maxHeartbeats 4000000 in
theorem forge_21 {A N B x : Int} (_A0 : 0 ≤ A) (_A1 : A ≤ 250) (N0 : 0 ≤ N) (N1 : N ≤ 250) (B0 : 0 ≤ B) (B1 : B ≤ 250) (x0 : 0 ≤ x) (x1 : x ≤ 250) :
    (seV 2 A 1 x = seV 2 A 1 B ↔ x = B) ∧ (seV 2 A 1 x = N ↔ x = lineV N (bvV N 2 A) 1) := by
  have e : inv ((1 + 251 - 2) % 251) = 250 := by decide
  have f : inv 2 = 126 := by decide
  unfold seV blV lineV bvV
  rw [e, f]
  constructor <;> omega

set_option maxHeartbeats 4000000 in
theorem forge_23 {A N B x : Int} (_A0 : 0 ≤ A) (_A1 : A ≤ 250) (N0 : 0 ≤ N) (N1 : N ≤ 250) (B0 : 0 ≤ B) (B1 : B ≤ 250) (x0 : 0 ≤ x) (x1 : x ≤ 250) :
    (seV 2 A 3 x = seV 2 A 3 B ↔ x = B) ∧ (seV 2 A 3 x = N ↔ x = lineV N (bvV N 2 A) 3) := by
  have e : inv ((3 + 251 - 2) % 251) = 1 := by decide
  have f : inv 2 = 126 := by decide
  unfold seV blV lineV bvV
  rw [e, f]
  constructor <;> omega

set_option maxHeartbeats 4000000 in
theorem forge_31 {A N B x : Int} (_A0 : 0 ≤ A) (_A1 : A ≤ 250) (N0 : 0 ≤ N) (N1 : N ≤ 250) (B0 : 0 ≤ B) (B1 : B ≤ 250) (x0 : 0 ≤ x) (x1 : x ≤ 250) :
    (seV 3 A 1 x = seV 3 A 1 B ↔ x = B) ∧ (seV 3 A 1 x = N ↔ x = lineV N (bvV N 3 A) 1) := by
  have e : inv ((1 + 251 - 3) % 251) = 125 := by decide
  have f : inv 3 = 84 := by decide
  unfold seV blV lineV bvV
  rw [e, f]
  constructor <;> omega

set_option maxHeartbeats 4000000 in
theorem forge_32 {A N B x : Int} (_A0 : 0 ≤ A) (_A1 : A ≤ 250) (N0 : 0 ≤ N) (N1 : N ≤ 250) (B0 : 0 ≤ B) (B1 : B ≤ 250) (x0 : 0 ≤ x) (x1 : x ≤ 250) :
    (seV 3 A 2 x = seV 3 A 2 B ↔ x = B) ∧ (seV 3 A 2 x = N ↔ x = lineV N (bvV N 3 A) 2) := by
  have e : inv ((2 + 251 - 3) % 251) = 250 := by decide
  have f : inv 3 = 84 := by decide
  unfold seV blV lineV bvV
  rw [e, f]
  constructor <;> omega

set_option maxRecDepth 100000 in
set_option maxHeartbeats 2000000 in
theorem forged_00 (i j a b s : Int) (w : World) (i0 : 0 ≤ i) (i1 : i ≤ 255) (j0 : 0 ≤ j) (j1 : j ≤ 255) (a0 : 0 ≤ a) (a1 : a ≤ 255) (b0 : 0 ≤ b) (b1 : b ≤ 255) (s0 : 0 ≤ s) (s1 : s ≤ 255) (hd : i % 3 = 0) (he : j % 2 = 0) :
    Calls Try.prog 8 #[.int .u8 i, .int .u8 j, .int .u8 a, .int .u8 b, .int .u8 s] w fun e w' => e = .returned (.bool true) ∧ Below w.heap.size w w' := by
  have PA := Lib.hid (fun W => part_any a W a0 (by omega))
  have PB := Lib.hid (fun W => part_any b W b0 (by omega))
  have PS := Lib.hid (fun W => part_any s W s0 (by omega))
  have A0 : 0 ≤ a % 251 := by omega
  have A1 : a % 251 ≤ 250 := by omega
  have B0 : 0 ≤ b % 251 := by omega
  have B1 : b % 251 ≤ 250 := by omega
  have N0 : 0 ≤ s % 251 := by omega
  have N1 : s % 251 ≤ 250 := by omega
  revert PA PB PS A0 A1 B0 B1 N0 N1
  generalize a % 251 = A
  generalize b % 251 = B
  generalize s % 251 = N
  intro PA PB PS A0 A1 B0 B1 N0 N1
  have lb := lineV_bd N (bvV N 1 A) 2
  obtain ⟨n, hn⟩ : ∃ n : Nat, lineV N (bvV N 1 A) 2 = n := ⟨(lineV N (bvV N 1 A) 2).toNat, by omega⟩
  have HO := Lib.hid (fun W => joY (i := 1) (j := 2) (by omega) (by omega) (by omega) (by omega) (by omega) A0 A1 B0 B1 W)
  obtain ⟨O, hO⟩ : ∃ O, O = seV 1 A 2 B := ⟨_, rfl⟩
  rw [← hO] at HO
  have HG : Hid (∀ (k : Nat), k ≤ 250 → ∃ (x : Int) (c : Bool), (x == O) = c ∧ ((k : Int) == B) = c ∧ (x == N) = decide (k = n) ∧ ∀ W, Calls Try.prog 14 #[.int .i64 1, .int .i64 A, .int .i64 2, .int .i64 k] W fun e w' => e = .returned (.tuple #[.int .i64 x, .bool true]) ∧ Below W.heap.size W w') := fun k hk => by
    obtain ⟨f1, f2⟩ := forge_12 (x := (k : Int)) A0 A1 N0 N1 B0 B1 (by omega) (by omega)
    refine ⟨_, _, rfl, ?_, ?_, joY (by omega) (by omega) (by omega) (by omega) (by omega) A0 A1 (show 0 ≤ (k : Int) by omega) (by omega)⟩
    · rw [Bool.eq_iff_iff, beq_iff_eq, beq_iff_eq, hO, f1]
    · rw [hn] at f2
      rw [Bool.eq_iff_iff, beq_iff_eq, f2, decide_eq_true_eq]
      omega
  rw [hn] at lb
  have hn1 : n ≤ 250 := by omega
  clear hn lb A0 A1 N0 N1 B0 B1 hO
  have HBW : Hid (Below w.heap.size w w) := Lib.hid (Below.refl _ _)
  go_enter Try.func8, Try.ntmps8
  go_wp2_with (first | (go_at_call 10; refine (sanity_any _).mono ?_; rintro e w1 ⟨rfl, hb⟩; have HBW := Lib.hid (carry HBW hb); clear hb) | (go_at_call_of 20 (Value.int .i64 a); refine (PA.out _).mono ?_; rintro e w' ⟨rfl, rfl⟩) | (go_at_call_of 20 (Value.int .i64 b); refine (PB.out _).mono ?_; rintro e w' ⟨rfl, rfl⟩) | (go_at_call_of 20 (Value.int .i64 s); refine (PS.out _).mono ?_; rintro e w' ⟨rfl, rfl⟩) | (go_at_call 14; refine (HO.out _).mono ?_; rintro e w2 ⟨rfl, hb⟩; have HBW := Lib.hid (carry HBW hb); clear hb))
  go_loopw [17, 18] (fun m kv wr => ∃ k : Nat, k ≤ 251 ∧ kv = .int .i64 k ∧ m = .int .i64 (one n k) ∧ Hid (Below w.heap.size w wr)) (fun _ kv _ => 251 - (intOf kv).toNat)
  case atStart => exact ⟨0, by omega, rfl, rfl, HBW⟩
  case round =>
    obtain ⟨k, hk, rfl, rfl, hb⟩ := hrel
    by_cases hlt : k ≤ 250
    · obtain ⟨x, c, hc1, hc2, hv, hc⟩ := HG.out k hlt
      have HC := Lib.hid hc
      have hk2 : (k : Int) < 251 := by omega
      clear hc
      by_cases hkn : k = n
      · have e1 : one n k = 0 := if_neg (by omega)
        have e2 : one n (k + 1) = 1 := if_pos (by omega)
        have hv2 : (x == N) = true := by rw [hv, decide_eq_true hkn]
        rw [e1]
        have HE2 := Lib.hid e2
        clear e1 e2 hv
        subst hkn
        go_wp2_with (first | (go_at_call_of 20 (Value.int .i64 a); refine (PA.out _).mono ?_; rintro e w' ⟨rfl, rfl⟩) | (go_at_call_of 20 (Value.int .i64 b); refine (PB.out _).mono ?_; rintro e w' ⟨rfl, rfl⟩) | (go_at_call 14; refine (HC.out _).mono ?_; rintro e w3 ⟨rfl, hb3⟩; have HB3 := Lib.hid (carry hb hb3); clear hb3))
        go_roundw
        case rel => exact ⟨k + 1, by omega, by go_num, by rw [HE2.out], HB3.out⟩
        case measure => simp [intOf]; omega
      · have e1 : one n (k + 1) = one n k := by unfold one; by_cases h : n < k <;> simp [h] <;> omega
        have hv2 : (x == N) = false := by rw [hv, decide_eq_false hkn]
        have HE2 := Lib.hid e1
        clear e1 hv
        go_wp2_with (first | (go_at_call_of 20 (Value.int .i64 a); refine (PA.out _).mono ?_; rintro e w' ⟨rfl, rfl⟩) | (go_at_call_of 20 (Value.int .i64 b); refine (PB.out _).mono ?_; rintro e w' ⟨rfl, rfl⟩) | (go_at_call 14; refine (HC.out _).mono ?_; rintro e w3 ⟨rfl, hb3⟩; have HB3 := Lib.hid (carry hb hb3); clear hb3))
        go_roundw
        case rel => exact ⟨k + 1, by omega, by go_num, by rw [HE2.out], HB3.out⟩
        case measure => simp [intOf]; omega
    · have e : k = 251 := by omega
      subst e
      have e1 : one n 251 = 1 := if_pos (by omega)
      rw [e1]
      clear e1
      go_wp2
      go_ret
      exact ⟨rfl, hb.out⟩

set_option maxRecDepth 100000 in
set_option maxHeartbeats 2000000 in
theorem forged_01 (i j a b s : Int) (w : World) (i0 : 0 ≤ i) (i1 : i ≤ 255) (j0 : 0 ≤ j) (j1 : j ≤ 255) (a0 : 0 ≤ a) (a1 : a ≤ 255) (b0 : 0 ≤ b) (b1 : b ≤ 255) (s0 : 0 ≤ s) (s1 : s ≤ 255) (hd : i % 3 = 0) (he : j % 2 = 1) :
    Calls Try.prog 8 #[.int .u8 i, .int .u8 j, .int .u8 a, .int .u8 b, .int .u8 s] w fun e w' => e = .returned (.bool true) ∧ Below w.heap.size w w' := by
  have PA := Lib.hid (fun W => part_any a W a0 (by omega))
  have PB := Lib.hid (fun W => part_any b W b0 (by omega))
  have PS := Lib.hid (fun W => part_any s W s0 (by omega))
  have A0 : 0 ≤ a % 251 := by omega
  have A1 : a % 251 ≤ 250 := by omega
  have B0 : 0 ≤ b % 251 := by omega
  have B1 : b % 251 ≤ 250 := by omega
  have N0 : 0 ≤ s % 251 := by omega
  have N1 : s % 251 ≤ 250 := by omega
  revert PA PB PS A0 A1 B0 B1 N0 N1
  generalize a % 251 = A
  generalize b % 251 = B
  generalize s % 251 = N
  intro PA PB PS A0 A1 B0 B1 N0 N1
  have lb := lineV_bd N (bvV N 1 A) 3
  obtain ⟨n, hn⟩ : ∃ n : Nat, lineV N (bvV N 1 A) 3 = n := ⟨(lineV N (bvV N 1 A) 3).toNat, by omega⟩
  have HO := Lib.hid (fun W => joY (i := 1) (j := 3) (by omega) (by omega) (by omega) (by omega) (by omega) A0 A1 B0 B1 W)
  obtain ⟨O, hO⟩ : ∃ O, O = seV 1 A 3 B := ⟨_, rfl⟩
  rw [← hO] at HO
  have HG : Hid (∀ (k : Nat), k ≤ 250 → ∃ (x : Int) (c : Bool), (x == O) = c ∧ ((k : Int) == B) = c ∧ (x == N) = decide (k = n) ∧ ∀ W, Calls Try.prog 14 #[.int .i64 1, .int .i64 A, .int .i64 3, .int .i64 k] W fun e w' => e = .returned (.tuple #[.int .i64 x, .bool true]) ∧ Below W.heap.size W w') := fun k hk => by
    obtain ⟨f1, f2⟩ := forge_13 (x := (k : Int)) A0 A1 N0 N1 B0 B1 (by omega) (by omega)
    refine ⟨_, _, rfl, ?_, ?_, joY (by omega) (by omega) (by omega) (by omega) (by omega) A0 A1 (show 0 ≤ (k : Int) by omega) (by omega)⟩
    · rw [Bool.eq_iff_iff, beq_iff_eq, beq_iff_eq, hO, f1]
    · rw [hn] at f2
      rw [Bool.eq_iff_iff, beq_iff_eq, f2, decide_eq_true_eq]
      omega
  rw [hn] at lb
  have hn1 : n ≤ 250 := by omega
  clear hn lb A0 A1 N0 N1 B0 B1 hO
  have HBW : Hid (Below w.heap.size w w) := Lib.hid (Below.refl _ _)
  go_enter Try.func8, Try.ntmps8
  go_wp2_with (first | (go_at_call 10; refine (sanity_any _).mono ?_; rintro e w1 ⟨rfl, hb⟩; have HBW := Lib.hid (carry HBW hb); clear hb) | (go_at_call_of 20 (Value.int .i64 a); refine (PA.out _).mono ?_; rintro e w' ⟨rfl, rfl⟩) | (go_at_call_of 20 (Value.int .i64 b); refine (PB.out _).mono ?_; rintro e w' ⟨rfl, rfl⟩) | (go_at_call_of 20 (Value.int .i64 s); refine (PS.out _).mono ?_; rintro e w' ⟨rfl, rfl⟩) | (go_at_call 14; refine (HO.out _).mono ?_; rintro e w2 ⟨rfl, hb⟩; have HBW := Lib.hid (carry HBW hb); clear hb))
  go_loopw [17, 18] (fun m kv wr => ∃ k : Nat, k ≤ 251 ∧ kv = .int .i64 k ∧ m = .int .i64 (one n k) ∧ Hid (Below w.heap.size w wr)) (fun _ kv _ => 251 - (intOf kv).toNat)
  case atStart => exact ⟨0, by omega, rfl, rfl, HBW⟩
  case round =>
    obtain ⟨k, hk, rfl, rfl, hb⟩ := hrel
    by_cases hlt : k ≤ 250
    · obtain ⟨x, c, hc1, hc2, hv, hc⟩ := HG.out k hlt
      have HC := Lib.hid hc
      have hk2 : (k : Int) < 251 := by omega
      clear hc
      by_cases hkn : k = n
      · have e1 : one n k = 0 := if_neg (by omega)
        have e2 : one n (k + 1) = 1 := if_pos (by omega)
        have hv2 : (x == N) = true := by rw [hv, decide_eq_true hkn]
        rw [e1]
        have HE2 := Lib.hid e2
        clear e1 e2 hv
        subst hkn
        go_wp2_with (first | (go_at_call_of 20 (Value.int .i64 a); refine (PA.out _).mono ?_; rintro e w' ⟨rfl, rfl⟩) | (go_at_call_of 20 (Value.int .i64 b); refine (PB.out _).mono ?_; rintro e w' ⟨rfl, rfl⟩) | (go_at_call 14; refine (HC.out _).mono ?_; rintro e w3 ⟨rfl, hb3⟩; have HB3 := Lib.hid (carry hb hb3); clear hb3))
        go_roundw
        case rel => exact ⟨k + 1, by omega, by go_num, by rw [HE2.out], HB3.out⟩
        case measure => simp [intOf]; omega
      · have e1 : one n (k + 1) = one n k := by unfold one; by_cases h : n < k <;> simp [h] <;> omega
        have hv2 : (x == N) = false := by rw [hv, decide_eq_false hkn]
        have HE2 := Lib.hid e1
        clear e1 hv
        go_wp2_with (first | (go_at_call_of 20 (Value.int .i64 a); refine (PA.out _).mono ?_; rintro e w' ⟨rfl, rfl⟩) | (go_at_call_of 20 (Value.int .i64 b); refine (PB.out _).mono ?_; rintro e w' ⟨rfl, rfl⟩) | (go_at_call 14; refine (HC.out _).mono ?_; rintro e w3 ⟨rfl, hb3⟩; have HB3 := Lib.hid (carry hb hb3); clear hb3))
        go_roundw
        case rel => exact ⟨k + 1, by omega, by go_num, by rw [HE2.out], HB3.out⟩
        case measure => simp [intOf]; omega
    · have e : k = 251 := by omega
      subst e
      have e1 : one n 251 = 1 := if_pos (by omega)
      rw [e1]
      clear e1
      go_wp2
      go_ret
      exact ⟨rfl, hb.out⟩

set_option maxRecDepth 100000 in
set_option maxHeartbeats 2000000 in
theorem forged_10 (i j a b s : Int) (w : World) (i0 : 0 ≤ i) (i1 : i ≤ 255) (j0 : 0 ≤ j) (j1 : j ≤ 255) (a0 : 0 ≤ a) (a1 : a ≤ 255) (b0 : 0 ≤ b) (b1 : b ≤ 255) (s0 : 0 ≤ s) (s1 : s ≤ 255) (hd : i % 3 = 1) (he : j % 2 = 0) :
    Calls Try.prog 8 #[.int .u8 i, .int .u8 j, .int .u8 a, .int .u8 b, .int .u8 s] w fun e w' => e = .returned (.bool true) ∧ Below w.heap.size w w' := by
  have PA := Lib.hid (fun W => part_any a W a0 (by omega))
  have PB := Lib.hid (fun W => part_any b W b0 (by omega))
  have PS := Lib.hid (fun W => part_any s W s0 (by omega))
  have A0 : 0 ≤ a % 251 := by omega
  have A1 : a % 251 ≤ 250 := by omega
  have B0 : 0 ≤ b % 251 := by omega
  have B1 : b % 251 ≤ 250 := by omega
  have N0 : 0 ≤ s % 251 := by omega
  have N1 : s % 251 ≤ 250 := by omega
  revert PA PB PS A0 A1 B0 B1 N0 N1
  generalize a % 251 = A
  generalize b % 251 = B
  generalize s % 251 = N
  intro PA PB PS A0 A1 B0 B1 N0 N1
  have lb := lineV_bd N (bvV N 2 A) 3
  obtain ⟨n, hn⟩ : ∃ n : Nat, lineV N (bvV N 2 A) 3 = n := ⟨(lineV N (bvV N 2 A) 3).toNat, by omega⟩
  have HO := Lib.hid (fun W => joY (i := 2) (j := 3) (by omega) (by omega) (by omega) (by omega) (by omega) A0 A1 B0 B1 W)
  obtain ⟨O, hO⟩ : ∃ O, O = seV 2 A 3 B := ⟨_, rfl⟩
  rw [← hO] at HO
  have HG : Hid (∀ (k : Nat), k ≤ 250 → ∃ (x : Int) (c : Bool), (x == O) = c ∧ ((k : Int) == B) = c ∧ (x == N) = decide (k = n) ∧ ∀ W, Calls Try.prog 14 #[.int .i64 2, .int .i64 A, .int .i64 3, .int .i64 k] W fun e w' => e = .returned (.tuple #[.int .i64 x, .bool true]) ∧ Below W.heap.size W w') := fun k hk => by
    obtain ⟨f1, f2⟩ := forge_23 (x := (k : Int)) A0 A1 N0 N1 B0 B1 (by omega) (by omega)
    refine ⟨_, _, rfl, ?_, ?_, joY (by omega) (by omega) (by omega) (by omega) (by omega) A0 A1 (show 0 ≤ (k : Int) by omega) (by omega)⟩
    · rw [Bool.eq_iff_iff, beq_iff_eq, beq_iff_eq, hO, f1]
    · rw [hn] at f2
      rw [Bool.eq_iff_iff, beq_iff_eq, f2, decide_eq_true_eq]
      omega
  rw [hn] at lb
  have hn1 : n ≤ 250 := by omega
  clear hn lb A0 A1 N0 N1 B0 B1 hO
  have HBW : Hid (Below w.heap.size w w) := Lib.hid (Below.refl _ _)
  go_enter Try.func8, Try.ntmps8
  go_wp2_with (first | (go_at_call 10; refine (sanity_any _).mono ?_; rintro e w1 ⟨rfl, hb⟩; have HBW := Lib.hid (carry HBW hb); clear hb) | (go_at_call_of 20 (Value.int .i64 a); refine (PA.out _).mono ?_; rintro e w' ⟨rfl, rfl⟩) | (go_at_call_of 20 (Value.int .i64 b); refine (PB.out _).mono ?_; rintro e w' ⟨rfl, rfl⟩) | (go_at_call_of 20 (Value.int .i64 s); refine (PS.out _).mono ?_; rintro e w' ⟨rfl, rfl⟩) | (go_at_call 14; refine (HO.out _).mono ?_; rintro e w2 ⟨rfl, hb⟩; have HBW := Lib.hid (carry HBW hb); clear hb))
  go_loopw [17, 18] (fun m kv wr => ∃ k : Nat, k ≤ 251 ∧ kv = .int .i64 k ∧ m = .int .i64 (one n k) ∧ Hid (Below w.heap.size w wr)) (fun _ kv _ => 251 - (intOf kv).toNat)
  case atStart => exact ⟨0, by omega, rfl, rfl, HBW⟩
  case round =>
    obtain ⟨k, hk, rfl, rfl, hb⟩ := hrel
    by_cases hlt : k ≤ 250
    · obtain ⟨x, c, hc1, hc2, hv, hc⟩ := HG.out k hlt
      have HC := Lib.hid hc
      have hk2 : (k : Int) < 251 := by omega
      clear hc
      by_cases hkn : k = n
      · have e1 : one n k = 0 := if_neg (by omega)
        have e2 : one n (k + 1) = 1 := if_pos (by omega)
        have hv2 : (x == N) = true := by rw [hv, decide_eq_true hkn]
        rw [e1]
        have HE2 := Lib.hid e2
        clear e1 e2 hv
        subst hkn
        go_wp2_with (first | (go_at_call_of 20 (Value.int .i64 a); refine (PA.out _).mono ?_; rintro e w' ⟨rfl, rfl⟩) | (go_at_call_of 20 (Value.int .i64 b); refine (PB.out _).mono ?_; rintro e w' ⟨rfl, rfl⟩) | (go_at_call 14; refine (HC.out _).mono ?_; rintro e w3 ⟨rfl, hb3⟩; have HB3 := Lib.hid (carry hb hb3); clear hb3))
        go_roundw
        case rel => exact ⟨k + 1, by omega, by go_num, by rw [HE2.out], HB3.out⟩
        case measure => simp [intOf]; omega
      · have e1 : one n (k + 1) = one n k := by unfold one; by_cases h : n < k <;> simp [h] <;> omega
        have hv2 : (x == N) = false := by rw [hv, decide_eq_false hkn]
        have HE2 := Lib.hid e1
        clear e1 hv
        go_wp2_with (first | (go_at_call_of 20 (Value.int .i64 a); refine (PA.out _).mono ?_; rintro e w' ⟨rfl, rfl⟩) | (go_at_call_of 20 (Value.int .i64 b); refine (PB.out _).mono ?_; rintro e w' ⟨rfl, rfl⟩) | (go_at_call 14; refine (HC.out _).mono ?_; rintro e w3 ⟨rfl, hb3⟩; have HB3 := Lib.hid (carry hb hb3); clear hb3))
        go_roundw
        case rel => exact ⟨k + 1, by omega, by go_num, by rw [HE2.out], HB3.out⟩
        case measure => simp [intOf]; omega
    · have e : k = 251 := by omega
      subst e
      have e1 : one n 251 = 1 := if_pos (by omega)
      rw [e1]
      clear e1
      go_wp2
      go_ret
      exact ⟨rfl, hb.out⟩

set_option maxRecDepth 100000 in
set_option maxHeartbeats 2000000 in
theorem forged_11 (i j a b s : Int) (w : World) (i0 : 0 ≤ i) (i1 : i ≤ 255) (j0 : 0 ≤ j) (j1 : j ≤ 255) (a0 : 0 ≤ a) (a1 : a ≤ 255) (b0 : 0 ≤ b) (b1 : b ≤ 255) (s0 : 0 ≤ s) (s1 : s ≤ 255) (hd : i % 3 = 1) (he : j % 2 = 1) :
    Calls Try.prog 8 #[.int .u8 i, .int .u8 j, .int .u8 a, .int .u8 b, .int .u8 s] w fun e w' => e = .returned (.bool true) ∧ Below w.heap.size w w' := by
  have PA := Lib.hid (fun W => part_any a W a0 (by omega))
  have PB := Lib.hid (fun W => part_any b W b0 (by omega))
  have PS := Lib.hid (fun W => part_any s W s0 (by omega))
  have A0 : 0 ≤ a % 251 := by omega
  have A1 : a % 251 ≤ 250 := by omega
  have B0 : 0 ≤ b % 251 := by omega
  have B1 : b % 251 ≤ 250 := by omega
  have N0 : 0 ≤ s % 251 := by omega
  have N1 : s % 251 ≤ 250 := by omega
  revert PA PB PS A0 A1 B0 B1 N0 N1
  generalize a % 251 = A
  generalize b % 251 = B
  generalize s % 251 = N
  intro PA PB PS A0 A1 B0 B1 N0 N1
  have lb := lineV_bd N (bvV N 2 A) 1
  obtain ⟨n, hn⟩ : ∃ n : Nat, lineV N (bvV N 2 A) 1 = n := ⟨(lineV N (bvV N 2 A) 1).toNat, by omega⟩
  have HO := Lib.hid (fun W => joY (i := 2) (j := 1) (by omega) (by omega) (by omega) (by omega) (by omega) A0 A1 B0 B1 W)
  obtain ⟨O, hO⟩ : ∃ O, O = seV 2 A 1 B := ⟨_, rfl⟩
  rw [← hO] at HO
  have HG : Hid (∀ (k : Nat), k ≤ 250 → ∃ (x : Int) (c : Bool), (x == O) = c ∧ ((k : Int) == B) = c ∧ (x == N) = decide (k = n) ∧ ∀ W, Calls Try.prog 14 #[.int .i64 2, .int .i64 A, .int .i64 1, .int .i64 k] W fun e w' => e = .returned (.tuple #[.int .i64 x, .bool true]) ∧ Below W.heap.size W w') := fun k hk => by
    obtain ⟨f1, f2⟩ := forge_21 (x := (k : Int)) A0 A1 N0 N1 B0 B1 (by omega) (by omega)
    refine ⟨_, _, rfl, ?_, ?_, joY (by omega) (by omega) (by omega) (by omega) (by omega) A0 A1 (show 0 ≤ (k : Int) by omega) (by omega)⟩
    · rw [Bool.eq_iff_iff, beq_iff_eq, beq_iff_eq, hO, f1]
    · rw [hn] at f2
      rw [Bool.eq_iff_iff, beq_iff_eq, f2, decide_eq_true_eq]
      omega
  rw [hn] at lb
  have hn1 : n ≤ 250 := by omega
  clear hn lb A0 A1 N0 N1 B0 B1 hO
  have HBW : Hid (Below w.heap.size w w) := Lib.hid (Below.refl _ _)
  go_enter Try.func8, Try.ntmps8
  go_wp2_with (first | (go_at_call 10; refine (sanity_any _).mono ?_; rintro e w1 ⟨rfl, hb⟩; have HBW := Lib.hid (carry HBW hb); clear hb) | (go_at_call_of 20 (Value.int .i64 a); refine (PA.out _).mono ?_; rintro e w' ⟨rfl, rfl⟩) | (go_at_call_of 20 (Value.int .i64 b); refine (PB.out _).mono ?_; rintro e w' ⟨rfl, rfl⟩) | (go_at_call_of 20 (Value.int .i64 s); refine (PS.out _).mono ?_; rintro e w' ⟨rfl, rfl⟩) | (go_at_call 14; refine (HO.out _).mono ?_; rintro e w2 ⟨rfl, hb⟩; have HBW := Lib.hid (carry HBW hb); clear hb))
  go_loopw [17, 18] (fun m kv wr => ∃ k : Nat, k ≤ 251 ∧ kv = .int .i64 k ∧ m = .int .i64 (one n k) ∧ Hid (Below w.heap.size w wr)) (fun _ kv _ => 251 - (intOf kv).toNat)
  case atStart => exact ⟨0, by omega, rfl, rfl, HBW⟩
  case round =>
    obtain ⟨k, hk, rfl, rfl, hb⟩ := hrel
    by_cases hlt : k ≤ 250
    · obtain ⟨x, c, hc1, hc2, hv, hc⟩ := HG.out k hlt
      have HC := Lib.hid hc
      have hk2 : (k : Int) < 251 := by omega
      clear hc
      by_cases hkn : k = n
      · have e1 : one n k = 0 := if_neg (by omega)
        have e2 : one n (k + 1) = 1 := if_pos (by omega)
        have hv2 : (x == N) = true := by rw [hv, decide_eq_true hkn]
        rw [e1]
        have HE2 := Lib.hid e2
        clear e1 e2 hv
        subst hkn
        go_wp2_with (first | (go_at_call_of 20 (Value.int .i64 a); refine (PA.out _).mono ?_; rintro e w' ⟨rfl, rfl⟩) | (go_at_call_of 20 (Value.int .i64 b); refine (PB.out _).mono ?_; rintro e w' ⟨rfl, rfl⟩) | (go_at_call 14; refine (HC.out _).mono ?_; rintro e w3 ⟨rfl, hb3⟩; have HB3 := Lib.hid (carry hb hb3); clear hb3))
        go_roundw
        case rel => exact ⟨k + 1, by omega, by go_num, by rw [HE2.out], HB3.out⟩
        case measure => simp [intOf]; omega
      · have e1 : one n (k + 1) = one n k := by unfold one; by_cases h : n < k <;> simp [h] <;> omega
        have hv2 : (x == N) = false := by rw [hv, decide_eq_false hkn]
        have HE2 := Lib.hid e1
        clear e1 hv
        go_wp2_with (first | (go_at_call_of 20 (Value.int .i64 a); refine (PA.out _).mono ?_; rintro e w' ⟨rfl, rfl⟩) | (go_at_call_of 20 (Value.int .i64 b); refine (PB.out _).mono ?_; rintro e w' ⟨rfl, rfl⟩) | (go_at_call 14; refine (HC.out _).mono ?_; rintro e w3 ⟨rfl, hb3⟩; have HB3 := Lib.hid (carry hb hb3); clear hb3))
        go_roundw
        case rel => exact ⟨k + 1, by omega, by go_num, by rw [HE2.out], HB3.out⟩
        case measure => simp [intOf]; omega
    · have e : k = 251 := by omega
      subst e
      have e1 : one n 251 = 1 := if_pos (by omega)
      rw [e1]
      clear e1
      go_wp2
      go_ret
      exact ⟨rfl, hb.out⟩

set_option maxRecDepth 100000 in
set_option maxHeartbeats 2000000 in
theorem forged_20 (i j a b s : Int) (w : World) (i0 : 0 ≤ i) (i1 : i ≤ 255) (j0 : 0 ≤ j) (j1 : j ≤ 255) (a0 : 0 ≤ a) (a1 : a ≤ 255) (b0 : 0 ≤ b) (b1 : b ≤ 255) (s0 : 0 ≤ s) (s1 : s ≤ 255) (hd : i % 3 = 2) (he : j % 2 = 0) :
    Calls Try.prog 8 #[.int .u8 i, .int .u8 j, .int .u8 a, .int .u8 b, .int .u8 s] w fun e w' => e = .returned (.bool true) ∧ Below w.heap.size w w' := by
  have PA := Lib.hid (fun W => part_any a W a0 (by omega))
  have PB := Lib.hid (fun W => part_any b W b0 (by omega))
  have PS := Lib.hid (fun W => part_any s W s0 (by omega))
  have A0 : 0 ≤ a % 251 := by omega
  have A1 : a % 251 ≤ 250 := by omega
  have B0 : 0 ≤ b % 251 := by omega
  have B1 : b % 251 ≤ 250 := by omega
  have N0 : 0 ≤ s % 251 := by omega
  have N1 : s % 251 ≤ 250 := by omega
  revert PA PB PS A0 A1 B0 B1 N0 N1
  generalize a % 251 = A
  generalize b % 251 = B
  generalize s % 251 = N
  intro PA PB PS A0 A1 B0 B1 N0 N1
  have lb := lineV_bd N (bvV N 3 A) 1
  obtain ⟨n, hn⟩ : ∃ n : Nat, lineV N (bvV N 3 A) 1 = n := ⟨(lineV N (bvV N 3 A) 1).toNat, by omega⟩
  have HO := Lib.hid (fun W => joY (i := 3) (j := 1) (by omega) (by omega) (by omega) (by omega) (by omega) A0 A1 B0 B1 W)
  obtain ⟨O, hO⟩ : ∃ O, O = seV 3 A 1 B := ⟨_, rfl⟩
  rw [← hO] at HO
  have HG : Hid (∀ (k : Nat), k ≤ 250 → ∃ (x : Int) (c : Bool), (x == O) = c ∧ ((k : Int) == B) = c ∧ (x == N) = decide (k = n) ∧ ∀ W, Calls Try.prog 14 #[.int .i64 3, .int .i64 A, .int .i64 1, .int .i64 k] W fun e w' => e = .returned (.tuple #[.int .i64 x, .bool true]) ∧ Below W.heap.size W w') := fun k hk => by
    obtain ⟨f1, f2⟩ := forge_31 (x := (k : Int)) A0 A1 N0 N1 B0 B1 (by omega) (by omega)
    refine ⟨_, _, rfl, ?_, ?_, joY (by omega) (by omega) (by omega) (by omega) (by omega) A0 A1 (show 0 ≤ (k : Int) by omega) (by omega)⟩
    · rw [Bool.eq_iff_iff, beq_iff_eq, beq_iff_eq, hO, f1]
    · rw [hn] at f2
      rw [Bool.eq_iff_iff, beq_iff_eq, f2, decide_eq_true_eq]
      omega
  rw [hn] at lb
  have hn1 : n ≤ 250 := by omega
  clear hn lb A0 A1 N0 N1 B0 B1 hO
  have HBW : Hid (Below w.heap.size w w) := Lib.hid (Below.refl _ _)
  go_enter Try.func8, Try.ntmps8
  go_wp2_with (first | (go_at_call 10; refine (sanity_any _).mono ?_; rintro e w1 ⟨rfl, hb⟩; have HBW := Lib.hid (carry HBW hb); clear hb) | (go_at_call_of 20 (Value.int .i64 a); refine (PA.out _).mono ?_; rintro e w' ⟨rfl, rfl⟩) | (go_at_call_of 20 (Value.int .i64 b); refine (PB.out _).mono ?_; rintro e w' ⟨rfl, rfl⟩) | (go_at_call_of 20 (Value.int .i64 s); refine (PS.out _).mono ?_; rintro e w' ⟨rfl, rfl⟩) | (go_at_call 14; refine (HO.out _).mono ?_; rintro e w2 ⟨rfl, hb⟩; have HBW := Lib.hid (carry HBW hb); clear hb))
  go_loopw [17, 18] (fun m kv wr => ∃ k : Nat, k ≤ 251 ∧ kv = .int .i64 k ∧ m = .int .i64 (one n k) ∧ Hid (Below w.heap.size w wr)) (fun _ kv _ => 251 - (intOf kv).toNat)
  case atStart => exact ⟨0, by omega, rfl, rfl, HBW⟩
  case round =>
    obtain ⟨k, hk, rfl, rfl, hb⟩ := hrel
    by_cases hlt : k ≤ 250
    · obtain ⟨x, c, hc1, hc2, hv, hc⟩ := HG.out k hlt
      have HC := Lib.hid hc
      have hk2 : (k : Int) < 251 := by omega
      clear hc
      by_cases hkn : k = n
      · have e1 : one n k = 0 := if_neg (by omega)
        have e2 : one n (k + 1) = 1 := if_pos (by omega)
        have hv2 : (x == N) = true := by rw [hv, decide_eq_true hkn]
        rw [e1]
        have HE2 := Lib.hid e2
        clear e1 e2 hv
        subst hkn
        go_wp2_with (first | (go_at_call_of 20 (Value.int .i64 a); refine (PA.out _).mono ?_; rintro e w' ⟨rfl, rfl⟩) | (go_at_call_of 20 (Value.int .i64 b); refine (PB.out _).mono ?_; rintro e w' ⟨rfl, rfl⟩) | (go_at_call 14; refine (HC.out _).mono ?_; rintro e w3 ⟨rfl, hb3⟩; have HB3 := Lib.hid (carry hb hb3); clear hb3))
        go_roundw
        case rel => exact ⟨k + 1, by omega, by go_num, by rw [HE2.out], HB3.out⟩
        case measure => simp [intOf]; omega
      · have e1 : one n (k + 1) = one n k := by unfold one; by_cases h : n < k <;> simp [h] <;> omega
        have hv2 : (x == N) = false := by rw [hv, decide_eq_false hkn]
        have HE2 := Lib.hid e1
        clear e1 hv
        go_wp2_with (first | (go_at_call_of 20 (Value.int .i64 a); refine (PA.out _).mono ?_; rintro e w' ⟨rfl, rfl⟩) | (go_at_call_of 20 (Value.int .i64 b); refine (PB.out _).mono ?_; rintro e w' ⟨rfl, rfl⟩) | (go_at_call 14; refine (HC.out _).mono ?_; rintro e w3 ⟨rfl, hb3⟩; have HB3 := Lib.hid (carry hb hb3); clear hb3))
        go_roundw
        case rel => exact ⟨k + 1, by omega, by go_num, by rw [HE2.out], HB3.out⟩
        case measure => simp [intOf]; omega
    · have e : k = 251 := by omega
      subst e
      have e1 : one n 251 = 1 := if_pos (by omega)
      rw [e1]
      clear e1
      go_wp2
      go_ret
      exact ⟨rfl, hb.out⟩

set_option maxRecDepth 100000 in
set_option maxHeartbeats 2000000 in
theorem forged_21 (i j a b s : Int) (w : World) (i0 : 0 ≤ i) (i1 : i ≤ 255) (j0 : 0 ≤ j) (j1 : j ≤ 255) (a0 : 0 ≤ a) (a1 : a ≤ 255) (b0 : 0 ≤ b) (b1 : b ≤ 255) (s0 : 0 ≤ s) (s1 : s ≤ 255) (hd : i % 3 = 2) (he : j % 2 = 1) :
    Calls Try.prog 8 #[.int .u8 i, .int .u8 j, .int .u8 a, .int .u8 b, .int .u8 s] w fun e w' => e = .returned (.bool true) ∧ Below w.heap.size w w' := by
  have PA := Lib.hid (fun W => part_any a W a0 (by omega))
  have PB := Lib.hid (fun W => part_any b W b0 (by omega))
  have PS := Lib.hid (fun W => part_any s W s0 (by omega))
  have A0 : 0 ≤ a % 251 := by omega
  have A1 : a % 251 ≤ 250 := by omega
  have B0 : 0 ≤ b % 251 := by omega
  have B1 : b % 251 ≤ 250 := by omega
  have N0 : 0 ≤ s % 251 := by omega
  have N1 : s % 251 ≤ 250 := by omega
  revert PA PB PS A0 A1 B0 B1 N0 N1
  generalize a % 251 = A
  generalize b % 251 = B
  generalize s % 251 = N
  intro PA PB PS A0 A1 B0 B1 N0 N1
  have lb := lineV_bd N (bvV N 3 A) 2
  obtain ⟨n, hn⟩ : ∃ n : Nat, lineV N (bvV N 3 A) 2 = n := ⟨(lineV N (bvV N 3 A) 2).toNat, by omega⟩
  have HO := Lib.hid (fun W => joY (i := 3) (j := 2) (by omega) (by omega) (by omega) (by omega) (by omega) A0 A1 B0 B1 W)
  obtain ⟨O, hO⟩ : ∃ O, O = seV 3 A 2 B := ⟨_, rfl⟩
  rw [← hO] at HO
  have HG : Hid (∀ (k : Nat), k ≤ 250 → ∃ (x : Int) (c : Bool), (x == O) = c ∧ ((k : Int) == B) = c ∧ (x == N) = decide (k = n) ∧ ∀ W, Calls Try.prog 14 #[.int .i64 3, .int .i64 A, .int .i64 2, .int .i64 k] W fun e w' => e = .returned (.tuple #[.int .i64 x, .bool true]) ∧ Below W.heap.size W w') := fun k hk => by
    obtain ⟨f1, f2⟩ := forge_32 (x := (k : Int)) A0 A1 N0 N1 B0 B1 (by omega) (by omega)
    refine ⟨_, _, rfl, ?_, ?_, joY (by omega) (by omega) (by omega) (by omega) (by omega) A0 A1 (show 0 ≤ (k : Int) by omega) (by omega)⟩
    · rw [Bool.eq_iff_iff, beq_iff_eq, beq_iff_eq, hO, f1]
    · rw [hn] at f2
      rw [Bool.eq_iff_iff, beq_iff_eq, f2, decide_eq_true_eq]
      omega
  rw [hn] at lb
  have hn1 : n ≤ 250 := by omega
  clear hn lb A0 A1 N0 N1 B0 B1 hO
  have HBW : Hid (Below w.heap.size w w) := Lib.hid (Below.refl _ _)
  go_enter Try.func8, Try.ntmps8
  go_wp2_with (first | (go_at_call 10; refine (sanity_any _).mono ?_; rintro e w1 ⟨rfl, hb⟩; have HBW := Lib.hid (carry HBW hb); clear hb) | (go_at_call_of 20 (Value.int .i64 a); refine (PA.out _).mono ?_; rintro e w' ⟨rfl, rfl⟩) | (go_at_call_of 20 (Value.int .i64 b); refine (PB.out _).mono ?_; rintro e w' ⟨rfl, rfl⟩) | (go_at_call_of 20 (Value.int .i64 s); refine (PS.out _).mono ?_; rintro e w' ⟨rfl, rfl⟩) | (go_at_call 14; refine (HO.out _).mono ?_; rintro e w2 ⟨rfl, hb⟩; have HBW := Lib.hid (carry HBW hb); clear hb))
  go_loopw [17, 18] (fun m kv wr => ∃ k : Nat, k ≤ 251 ∧ kv = .int .i64 k ∧ m = .int .i64 (one n k) ∧ Hid (Below w.heap.size w wr)) (fun _ kv _ => 251 - (intOf kv).toNat)
  case atStart => exact ⟨0, by omega, rfl, rfl, HBW⟩
  case round =>
    obtain ⟨k, hk, rfl, rfl, hb⟩ := hrel
    by_cases hlt : k ≤ 250
    · obtain ⟨x, c, hc1, hc2, hv, hc⟩ := HG.out k hlt
      have HC := Lib.hid hc
      have hk2 : (k : Int) < 251 := by omega
      clear hc
      by_cases hkn : k = n
      · have e1 : one n k = 0 := if_neg (by omega)
        have e2 : one n (k + 1) = 1 := if_pos (by omega)
        have hv2 : (x == N) = true := by rw [hv, decide_eq_true hkn]
        rw [e1]
        have HE2 := Lib.hid e2
        clear e1 e2 hv
        subst hkn
        go_wp2_with (first | (go_at_call_of 20 (Value.int .i64 a); refine (PA.out _).mono ?_; rintro e w' ⟨rfl, rfl⟩) | (go_at_call_of 20 (Value.int .i64 b); refine (PB.out _).mono ?_; rintro e w' ⟨rfl, rfl⟩) | (go_at_call 14; refine (HC.out _).mono ?_; rintro e w3 ⟨rfl, hb3⟩; have HB3 := Lib.hid (carry hb hb3); clear hb3))
        go_roundw
        case rel => exact ⟨k + 1, by omega, by go_num, by rw [HE2.out], HB3.out⟩
        case measure => simp [intOf]; omega
      · have e1 : one n (k + 1) = one n k := by unfold one; by_cases h : n < k <;> simp [h] <;> omega
        have hv2 : (x == N) = false := by rw [hv, decide_eq_false hkn]
        have HE2 := Lib.hid e1
        clear e1 hv
        go_wp2_with (first | (go_at_call_of 20 (Value.int .i64 a); refine (PA.out _).mono ?_; rintro e w' ⟨rfl, rfl⟩) | (go_at_call_of 20 (Value.int .i64 b); refine (PB.out _).mono ?_; rintro e w' ⟨rfl, rfl⟩) | (go_at_call 14; refine (HC.out _).mono ?_; rintro e w3 ⟨rfl, hb3⟩; have HB3 := Lib.hid (carry hb hb3); clear hb3))
        go_roundw
        case rel => exact ⟨k + 1, by omega, by go_num, by rw [HE2.out], HB3.out⟩
        case measure => simp [intOf]; omega
    · have e : k = 251 := by omega
      subst e
      have e1 : one n 251 = 1 := if_pos (by omega)
      rw [e1]
      clear e1
      go_wp2
      go_ret
      exact ⟨rfl, hb.out⟩

theorem forged_any (i j a b s : Int) (w : World) (i0 : 0 ≤ i) (i1 : i ≤ 255) (j0 : 0 ≤ j) (j1 : j ≤ 255) (a0 : 0 ≤ a) (a1 : a ≤ 255) (b0 : 0 ≤ b) (b1 : b ≤ 255) (s0 : 0 ≤ s) (s1 : s ≤ 255) :
    Calls Try.prog 8 #[.int .u8 i, .int .u8 j, .int .u8 a, .int .u8 b, .int .u8 s] w fun e w' => e = .returned (.bool true) ∧ Below w.heap.size w w' := by
  have h : i % 3 = 0 ∨ i % 3 = 1 ∨ i % 3 = 2 := by omega
  have g : j % 2 = 0 ∨ j % 2 = 1 := by omega
  rcases h with h | h | h <;> rcases g with g | g
  · exact forged_00 i j a b s w i0 i1 j0 j1 a0 a1 b0 b1 s0 s1 h g
  · exact forged_01 i j a b s w i0 i1 j0 j1 a0 a1 b0 b1 s0 s1 h g
  · exact forged_10 i j a b s w i0 i1 j0 j1 a0 a1 b0 b1 s0 s1 h g
  · exact forged_11 i j a b s w i0 i1 j0 j1 a0 a1 b0 b1 s0 s1 h g
  · exact forged_20 i j a b s w i0 i1 j0 j1 a0 a1 b0 b1 s0 s1 h g
  · exact forged_21 i j a b s w i0 i1 j0 j1 a0 a1 b0 b1 s0 s1 h g

end Go.Proofs.Ytkagmbmkopdekaa
