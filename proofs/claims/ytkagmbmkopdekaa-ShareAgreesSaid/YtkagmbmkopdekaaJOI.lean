/- The law ShareJoins, walked. -/
import Derived.Test.YtkagmbmkopdekaaFOR
namespace Go.Proofs.Ytkagmbmkopdekaa
open Go.RowKit

theorem tdY {i a j b k : Int} (i0 : 1 ≤ i) (i1 : i ≤ 3) (j0 : 1 ≤ j) (j1 : j ≤ 3) (k0 : 1 ≤ k) (k1 : k ≤ 3) (h : i ≠ j) (hi : k ≠ i) (hj : k ≠ j) (a0 : 0 ≤ a) (a1 : a ≤ 250) (b0 : 0 ≤ b) (b1 : b ≤ 250) (W : World) :
    Calls Try.prog 16 #[.int .i64 i, .int .i64 a, .int .i64 j, .int .i64 b, .int .i64 k] W fun e w' => e = .returned (.tuple #[.int .i64 (lineV (seV i a j b) (blV i a j b) k), .bool true]) ∧ Below W.heap.size W w' := by
  have h1 : thB i a j b = true := by
    unfold thB
    rw [cus_mk i0 i1, cus_mk j0 j1, res_mk a0 a1, res_mk b0 b1]
    simpa using h
  have h2 : tdB i a j b k = true := by
    unfold tdB
    rw [h1, cus_mk k0 k1]
    simp [hi, hj]
  have e1 : tdV i a j b k = lineV (seV i a j b) (blV i a j b) k := if_pos h2
  have h3 := third_any i a j b k W
  rwa [e1, h2] at h3

set_option maxHeartbeats 4000000 in
theorem back_12 {n b : Int} (n0 : 0 ≤ n) (n1 : n ≤ 250) (b0 : 0 ≤ b) (b1 : b ≤ 250) :
    seV 1 (lineV n b 1) 2 (lineV n b 2) = n ∧ blV 1 (lineV n b 1) 2 (lineV n b 2) = b := by
  have e : inv ((2 + 251 - 1) % 251) = 1 := by decide
  have h : blV 1 (lineV n b 1) 2 (lineV n b 2) = b := by
    unfold blV lineV
    rw [e]
    omega
  refine ⟨?_, h⟩
  unfold seV
  rw [h]
  unfold lineV
  omega

set_option maxHeartbeats 4000000 in
theorem back_13 {n b : Int} (n0 : 0 ≤ n) (n1 : n ≤ 250) (b0 : 0 ≤ b) (b1 : b ≤ 250) :
    seV 1 (lineV n b 1) 3 (lineV n b 3) = n ∧ blV 1 (lineV n b 1) 3 (lineV n b 3) = b := by
  have e : inv ((3 + 251 - 1) % 251) = 126 := by decide
  have h : blV 1 (lineV n b 1) 3 (lineV n b 3) = b := by
    unfold blV lineV
    rw [e]
    omega
  refine ⟨?_, h⟩
  unfold seV
  rw [h]
  unfold lineV
  omega

set_option maxHeartbeats 4000000 in
theorem back_21 {n b : Int} (n0 : 0 ≤ n) (n1 : n ≤ 250) (b0 : 0 ≤ b) (b1 : b ≤ 250) :
    seV 2 (lineV n b 2) 1 (lineV n b 1) = n ∧ blV 2 (lineV n b 2) 1 (lineV n b 1) = b := by
  have e : inv ((1 + 251 - 2) % 251) = 250 := by decide
  have h : blV 2 (lineV n b 2) 1 (lineV n b 1) = b := by
    unfold blV lineV
    rw [e]
    omega
  refine ⟨?_, h⟩
  unfold seV
  rw [h]
  unfold lineV
  omega

set_option maxHeartbeats 4000000 in
theorem back_23 {n b : Int} (n0 : 0 ≤ n) (n1 : n ≤ 250) (b0 : 0 ≤ b) (b1 : b ≤ 250) :
    seV 2 (lineV n b 2) 3 (lineV n b 3) = n ∧ blV 2 (lineV n b 2) 3 (lineV n b 3) = b := by
  have e : inv ((3 + 251 - 2) % 251) = 1 := by decide
  have h : blV 2 (lineV n b 2) 3 (lineV n b 3) = b := by
    unfold blV lineV
    rw [e]
    omega
  refine ⟨?_, h⟩
  unfold seV
  rw [h]
  unfold lineV
  omega

set_option maxHeartbeats 4000000 in
theorem back_31 {n b : Int} (n0 : 0 ≤ n) (n1 : n ≤ 250) (b0 : 0 ≤ b) (b1 : b ≤ 250) :
    seV 3 (lineV n b 3) 1 (lineV n b 1) = n ∧ blV 3 (lineV n b 3) 1 (lineV n b 1) = b := by
  have e : inv ((1 + 251 - 3) % 251) = 125 := by decide
  have h : blV 3 (lineV n b 3) 1 (lineV n b 1) = b := by
    unfold blV lineV
    rw [e]
    omega
  refine ⟨?_, h⟩
  unfold seV
  rw [h]
  unfold lineV
  omega

set_option maxHeartbeats 4000000 in
theorem back_32 {n b : Int} (n0 : 0 ≤ n) (n1 : n ≤ 250) (b0 : 0 ≤ b) (b1 : b ≤ 250) :
    seV 3 (lineV n b 3) 2 (lineV n b 2) = n ∧ blV 3 (lineV n b 3) 2 (lineV n b 2) = b := by
  have e : inv ((2 + 251 - 3) % 251) = 250 := by decide
  have h : blV 3 (lineV n b 3) 2 (lineV n b 2) = b := by
    unfold blV lineV
    rw [e]
    omega
  refine ⟨?_, h⟩
  unfold seV
  rw [h]
  unfold lineV
  omega

theorem agY {n b : Int} (n0 : 0 ≤ n) (n1 : n ≤ 250) (b0 : 0 ≤ b) (b1 : b ≤ 250) (W : World) :
    Calls Try.prog 21 #[.agg #[.int .i64 (lineV n b 1), .int .i64 (lineV n b 2), .int .i64 (lineV n b 3)]] W fun e w' => e = .returned (.bool true) ∧ Below W.heap.size W w' := by
  have h := agree_any (lineV n b 1) (lineV n b 2) (lineV n b 3) W
  have h1 : agB (lineV n b 1) (lineV n b 2) (lineV n b 3) = true := by
    unfold agB
    rw [(back_12 n0 n1 b0 b1).1, (back_12 n0 n1 b0 b1).2]
    have h2 : thB 1 (lineV n b 1) 2 (lineV n b 2) = true := by
      unfold thB
      rw [res_mk (lineV_bd n b 1).1 (lineV_bd n b 1).2, res_mk (lineV_bd n b 2).1 (lineV_bd n b 2).2]
      decide
    rw [h2]
    simp
  rwa [h1] at h

set_option maxRecDepth 100000 in
set_option maxHeartbeats 4000000 in
theorem joins_any (s t : Int) (w : World) (s0 : 0 ≤ s) (s1 : s ≤ 255) (t0 : 0 ≤ t) (t1 : t ≤ 255) :
    Calls Try.prog 5 #[.int .u8 s, .int .u8 t] w fun e w' => e = .returned (.bool true) ∧ Below w.heap.size w w' := by
  have PS := Lib.hid (fun W => part_any s W s0 (by omega))
  have PT := Lib.hid (fun W => part_any t W t0 (by omega))
  have N0 : 0 ≤ s % 251 := by omega
  have N1 : s % 251 ≤ 250 := by omega
  have B0 : 0 ≤ t % 251 := by omega
  have B1 : t % 251 ≤ 250 := by omega
  revert PS PT N0 N1 B0 B1
  generalize s % 251 = N
  generalize t % 251 = B
  intro PS PT N0 N1 B0 B1
  have HS := Lib.hid (fun W => spY N0 N1 B0 B1 W)
  have HA := Lib.hid (fun W => agY N0 N1 B0 B1 W)
  have J12 : Hid (∀ W, Calls Try.prog 14 #[.int .i64 1, .int .i64 (lineV N B 1), .int .i64 2, .int .i64 (lineV N B 2)] W fun e w' => e = .returned (.tuple #[.int .i64 N, .bool true]) ∧ Below W.heap.size W w') := fun W => by
    have h := joY (i := 1) (j := 2) (by omega) (by omega) (by omega) (by omega) (by omega) (lineV_bd N B 1).1 (lineV_bd N B 1).2 (lineV_bd N B 2).1 (lineV_bd N B 2).2 W
    rwa [(back_12 N0 N1 B0 B1).1] at h
  have T12 : Hid (∀ W, Calls Try.prog 16 #[.int .i64 1, .int .i64 (lineV N B 1), .int .i64 2, .int .i64 (lineV N B 2), .int .i64 3] W fun e w' => e = .returned (.tuple #[.int .i64 (lineV N B 3), .bool true]) ∧ Below W.heap.size W w') := fun W => by
    have h := tdY (i := 1) (j := 2) (k := 3) (by omega) (by omega) (by omega) (by omega) (by omega) (by omega) (by omega) (by omega) (by omega) (lineV_bd N B 1).1 (lineV_bd N B 1).2 (lineV_bd N B 2).1 (lineV_bd N B 2).2 W
    rwa [(back_12 N0 N1 B0 B1).1, (back_12 N0 N1 B0 B1).2] at h
  have J13 : Hid (∀ W, Calls Try.prog 14 #[.int .i64 1, .int .i64 (lineV N B 1), .int .i64 3, .int .i64 (lineV N B 3)] W fun e w' => e = .returned (.tuple #[.int .i64 N, .bool true]) ∧ Below W.heap.size W w') := fun W => by
    have h := joY (i := 1) (j := 3) (by omega) (by omega) (by omega) (by omega) (by omega) (lineV_bd N B 1).1 (lineV_bd N B 1).2 (lineV_bd N B 3).1 (lineV_bd N B 3).2 W
    rwa [(back_13 N0 N1 B0 B1).1] at h
  have T13 : Hid (∀ W, Calls Try.prog 16 #[.int .i64 1, .int .i64 (lineV N B 1), .int .i64 3, .int .i64 (lineV N B 3), .int .i64 2] W fun e w' => e = .returned (.tuple #[.int .i64 (lineV N B 2), .bool true]) ∧ Below W.heap.size W w') := fun W => by
    have h := tdY (i := 1) (j := 3) (k := 2) (by omega) (by omega) (by omega) (by omega) (by omega) (by omega) (by omega) (by omega) (by omega) (lineV_bd N B 1).1 (lineV_bd N B 1).2 (lineV_bd N B 3).1 (lineV_bd N B 3).2 W
    rwa [(back_13 N0 N1 B0 B1).1, (back_13 N0 N1 B0 B1).2] at h
  have J21 : Hid (∀ W, Calls Try.prog 14 #[.int .i64 2, .int .i64 (lineV N B 2), .int .i64 1, .int .i64 (lineV N B 1)] W fun e w' => e = .returned (.tuple #[.int .i64 N, .bool true]) ∧ Below W.heap.size W w') := fun W => by
    have h := joY (i := 2) (j := 1) (by omega) (by omega) (by omega) (by omega) (by omega) (lineV_bd N B 2).1 (lineV_bd N B 2).2 (lineV_bd N B 1).1 (lineV_bd N B 1).2 W
    rwa [(back_21 N0 N1 B0 B1).1] at h
  have T21 : Hid (∀ W, Calls Try.prog 16 #[.int .i64 2, .int .i64 (lineV N B 2), .int .i64 1, .int .i64 (lineV N B 1), .int .i64 3] W fun e w' => e = .returned (.tuple #[.int .i64 (lineV N B 3), .bool true]) ∧ Below W.heap.size W w') := fun W => by
    have h := tdY (i := 2) (j := 1) (k := 3) (by omega) (by omega) (by omega) (by omega) (by omega) (by omega) (by omega) (by omega) (by omega) (lineV_bd N B 2).1 (lineV_bd N B 2).2 (lineV_bd N B 1).1 (lineV_bd N B 1).2 W
    rwa [(back_21 N0 N1 B0 B1).1, (back_21 N0 N1 B0 B1).2] at h
  have J23 : Hid (∀ W, Calls Try.prog 14 #[.int .i64 2, .int .i64 (lineV N B 2), .int .i64 3, .int .i64 (lineV N B 3)] W fun e w' => e = .returned (.tuple #[.int .i64 N, .bool true]) ∧ Below W.heap.size W w') := fun W => by
    have h := joY (i := 2) (j := 3) (by omega) (by omega) (by omega) (by omega) (by omega) (lineV_bd N B 2).1 (lineV_bd N B 2).2 (lineV_bd N B 3).1 (lineV_bd N B 3).2 W
    rwa [(back_23 N0 N1 B0 B1).1] at h
  have T23 : Hid (∀ W, Calls Try.prog 16 #[.int .i64 2, .int .i64 (lineV N B 2), .int .i64 3, .int .i64 (lineV N B 3), .int .i64 1] W fun e w' => e = .returned (.tuple #[.int .i64 (lineV N B 1), .bool true]) ∧ Below W.heap.size W w') := fun W => by
    have h := tdY (i := 2) (j := 3) (k := 1) (by omega) (by omega) (by omega) (by omega) (by omega) (by omega) (by omega) (by omega) (by omega) (lineV_bd N B 2).1 (lineV_bd N B 2).2 (lineV_bd N B 3).1 (lineV_bd N B 3).2 W
    rwa [(back_23 N0 N1 B0 B1).1, (back_23 N0 N1 B0 B1).2] at h
  have J31 : Hid (∀ W, Calls Try.prog 14 #[.int .i64 3, .int .i64 (lineV N B 3), .int .i64 1, .int .i64 (lineV N B 1)] W fun e w' => e = .returned (.tuple #[.int .i64 N, .bool true]) ∧ Below W.heap.size W w') := fun W => by
    have h := joY (i := 3) (j := 1) (by omega) (by omega) (by omega) (by omega) (by omega) (lineV_bd N B 3).1 (lineV_bd N B 3).2 (lineV_bd N B 1).1 (lineV_bd N B 1).2 W
    rwa [(back_31 N0 N1 B0 B1).1] at h
  have T31 : Hid (∀ W, Calls Try.prog 16 #[.int .i64 3, .int .i64 (lineV N B 3), .int .i64 1, .int .i64 (lineV N B 1), .int .i64 2] W fun e w' => e = .returned (.tuple #[.int .i64 (lineV N B 2), .bool true]) ∧ Below W.heap.size W w') := fun W => by
    have h := tdY (i := 3) (j := 1) (k := 2) (by omega) (by omega) (by omega) (by omega) (by omega) (by omega) (by omega) (by omega) (by omega) (lineV_bd N B 3).1 (lineV_bd N B 3).2 (lineV_bd N B 1).1 (lineV_bd N B 1).2 W
    rwa [(back_31 N0 N1 B0 B1).1, (back_31 N0 N1 B0 B1).2] at h
  have J32 : Hid (∀ W, Calls Try.prog 14 #[.int .i64 3, .int .i64 (lineV N B 3), .int .i64 2, .int .i64 (lineV N B 2)] W fun e w' => e = .returned (.tuple #[.int .i64 N, .bool true]) ∧ Below W.heap.size W w') := fun W => by
    have h := joY (i := 3) (j := 2) (by omega) (by omega) (by omega) (by omega) (by omega) (lineV_bd N B 3).1 (lineV_bd N B 3).2 (lineV_bd N B 2).1 (lineV_bd N B 2).2 W
    rwa [(back_32 N0 N1 B0 B1).1] at h
  have T32 : Hid (∀ W, Calls Try.prog 16 #[.int .i64 3, .int .i64 (lineV N B 3), .int .i64 2, .int .i64 (lineV N B 2), .int .i64 1] W fun e w' => e = .returned (.tuple #[.int .i64 (lineV N B 1), .bool true]) ∧ Below W.heap.size W w') := fun W => by
    have h := tdY (i := 3) (j := 2) (k := 1) (by omega) (by omega) (by omega) (by omega) (by omega) (by omega) (by omega) (by omega) (by omega) (lineV_bd N B 3).1 (lineV_bd N B 3).2 (lineV_bd N B 2).1 (lineV_bd N B 2).2 W
    rwa [(back_32 N0 N1 B0 B1).1, (back_32 N0 N1 B0 B1).2] at h
  clear N0 N1 B0 B1
  revert T32
  revert J32
  revert T31
  revert J31
  revert T23
  revert J23
  revert T21
  revert J21
  revert T13
  revert J13
  revert T12
  revert J12
  revert HA
  revert HS
  generalize lineV N B 1 = x
  generalize lineV N B 2 = y
  generalize lineV N B 3 = z
  intro HS HA J12 T12 J13 T13 J21 T21 J23 T23 J31 T31 J32 T32
  have HBW : Hid (Below w.heap.size w w) := Lib.hid (Below.refl _ _)
  go_enter Try.func5, Try.ntmps5
  go_upto_region 6 with (first | (go_at_call 10; refine (sanity_any _).mono ?_; rintro e w1 ⟨rfl, hb⟩; have HBW := Lib.hid (carry HBW hb); clear hb) | (go_at_call_of 20 (Value.int .i64 s); refine (PS.out _).mono ?_; rintro e w' ⟨rfl, rfl⟩) | (go_at_call_of 20 (Value.int .i64 t); refine (PT.out _).mono ?_; rintro e w' ⟨rfl, rfl⟩) | (go_at_call 12; refine (HS.out _).mono ?_; rintro e w2 ⟨rfl, hb⟩; have HBW := Lib.hid (carry HBW hb); clear hb) | (go_at_call 21; refine (HA.out _).mono ?_; rintro e w3 ⟨rfl, hb⟩; have HBA := Lib.hid hb; clear hb))
  have HT : Hid (Tri w3 w2.heap.size x y z 26) := Lib.hid ((tri_new w2 x y z).below HBA.out)
  have HGE : Hid (w.heap.size ≤ w2.heap.size) := Lib.hid HBW.out.size
  have HBW := Lib.hid (carry HBW (show Below w2.heap.size w2 (w2.alloc (.cells #[.int .i64 x, .int .i64 y, .int .i64 z] 26)) by go_grown))
  have HBW := Lib.hid (carry HBW HBA.out)
  clear HBA
  revert HT
  revert HGE
  generalize w2.heap.size = g
  intro HGE HT
  go_wp2
  go_loopw [10] (fun iv wr => ∃ i : Int, (i = 1 ∨ i = 2 ∨ i = 3 ∨ i = 4) ∧ iv = .int .i64 i ∧ Hid (Tri wr g x y z 26) ∧ Hid (Below w.heap.size w wr)) (fun iv _ => (4 - intOf iv).toNat)
  case atStart => exact ⟨1, by omega, rfl, HT, HBW⟩
  case round =>
    obtain ⟨i, hi, rfl, ht, hb⟩ := hrel
    obtain ⟨wo, rfl⟩ : ∃ wo : World, wo = wr := ⟨_, rfl⟩
    rcases hi with rfl | rfl | rfl | rfl
    · go_wp2
      go_loopw [11] (fun jv wr => ∃ j : Int, (j = 1 ∨ j = 2 ∨ j = 3 ∨ j = 4) ∧ jv = .int .i64 j ∧ Hid (Tri wr g x y z 26) ∧ Hid (Below w.heap.size w wr)) (fun jv _ => (4 - intOf jv).toNat)
      case atStart => exact ⟨1, by omega, rfl, ht, hb⟩
      case round =>
        obtain ⟨j, hj, rfl, ht, hb⟩ := hrel
        rcases hj with rfl | rfl | rfl | rfl
        · go_wp2
          go_roundw
          case rel => exact ⟨2, by omega, rfl, ht, hb⟩
          case measure => simp [intOf]
        · have HB : Hid (Below (g + 1) wr wr) := Lib.hid (Below.refl _ _)
          have HZ : Hid (g + 1 ≤ wr.heap.size) := Lib.hid ht.out.lt
          have HKP : Hid (∀ w', Below (g + 1) wr w' → w'.cell? ⟨g, 0, none⟩ = some (.int .i64 x) ∧ w'.cell? ⟨g, 1, none⟩ = some (.int .i64 y) ∧ w'.cell? ⟨g, 2, none⟩ = some (.int .i64 z)) := Lib.hid (fun w' h => by
            have c := (show Tri w' g x y z 26 from (h.block g (by omega)).trans ht.out).cells
            exact ⟨c.1, c.2.1, c.2.2.1⟩)
          have HW0 : Hid (Below w.heap.size w wr) := hb
          have HT0 := ht
          clear hb ht
          obtain ⟨c0, c1, c2⟩ := HKP.out _ HB.out
          have u0 : IntKind.i64.wrap 0 = 0 := by decide
          have u1 : IntKind.i64.wrap 1 = 1 := by decide
          have u2 : IntKind.i64.wrap 2 = 2 := by decide
          have v1 : IntKind.i64.wrap (1 - 1) = 0 := by decide
          have v2 : IntKind.i64.wrap (2 - 1) = 1 := by decide
          have v3 : IntKind.i64.wrap (3 - 1) = 2 := by decide
          go_upto_region 13 with fail
          go_region_held3 (fun w' => w'.cell? ⟨g, 0, none⟩ = some (.int .i64 x) ∧ w'.cell? ⟨g, 1, none⟩ = some (.int .i64 y) ∧ w'.cell? ⟨g, 2, none⟩ = some (.int .i64 z))
            (first | (with_reducible exact HKP.out _ HB.out) | (exact HKP.out _ HB.out.drew) | (refine HKP.out _ (HB.out.trans (Below.mono (?_ : Below wq.heap.size wq _) HZ.out)); (go_grown; done)))
            ((go_at_call 14; refine (J12.out _).mono ?_; rintro e wq ⟨rfl, hb⟩; (first | (have HBB := step1 HB HZ hb) | (have HBB := step2 HB HZ hb) | (have HBB := stepD HB HZ hb)); have HB := HBB.1; have HZ := HBB.2; clear HBB hb))
          clear c0 c1 c2
          obtain ⟨c0, c1, c2⟩ := HKP.out _ HB.out
          go_upto_region 15 with fail
          go_region_held3 (fun w' => w'.cell? ⟨g, 0, none⟩ = some (.int .i64 x) ∧ w'.cell? ⟨g, 1, none⟩ = some (.int .i64 y) ∧ w'.cell? ⟨g, 2, none⟩ = some (.int .i64 z))
            (first | (with_reducible exact HKP.out _ HB.out) | (exact HKP.out _ HB.out.drew) | (refine HKP.out _ (HB.out.trans (Below.mono (?_ : Below wq.heap.size wq _) HZ.out)); (go_grown; done)))
            ((go_at_call 16; refine (T12.out _).mono ?_; rintro e wq ⟨rfl, hb⟩; (first | (have HBB := step1 HB HZ hb) | (have HBB := step2 HB HZ hb) | (have HBB := stepD HB HZ hb)); have HB := HBB.1; have HZ := HBB.2; clear HBB hb))
          clear c0 c1 c2
          obtain ⟨c0, c1, c2⟩ := HKP.out _ HB.out
          go_wp2_with (go_at_call 25; refine (is_yes _ _).mono ?_; rintro e w' ⟨rfl, rfl⟩)
          go_roundw
          case rel => exact ⟨3, by omega, rfl, (HB.out.block g (by omega)).trans HT0.out, HW0.out.trans (HB.out.mono (by have := HGE.out; omega))⟩
          case measure => simp [intOf]
        · have HB : Hid (Below (g + 1) wr wr) := Lib.hid (Below.refl _ _)
          have HZ : Hid (g + 1 ≤ wr.heap.size) := Lib.hid ht.out.lt
          have HKP : Hid (∀ w', Below (g + 1) wr w' → w'.cell? ⟨g, 0, none⟩ = some (.int .i64 x) ∧ w'.cell? ⟨g, 1, none⟩ = some (.int .i64 y) ∧ w'.cell? ⟨g, 2, none⟩ = some (.int .i64 z)) := Lib.hid (fun w' h => by
            have c := (show Tri w' g x y z 26 from (h.block g (by omega)).trans ht.out).cells
            exact ⟨c.1, c.2.1, c.2.2.1⟩)
          have HW0 : Hid (Below w.heap.size w wr) := hb
          have HT0 := ht
          clear hb ht
          obtain ⟨c0, c1, c2⟩ := HKP.out _ HB.out
          have u0 : IntKind.i64.wrap 0 = 0 := by decide
          have u1 : IntKind.i64.wrap 1 = 1 := by decide
          have u2 : IntKind.i64.wrap 2 = 2 := by decide
          have v1 : IntKind.i64.wrap (1 - 1) = 0 := by decide
          have v2 : IntKind.i64.wrap (2 - 1) = 1 := by decide
          have v3 : IntKind.i64.wrap (3 - 1) = 2 := by decide
          go_upto_region 13 with fail
          go_region_held3 (fun w' => w'.cell? ⟨g, 0, none⟩ = some (.int .i64 x) ∧ w'.cell? ⟨g, 1, none⟩ = some (.int .i64 y) ∧ w'.cell? ⟨g, 2, none⟩ = some (.int .i64 z))
            (first | (with_reducible exact HKP.out _ HB.out) | (exact HKP.out _ HB.out.drew) | (refine HKP.out _ (HB.out.trans (Below.mono (?_ : Below wq.heap.size wq _) HZ.out)); (go_grown; done)))
            ((go_at_call 14; refine (J13.out _).mono ?_; rintro e wq ⟨rfl, hb⟩; (first | (have HBB := step1 HB HZ hb) | (have HBB := step2 HB HZ hb) | (have HBB := stepD HB HZ hb)); have HB := HBB.1; have HZ := HBB.2; clear HBB hb))
          clear c0 c1 c2
          obtain ⟨c0, c1, c2⟩ := HKP.out _ HB.out
          go_upto_region 15 with fail
          go_region_held3 (fun w' => w'.cell? ⟨g, 0, none⟩ = some (.int .i64 x) ∧ w'.cell? ⟨g, 1, none⟩ = some (.int .i64 y) ∧ w'.cell? ⟨g, 2, none⟩ = some (.int .i64 z))
            (first | (with_reducible exact HKP.out _ HB.out) | (exact HKP.out _ HB.out.drew) | (refine HKP.out _ (HB.out.trans (Below.mono (?_ : Below wq.heap.size wq _) HZ.out)); (go_grown; done)))
            ((go_at_call 16; refine (T13.out _).mono ?_; rintro e wq ⟨rfl, hb⟩; (first | (have HBB := step1 HB HZ hb) | (have HBB := step2 HB HZ hb) | (have HBB := stepD HB HZ hb)); have HB := HBB.1; have HZ := HBB.2; clear HBB hb))
          clear c0 c1 c2
          obtain ⟨c0, c1, c2⟩ := HKP.out _ HB.out
          go_wp2_with (go_at_call 25; refine (is_yes _ _).mono ?_; rintro e w' ⟨rfl, rfl⟩)
          go_roundw
          case rel => exact ⟨4, by omega, rfl, (HB.out.block g (by omega)).trans HT0.out, HW0.out.trans (HB.out.mono (by have := HGE.out; omega))⟩
          case measure => simp [intOf]
        · go_wp2
          go_roundw
          case rel => exact ⟨2, by omega, rfl, ht, hb⟩
          case measure => simp [intOf]
    · go_wp2
      go_loopw [11] (fun jv wr => ∃ j : Int, (j = 1 ∨ j = 2 ∨ j = 3 ∨ j = 4) ∧ jv = .int .i64 j ∧ Hid (Tri wr g x y z 26) ∧ Hid (Below w.heap.size w wr)) (fun jv _ => (4 - intOf jv).toNat)
      case atStart => exact ⟨1, by omega, rfl, ht, hb⟩
      case round =>
        obtain ⟨j, hj, rfl, ht, hb⟩ := hrel
        rcases hj with rfl | rfl | rfl | rfl
        · have HB : Hid (Below (g + 1) wr wr) := Lib.hid (Below.refl _ _)
          have HZ : Hid (g + 1 ≤ wr.heap.size) := Lib.hid ht.out.lt
          have HKP : Hid (∀ w', Below (g + 1) wr w' → w'.cell? ⟨g, 0, none⟩ = some (.int .i64 x) ∧ w'.cell? ⟨g, 1, none⟩ = some (.int .i64 y) ∧ w'.cell? ⟨g, 2, none⟩ = some (.int .i64 z)) := Lib.hid (fun w' h => by
            have c := (show Tri w' g x y z 26 from (h.block g (by omega)).trans ht.out).cells
            exact ⟨c.1, c.2.1, c.2.2.1⟩)
          have HW0 : Hid (Below w.heap.size w wr) := hb
          have HT0 := ht
          clear hb ht
          obtain ⟨c0, c1, c2⟩ := HKP.out _ HB.out
          have u0 : IntKind.i64.wrap 0 = 0 := by decide
          have u1 : IntKind.i64.wrap 1 = 1 := by decide
          have u2 : IntKind.i64.wrap 2 = 2 := by decide
          have v1 : IntKind.i64.wrap (1 - 1) = 0 := by decide
          have v2 : IntKind.i64.wrap (2 - 1) = 1 := by decide
          have v3 : IntKind.i64.wrap (3 - 1) = 2 := by decide
          go_upto_region 13 with fail
          go_region_held3 (fun w' => w'.cell? ⟨g, 0, none⟩ = some (.int .i64 x) ∧ w'.cell? ⟨g, 1, none⟩ = some (.int .i64 y) ∧ w'.cell? ⟨g, 2, none⟩ = some (.int .i64 z))
            (first | (with_reducible exact HKP.out _ HB.out) | (exact HKP.out _ HB.out.drew) | (refine HKP.out _ (HB.out.trans (Below.mono (?_ : Below wq.heap.size wq _) HZ.out)); (go_grown; done)))
            ((go_at_call 14; refine (J21.out _).mono ?_; rintro e wq ⟨rfl, hb⟩; (first | (have HBB := step1 HB HZ hb) | (have HBB := step2 HB HZ hb) | (have HBB := stepD HB HZ hb)); have HB := HBB.1; have HZ := HBB.2; clear HBB hb))
          clear c0 c1 c2
          obtain ⟨c0, c1, c2⟩ := HKP.out _ HB.out
          go_upto_region 15 with fail
          go_region_held3 (fun w' => w'.cell? ⟨g, 0, none⟩ = some (.int .i64 x) ∧ w'.cell? ⟨g, 1, none⟩ = some (.int .i64 y) ∧ w'.cell? ⟨g, 2, none⟩ = some (.int .i64 z))
            (first | (with_reducible exact HKP.out _ HB.out) | (exact HKP.out _ HB.out.drew) | (refine HKP.out _ (HB.out.trans (Below.mono (?_ : Below wq.heap.size wq _) HZ.out)); (go_grown; done)))
            ((go_at_call 16; refine (T21.out _).mono ?_; rintro e wq ⟨rfl, hb⟩; (first | (have HBB := step1 HB HZ hb) | (have HBB := step2 HB HZ hb) | (have HBB := stepD HB HZ hb)); have HB := HBB.1; have HZ := HBB.2; clear HBB hb))
          clear c0 c1 c2
          obtain ⟨c0, c1, c2⟩ := HKP.out _ HB.out
          go_wp2_with (go_at_call 25; refine (is_yes _ _).mono ?_; rintro e w' ⟨rfl, rfl⟩)
          go_roundw
          case rel => exact ⟨2, by omega, rfl, (HB.out.block g (by omega)).trans HT0.out, HW0.out.trans (HB.out.mono (by have := HGE.out; omega))⟩
          case measure => simp [intOf]
        · go_wp2
          go_roundw
          case rel => exact ⟨3, by omega, rfl, ht, hb⟩
          case measure => simp [intOf]
        · have HB : Hid (Below (g + 1) wr wr) := Lib.hid (Below.refl _ _)
          have HZ : Hid (g + 1 ≤ wr.heap.size) := Lib.hid ht.out.lt
          have HKP : Hid (∀ w', Below (g + 1) wr w' → w'.cell? ⟨g, 0, none⟩ = some (.int .i64 x) ∧ w'.cell? ⟨g, 1, none⟩ = some (.int .i64 y) ∧ w'.cell? ⟨g, 2, none⟩ = some (.int .i64 z)) := Lib.hid (fun w' h => by
            have c := (show Tri w' g x y z 26 from (h.block g (by omega)).trans ht.out).cells
            exact ⟨c.1, c.2.1, c.2.2.1⟩)
          have HW0 : Hid (Below w.heap.size w wr) := hb
          have HT0 := ht
          clear hb ht
          obtain ⟨c0, c1, c2⟩ := HKP.out _ HB.out
          have u0 : IntKind.i64.wrap 0 = 0 := by decide
          have u1 : IntKind.i64.wrap 1 = 1 := by decide
          have u2 : IntKind.i64.wrap 2 = 2 := by decide
          have v1 : IntKind.i64.wrap (1 - 1) = 0 := by decide
          have v2 : IntKind.i64.wrap (2 - 1) = 1 := by decide
          have v3 : IntKind.i64.wrap (3 - 1) = 2 := by decide
          go_upto_region 13 with fail
          go_region_held3 (fun w' => w'.cell? ⟨g, 0, none⟩ = some (.int .i64 x) ∧ w'.cell? ⟨g, 1, none⟩ = some (.int .i64 y) ∧ w'.cell? ⟨g, 2, none⟩ = some (.int .i64 z))
            (first | (with_reducible exact HKP.out _ HB.out) | (exact HKP.out _ HB.out.drew) | (refine HKP.out _ (HB.out.trans (Below.mono (?_ : Below wq.heap.size wq _) HZ.out)); (go_grown; done)))
            ((go_at_call 14; refine (J23.out _).mono ?_; rintro e wq ⟨rfl, hb⟩; (first | (have HBB := step1 HB HZ hb) | (have HBB := step2 HB HZ hb) | (have HBB := stepD HB HZ hb)); have HB := HBB.1; have HZ := HBB.2; clear HBB hb))
          clear c0 c1 c2
          obtain ⟨c0, c1, c2⟩ := HKP.out _ HB.out
          go_upto_region 15 with fail
          go_region_held3 (fun w' => w'.cell? ⟨g, 0, none⟩ = some (.int .i64 x) ∧ w'.cell? ⟨g, 1, none⟩ = some (.int .i64 y) ∧ w'.cell? ⟨g, 2, none⟩ = some (.int .i64 z))
            (first | (with_reducible exact HKP.out _ HB.out) | (exact HKP.out _ HB.out.drew) | (refine HKP.out _ (HB.out.trans (Below.mono (?_ : Below wq.heap.size wq _) HZ.out)); (go_grown; done)))
            ((go_at_call 16; refine (T23.out _).mono ?_; rintro e wq ⟨rfl, hb⟩; (first | (have HBB := step1 HB HZ hb) | (have HBB := step2 HB HZ hb) | (have HBB := stepD HB HZ hb)); have HB := HBB.1; have HZ := HBB.2; clear HBB hb))
          clear c0 c1 c2
          obtain ⟨c0, c1, c2⟩ := HKP.out _ HB.out
          go_wp2_with (go_at_call 25; refine (is_yes _ _).mono ?_; rintro e w' ⟨rfl, rfl⟩)
          go_roundw
          case rel => exact ⟨4, by omega, rfl, (HB.out.block g (by omega)).trans HT0.out, HW0.out.trans (HB.out.mono (by have := HGE.out; omega))⟩
          case measure => simp [intOf]
        · go_wp2
          go_roundw
          case rel => exact ⟨3, by omega, rfl, ht, hb⟩
          case measure => simp [intOf]
    · go_wp2
      go_loopw [11] (fun jv wr => ∃ j : Int, (j = 1 ∨ j = 2 ∨ j = 3 ∨ j = 4) ∧ jv = .int .i64 j ∧ Hid (Tri wr g x y z 26) ∧ Hid (Below w.heap.size w wr)) (fun jv _ => (4 - intOf jv).toNat)
      case atStart => exact ⟨1, by omega, rfl, ht, hb⟩
      case round =>
        obtain ⟨j, hj, rfl, ht, hb⟩ := hrel
        rcases hj with rfl | rfl | rfl | rfl
        · have HB : Hid (Below (g + 1) wr wr) := Lib.hid (Below.refl _ _)
          have HZ : Hid (g + 1 ≤ wr.heap.size) := Lib.hid ht.out.lt
          have HKP : Hid (∀ w', Below (g + 1) wr w' → w'.cell? ⟨g, 0, none⟩ = some (.int .i64 x) ∧ w'.cell? ⟨g, 1, none⟩ = some (.int .i64 y) ∧ w'.cell? ⟨g, 2, none⟩ = some (.int .i64 z)) := Lib.hid (fun w' h => by
            have c := (show Tri w' g x y z 26 from (h.block g (by omega)).trans ht.out).cells
            exact ⟨c.1, c.2.1, c.2.2.1⟩)
          have HW0 : Hid (Below w.heap.size w wr) := hb
          have HT0 := ht
          clear hb ht
          obtain ⟨c0, c1, c2⟩ := HKP.out _ HB.out
          have u0 : IntKind.i64.wrap 0 = 0 := by decide
          have u1 : IntKind.i64.wrap 1 = 1 := by decide
          have u2 : IntKind.i64.wrap 2 = 2 := by decide
          have v1 : IntKind.i64.wrap (1 - 1) = 0 := by decide
          have v2 : IntKind.i64.wrap (2 - 1) = 1 := by decide
          have v3 : IntKind.i64.wrap (3 - 1) = 2 := by decide
          go_upto_region 13 with fail
          go_region_held3 (fun w' => w'.cell? ⟨g, 0, none⟩ = some (.int .i64 x) ∧ w'.cell? ⟨g, 1, none⟩ = some (.int .i64 y) ∧ w'.cell? ⟨g, 2, none⟩ = some (.int .i64 z))
            (first | (with_reducible exact HKP.out _ HB.out) | (exact HKP.out _ HB.out.drew) | (refine HKP.out _ (HB.out.trans (Below.mono (?_ : Below wq.heap.size wq _) HZ.out)); (go_grown; done)))
            ((go_at_call 14; refine (J31.out _).mono ?_; rintro e wq ⟨rfl, hb⟩; (first | (have HBB := step1 HB HZ hb) | (have HBB := step2 HB HZ hb) | (have HBB := stepD HB HZ hb)); have HB := HBB.1; have HZ := HBB.2; clear HBB hb))
          clear c0 c1 c2
          obtain ⟨c0, c1, c2⟩ := HKP.out _ HB.out
          go_upto_region 15 with fail
          go_region_held3 (fun w' => w'.cell? ⟨g, 0, none⟩ = some (.int .i64 x) ∧ w'.cell? ⟨g, 1, none⟩ = some (.int .i64 y) ∧ w'.cell? ⟨g, 2, none⟩ = some (.int .i64 z))
            (first | (with_reducible exact HKP.out _ HB.out) | (exact HKP.out _ HB.out.drew) | (refine HKP.out _ (HB.out.trans (Below.mono (?_ : Below wq.heap.size wq _) HZ.out)); (go_grown; done)))
            ((go_at_call 16; refine (T31.out _).mono ?_; rintro e wq ⟨rfl, hb⟩; (first | (have HBB := step1 HB HZ hb) | (have HBB := step2 HB HZ hb) | (have HBB := stepD HB HZ hb)); have HB := HBB.1; have HZ := HBB.2; clear HBB hb))
          clear c0 c1 c2
          obtain ⟨c0, c1, c2⟩ := HKP.out _ HB.out
          go_wp2_with (go_at_call 25; refine (is_yes _ _).mono ?_; rintro e w' ⟨rfl, rfl⟩)
          go_roundw
          case rel => exact ⟨2, by omega, rfl, (HB.out.block g (by omega)).trans HT0.out, HW0.out.trans (HB.out.mono (by have := HGE.out; omega))⟩
          case measure => simp [intOf]
        · have HB : Hid (Below (g + 1) wr wr) := Lib.hid (Below.refl _ _)
          have HZ : Hid (g + 1 ≤ wr.heap.size) := Lib.hid ht.out.lt
          have HKP : Hid (∀ w', Below (g + 1) wr w' → w'.cell? ⟨g, 0, none⟩ = some (.int .i64 x) ∧ w'.cell? ⟨g, 1, none⟩ = some (.int .i64 y) ∧ w'.cell? ⟨g, 2, none⟩ = some (.int .i64 z)) := Lib.hid (fun w' h => by
            have c := (show Tri w' g x y z 26 from (h.block g (by omega)).trans ht.out).cells
            exact ⟨c.1, c.2.1, c.2.2.1⟩)
          have HW0 : Hid (Below w.heap.size w wr) := hb
          have HT0 := ht
          clear hb ht
          obtain ⟨c0, c1, c2⟩ := HKP.out _ HB.out
          have u0 : IntKind.i64.wrap 0 = 0 := by decide
          have u1 : IntKind.i64.wrap 1 = 1 := by decide
          have u2 : IntKind.i64.wrap 2 = 2 := by decide
          have v1 : IntKind.i64.wrap (1 - 1) = 0 := by decide
          have v2 : IntKind.i64.wrap (2 - 1) = 1 := by decide
          have v3 : IntKind.i64.wrap (3 - 1) = 2 := by decide
          go_upto_region 13 with fail
          go_region_held3 (fun w' => w'.cell? ⟨g, 0, none⟩ = some (.int .i64 x) ∧ w'.cell? ⟨g, 1, none⟩ = some (.int .i64 y) ∧ w'.cell? ⟨g, 2, none⟩ = some (.int .i64 z))
            (first | (with_reducible exact HKP.out _ HB.out) | (exact HKP.out _ HB.out.drew) | (refine HKP.out _ (HB.out.trans (Below.mono (?_ : Below wq.heap.size wq _) HZ.out)); (go_grown; done)))
            ((go_at_call 14; refine (J32.out _).mono ?_; rintro e wq ⟨rfl, hb⟩; (first | (have HBB := step1 HB HZ hb) | (have HBB := step2 HB HZ hb) | (have HBB := stepD HB HZ hb)); have HB := HBB.1; have HZ := HBB.2; clear HBB hb))
          clear c0 c1 c2
          obtain ⟨c0, c1, c2⟩ := HKP.out _ HB.out
          go_upto_region 15 with fail
          go_region_held3 (fun w' => w'.cell? ⟨g, 0, none⟩ = some (.int .i64 x) ∧ w'.cell? ⟨g, 1, none⟩ = some (.int .i64 y) ∧ w'.cell? ⟨g, 2, none⟩ = some (.int .i64 z))
            (first | (with_reducible exact HKP.out _ HB.out) | (exact HKP.out _ HB.out.drew) | (refine HKP.out _ (HB.out.trans (Below.mono (?_ : Below wq.heap.size wq _) HZ.out)); (go_grown; done)))
            ((go_at_call 16; refine (T32.out _).mono ?_; rintro e wq ⟨rfl, hb⟩; (first | (have HBB := step1 HB HZ hb) | (have HBB := step2 HB HZ hb) | (have HBB := stepD HB HZ hb)); have HB := HBB.1; have HZ := HBB.2; clear HBB hb))
          clear c0 c1 c2
          obtain ⟨c0, c1, c2⟩ := HKP.out _ HB.out
          go_wp2_with (go_at_call 25; refine (is_yes _ _).mono ?_; rintro e w' ⟨rfl, rfl⟩)
          go_roundw
          case rel => exact ⟨3, by omega, rfl, (HB.out.block g (by omega)).trans HT0.out, HW0.out.trans (HB.out.mono (by have := HGE.out; omega))⟩
          case measure => simp [intOf]
        · go_wp2
          go_roundw
          case rel => exact ⟨4, by omega, rfl, ht, hb⟩
          case measure => simp [intOf]
        · go_wp2
          go_roundw
          case rel => exact ⟨4, by omega, rfl, ht, hb⟩
          case measure => simp [intOf]
    · go_wp2
      go_ret
      exact ⟨rfl, hb.out⟩

end Go.Proofs.Ytkagmbmkopdekaa
