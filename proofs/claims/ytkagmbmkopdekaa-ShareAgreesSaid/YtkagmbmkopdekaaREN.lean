/- The law ShareRenews, walked. -/
import Derived.Test.YtkagmbmkopdekaaRA
import Derived.Deep.Cut
import Derived.Deep.CutRange

namespace Go.Proofs.Ytkagmbmkopdekaa
open Go.RowKit

attribute [local go_sem] equal26 eq3_same

set_option maxRecDepth 100000 in
set_option maxHeartbeats 4000000 in
theorem renews_any (s b x y : Int) (w : World) (s0 : 0 ≤ s) (s1 : s ≤ 255) (b0 : 0 ≤ b) (b1 : b ≤ 255) (x0 : 0 ≤ x) (x1 : x ≤ 255) (y0 : 0 ≤ y) (y1 : y ≤ 255) :
    Calls Try.prog 7 #[.int .u8 s, .int .u8 b, .int .u8 x, .int .u8 y] w fun e w' => e = .returned (.bool true) ∧ Below w.heap.size w w' := by
  have PS := Lib.hid (fun W => part_any s W s0 (by omega))
  have PB := Lib.hid (fun W => part_any b W b0 (by omega))
  have PX := Lib.hid (fun W => part_any x W x0 (by omega))
  have PY := Lib.hid (fun W => part_any y W y0 (by omega))
  have N0 : 0 ≤ s % 251 := by omega
  have N1 : s % 251 ≤ 250 := by omega
  have B0 : 0 ≤ b % 251 := by omega
  have B1 : b % 251 ≤ 250 := by omega
  have X0 : 0 ≤ x % 251 := by omega
  have X1 : x % 251 ≤ 250 := by omega
  have Y0 : 0 ≤ y % 251 := by omega
  have Y1 : y % 251 ≤ 250 := by omega
  revert PS PB PX PY N0 N1 B0 B1 X0 X1 Y0 Y1
  generalize s % 251 = N
  generalize b % 251 = B
  generalize x % 251 = X
  generalize y % 251 = Y
  intro PS PB PX PY N0 N1 B0 B1 X0 X1 Y0 Y1
  have HS := Lib.hid (fun W => spY N0 N1 B0 B1 W)
  have R1 := Lib.hid (fun W => rnY N0 N1 B0 B1 X0 X1 W)
  obtain ⟨C, hC⟩ : ∃ C, C = (B + X) % 251 := ⟨_, rfl⟩
  rw [← hC] at R1
  have C0 : 0 ≤ C := by omega
  have C1 : C ≤ 250 := by omega
  have R2 := Lib.hid (fun W => rnY N0 N1 C0 C1 Y0 Y1 W)
  have PP := Lib.hid (fun W => part_any (X + Y) W (by omega) (by omega))
  have R3 := Lib.hid (fun W => rnY N0 N1 B0 B1 (show 0 ≤ (X + Y) % 251 by omega) (show (X + Y) % 251 ≤ 250 by omega) W)
  have hE : (B + (X + Y) % 251) % 251 = (C + Y) % 251 := by omega
  rw [hE] at R3
  have HA := Lib.hid (fun W => agY N0 N1 C0 C1 W)
  have J12 : Hid (∀ W, Calls Try.prog 14 #[.int .i64 1, .int .i64 (lineV N C 1), .int .i64 2, .int .i64 (lineV N C 2)] W fun e w' => e = .returned (.tuple #[.int .i64 N, .bool true]) ∧ Below W.heap.size W w') := fun W => by
    have h := joY (i := 1) (j := 2) (by omega) (by omega) (by omega) (by omega) (by omega) (lineV_bd N C 1).1 (lineV_bd N C 1).2 (lineV_bd N C 2).1 (lineV_bd N C 2).2 W
    rwa [(back_12 N0 N1 C0 C1).1] at h
  have M12 : Hid (∃ m : Int, (m == N) = (X == 0) ∧ ∀ W, Calls Try.prog 14 #[.int .i64 1, .int .i64 (lineV N B 1), .int .i64 2, .int .i64 (lineV N C 2)] W fun e w' => e = .returned (.tuple #[.int .i64 m, .bool true]) ∧ Below W.heap.size W w') := by
    refine ⟨_, ?_, joY (by omega) (by omega) (by omega) (by omega) (by omega) (lineV_bd N B 1).1 (lineV_bd N B 1).2 (lineV_bd N C 2).1 (lineV_bd N C 2).2⟩
    rw [Bool.eq_iff_iff, beq_iff_eq, beq_iff_eq]
    exact mixed_12 N0 N1 B0 B1 X0 X1 hC
  have J13 : Hid (∀ W, Calls Try.prog 14 #[.int .i64 1, .int .i64 (lineV N C 1), .int .i64 3, .int .i64 (lineV N C 3)] W fun e w' => e = .returned (.tuple #[.int .i64 N, .bool true]) ∧ Below W.heap.size W w') := fun W => by
    have h := joY (i := 1) (j := 3) (by omega) (by omega) (by omega) (by omega) (by omega) (lineV_bd N C 1).1 (lineV_bd N C 1).2 (lineV_bd N C 3).1 (lineV_bd N C 3).2 W
    rwa [(back_13 N0 N1 C0 C1).1] at h
  have M13 : Hid (∃ m : Int, (m == N) = (X == 0) ∧ ∀ W, Calls Try.prog 14 #[.int .i64 1, .int .i64 (lineV N B 1), .int .i64 3, .int .i64 (lineV N C 3)] W fun e w' => e = .returned (.tuple #[.int .i64 m, .bool true]) ∧ Below W.heap.size W w') := by
    refine ⟨_, ?_, joY (by omega) (by omega) (by omega) (by omega) (by omega) (lineV_bd N B 1).1 (lineV_bd N B 1).2 (lineV_bd N C 3).1 (lineV_bd N C 3).2⟩
    rw [Bool.eq_iff_iff, beq_iff_eq, beq_iff_eq]
    exact mixed_13 N0 N1 B0 B1 X0 X1 hC
  have J21 : Hid (∀ W, Calls Try.prog 14 #[.int .i64 2, .int .i64 (lineV N C 2), .int .i64 1, .int .i64 (lineV N C 1)] W fun e w' => e = .returned (.tuple #[.int .i64 N, .bool true]) ∧ Below W.heap.size W w') := fun W => by
    have h := joY (i := 2) (j := 1) (by omega) (by omega) (by omega) (by omega) (by omega) (lineV_bd N C 2).1 (lineV_bd N C 2).2 (lineV_bd N C 1).1 (lineV_bd N C 1).2 W
    rwa [(back_21 N0 N1 C0 C1).1] at h
  have M21 : Hid (∃ m : Int, (m == N) = (X == 0) ∧ ∀ W, Calls Try.prog 14 #[.int .i64 2, .int .i64 (lineV N B 2), .int .i64 1, .int .i64 (lineV N C 1)] W fun e w' => e = .returned (.tuple #[.int .i64 m, .bool true]) ∧ Below W.heap.size W w') := by
    refine ⟨_, ?_, joY (by omega) (by omega) (by omega) (by omega) (by omega) (lineV_bd N B 2).1 (lineV_bd N B 2).2 (lineV_bd N C 1).1 (lineV_bd N C 1).2⟩
    rw [Bool.eq_iff_iff, beq_iff_eq, beq_iff_eq]
    exact mixed_21 N0 N1 B0 B1 X0 X1 hC
  have J23 : Hid (∀ W, Calls Try.prog 14 #[.int .i64 2, .int .i64 (lineV N C 2), .int .i64 3, .int .i64 (lineV N C 3)] W fun e w' => e = .returned (.tuple #[.int .i64 N, .bool true]) ∧ Below W.heap.size W w') := fun W => by
    have h := joY (i := 2) (j := 3) (by omega) (by omega) (by omega) (by omega) (by omega) (lineV_bd N C 2).1 (lineV_bd N C 2).2 (lineV_bd N C 3).1 (lineV_bd N C 3).2 W
    rwa [(back_23 N0 N1 C0 C1).1] at h
  have M23 : Hid (∃ m : Int, (m == N) = (X == 0) ∧ ∀ W, Calls Try.prog 14 #[.int .i64 2, .int .i64 (lineV N B 2), .int .i64 3, .int .i64 (lineV N C 3)] W fun e w' => e = .returned (.tuple #[.int .i64 m, .bool true]) ∧ Below W.heap.size W w') := by
    refine ⟨_, ?_, joY (by omega) (by omega) (by omega) (by omega) (by omega) (lineV_bd N B 2).1 (lineV_bd N B 2).2 (lineV_bd N C 3).1 (lineV_bd N C 3).2⟩
    rw [Bool.eq_iff_iff, beq_iff_eq, beq_iff_eq]
    exact mixed_23 N0 N1 B0 B1 X0 X1 hC
  have J31 : Hid (∀ W, Calls Try.prog 14 #[.int .i64 3, .int .i64 (lineV N C 3), .int .i64 1, .int .i64 (lineV N C 1)] W fun e w' => e = .returned (.tuple #[.int .i64 N, .bool true]) ∧ Below W.heap.size W w') := fun W => by
    have h := joY (i := 3) (j := 1) (by omega) (by omega) (by omega) (by omega) (by omega) (lineV_bd N C 3).1 (lineV_bd N C 3).2 (lineV_bd N C 1).1 (lineV_bd N C 1).2 W
    rwa [(back_31 N0 N1 C0 C1).1] at h
  have M31 : Hid (∃ m : Int, (m == N) = (X == 0) ∧ ∀ W, Calls Try.prog 14 #[.int .i64 3, .int .i64 (lineV N B 3), .int .i64 1, .int .i64 (lineV N C 1)] W fun e w' => e = .returned (.tuple #[.int .i64 m, .bool true]) ∧ Below W.heap.size W w') := by
    refine ⟨_, ?_, joY (by omega) (by omega) (by omega) (by omega) (by omega) (lineV_bd N B 3).1 (lineV_bd N B 3).2 (lineV_bd N C 1).1 (lineV_bd N C 1).2⟩
    rw [Bool.eq_iff_iff, beq_iff_eq, beq_iff_eq]
    exact mixed_31 N0 N1 B0 B1 X0 X1 hC
  have J32 : Hid (∀ W, Calls Try.prog 14 #[.int .i64 3, .int .i64 (lineV N C 3), .int .i64 2, .int .i64 (lineV N C 2)] W fun e w' => e = .returned (.tuple #[.int .i64 N, .bool true]) ∧ Below W.heap.size W w') := fun W => by
    have h := joY (i := 3) (j := 2) (by omega) (by omega) (by omega) (by omega) (by omega) (lineV_bd N C 3).1 (lineV_bd N C 3).2 (lineV_bd N C 2).1 (lineV_bd N C 2).2 W
    rwa [(back_32 N0 N1 C0 C1).1] at h
  have M32 : Hid (∃ m : Int, (m == N) = (X == 0) ∧ ∀ W, Calls Try.prog 14 #[.int .i64 3, .int .i64 (lineV N B 3), .int .i64 2, .int .i64 (lineV N C 2)] W fun e w' => e = .returned (.tuple #[.int .i64 m, .bool true]) ∧ Below W.heap.size W w') := by
    refine ⟨_, ?_, joY (by omega) (by omega) (by omega) (by omega) (by omega) (lineV_bd N B 3).1 (lineV_bd N B 3).2 (lineV_bd N C 2).1 (lineV_bd N C 2).2⟩
    rw [Bool.eq_iff_iff, beq_iff_eq, beq_iff_eq]
    exact mixed_32 N0 N1 B0 B1 X0 X1 hC
  have hS : IntKind.i64.wrap (X + Y) = X + Y := IntWalk.i64_in _ (by omega)
  clear N0 N1 B0 B1 C0 C1 hC hE
  revert M32
  revert J32
  revert M31
  revert J31
  revert M23
  revert J23
  revert M21
  revert J21
  revert M13
  revert J13
  revert M12
  revert J12
  revert HA
  revert R3
  revert PP
  revert R2
  revert R1
  revert HS
  generalize lineV N B 1 = s1
  generalize lineV N B 2 = s2
  generalize lineV N B 3 = s3
  generalize lineV N C 1 = t1
  generalize lineV N C 2 = t2
  generalize lineV N C 3 = t3
  generalize lineV N ((C + Y) % 251) 1 = u1
  generalize lineV N ((C + Y) % 251) 2 = u2
  generalize lineV N ((C + Y) % 251) 3 = u3
  generalize (X + Y) % 251 = Z
  intro HS R1 R2 PP R3 HA J12 M12 J13 M13 J21 M21 J23 M23 J31 M31 J32 M32
  have HBW : Hid (Below w.heap.size w w) := Lib.hid (Below.refl _ _)
  go_enter Try.func7, Try.ntmps7
  go_upto_region 4 with (first | (go_at_call 10; refine (sanity_any _).mono ?_; rintro e wn ⟨rfl, hb⟩; (try have S1 := Lib.hid (S1.out.below hb)); (try have S2 := Lib.hid (S2.out.below hb)); (try have S3 := Lib.hid (S3.out.below hb)); have HBW := Lib.hid (carry HBW hb); clear hb) | (go_at_call_of 20 (Value.int .i64 s); refine (PS.out _).mono ?_; rintro e w' ⟨rfl, rfl⟩) | (go_at_call_of 20 (Value.int .i64 b); refine (PB.out _).mono ?_; rintro e w' ⟨rfl, rfl⟩) | (go_at_call_of 20 (Value.int .i64 x); refine (PX.out _).mono ?_; rintro e w' ⟨rfl, rfl⟩) | (go_at_call_of 20 (Value.int .i64 y); refine (PY.out _).mono ?_; rintro e w' ⟨rfl, rfl⟩) | (go_at_call 12; refine (HS.out _).mono ?_; rintro e wn ⟨rfl, hb⟩; (try have S1 := Lib.hid (S1.out.below hb)); (try have S2 := Lib.hid (S2.out.below hb)); (try have S3 := Lib.hid (S3.out.below hb)); have HBW := Lib.hid (carry HBW hb); clear hb))
  have S1 := Lib.hid (tri_new wn s1 s2 s3)
  have HGS1 : Hid (w.heap.size ≤ wn.heap.size) := Lib.hid HBW.out.size
  have HBW := Lib.hid (carry HBW (show Below wn.heap.size wn (wn.alloc (.cells #[.int .i64 s1, .int .i64 s2, .int .i64 s3] 26)) by go_grown))
  obtain ⟨gS1, hg⟩ : ∃ g, g = wn.heap.size := ⟨_, rfl⟩
  rw [← hg] at S1 HGS1 ⊢
  clear hg
  revert HBW
  revert S1
  generalize (wn.alloc (.cells #[.int .i64 s1, .int .i64 s2, .int .i64 s3] 26)) = WS1
  intro S1 HBW
  obtain ⟨p0, p1, p2, _⟩ := S1.out.cells
  go_upto_region 5 with (go_at_call 23; refine (R1.out _).mono ?_; rintro e wn ⟨rfl, hb⟩; (try have S1 := Lib.hid (S1.out.below hb)); (try have S2 := Lib.hid (S2.out.below hb)); (try have S3 := Lib.hid (S3.out.below hb)); have HBW := Lib.hid (carry HBW hb); clear hb)
  clear p0 p1 p2
  have S1 := Lib.hid (S1.out.below (show Below wn.heap.size wn (wn.alloc (.cells #[.int .i64 t1, .int .i64 t2, .int .i64 t3] 26)) by go_grown))
  have S2 := Lib.hid (tri_new wn t1 t2 t3)
  have HGS2 : Hid (w.heap.size ≤ wn.heap.size) := Lib.hid HBW.out.size
  have HBW := Lib.hid (carry HBW (show Below wn.heap.size wn (wn.alloc (.cells #[.int .i64 t1, .int .i64 t2, .int .i64 t3] 26)) by go_grown))
  obtain ⟨gS2, hg⟩ : ∃ g, g = wn.heap.size := ⟨_, rfl⟩
  rw [← hg] at S2 HGS2 ⊢
  clear hg
  revert HBW
  revert S2
  revert S1
  generalize (wn.alloc (.cells #[.int .i64 t1, .int .i64 t2, .int .i64 t3] 26)) = WS2
  intro S1 S2 HBW
  obtain ⟨p0, p1, p2, _⟩ := S2.out.cells
  go_upto_region 6 with (go_at_call 23; refine (R2.out _).mono ?_; rintro e wn ⟨rfl, hb⟩; (try have S1 := Lib.hid (S1.out.below hb)); (try have S2 := Lib.hid (S2.out.below hb)); (try have S3 := Lib.hid (S3.out.below hb)); have HBW := Lib.hid (carry HBW hb); clear hb)
  clear p0 p1 p2
  have S1 := Lib.hid (S1.out.below (show Below wn.heap.size wn (wn.alloc (.cells #[.int .i64 u1, .int .i64 u2, .int .i64 u3] 26)) by go_grown))
  have S2 := Lib.hid (S2.out.below (show Below wn.heap.size wn (wn.alloc (.cells #[.int .i64 u1, .int .i64 u2, .int .i64 u3] 26)) by go_grown))
  have S3 := Lib.hid (tri_new wn u1 u2 u3)
  have HGS3 : Hid (w.heap.size ≤ wn.heap.size) := Lib.hid HBW.out.size
  have HBW := Lib.hid (carry HBW (show Below wn.heap.size wn (wn.alloc (.cells #[.int .i64 u1, .int .i64 u2, .int .i64 u3] 26)) by go_grown))
  obtain ⟨gS3, hg⟩ : ∃ g, g = wn.heap.size := ⟨_, rfl⟩
  rw [← hg] at S3 HGS3 ⊢
  clear hg
  revert HBW
  revert S3
  revert S2
  revert S1
  generalize (wn.alloc (.cells #[.int .i64 u1, .int .i64 u2, .int .i64 u3] 26)) = WS3
  intro S1 S2 S3 HBW
  have HB : Hid (Below WS3.heap.size WS3 WS3) := Lib.hid (Below.refl _ _)
  have HZ : Hid (WS3.heap.size ≤ WS3.heap.size) := Lib.hid (Nat.le_refl _)
  have HKP : Hid (∀ w', Below WS3.heap.size WS3 w' → w'.cell? ⟨gS1, 0, none⟩ = some (.int .i64 s1) ∧ w'.cell? ⟨gS1, 1, none⟩ = some (.int .i64 s2) ∧ w'.cell? ⟨gS1, 2, none⟩ = some (.int .i64 s3)) := Lib.hid (fun w' h => by
    have c := (S1.out.below h).cells
    exact ⟨c.1, c.2.1, c.2.2.1⟩)
  obtain ⟨c0, c1, c2⟩ := HKP.out _ HB.out
  go_cut [19, 20] from 19 to 65 (fun s19 s20 wx => ∃ g : Nat, s19 = .pointer (some ⟨g, 0, none⟩) ∧ s20 = .bool true ∧ Hid (Tri wx g u1 u2 u3 26) ∧ Hid (Below WS3.heap.size WS3 wx))
  case first =>
    go_region_held3 (fun w' => w'.cell? ⟨gS1, 0, none⟩ = some (.int .i64 s1) ∧ w'.cell? ⟨gS1, 1, none⟩ = some (.int .i64 s2) ∧ w'.cell? ⟨gS1, 2, none⟩ = some (.int .i64 s3))
      (first | (with_reducible exact HKP.out _ HB.out) | (exact HKP.out _ HB.out.drew) | (refine HKP.out _ (HB.out.trans (Below.mono (?_ : Below wq.heap.size wq _) HZ.out)); (go_grown; done)) | (refine HKP.out _ ?_; (go_grown; done)) | (exact HKP.out _ (((HB.out.setCell (by simp) _).setCell (by simp) _).setCell (by simp) _)))
      ((first | (go_at_call 20; refine (PP.out _).mono ?_; rintro e wr ⟨rfl, rfl⟩) | (go_at_call 23; refine (R3.out _).mono ?_; rintro e wq ⟨rfl, hb⟩; (first | (have T0 : Tri wq WS3.heap.size 0 0 0 26 := (tri_new WS3 0 0 0).below hb) | (have T0 : Tri wq WS3.heap.size 0 0 0 26 := (show Tri (World.drew (WS3.alloc (.cells #[.int .i64 0, .int .i64 0, .int .i64 0] 26))) WS3.heap.size 0 0 0 26 from tri_new WS3 0 0 0).below hb) | skip); (try have T00 := T0.cells); (try obtain ⟨q0, q1, q2, q3, q4, q5⟩ := T00); (try have T1 := Lib.hid T0); (try clear T0); (first | (have HBB := step1 HB HZ hb) | (have HBB := step2 HB HZ hb) | (have HBB := stepD HB HZ hb) | (have HBB := stepG HB HZ (by go_grown) hb)); have HB := HBB.1; have HZ := HBB.2; clear HBB hb)))
    all_goals (go_wp2_with fail; go_meet; first | exact ⟨wq.heap.size, rfl, rfl, tri_new wq u1 u2 u3, HB.out.alloc HB.out.size _⟩ | exact ⟨WS3.heap.size, rfl, rfl, ((T1.out.st0 u1).st1 u2).st2 u3, ((HB.out.setCell (by simp) _).setCell (by simp) _).setCell (by simp) _⟩)
  case rest =>
    obtain ⟨g4, rfl, rfl, hU, hbl⟩ := hcut
    have S1 := Lib.hid (S1.out.below hbl.out)
    have S2 := Lib.hid (S2.out.below hbl.out)
    have S3 := Lib.hid (S3.out.below hbl.out)
    have HBW := Lib.hid (carry HBW hbl.out)
    clear hbl c0 c1 c2 HKP HB HZ
    obtain ⟨p0, p1, p2, _⟩ := S3.out.cells
    obtain ⟨q0, q1, q2, _⟩ := hU.out.cells
    obtain ⟨r0, r1, r2, _⟩ := S2.out.cells
    go_upto_region 9 with (go_at_call 21; refine (HA.out _).mono ?_; rintro e wn ⟨rfl, hb⟩; (try have S1 := Lib.hid (S1.out.below hb)); (try have S2 := Lib.hid (S2.out.below hb)); have HBW := Lib.hid (carry HBW hb); clear hb)
    clear p0 p1 p2 q0 q1 q2 r0 r1 r2 hU S3
    go_wp2
    go_loopw [21] (fun iv wr => ∃ i : Int, (i = 1 ∨ i = 2 ∨ i = 3 ∨ i = 4) ∧ iv = .int .i64 i ∧ Hid (Tri wr gS1 s1 s2 s3 26) ∧ Hid (Tri wr gS2 t1 t2 t3 26) ∧ Hid (Below w.heap.size w wr)) (fun iv _ => (4 - intOf iv).toNat)
    case atStart => exact ⟨1, by omega, rfl, S1, S2, HBW⟩
    case round =>
      obtain ⟨i, hi, rfl, S1, S2, hb⟩ := hrel
      obtain ⟨wo, rfl⟩ : ∃ wo : World, wo = wr := ⟨_, rfl⟩
      rcases hi with rfl | rfl | rfl | rfl
      · go_wp2
        go_loopw [22] (fun jv wr => ∃ j : Int, (j = 1 ∨ j = 2 ∨ j = 3 ∨ j = 4) ∧ jv = .int .i64 j ∧ Hid (Tri wr gS1 s1 s2 s3 26) ∧ Hid (Tri wr gS2 t1 t2 t3 26) ∧ Hid (Below w.heap.size w wr)) (fun jv _ => (4 - intOf jv).toNat)
        case atStart => exact ⟨1, by omega, rfl, S1, S2, hb⟩
        case round =>
          obtain ⟨j, hj, rfl, S1, S2, hb⟩ := hrel
          rcases hj with rfl | rfl | rfl | rfl
          · go_wp2
            go_roundw
            case rel => exact ⟨2, by omega, rfl, S1, S2, hb⟩
            case measure => simp [intOf]
          · have HB : Hid (Below wr.heap.size wr wr) := Lib.hid (Below.refl _ _)
            have HZ : Hid (wr.heap.size ≤ wr.heap.size) := Lib.hid (Nat.le_refl _)
            have HKP : Hid (∀ w', Below wr.heap.size wr w' → w'.cell? ⟨gS1, 0, none⟩ = some (.int .i64 s1) ∧ w'.cell? ⟨gS1, 1, none⟩ = some (.int .i64 s2) ∧ w'.cell? ⟨gS1, 2, none⟩ = some (.int .i64 s3) ∧ w'.cell? ⟨gS2, 0, none⟩ = some (.int .i64 t1) ∧ w'.cell? ⟨gS2, 1, none⟩ = some (.int .i64 t2) ∧ w'.cell? ⟨gS2, 2, none⟩ = some (.int .i64 t3)) := Lib.hid (fun w' h => by
              have c := (S1.out.below h).cells
              have d := (S2.out.below h).cells
              exact ⟨c.1, c.2.1, c.2.2.1, d.1, d.2.1, d.2.2.1⟩)
            have HW0 : Hid (Below w.heap.size w wr) := hb
            have HS1 := S1
            have HS2 := S2
            clear hb S1 S2
            obtain ⟨m, hm, hM⟩ := M12.out
            have HM := Lib.hid hM
            obtain ⟨c, hc⟩ : ∃ c, c = (X == 0) := ⟨_, rfl⟩
            rw [← hc] at hm
            have HHM := Lib.hid hm
            have HHX := Lib.hid hc.symm
            clear hM hc hm
            have u0 : IntKind.i64.wrap 0 = 0 := by decide
            have u1 : IntKind.i64.wrap 1 = 1 := by decide
            have u2 : IntKind.i64.wrap 2 = 2 := by decide
            have v1 : IntKind.i64.wrap (1 - 1) = 0 := by decide
            have v2 : IntKind.i64.wrap (2 - 1) = 1 := by decide
            have v3 : IntKind.i64.wrap (3 - 1) = 2 := by decide
            obtain ⟨c0, c1, c2, c3, c4, c5⟩ := HKP.out _ HB.out
            go_upto_region 16 with fail
            go_region_held3 (fun w' => w'.cell? ⟨gS1, 0, none⟩ = some (.int .i64 s1) ∧ w'.cell? ⟨gS1, 1, none⟩ = some (.int .i64 s2) ∧ w'.cell? ⟨gS1, 2, none⟩ = some (.int .i64 s3) ∧ w'.cell? ⟨gS2, 0, none⟩ = some (.int .i64 t1) ∧ w'.cell? ⟨gS2, 1, none⟩ = some (.int .i64 t2) ∧ w'.cell? ⟨gS2, 2, none⟩ = some (.int .i64 t3))
              (first | (with_reducible exact HKP.out _ HB.out) | (exact HKP.out _ HB.out.drew) | (refine HKP.out _ (HB.out.trans (Below.mono (?_ : Below wq.heap.size wq _) HZ.out)); (go_grown; done)))
              ((go_at_call 14; refine (J12.out _).mono ?_; rintro e wq ⟨rfl, hb⟩; (first | (have HBB := step1 HB HZ hb) | (have HBB := step2 HB HZ hb) | (have HBB := stepD HB HZ hb)); have HB := HBB.1; have HZ := HBB.2; clear HBB hb))
            clear c0 c1 c2 c3 c4 c5
            obtain ⟨c0, c1, c2, c3, c4, c5⟩ := HKP.out _ HB.out
            go_upto_region 17 with fail
            go_region_held3 (fun w' => w'.cell? ⟨gS1, 0, none⟩ = some (.int .i64 s1) ∧ w'.cell? ⟨gS1, 1, none⟩ = some (.int .i64 s2) ∧ w'.cell? ⟨gS1, 2, none⟩ = some (.int .i64 s3) ∧ w'.cell? ⟨gS2, 0, none⟩ = some (.int .i64 t1) ∧ w'.cell? ⟨gS2, 1, none⟩ = some (.int .i64 t2) ∧ w'.cell? ⟨gS2, 2, none⟩ = some (.int .i64 t3))
              (first | (with_reducible exact HKP.out _ HB.out) | (exact HKP.out _ HB.out.drew) | (refine HKP.out _ (HB.out.trans (Below.mono (?_ : Below wq.heap.size wq _) HZ.out)); (go_grown; done)))
              ((go_at_call 14; refine (HM.out _).mono ?_; rintro e wq ⟨rfl, hb⟩; (first | (have HBB := step1 HB HZ hb) | (have HBB := step2 HB HZ hb) | (have HBB := stepD HB HZ hb)); have HB := HBB.1; have HZ := HBB.2; clear HBB hb))
            clear c0 c1 c2 c3 c4 c5
            have hm := HHM.out
            have hx := HHX.out
            go_wp2_with (go_at_call 25; refine (is_yes _ _).mono ?_; rintro e w' ⟨rfl, rfl⟩)
            go_roundw
            case rel => exact ⟨3, by omega, rfl, HS1.out.below HB.out, HS2.out.below HB.out, carry HW0 HB.out⟩
            case measure => simp [intOf]
          · have HB : Hid (Below wr.heap.size wr wr) := Lib.hid (Below.refl _ _)
            have HZ : Hid (wr.heap.size ≤ wr.heap.size) := Lib.hid (Nat.le_refl _)
            have HKP : Hid (∀ w', Below wr.heap.size wr w' → w'.cell? ⟨gS1, 0, none⟩ = some (.int .i64 s1) ∧ w'.cell? ⟨gS1, 1, none⟩ = some (.int .i64 s2) ∧ w'.cell? ⟨gS1, 2, none⟩ = some (.int .i64 s3) ∧ w'.cell? ⟨gS2, 0, none⟩ = some (.int .i64 t1) ∧ w'.cell? ⟨gS2, 1, none⟩ = some (.int .i64 t2) ∧ w'.cell? ⟨gS2, 2, none⟩ = some (.int .i64 t3)) := Lib.hid (fun w' h => by
              have c := (S1.out.below h).cells
              have d := (S2.out.below h).cells
              exact ⟨c.1, c.2.1, c.2.2.1, d.1, d.2.1, d.2.2.1⟩)
            have HW0 : Hid (Below w.heap.size w wr) := hb
            have HS1 := S1
            have HS2 := S2
            clear hb S1 S2
            obtain ⟨m, hm, hM⟩ := M13.out
            have HM := Lib.hid hM
            obtain ⟨c, hc⟩ : ∃ c, c = (X == 0) := ⟨_, rfl⟩
            rw [← hc] at hm
            have HHM := Lib.hid hm
            have HHX := Lib.hid hc.symm
            clear hM hc hm
            have u0 : IntKind.i64.wrap 0 = 0 := by decide
            have u1 : IntKind.i64.wrap 1 = 1 := by decide
            have u2 : IntKind.i64.wrap 2 = 2 := by decide
            have v1 : IntKind.i64.wrap (1 - 1) = 0 := by decide
            have v2 : IntKind.i64.wrap (2 - 1) = 1 := by decide
            have v3 : IntKind.i64.wrap (3 - 1) = 2 := by decide
            obtain ⟨c0, c1, c2, c3, c4, c5⟩ := HKP.out _ HB.out
            go_upto_region 16 with fail
            go_region_held3 (fun w' => w'.cell? ⟨gS1, 0, none⟩ = some (.int .i64 s1) ∧ w'.cell? ⟨gS1, 1, none⟩ = some (.int .i64 s2) ∧ w'.cell? ⟨gS1, 2, none⟩ = some (.int .i64 s3) ∧ w'.cell? ⟨gS2, 0, none⟩ = some (.int .i64 t1) ∧ w'.cell? ⟨gS2, 1, none⟩ = some (.int .i64 t2) ∧ w'.cell? ⟨gS2, 2, none⟩ = some (.int .i64 t3))
              (first | (with_reducible exact HKP.out _ HB.out) | (exact HKP.out _ HB.out.drew) | (refine HKP.out _ (HB.out.trans (Below.mono (?_ : Below wq.heap.size wq _) HZ.out)); (go_grown; done)))
              ((go_at_call 14; refine (J13.out _).mono ?_; rintro e wq ⟨rfl, hb⟩; (first | (have HBB := step1 HB HZ hb) | (have HBB := step2 HB HZ hb) | (have HBB := stepD HB HZ hb)); have HB := HBB.1; have HZ := HBB.2; clear HBB hb))
            clear c0 c1 c2 c3 c4 c5
            obtain ⟨c0, c1, c2, c3, c4, c5⟩ := HKP.out _ HB.out
            go_upto_region 17 with fail
            go_region_held3 (fun w' => w'.cell? ⟨gS1, 0, none⟩ = some (.int .i64 s1) ∧ w'.cell? ⟨gS1, 1, none⟩ = some (.int .i64 s2) ∧ w'.cell? ⟨gS1, 2, none⟩ = some (.int .i64 s3) ∧ w'.cell? ⟨gS2, 0, none⟩ = some (.int .i64 t1) ∧ w'.cell? ⟨gS2, 1, none⟩ = some (.int .i64 t2) ∧ w'.cell? ⟨gS2, 2, none⟩ = some (.int .i64 t3))
              (first | (with_reducible exact HKP.out _ HB.out) | (exact HKP.out _ HB.out.drew) | (refine HKP.out _ (HB.out.trans (Below.mono (?_ : Below wq.heap.size wq _) HZ.out)); (go_grown; done)))
              ((go_at_call 14; refine (HM.out _).mono ?_; rintro e wq ⟨rfl, hb⟩; (first | (have HBB := step1 HB HZ hb) | (have HBB := step2 HB HZ hb) | (have HBB := stepD HB HZ hb)); have HB := HBB.1; have HZ := HBB.2; clear HBB hb))
            clear c0 c1 c2 c3 c4 c5
            have hm := HHM.out
            have hx := HHX.out
            go_wp2_with (go_at_call 25; refine (is_yes _ _).mono ?_; rintro e w' ⟨rfl, rfl⟩)
            go_roundw
            case rel => exact ⟨4, by omega, rfl, HS1.out.below HB.out, HS2.out.below HB.out, carry HW0 HB.out⟩
            case measure => simp [intOf]
          · go_wp2
            go_roundw
            case rel => exact ⟨2, by omega, rfl, S1, S2, hb⟩
            case measure => simp [intOf]
      · go_wp2
        go_loopw [22] (fun jv wr => ∃ j : Int, (j = 1 ∨ j = 2 ∨ j = 3 ∨ j = 4) ∧ jv = .int .i64 j ∧ Hid (Tri wr gS1 s1 s2 s3 26) ∧ Hid (Tri wr gS2 t1 t2 t3 26) ∧ Hid (Below w.heap.size w wr)) (fun jv _ => (4 - intOf jv).toNat)
        case atStart => exact ⟨1, by omega, rfl, S1, S2, hb⟩
        case round =>
          obtain ⟨j, hj, rfl, S1, S2, hb⟩ := hrel
          rcases hj with rfl | rfl | rfl | rfl
          · have HB : Hid (Below wr.heap.size wr wr) := Lib.hid (Below.refl _ _)
            have HZ : Hid (wr.heap.size ≤ wr.heap.size) := Lib.hid (Nat.le_refl _)
            have HKP : Hid (∀ w', Below wr.heap.size wr w' → w'.cell? ⟨gS1, 0, none⟩ = some (.int .i64 s1) ∧ w'.cell? ⟨gS1, 1, none⟩ = some (.int .i64 s2) ∧ w'.cell? ⟨gS1, 2, none⟩ = some (.int .i64 s3) ∧ w'.cell? ⟨gS2, 0, none⟩ = some (.int .i64 t1) ∧ w'.cell? ⟨gS2, 1, none⟩ = some (.int .i64 t2) ∧ w'.cell? ⟨gS2, 2, none⟩ = some (.int .i64 t3)) := Lib.hid (fun w' h => by
              have c := (S1.out.below h).cells
              have d := (S2.out.below h).cells
              exact ⟨c.1, c.2.1, c.2.2.1, d.1, d.2.1, d.2.2.1⟩)
            have HW0 : Hid (Below w.heap.size w wr) := hb
            have HS1 := S1
            have HS2 := S2
            clear hb S1 S2
            obtain ⟨m, hm, hM⟩ := M21.out
            have HM := Lib.hid hM
            obtain ⟨c, hc⟩ : ∃ c, c = (X == 0) := ⟨_, rfl⟩
            rw [← hc] at hm
            have HHM := Lib.hid hm
            have HHX := Lib.hid hc.symm
            clear hM hc hm
            have u0 : IntKind.i64.wrap 0 = 0 := by decide
            have u1 : IntKind.i64.wrap 1 = 1 := by decide
            have u2 : IntKind.i64.wrap 2 = 2 := by decide
            have v1 : IntKind.i64.wrap (1 - 1) = 0 := by decide
            have v2 : IntKind.i64.wrap (2 - 1) = 1 := by decide
            have v3 : IntKind.i64.wrap (3 - 1) = 2 := by decide
            obtain ⟨c0, c1, c2, c3, c4, c5⟩ := HKP.out _ HB.out
            go_upto_region 16 with fail
            go_region_held3 (fun w' => w'.cell? ⟨gS1, 0, none⟩ = some (.int .i64 s1) ∧ w'.cell? ⟨gS1, 1, none⟩ = some (.int .i64 s2) ∧ w'.cell? ⟨gS1, 2, none⟩ = some (.int .i64 s3) ∧ w'.cell? ⟨gS2, 0, none⟩ = some (.int .i64 t1) ∧ w'.cell? ⟨gS2, 1, none⟩ = some (.int .i64 t2) ∧ w'.cell? ⟨gS2, 2, none⟩ = some (.int .i64 t3))
              (first | (with_reducible exact HKP.out _ HB.out) | (exact HKP.out _ HB.out.drew) | (refine HKP.out _ (HB.out.trans (Below.mono (?_ : Below wq.heap.size wq _) HZ.out)); (go_grown; done)))
              ((go_at_call 14; refine (J21.out _).mono ?_; rintro e wq ⟨rfl, hb⟩; (first | (have HBB := step1 HB HZ hb) | (have HBB := step2 HB HZ hb) | (have HBB := stepD HB HZ hb)); have HB := HBB.1; have HZ := HBB.2; clear HBB hb))
            clear c0 c1 c2 c3 c4 c5
            obtain ⟨c0, c1, c2, c3, c4, c5⟩ := HKP.out _ HB.out
            go_upto_region 17 with fail
            go_region_held3 (fun w' => w'.cell? ⟨gS1, 0, none⟩ = some (.int .i64 s1) ∧ w'.cell? ⟨gS1, 1, none⟩ = some (.int .i64 s2) ∧ w'.cell? ⟨gS1, 2, none⟩ = some (.int .i64 s3) ∧ w'.cell? ⟨gS2, 0, none⟩ = some (.int .i64 t1) ∧ w'.cell? ⟨gS2, 1, none⟩ = some (.int .i64 t2) ∧ w'.cell? ⟨gS2, 2, none⟩ = some (.int .i64 t3))
              (first | (with_reducible exact HKP.out _ HB.out) | (exact HKP.out _ HB.out.drew) | (refine HKP.out _ (HB.out.trans (Below.mono (?_ : Below wq.heap.size wq _) HZ.out)); (go_grown; done)))
              ((go_at_call 14; refine (HM.out _).mono ?_; rintro e wq ⟨rfl, hb⟩; (first | (have HBB := step1 HB HZ hb) | (have HBB := step2 HB HZ hb) | (have HBB := stepD HB HZ hb)); have HB := HBB.1; have HZ := HBB.2; clear HBB hb))
            clear c0 c1 c2 c3 c4 c5
            have hm := HHM.out
            have hx := HHX.out
            go_wp2_with (go_at_call 25; refine (is_yes _ _).mono ?_; rintro e w' ⟨rfl, rfl⟩)
            go_roundw
            case rel => exact ⟨2, by omega, rfl, HS1.out.below HB.out, HS2.out.below HB.out, carry HW0 HB.out⟩
            case measure => simp [intOf]
          · go_wp2
            go_roundw
            case rel => exact ⟨3, by omega, rfl, S1, S2, hb⟩
            case measure => simp [intOf]
          · have HB : Hid (Below wr.heap.size wr wr) := Lib.hid (Below.refl _ _)
            have HZ : Hid (wr.heap.size ≤ wr.heap.size) := Lib.hid (Nat.le_refl _)
            have HKP : Hid (∀ w', Below wr.heap.size wr w' → w'.cell? ⟨gS1, 0, none⟩ = some (.int .i64 s1) ∧ w'.cell? ⟨gS1, 1, none⟩ = some (.int .i64 s2) ∧ w'.cell? ⟨gS1, 2, none⟩ = some (.int .i64 s3) ∧ w'.cell? ⟨gS2, 0, none⟩ = some (.int .i64 t1) ∧ w'.cell? ⟨gS2, 1, none⟩ = some (.int .i64 t2) ∧ w'.cell? ⟨gS2, 2, none⟩ = some (.int .i64 t3)) := Lib.hid (fun w' h => by
              have c := (S1.out.below h).cells
              have d := (S2.out.below h).cells
              exact ⟨c.1, c.2.1, c.2.2.1, d.1, d.2.1, d.2.2.1⟩)
            have HW0 : Hid (Below w.heap.size w wr) := hb
            have HS1 := S1
            have HS2 := S2
            clear hb S1 S2
            obtain ⟨m, hm, hM⟩ := M23.out
            have HM := Lib.hid hM
            obtain ⟨c, hc⟩ : ∃ c, c = (X == 0) := ⟨_, rfl⟩
            rw [← hc] at hm
            have HHM := Lib.hid hm
            have HHX := Lib.hid hc.symm
            clear hM hc hm
            have u0 : IntKind.i64.wrap 0 = 0 := by decide
            have u1 : IntKind.i64.wrap 1 = 1 := by decide
            have u2 : IntKind.i64.wrap 2 = 2 := by decide
            have v1 : IntKind.i64.wrap (1 - 1) = 0 := by decide
            have v2 : IntKind.i64.wrap (2 - 1) = 1 := by decide
            have v3 : IntKind.i64.wrap (3 - 1) = 2 := by decide
            obtain ⟨c0, c1, c2, c3, c4, c5⟩ := HKP.out _ HB.out
            go_upto_region 16 with fail
            go_region_held3 (fun w' => w'.cell? ⟨gS1, 0, none⟩ = some (.int .i64 s1) ∧ w'.cell? ⟨gS1, 1, none⟩ = some (.int .i64 s2) ∧ w'.cell? ⟨gS1, 2, none⟩ = some (.int .i64 s3) ∧ w'.cell? ⟨gS2, 0, none⟩ = some (.int .i64 t1) ∧ w'.cell? ⟨gS2, 1, none⟩ = some (.int .i64 t2) ∧ w'.cell? ⟨gS2, 2, none⟩ = some (.int .i64 t3))
              (first | (with_reducible exact HKP.out _ HB.out) | (exact HKP.out _ HB.out.drew) | (refine HKP.out _ (HB.out.trans (Below.mono (?_ : Below wq.heap.size wq _) HZ.out)); (go_grown; done)))
              ((go_at_call 14; refine (J23.out _).mono ?_; rintro e wq ⟨rfl, hb⟩; (first | (have HBB := step1 HB HZ hb) | (have HBB := step2 HB HZ hb) | (have HBB := stepD HB HZ hb)); have HB := HBB.1; have HZ := HBB.2; clear HBB hb))
            clear c0 c1 c2 c3 c4 c5
            obtain ⟨c0, c1, c2, c3, c4, c5⟩ := HKP.out _ HB.out
            go_upto_region 17 with fail
            go_region_held3 (fun w' => w'.cell? ⟨gS1, 0, none⟩ = some (.int .i64 s1) ∧ w'.cell? ⟨gS1, 1, none⟩ = some (.int .i64 s2) ∧ w'.cell? ⟨gS1, 2, none⟩ = some (.int .i64 s3) ∧ w'.cell? ⟨gS2, 0, none⟩ = some (.int .i64 t1) ∧ w'.cell? ⟨gS2, 1, none⟩ = some (.int .i64 t2) ∧ w'.cell? ⟨gS2, 2, none⟩ = some (.int .i64 t3))
              (first | (with_reducible exact HKP.out _ HB.out) | (exact HKP.out _ HB.out.drew) | (refine HKP.out _ (HB.out.trans (Below.mono (?_ : Below wq.heap.size wq _) HZ.out)); (go_grown; done)))
              ((go_at_call 14; refine (HM.out _).mono ?_; rintro e wq ⟨rfl, hb⟩; (first | (have HBB := step1 HB HZ hb) | (have HBB := step2 HB HZ hb) | (have HBB := stepD HB HZ hb)); have HB := HBB.1; have HZ := HBB.2; clear HBB hb))
            clear c0 c1 c2 c3 c4 c5
            have hm := HHM.out
            have hx := HHX.out
            go_wp2_with (go_at_call 25; refine (is_yes _ _).mono ?_; rintro e w' ⟨rfl, rfl⟩)
            go_roundw
            case rel => exact ⟨4, by omega, rfl, HS1.out.below HB.out, HS2.out.below HB.out, carry HW0 HB.out⟩
            case measure => simp [intOf]
          · go_wp2
            go_roundw
            case rel => exact ⟨3, by omega, rfl, S1, S2, hb⟩
            case measure => simp [intOf]
      · go_wp2
        go_loopw [22] (fun jv wr => ∃ j : Int, (j = 1 ∨ j = 2 ∨ j = 3 ∨ j = 4) ∧ jv = .int .i64 j ∧ Hid (Tri wr gS1 s1 s2 s3 26) ∧ Hid (Tri wr gS2 t1 t2 t3 26) ∧ Hid (Below w.heap.size w wr)) (fun jv _ => (4 - intOf jv).toNat)
        case atStart => exact ⟨1, by omega, rfl, S1, S2, hb⟩
        case round =>
          obtain ⟨j, hj, rfl, S1, S2, hb⟩ := hrel
          rcases hj with rfl | rfl | rfl | rfl
          · have HB : Hid (Below wr.heap.size wr wr) := Lib.hid (Below.refl _ _)
            have HZ : Hid (wr.heap.size ≤ wr.heap.size) := Lib.hid (Nat.le_refl _)
            have HKP : Hid (∀ w', Below wr.heap.size wr w' → w'.cell? ⟨gS1, 0, none⟩ = some (.int .i64 s1) ∧ w'.cell? ⟨gS1, 1, none⟩ = some (.int .i64 s2) ∧ w'.cell? ⟨gS1, 2, none⟩ = some (.int .i64 s3) ∧ w'.cell? ⟨gS2, 0, none⟩ = some (.int .i64 t1) ∧ w'.cell? ⟨gS2, 1, none⟩ = some (.int .i64 t2) ∧ w'.cell? ⟨gS2, 2, none⟩ = some (.int .i64 t3)) := Lib.hid (fun w' h => by
              have c := (S1.out.below h).cells
              have d := (S2.out.below h).cells
              exact ⟨c.1, c.2.1, c.2.2.1, d.1, d.2.1, d.2.2.1⟩)
            have HW0 : Hid (Below w.heap.size w wr) := hb
            have HS1 := S1
            have HS2 := S2
            clear hb S1 S2
            obtain ⟨m, hm, hM⟩ := M31.out
            have HM := Lib.hid hM
            obtain ⟨c, hc⟩ : ∃ c, c = (X == 0) := ⟨_, rfl⟩
            rw [← hc] at hm
            have HHM := Lib.hid hm
            have HHX := Lib.hid hc.symm
            clear hM hc hm
            have u0 : IntKind.i64.wrap 0 = 0 := by decide
            have u1 : IntKind.i64.wrap 1 = 1 := by decide
            have u2 : IntKind.i64.wrap 2 = 2 := by decide
            have v1 : IntKind.i64.wrap (1 - 1) = 0 := by decide
            have v2 : IntKind.i64.wrap (2 - 1) = 1 := by decide
            have v3 : IntKind.i64.wrap (3 - 1) = 2 := by decide
            obtain ⟨c0, c1, c2, c3, c4, c5⟩ := HKP.out _ HB.out
            go_upto_region 16 with fail
            go_region_held3 (fun w' => w'.cell? ⟨gS1, 0, none⟩ = some (.int .i64 s1) ∧ w'.cell? ⟨gS1, 1, none⟩ = some (.int .i64 s2) ∧ w'.cell? ⟨gS1, 2, none⟩ = some (.int .i64 s3) ∧ w'.cell? ⟨gS2, 0, none⟩ = some (.int .i64 t1) ∧ w'.cell? ⟨gS2, 1, none⟩ = some (.int .i64 t2) ∧ w'.cell? ⟨gS2, 2, none⟩ = some (.int .i64 t3))
              (first | (with_reducible exact HKP.out _ HB.out) | (exact HKP.out _ HB.out.drew) | (refine HKP.out _ (HB.out.trans (Below.mono (?_ : Below wq.heap.size wq _) HZ.out)); (go_grown; done)))
              ((go_at_call 14; refine (J31.out _).mono ?_; rintro e wq ⟨rfl, hb⟩; (first | (have HBB := step1 HB HZ hb) | (have HBB := step2 HB HZ hb) | (have HBB := stepD HB HZ hb)); have HB := HBB.1; have HZ := HBB.2; clear HBB hb))
            clear c0 c1 c2 c3 c4 c5
            obtain ⟨c0, c1, c2, c3, c4, c5⟩ := HKP.out _ HB.out
            go_upto_region 17 with fail
            go_region_held3 (fun w' => w'.cell? ⟨gS1, 0, none⟩ = some (.int .i64 s1) ∧ w'.cell? ⟨gS1, 1, none⟩ = some (.int .i64 s2) ∧ w'.cell? ⟨gS1, 2, none⟩ = some (.int .i64 s3) ∧ w'.cell? ⟨gS2, 0, none⟩ = some (.int .i64 t1) ∧ w'.cell? ⟨gS2, 1, none⟩ = some (.int .i64 t2) ∧ w'.cell? ⟨gS2, 2, none⟩ = some (.int .i64 t3))
              (first | (with_reducible exact HKP.out _ HB.out) | (exact HKP.out _ HB.out.drew) | (refine HKP.out _ (HB.out.trans (Below.mono (?_ : Below wq.heap.size wq _) HZ.out)); (go_grown; done)))
              ((go_at_call 14; refine (HM.out _).mono ?_; rintro e wq ⟨rfl, hb⟩; (first | (have HBB := step1 HB HZ hb) | (have HBB := step2 HB HZ hb) | (have HBB := stepD HB HZ hb)); have HB := HBB.1; have HZ := HBB.2; clear HBB hb))
            clear c0 c1 c2 c3 c4 c5
            have hm := HHM.out
            have hx := HHX.out
            go_wp2_with (go_at_call 25; refine (is_yes _ _).mono ?_; rintro e w' ⟨rfl, rfl⟩)
            go_roundw
            case rel => exact ⟨2, by omega, rfl, HS1.out.below HB.out, HS2.out.below HB.out, carry HW0 HB.out⟩
            case measure => simp [intOf]
          · have HB : Hid (Below wr.heap.size wr wr) := Lib.hid (Below.refl _ _)
            have HZ : Hid (wr.heap.size ≤ wr.heap.size) := Lib.hid (Nat.le_refl _)
            have HKP : Hid (∀ w', Below wr.heap.size wr w' → w'.cell? ⟨gS1, 0, none⟩ = some (.int .i64 s1) ∧ w'.cell? ⟨gS1, 1, none⟩ = some (.int .i64 s2) ∧ w'.cell? ⟨gS1, 2, none⟩ = some (.int .i64 s3) ∧ w'.cell? ⟨gS2, 0, none⟩ = some (.int .i64 t1) ∧ w'.cell? ⟨gS2, 1, none⟩ = some (.int .i64 t2) ∧ w'.cell? ⟨gS2, 2, none⟩ = some (.int .i64 t3)) := Lib.hid (fun w' h => by
              have c := (S1.out.below h).cells
              have d := (S2.out.below h).cells
              exact ⟨c.1, c.2.1, c.2.2.1, d.1, d.2.1, d.2.2.1⟩)
            have HW0 : Hid (Below w.heap.size w wr) := hb
            have HS1 := S1
            have HS2 := S2
            clear hb S1 S2
            obtain ⟨m, hm, hM⟩ := M32.out
            have HM := Lib.hid hM
            obtain ⟨c, hc⟩ : ∃ c, c = (X == 0) := ⟨_, rfl⟩
            rw [← hc] at hm
            have HHM := Lib.hid hm
            have HHX := Lib.hid hc.symm
            clear hM hc hm
            have u0 : IntKind.i64.wrap 0 = 0 := by decide
            have u1 : IntKind.i64.wrap 1 = 1 := by decide
            have u2 : IntKind.i64.wrap 2 = 2 := by decide
            have v1 : IntKind.i64.wrap (1 - 1) = 0 := by decide
            have v2 : IntKind.i64.wrap (2 - 1) = 1 := by decide
            have v3 : IntKind.i64.wrap (3 - 1) = 2 := by decide
            obtain ⟨c0, c1, c2, c3, c4, c5⟩ := HKP.out _ HB.out
            go_upto_region 16 with fail
            go_region_held3 (fun w' => w'.cell? ⟨gS1, 0, none⟩ = some (.int .i64 s1) ∧ w'.cell? ⟨gS1, 1, none⟩ = some (.int .i64 s2) ∧ w'.cell? ⟨gS1, 2, none⟩ = some (.int .i64 s3) ∧ w'.cell? ⟨gS2, 0, none⟩ = some (.int .i64 t1) ∧ w'.cell? ⟨gS2, 1, none⟩ = some (.int .i64 t2) ∧ w'.cell? ⟨gS2, 2, none⟩ = some (.int .i64 t3))
              (first | (with_reducible exact HKP.out _ HB.out) | (exact HKP.out _ HB.out.drew) | (refine HKP.out _ (HB.out.trans (Below.mono (?_ : Below wq.heap.size wq _) HZ.out)); (go_grown; done)))
              ((go_at_call 14; refine (J32.out _).mono ?_; rintro e wq ⟨rfl, hb⟩; (first | (have HBB := step1 HB HZ hb) | (have HBB := step2 HB HZ hb) | (have HBB := stepD HB HZ hb)); have HB := HBB.1; have HZ := HBB.2; clear HBB hb))
            clear c0 c1 c2 c3 c4 c5
            obtain ⟨c0, c1, c2, c3, c4, c5⟩ := HKP.out _ HB.out
            go_upto_region 17 with fail
            go_region_held3 (fun w' => w'.cell? ⟨gS1, 0, none⟩ = some (.int .i64 s1) ∧ w'.cell? ⟨gS1, 1, none⟩ = some (.int .i64 s2) ∧ w'.cell? ⟨gS1, 2, none⟩ = some (.int .i64 s3) ∧ w'.cell? ⟨gS2, 0, none⟩ = some (.int .i64 t1) ∧ w'.cell? ⟨gS2, 1, none⟩ = some (.int .i64 t2) ∧ w'.cell? ⟨gS2, 2, none⟩ = some (.int .i64 t3))
              (first | (with_reducible exact HKP.out _ HB.out) | (exact HKP.out _ HB.out.drew) | (refine HKP.out _ (HB.out.trans (Below.mono (?_ : Below wq.heap.size wq _) HZ.out)); (go_grown; done)))
              ((go_at_call 14; refine (HM.out _).mono ?_; rintro e wq ⟨rfl, hb⟩; (first | (have HBB := step1 HB HZ hb) | (have HBB := step2 HB HZ hb) | (have HBB := stepD HB HZ hb)); have HB := HBB.1; have HZ := HBB.2; clear HBB hb))
            clear c0 c1 c2 c3 c4 c5
            have hm := HHM.out
            have hx := HHX.out
            go_wp2_with (go_at_call 25; refine (is_yes _ _).mono ?_; rintro e w' ⟨rfl, rfl⟩)
            go_roundw
            case rel => exact ⟨3, by omega, rfl, HS1.out.below HB.out, HS2.out.below HB.out, carry HW0 HB.out⟩
            case measure => simp [intOf]
          · go_wp2
            go_roundw
            case rel => exact ⟨4, by omega, rfl, S1, S2, hb⟩
            case measure => simp [intOf]
          · go_wp2
            go_roundw
            case rel => exact ⟨4, by omega, rfl, S1, S2, hb⟩
            case measure => simp [intOf]
      · go_wp2
        go_ret
        exact ⟨rfl, hb.out⟩

end Go.Proofs.Ytkagmbmkopdekaa
