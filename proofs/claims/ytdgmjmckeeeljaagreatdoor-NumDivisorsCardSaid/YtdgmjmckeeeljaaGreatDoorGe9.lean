/- The law NumDivisors, walked. Condition: the table of powers of ten is laid. The given statement NumDivisors: whatever the input, the law returns true and leaves its arguments as they were. Condition: the listed variables hold what the program's text lays in them (the given tie). -/
import Derived.BigRegion
import Derived.Deep.RegionHeld3
import Derived.Test.YtdgmjmckeeeljaaGreatDoorGe5
import Derived.Test.YtdgmjmckeeeljaaGreatDoorGe6
import Derived.Test.YtdgmjmckeeeljaaGreatDoorGe8
namespace Go.Proofs.YtdgmjmckeeeljaaGreatDoor
open Go.RowKit

set_option maxRecDepth 100000 in
set_option maxHeartbeats 8000000 in
theorem divisors_any {w : World} {s0 s1 s2 : Option Addr} {n0 n1 n2 c0 c1 c2 : Nat} {z0 z1 z2 : List Int} (h0 : Li w (.slice s0 n0 c0) z0) (h1 : Li w (.slice s1 n1 c1) z1) (h2 : Li w (.slice s2 n2 c2) z2) (htab : ∀ W, Below w.heap.size w W → Tab W) :
    Calls Tryz.prog 8 #[.agg #[.slice s0 n0 c0, .slice s1 n1 c1, .slice s2 n2 c2]] w fun e w' => e = .returned (.bool true) ∧ Below w.heap.size w w' := by
  have HM0 := Lib.hid (fun W (hb : Below w.heap.size w W) => made_parts (h0.below hb))
  have HM1 := Lib.hid (fun W (hb : Below w.heap.size w W) => made_parts (h1.below hb))
  have HM2 := Lib.hid (fun W (hb : Below w.heap.size w W) => made_parts (h2.below hb))
  have HSA : Hid (∀ W, Below w.heap.size w W → Calls Tryz.prog 10 #[] W fun e w' => e = .returned (.bool true) ∧ Below W.heap.size W w') := Lib.hid (fun W hb => sanity_any W (fun W' hb' => htab W' (hb.trans (hb'.mono hb.size))))
  have HW : Hid (Below w.heap.size w w) := Lib.hid (Below.refl _ _)
  have HZ : Hid (w.heap.size ≤ w.heap.size) := Lib.hid (Nat.le_refl _)
  clear h0 h1 h2 htab
  go_enter Tryz.func8, Tryz.ntmps8
  go_upto_region 1 with fail
  obtain ⟨W, hW⟩ : ∃ W, W = w.alloc (.cells #[.slice s0 n0 c0, .slice s1 n1 c1, .slice s2 n2 c2] 52) := ⟨_, rfl⟩
  have hb : Below w.heap.size w W := by rw [hW]; exact alloc_b _ _
  have r0 : W.heap[w.heap.size]? = some (.cells #[.slice s0 n0 c0, .slice s1 n1 c1, .slice s2 n2 c2] 52 (0, 0)) := by rw [hW]; exact heap_alloc_new _ _
  have HBL : Hid (∀ W', Below W.heap.size W W' → W'.cell? ⟨w.heap.size, 0, none⟩ = some (.slice s0 n0 c0) ∧ W'.cell? ⟨w.heap.size, 1, none⟩ = some (.slice s1 n1 c1) ∧ W'.cell? ⟨w.heap.size, 2, none⟩ = some (.slice s2 n2 c2)) := Lib.hid (fun W' h => by
    have q0 := (h.block _ (Array.getElem?_eq_some_iff.1 r0).1).trans r0
    exact ⟨by rw [cell_of_row _ _ _ _ _ _ q0]; rfl, by rw [cell_of_row _ _ _ _ _ _ q0]; rfl, by rw [cell_of_row _ _ _ _ _ _ q0]; rfl⟩)
  have HWW := step1 HW HZ hb
  have HW := HWW.1
  have HZ := HWW.2
  have HD : Hid (Below W.heap.size W W) := Lib.hid (Below.refl _ _)
  have HE : Hid (W.heap.size ≤ W.heap.size) := Lib.hid (Nat.le_refl _)
  rw [← hW]
  clear hW hb HWW r0
  go_upto_region 2 with (go_at_call 10; refine (HSA.out _ HW.out).mono ?_; rintro e wz ⟨rfl, hb⟩; have HWW := step1 HW HZ hb; have HW := HWW.1; have HZ := HWW.2; have HDD := step1 HD HE hb; have HD := HDD.1; have HE := HDD.2; clear HWW HDD hb)
  obtain ⟨k0, k1, k2⟩ := HBL.out _ HD.out
  obtain ⟨W1, hW1⟩ : ∃ W1, W1 = wz := ⟨_, rfl⟩
  obtain ⟨T, hT⟩ : ∃ T : Array Value, T = #[.agg #[.slice s0 n0 c0, .slice s1 n1 c1, .slice s2 n2 c2], .pointer (some ⟨w.heap.size, 0, none⟩), .bool false, .bool true, undef, undef, undef, undef, undef, undef, undef, undef, undef, undef, undef, undef, undef, undef, undef, undef, undef, undef, undef, undef, undef, undef, undef, undef, undef, .bool true, undef, undef, undef, undef, undef, undef, undef, undef, undef, undef, undef, undef, undef, undef, undef, undef, undef, undef, undef, undef, undef, undef, undef, undef, undef, undef, undef, undef, undef, undef, undef, undef, undef, undef, undef, undef, undef, undef, undef, undef, undef, undef, undef, undef, undef, undef, undef, undef, undef, undef, undef, undef, undef, undef, undef, undef, undef, undef, undef, undef, undef, undef, undef, undef, undef, undef, undef, undef, undef, undef, undef, undef, undef, undef, undef, undef, undef, undef, undef, undef, undef, undef, undef, undef, undef, undef, undef, undef, undef, undef, undef, undef, undef, undef, undef, undef, undef, undef, undef, undef, undef, undef, undef, undef, undef, undef, undef, undef, undef, undef, undef, undef, undef, undef, undef, undef, undef, undef, undef, undef, undef, undef, undef, undef, undef, undef, undef, undef, undef, undef, undef, undef, undef, undef, undef, undef, undef, undef, undef, undef, undef, undef, undef, undef, undef, undef, undef, undef, undef, undef, undef, undef, undef, undef, undef, undef, undef, undef, undef, undef, undef, undef, undef, undef, undef, undef, undef, undef, undef, undef] := ⟨_, rfl⟩
  rw [← hT]
  refine regionP_inv (by kernel_rfl) (fun l a w' => ∃ vs gs, RM wz T 3 30 4 w.heap.size (fun t => if t = 0 then .slice s0 n0 c0 else if t = 1 then .slice s1 n1 c1 else .slice s2 n2 c2) vs gs l a w') ?h0 ?step ?fin
  case h0 => exact ⟨fun _ => undef, fun _ => 0, RM.start rfl (show Below wz.heap.size wz wz.drew from ⟨rfl, rfl, rfl, Nat.le_refl _, fun _ _ => rfl⟩)⟩
  case step =>
      rintro l a w' i' ⟨vs, gs, hR⟩ hi'
      obtain ⟨hl0, o, ho, hdep⟩ := mem_ready.1 hi'
      have h15 : i' < 15 := by
        have := (Array.getElem?_eq_some_iff.1 ho).1
        simpa using this
      have hbw : Below w.heap.size w w' := HW.out.trans (hR.bl.mono HZ.out)
      obtain ⟨y0, y1, y2⟩ := HBL.out _ (HD.out.trans (hR.bl.mono HE.out))
      rcases (show i' = 0 ∨ i' = 1 ∨ i' = 2 ∨ i' = 3 ∨ i' = 4 ∨ i' = 5 ∨ i' = 6 ∨ i' = 7 ∨ i' = 8 ∨ i' = 9 ∨ i' = 10 ∨ i' = 11 ∨ i' = 12 ∨ i' = 13 ∨ i' = 14 by omega) with rfl | rfl | rfl | rfl | rfl | rfl | rfl | rfl | rfl | rfl | rfl | rfl | rfl | rfl | rfl
      · simp at ho
        subst ho
        simp [Region.binds] at hdep
        have k2 : a.tmps.getD 1 undef = .pointer (some ⟨w.heap.size, 0, none⟩) := (hR.fr.kept rfl (by simp [hT])).trans (by rw [hT]; rfl)
        clear hi' hdep hl0
        unfold wpOp
        simp [Region.wanted]
        refine .inl ?_
        unfold Oper.wp
        simp [execOp, go_sem, Act.eval, k2]
        exact ⟨vs, gs, hR.plain (by omega) (by omega) rfl rfl⟩
      · simp at ho
        subst ho
        simp [Region.binds] at hdep
        have k3 : a.tmps.getD 30 undef = .pointer (some ⟨w.heap.size, 0, none⟩) := hR.fr.done (i := 0) rfl (by simp_all) (by simp [hT])
        clear hi' hdep hl0
        unfold wpOp
        simp [Region.wanted]
        refine .inl ?_
        unfold Oper.wp
        simp [execOp, go_sem, Act.eval, k3, y0]
        exact ⟨vs, gs, hR.plain (by omega) (by omega) rfl rfl⟩
      · simp at ho
        subst ho
        simp [Region.binds] at hdep
        have k4 : a.tmps.getD 31 undef = .slice s0 n0 c0 := hR.fr.done (i := 1) rfl (by simp_all) (by simp [hT])
        clear hi' hdep
        unfold wpOp
        simp [Region.wanted]
        refine .inl ?_
        unfold Oper.wp
        simp [execOp, go_sem, Act.eval, k4]
        refine (HM0.out w' hbw).mono ?_
        rintro e w'' ⟨neg, ao, n, cap, z, rfl, hn, hA, hb⟩
        exact ⟨_, gs, hR.call (t := 0) (by omega) hl0 rfl (.inr (by omega)) ⟨neg, ao, n, cap, z, rfl, hn, hA⟩ hb⟩
      · simp at ho
        subst ho
        simp [Region.binds] at hdep
        have k2 : a.tmps.getD 1 undef = .pointer (some ⟨w.heap.size, 0, none⟩) := (hR.fr.kept rfl (by simp [hT])).trans (by rw [hT]; rfl)
        clear hi' hdep hl0
        unfold wpOp
        simp [Region.wanted]
        refine .inl ?_
        unfold Oper.wp
        simp [execOp, go_sem, Act.eval, k2]
        exact ⟨vs, gs, hR.plain (by omega) (by omega) rfl rfl⟩
      · simp at ho
        subst ho
        simp [Region.binds] at hdep
        have k3 : a.tmps.getD 33 undef = .pointer (some ⟨w.heap.size, 1, none⟩) := hR.fr.done (i := 3) rfl (by simp_all) (by simp [hT])
        clear hi' hdep hl0
        unfold wpOp
        simp [Region.wanted]
        refine .inl ?_
        unfold Oper.wp
        simp [execOp, go_sem, Act.eval, k3, y1]
        exact ⟨vs, gs, hR.plain (by omega) (by omega) rfl rfl⟩
      · simp at ho
        subst ho
        simp [Region.binds] at hdep
        have k4 : a.tmps.getD 34 undef = .slice s1 n1 c1 := hR.fr.done (i := 4) rfl (by simp_all) (by simp [hT])
        clear hi' hdep
        unfold wpOp
        simp [Region.wanted]
        refine .inl ?_
        unfold Oper.wp
        simp [execOp, go_sem, Act.eval, k4]
        refine (HM1.out w' hbw).mono ?_
        rintro e w'' ⟨neg, ao, n, cap, z, rfl, hn, hA, hb⟩
        exact ⟨_, gs, hR.call (t := 1) (by omega) hl0 rfl (.inr (by omega)) ⟨neg, ao, n, cap, z, rfl, hn, hA⟩ hb⟩
      · simp at ho
        subst ho
        simp [Region.binds] at hdep
        have k2 : a.tmps.getD 1 undef = .pointer (some ⟨w.heap.size, 0, none⟩) := (hR.fr.kept rfl (by simp [hT])).trans (by rw [hT]; rfl)
        clear hi' hdep hl0
        unfold wpOp
        simp [Region.wanted]
        refine .inl ?_
        unfold Oper.wp
        simp [execOp, go_sem, Act.eval, k2]
        exact ⟨vs, gs, hR.plain (by omega) (by omega) rfl rfl⟩
      · simp at ho
        subst ho
        simp [Region.binds] at hdep
        have k3 : a.tmps.getD 36 undef = .pointer (some ⟨w.heap.size, 2, none⟩) := hR.fr.done (i := 6) rfl (by simp_all) (by simp [hT])
        clear hi' hdep hl0
        unfold wpOp
        simp [Region.wanted]
        refine .inl ?_
        unfold Oper.wp
        simp [execOp, go_sem, Act.eval, k3, y2]
        exact ⟨vs, gs, hR.plain (by omega) (by omega) rfl rfl⟩
      · simp at ho
        subst ho
        simp [Region.binds] at hdep
        have k4 : a.tmps.getD 37 undef = .slice s2 n2 c2 := hR.fr.done (i := 7) rfl (by simp_all) (by simp [hT])
        clear hi' hdep
        unfold wpOp
        simp [Region.wanted]
        refine .inl ?_
        unfold Oper.wp
        simp [execOp, go_sem, Act.eval, k4]
        refine (HM2.out w' hbw).mono ?_
        rintro e w'' ⟨neg, ao, n, cap, z, rfl, hn, hA, hb⟩
        exact ⟨_, gs, hR.call (t := 2) (by omega) hl0 rfl (.inr (by omega)) ⟨neg, ao, n, cap, z, rfl, hn, hA⟩ hb⟩
      · simp at ho
        subst ho
        simp [Region.binds] at hdep
        clear hi' hdep
        unfold wpOp
        simp [Region.wanted]
        refine .inl ?_
        unfold Oper.wp
        simp [execOp, go_sem, Act.eval]
        exact ⟨vs, _, hR.alloc (t := 0) (by omega) hl0 rfl (.inr (by omega))⟩
      · simp at ho
        subst ho
        simp [Region.binds] at hdep
        clear hi' hdep
        unfold wpOp
        simp [Region.wanted]
        refine .inl ?_
        unfold Oper.wp
        simp [execOp, go_sem, Act.eval]
        exact ⟨vs, _, hR.alloc (t := 1) (by omega) hl0 rfl (.inr (by omega))⟩
      · simp at ho
        subst ho
        simp [Region.binds] at hdep
        clear hi' hdep
        unfold wpOp
        simp [Region.wanted]
        refine .inl ?_
        unfold Oper.wp
        simp [execOp, go_sem, Act.eval]
        exact ⟨vs, _, hR.alloc (t := 2) (by omega) hl0 rfl (.inr (by omega))⟩
      · simp at ho
        subst ho
        simp [Region.binds] at hdep
        have j1 : l.getD 9 true = true := getD_true (by simp_all)
        have j2 : l.getD 2 true = true := getD_true (by simp_all)
        have k5 : a.tmps.getD 4 undef = .pointer (some ⟨gs 0, 0, none⟩) := hR.fr.done (i := 9) rfl (by simp_all) (by simp [hT])
        have k6 : a.tmps.getD 32 undef = vs 0 := hR.fr.done (i := 2) rfl (by simp_all) (by simp [hT])
        obtain ⟨neg, ao, n, cap, z, ev, _⟩ := hR.val 0 (by omega) j2
        rw [ev] at k6
        obtain ⟨x0, x1, x2, x3, x4⟩ := hR.ready (t := 0) (by omega) hl0 j1
        clear hi' hdep
        unfold wpOp
        simp [Region.wanted]
        refine .inl ?_
        unfold Oper.wp
        simp [execOp, go_sem, Act.eval, k5, k6, x0, x1, x2, x3, x4]
        exact ⟨vs, gs, hR.store (t := 0) (by omega) hl0 j1 j2 ev undef⟩
      · simp at ho
        subst ho
        simp [Region.binds] at hdep
        have j1 : l.getD 10 true = true := getD_true (by simp_all)
        have j2 : l.getD 5 true = true := getD_true (by simp_all)
        have k5 : a.tmps.getD 5 undef = .pointer (some ⟨gs 1, 0, none⟩) := hR.fr.done (i := 10) rfl (by simp_all) (by simp [hT])
        have k6 : a.tmps.getD 35 undef = vs 1 := hR.fr.done (i := 5) rfl (by simp_all) (by simp [hT])
        obtain ⟨neg, ao, n, cap, z, ev, _⟩ := hR.val 1 (by omega) j2
        rw [ev] at k6
        obtain ⟨x0, x1, x2, x3, x4⟩ := hR.ready (t := 1) (by omega) hl0 j1
        clear hi' hdep
        unfold wpOp
        simp [Region.wanted]
        refine .inl ?_
        unfold Oper.wp
        simp [execOp, go_sem, Act.eval, k5, k6, x0, x1, x2, x3, x4]
        exact ⟨vs, gs, hR.store (t := 1) (by omega) hl0 j1 j2 ev undef⟩
      · simp at ho
        subst ho
        simp [Region.binds] at hdep
        have j1 : l.getD 11 true = true := getD_true (by simp_all)
        have j2 : l.getD 8 true = true := getD_true (by simp_all)
        have k5 : a.tmps.getD 6 undef = .pointer (some ⟨gs 2, 0, none⟩) := hR.fr.done (i := 11) rfl (by simp_all) (by simp [hT])
        have k6 : a.tmps.getD 38 undef = vs 2 := hR.fr.done (i := 8) rfl (by simp_all) (by simp [hT])
        obtain ⟨neg, ao, n, cap, z, ev, _⟩ := hR.val 2 (by omega) j2
        rw [ev] at k6
        obtain ⟨x0, x1, x2, x3, x4⟩ := hR.ready (t := 2) (by omega) hl0 j1
        clear hi' hdep
        unfold wpOp
        simp [Region.wanted]
        refine .inl ?_
        unfold Oper.wp
        simp [execOp, go_sem, Act.eval, k5, k6, x0, x1, x2, x3, x4]
        exact ⟨vs, gs, hR.store (t := 2) (by omega) hl0 j1 j2 ev undef⟩
  case' fin =>
      rintro l a W ⟨vs, gs, hR⟩ hz
      have hnot := List.eq_nil_iff_forall_not_mem.1 hz
      have hk : ∀ k, k < 15 → (l.getD k true = false → False) → l.getD k false = true := fun k h12 h => by
        have hs := hR.size
        cases h' : l.getD k true with
        | false => exact (h h').elim
        | true => simp [Array.getD, hs, h12] at h' ⊢; exact h'
      have st0 := hk 0 (by omega) (fun h => hnot 0 (mem_ready.2 ⟨h, _, rfl, by simp [Region.binds]⟩))
      have st1 := hk 1 (by omega) (fun h => hnot 1 (mem_ready.2 ⟨h, _, rfl, by simp [Region.binds]; simp_all⟩))
      have st2 := hk 2 (by omega) (fun h => hnot 2 (mem_ready.2 ⟨h, _, rfl, by simp [Region.binds]; simp_all⟩))
      have st3 := hk 3 (by omega) (fun h => hnot 3 (mem_ready.2 ⟨h, _, rfl, by simp [Region.binds]⟩))
      have st4 := hk 4 (by omega) (fun h => hnot 4 (mem_ready.2 ⟨h, _, rfl, by simp [Region.binds]; simp_all⟩))
      have st5 := hk 5 (by omega) (fun h => hnot 5 (mem_ready.2 ⟨h, _, rfl, by simp [Region.binds]; simp_all⟩))
      have st6 := hk 6 (by omega) (fun h => hnot 6 (mem_ready.2 ⟨h, _, rfl, by simp [Region.binds]⟩))
      have st7 := hk 7 (by omega) (fun h => hnot 7 (mem_ready.2 ⟨h, _, rfl, by simp [Region.binds]; simp_all⟩))
      have st8 := hk 8 (by omega) (fun h => hnot 8 (mem_ready.2 ⟨h, _, rfl, by simp [Region.binds]; simp_all⟩))
      have st9 := hk 9 (by omega) (fun h => hnot 9 (mem_ready.2 ⟨h, _, rfl, by simp [Region.binds]⟩))
      have st10 := hk 10 (by omega) (fun h => hnot 10 (mem_ready.2 ⟨h, _, rfl, by simp [Region.binds]⟩))
      have st11 := hk 11 (by omega) (fun h => hnot 11 (mem_ready.2 ⟨h, _, rfl, by simp [Region.binds]⟩))
      have st12 := hk 12 (by omega) (fun h => hnot 12 (mem_ready.2 ⟨h, _, rfl, by simp [Region.binds]; simp_all⟩))
      have st13 := hk 13 (by omega) (fun h => hnot 13 (mem_ready.2 ⟨h, _, rfl, by simp [Region.binds]; simp_all⟩))
      have st14 := hk 14 (by omega) (fun h => hnot 14 (mem_ready.2 ⟨h, _, rfl, by simp [Region.binds]; simp_all⟩))
      have hall : ∀ i, i < 15 → l.getD i true = true := fun i hi => by
        rcases (show i = 0 ∨ i = 1 ∨ i = 2 ∨ i = 3 ∨ i = 4 ∨ i = 5 ∨ i = 6 ∨ i = 7 ∨ i = 8 ∨ i = 9 ∨ i = 10 ∨ i = 11 ∨ i = 12 ∨ i = 13 ∨ i = 14 by omega) with rfl | rfl | rfl | rfl | rfl | rfl | rfl | rfl | rfl | rfl | rfl | rfl | rfl | rfl | rfl
        · exact getD_true st0
        · exact getD_true st1
        · exact getD_true st2
        · exact getD_true st3
        · exact getD_true st4
        · exact getD_true st5
        · exact getD_true st6
        · exact getD_true st7
        · exact getD_true st8
        · exact getD_true st9
        · exact getD_true st10
        · exact getD_true st11
        · exact getD_true st12
        · exact getD_true st13
        · exact getD_true st14
      clear st0 st1 st2 st3 st4 st5 st6 st7 st8 st9 st10 st11 st12 st13 st14 hk hnot hz
      obtain ⟨n4, a4, l4, c4, A, ev0, B4, HA⟩ := hR.bx (t := 0) (by omega) (hall 12 (by omega))
      obtain ⟨n5, a5, l5, c5, B, ev1, B5, HB⟩ := hR.bx (t := 1) (by omega) (hall 13 (by omega))
      obtain ⟨n6, a6, l6, c6, C, ev2, B6, HC⟩ := hR.bx (t := 2) (by omega) (hall 14 (by omega))
      have hTs : T.size = 200 := by rw [hT]; rfl
      have ha : a = ⟨((((((((((((T.setIfInBounds 30 (.pointer (some ⟨w.heap.size, 0, none⟩))).setIfInBounds 31 (.slice s0 n0 c0)).setIfInBounds 32 (vs 0)).setIfInBounds 33 (.pointer (some ⟨w.heap.size, 1, none⟩))).setIfInBounds 34 (.slice s1 n1 c1)).setIfInBounds 35 (vs 1)).setIfInBounds 36 (.pointer (some ⟨w.heap.size, 2, none⟩))).setIfInBounds 37 (.slice s2 n2 c2)).setIfInBounds 38 (vs 2)).setIfInBounds 4 (.pointer (some ⟨gs 0, 0, none⟩))).setIfInBounds 5 (.pointer (some ⟨gs 1, 0, none⟩))).setIfInBounds 6 (.pointer (some ⟨gs 2, 0, none⟩))), []⟩ := by
        refine hR.fr.all (fun j i v h => hall i (by have := mOwn_lt h; simp only [] at this; omega)) (by simp) (fun j hj => ?_)
        by_cases h1 : 30 ≤ j ∧ j < 39
        · rcases (show j = 30 ∨ j = 31 ∨ j = 32 ∨ j = 33 ∨ j = 34 ∨ j = 35 ∨ j = 36 ∨ j = 37 ∨ j = 38 by omega) with rfl | rfl | rfl | rfl | rfl | rfl | rfl | rfl | rfl <;> simp [sets_getD, mOwn, hTs]
        · by_cases h2 : 4 ≤ j ∧ j < 7
          · rcases (show j = 4 ∨ j = 5 ∨ j = 6 by omega) with rfl | rfl | rfl <;> simp [sets_getD, mOwn, hTs]
          · have e : mOwn 3 30 4 w.heap.size (fun t => if t = 0 then .slice s0 n0 c0 else if t = 1 then .slice s1 n1 c1 else .slice s2 n2 c2) vs gs j = none := by
              unfold mOwn
              rw [if_neg (by omega), if_neg (by omega)]
            rw [e]
            simp only [sets_getD]
            repeat rw [if_neg (by omega)]
      have hbl := hR.bl
      clear hR hall
      rw [ev0, ev1, ev2] at ha
      obtain ⟨g4, hg4⟩ : ∃ g4, g4 = gs 0 := ⟨_, rfl⟩
      obtain ⟨g5, hg5⟩ : ∃ g5, g5 = gs 1 := ⟨_, rfl⟩
      obtain ⟨g6, hg6⟩ : ∃ g6, g6 = gs 2 := ⟨_, rfl⟩
      rw [← hg4] at ha B4
      rw [← hg5] at ha B5
      rw [← hg6] at ha B6
      have ha2 : a = ⟨#[.agg #[.slice s0 n0 c0, .slice s1 n1 c1, .slice s2 n2 c2], .pointer (some ⟨w.heap.size, 0, none⟩), .bool false, .bool true, .pointer (some ⟨g4, 0, none⟩), .pointer (some ⟨g5, 0, none⟩), .pointer (some ⟨g6, 0, none⟩), undef, undef, undef, undef, undef, undef, undef, undef, undef, undef, undef, undef, undef, undef, undef, undef, undef, undef, undef, undef, undef, undef, .bool true, .pointer (some ⟨w.heap.size, 0, none⟩), .slice s0 n0 c0, .agg #[.bool n4, .slice a4 l4 c4], .pointer (some ⟨w.heap.size, 1, none⟩), .slice s1 n1 c1, .agg #[.bool n5, .slice a5 l5 c5], .pointer (some ⟨w.heap.size, 2, none⟩), .slice s2 n2 c2, .agg #[.bool n6, .slice a6 l6 c6], undef, undef, undef, undef, undef, undef, undef, undef, undef, undef, undef, undef, undef, undef, undef, undef, undef, undef, undef, undef, undef, undef, undef, undef, undef, undef, undef, undef, undef, undef, undef, undef, undef, undef, undef, undef, undef, undef, undef, undef, undef, undef, undef, undef, undef, undef, undef, undef, undef, undef, undef, undef, undef, undef, undef, undef, undef, undef, undef, undef, undef, undef, undef, undef, undef, undef, undef, undef, undef, undef, undef, undef, undef, undef, undef, undef, undef, undef, undef, undef, undef, undef, undef, undef, undef, undef, undef, undef, undef, undef, undef, undef, undef, undef, undef, undef, undef, undef, undef, undef, undef, undef, undef, undef, undef, undef, undef, undef, undef, undef, undef, undef, undef, undef, undef, undef, undef, undef, undef, undef, undef, undef, undef, undef, undef, undef, undef, undef, undef, undef, undef, undef, undef, undef, undef, undef, undef, undef, undef, undef, undef, undef, undef, undef, undef, undef, undef, undef, undef, undef, undef, undef, undef, undef, undef, undef, undef, undef, undef, undef, undef], []⟩ := by
        rw [ha, hT]
        simp only [List.setIfInBounds_toArray, List.set_cons_succ, List.set_cons_zero]
      subst ha2
      have B4 := Lib.hid B4
      have B5 := Lib.hid B5
      have B6 := Lib.hid B6
      have HA := Lib.hid HA
      have HB := Lib.hid HB
      have HC := Lib.hid HC
      have HWW := step1 HW HZ hbl
      have HDD := step1 HD HE hbl
      have HW := HWW.1
      have HZ := HWW.2
      have HD := HDD.1
      have HE := HDD.2
      clear HWW HDD hbl ha hT hTs ev0 ev1 ev2 hg4 hg5 hg6 vs gs k0 k1 k2 hW1
  have G1 := gcd_lt HA.out HB.out
  obtain ⟨G, hG⟩ : ∃ G : Nat, G = Nat.gcd A.natAbs B.natAbs := ⟨_, rfl⟩
  rw [← hG] at G1
  have HG := Lib.hid hG
  have HG1 := Lib.hid G1
  clear hG G1 HSA HM0 HM1 HM2 HBL HD HE
  by_cases hB0 : B = 0
  case' pos =>
    by_cases hA0 : A = 0
    case' pos =>
      subst hB0
      obtain ⟨e51, e52⟩ := B5.out.zero
      subst e51 e52
      subst hA0
      obtain ⟨e41, e42⟩ := B4.out.zero
      subst e41 e42
      have p4 := B4.out.c0
      have q4 := B4.out.c1
      have p5 := B5.out.c0
      have q5 := B5.out.c1
      go_upto_region 4 with (go_at_call 15; refine (div_zero B4.out.nu B5.out.nu).mono ?_; rintro e wz ⟨rfl, hb⟩; (try have B4 := Lib.hid (B4.out.below hb)); (try have B5 := Lib.hid (B5.out.below hb)); (try have B6 := Lib.hid (B6.out.below hb)); have HWW := step1 HW HZ hb; have HW := HWW.1; have HZ := HWW.2; clear HWW; clear hb)
      obtain ⟨W8, hW⟩ : ∃ X, X = ((wz.alloc (.cells #[.bool false, .slice none 0 0] 27)).alloc (.cells #[.bool false, .slice none 0 0] 27)) := ⟨_, rfl⟩
      obtain ⟨g7, hg7⟩ : ∃ g, g = wz.heap.size := ⟨_, rfl⟩
      obtain ⟨g8, hg8⟩ : ∃ g, g = wz.heap.size + 1 := ⟨_, rfl⟩
      have BB := Lib.hid (bx_two (nu_zero _) (nu_zero _) hW)
      have B7 : Hid (Bx W8 g7 false none 0 0 0) := Lib.hid (by rw [hg7]; exact BB.out.1)
      have B8 : Hid (Bx W8 g8 false none 0 0 0) := Lib.hid (by rw [hg8]; exact BB.out.2.1)
      have hb : Below wz.heap.size wz W8 := BB.out.2.2
      rw [← hW, ← hg8, ← hg7]
      clear hW hg7 hg8 BB
      (try have B4 := Lib.hid (B4.out.below hb))
      (try have B5 := Lib.hid (B5.out.below hb))
      (try have B6 := Lib.hid (B6.out.below hb))
      have HWW := step1 HW HZ hb
      have HW := HWW.1
      have HZ := HWW.2
      clear HWW
      clear hb
      clear p4 q4 p5 q5
      have q5 := B5.out.c1
      go_upto_region 11 with fail
      clear q5 B7 B8
      have p4 := B4.out.c0
      have q4 := B4.out.c1
      have p5 := B5.out.c0
      have q5 := B5.out.c1
      go_upto_region 12 with (go_at_call 17; (with_reducible refine (gcd_fit G B4.out.nu B5.out.nu HG.out HG1.out).mono ?_); rintro e wz ⟨n14, a14, l14, c14, rfl, hn, hb⟩; (try have B4 := Lib.hid (B4.out.below hb)); (try have B5 := Lib.hid (B5.out.below hb)); (try have B6 := Lib.hid (B6.out.below hb)); have HWW := step1 HW HZ hb; have HW := HWW.1; have HZ := HWW.2; clear HWW; have NB := Lib.hid hn; clear hn hb)
      obtain ⟨W14, hW⟩ : ∃ X, X = (wz.alloc (.cells #[.bool n14, .slice a14 l14 c14] 27)) := ⟨_, rfl⟩
      obtain ⟨g14, hg14⟩ : ∃ g, g = wz.heap.size := ⟨_, rfl⟩
      have B14 : Hid (Bx W14 g14 n14 a14 l14 c14 (G : Int)) := Lib.hid (by rw [hW, hg14]; exact bx_new NB.out)
      have hb : Below wz.heap.size wz W14 := by rw [hW]; exact alloc_b _ _
      rw [← hW, ← hg14]
      clear hW hg14
      (try have B4 := Lib.hid (B4.out.below hb))
      (try have B5 := Lib.hid (B5.out.below hb))
      (try have B6 := Lib.hid (B6.out.below hb))
      have HWW := step1 HW HZ hb
      have HW := HWW.1
      have HZ := HWW.2
      clear HWW
      clear hb
      clear NB
      clear p4 q4 p5 q5
      obtain rfl : n14 = false := by rw [nu_sign B14.out.nu]; exact decide_eq_false (by omega)
      have l4e := nu_len B4.out.nu
      have l5e := nu_len B5.out.nu
      have l14e := nu_len B14.out.nu
      have hg0 : G = 0 := by rw [HG.out]; rfl
      have el14 : l14 = 0 := by rw [l14e, hg0]; exact congrArg List.length digs_zero
      clear l4e l5e l14e
      subst el14
      have HG0 := Lib.hid hg0
      clear hg0
      have p14 := B14.out.c0
      have q14 := B14.out.c1
      have p4 := B4.out.c0
      have q4 := B4.out.c1
      have p5 := B5.out.c0
      have q5 := B5.out.c1
      go_upto_region 14 with fail
      go_wp2_with fail
      clear p14 q14 p4 q4 p5 q5
      obtain ⟨WS, hW⟩ : ∃ X, X = W14.alloc (.cells #[.bool false, .slice a4 0 c4, .bool false, .slice a5 0 c5] 27) := ⟨_, rfl⟩
      obtain ⟨gs, hgs⟩ : ∃ g, g = W14.heap.size := ⟨_, rfl⟩
      have hb : Below W14.heap.size W14 WS := by rw [hW]; exact alloc_b _ _
      have HRS : Hid (WS.heap[gs]? = some (.cells #[.bool false, .slice a4 0 c4, .bool false, .slice a5 0 c5] 27 (0, 0))) := Lib.hid (by rw [hW, hgs]; exact heap_alloc_new _ _)
      rw [← hW, ← hgs]
      clear hW hgs
      (try have B4 := Lib.hid (B4.out.below hb))
      (try have B5 := Lib.hid (B5.out.below hb))
      (try have B6 := Lib.hid (B6.out.below hb))
      (try have B14 := Lib.hid (B14.out.below hb))
      have HWW := step1 HW HZ hb
      have HW := HWW.1
      have HZ := HWW.2
      clear HWW
      clear hb
      have HSL : Hid (∀ V, Below WS.heap.size WS V → V.cell? ⟨gs, 0, none⟩ = some (.bool false) ∧ V.cell? ⟨gs, 1, none⟩ = some (.slice a4 0 c4) ∧ V.cell? ⟨gs, 2, none⟩ = some (.bool false) ∧ V.cell? ⟨gs, 3, none⟩ = some (.slice a5 0 c5)) := Lib.hid (fun V h => by
        have q := (h.block _ (Array.getElem?_eq_some_iff.1 HRS.out).1).trans HRS.out
        exact ⟨by rw [cell_of_row _ _ _ _ _ _ q]; rfl, by rw [cell_of_row _ _ _ _ _ _ q]; rfl, by rw [cell_of_row _ _ _ _ _ _ q]; rfl, by rw [cell_of_row _ _ _ _ _ _ q]; rfl⟩)
      have HD : Hid (Below WS.heap.size WS WS) := Lib.hid (Below.refl _ _)
      have HE : Hid (WS.heap.size ≤ WS.heap.size) := Lib.hid (Nat.le_refl _)
      refine wp_loop_rounds 3 ?_
      rw [rounds_succ]
      obtain ⟨y0, y1, y2, y3⟩ := HSL.out _ HD.out
      go_upto_region 17 with fail
      clear y0 y1 y2 y3
      obtain ⟨W17, hW⟩ : ∃ X, X = (WS.alloc (.cells #[.bool false, .slice a4 0 c4] 27)) := ⟨_, rfl⟩
      obtain ⟨g17, hg17⟩ : ∃ g, g = WS.heap.size := ⟨_, rfl⟩
      have B17 : Hid (Bx W17 g17 false a4 0 c4 0) := Lib.hid (by rw [hW, hg17]; exact bx_new B4.out.nu)
      have hb : Below WS.heap.size WS W17 := by rw [hW]; exact alloc_b _ _
      rw [← hW, ← hg17]
      clear hW hg17
      (try have B4 := Lib.hid (B4.out.below hb))
      (try have B5 := Lib.hid (B5.out.below hb))
      (try have B6 := Lib.hid (B6.out.below hb))
      (try have B14 := Lib.hid (B14.out.below hb))
      have HWW := step1 HW HZ hb
      have HW := HWW.1
      have HZ := HWW.2
      clear HWW
      have HDD := step1 HD HE hb
      have HD := HDD.1
      have HE := HDD.2
      clear HDD
      clear hb
      have p17 := B17.out.c0
      have q17 := B17.out.c1
      have p14 := B14.out.c0
      have q14 := B14.out.c1
      go_upto_region 18 with (go_at_call 15; refine (div_zero B17.out.nu (nu0 B14.out.nu HG0.out)).mono ?_; rintro e wz ⟨rfl, hb⟩; (try have B4 := Lib.hid (B4.out.below hb)); (try have B5 := Lib.hid (B5.out.below hb)); (try have B6 := Lib.hid (B6.out.below hb)); (try have B14 := Lib.hid (B14.out.below hb)); (try have B17 := Lib.hid (B17.out.below hb)); have HWW := step1 HW HZ hb; have HW := HWW.1; have HZ := HWW.2; clear HWW; have HDD := step1 HD HE hb; have HD := HDD.1; have HE := HDD.2; clear HDD; clear hb)
      obtain ⟨W19, hW⟩ : ∃ X, X = ((wz.alloc (.cells #[.bool false, .slice none 0 0] 27)).alloc (.cells #[.bool false, .slice none 0 0] 27)) := ⟨_, rfl⟩
      obtain ⟨g18, hg18⟩ : ∃ g, g = wz.heap.size := ⟨_, rfl⟩
      obtain ⟨g19, hg19⟩ : ∃ g, g = wz.heap.size + 1 := ⟨_, rfl⟩
      have BB := Lib.hid (bx_two (nu_zero _) (nu_zero _) hW)
      have B18 : Hid (Bx W19 g18 false none 0 0 0) := Lib.hid (by rw [hg18]; exact BB.out.1)
      have B19 : Hid (Bx W19 g19 false none 0 0 0) := Lib.hid (by rw [hg19]; exact BB.out.2.1)
      have hb : Below wz.heap.size wz W19 := BB.out.2.2
      rw [← hW, ← hg19, ← hg18]
      clear hW hg18 hg19 BB
      (try have B4 := Lib.hid (B4.out.below hb))
      (try have B5 := Lib.hid (B5.out.below hb))
      (try have B6 := Lib.hid (B6.out.below hb))
      (try have B14 := Lib.hid (B14.out.below hb))
      (try have B17 := Lib.hid (B17.out.below hb))
      have HWW := step1 HW HZ hb
      have HW := HWW.1
      have HZ := HWW.2
      clear HWW
      have HDD := step1 HD HE hb
      have HD := HDD.1
      have HE := HDD.2
      clear HDD
      clear hb
      clear B17 B18
      clear p17 q17 p14 q14
      have p14 := B14.out.c0
      have q14 := B14.out.c1
      have p19 := B19.out.c0
      have q19 := B19.out.c1
      go_wp2_with fail
      clear p14 q14 p19 q19 B19
      rw [rounds_succ]
      obtain ⟨y0, y1, y2, y3⟩ := HSL.out _ HD.out
      go_upto_region 17 with fail
      clear y0 y1 y2 y3
      obtain ⟨W17, hW⟩ : ∃ X, X = (W19.alloc (.cells #[.bool false, .slice a5 0 c5] 27)) := ⟨_, rfl⟩
      obtain ⟨g17, hg17⟩ : ∃ g, g = W19.heap.size := ⟨_, rfl⟩
      have B17 : Hid (Bx W17 g17 false a5 0 c5 0) := Lib.hid (by rw [hW, hg17]; exact bx_new B5.out.nu)
      have hb : Below W19.heap.size W19 W17 := by rw [hW]; exact alloc_b _ _
      rw [← hW, ← hg17]
      clear hW hg17
      (try have B4 := Lib.hid (B4.out.below hb))
      (try have B5 := Lib.hid (B5.out.below hb))
      (try have B6 := Lib.hid (B6.out.below hb))
      (try have B14 := Lib.hid (B14.out.below hb))
      have HWW := step1 HW HZ hb
      have HW := HWW.1
      have HZ := HWW.2
      clear HWW
      have HDD := step1 HD HE hb
      have HD := HDD.1
      have HE := HDD.2
      clear HDD
      clear hb
      have p17 := B17.out.c0
      have q17 := B17.out.c1
      have p14 := B14.out.c0
      have q14 := B14.out.c1
      go_upto_region 18 with (go_at_call 15; refine (div_zero B17.out.nu (nu0 B14.out.nu HG0.out)).mono ?_; rintro e wz ⟨rfl, hb⟩; (try have B4 := Lib.hid (B4.out.below hb)); (try have B5 := Lib.hid (B5.out.below hb)); (try have B6 := Lib.hid (B6.out.below hb)); (try have B14 := Lib.hid (B14.out.below hb)); (try have B17 := Lib.hid (B17.out.below hb)); have HWW := step1 HW HZ hb; have HW := HWW.1; have HZ := HWW.2; clear HWW; have HDD := step1 HD HE hb; have HD := HDD.1; have HE := HDD.2; clear HDD; clear hb)
      obtain ⟨W19, hW⟩ : ∃ X, X = ((wz.alloc (.cells #[.bool false, .slice none 0 0] 27)).alloc (.cells #[.bool false, .slice none 0 0] 27)) := ⟨_, rfl⟩
      obtain ⟨g18, hg18⟩ : ∃ g, g = wz.heap.size := ⟨_, rfl⟩
      obtain ⟨g19, hg19⟩ : ∃ g, g = wz.heap.size + 1 := ⟨_, rfl⟩
      have BB := Lib.hid (bx_two (nu_zero _) (nu_zero _) hW)
      have B18 : Hid (Bx W19 g18 false none 0 0 0) := Lib.hid (by rw [hg18]; exact BB.out.1)
      have B19 : Hid (Bx W19 g19 false none 0 0 0) := Lib.hid (by rw [hg19]; exact BB.out.2.1)
      have hb : Below wz.heap.size wz W19 := BB.out.2.2
      rw [← hW, ← hg19, ← hg18]
      clear hW hg18 hg19 BB
      (try have B4 := Lib.hid (B4.out.below hb))
      (try have B5 := Lib.hid (B5.out.below hb))
      (try have B6 := Lib.hid (B6.out.below hb))
      (try have B14 := Lib.hid (B14.out.below hb))
      (try have B17 := Lib.hid (B17.out.below hb))
      have HWW := step1 HW HZ hb
      have HW := HWW.1
      have HZ := HWW.2
      clear HWW
      have HDD := step1 HD HE hb
      have HD := HDD.1
      have HE := HDD.2
      clear HDD
      clear hb
      clear B17 B18
      clear p17 q17 p14 q14
      have p14 := B14.out.c0
      have q14 := B14.out.c1
      have p19 := B19.out.c0
      have q19 := B19.out.c1
      go_wp2_with fail
      clear p14 q14 p19 q19 B19
      clear HSL HD HE HRS
      rw [rounds_succ]
      have lAC := lt_mul HA.out HC.out
      have lCB := lt_mul HC.out HB.out
      have FAC : Hid (fitsB (0 * C).natAbs = true) := Lib.hid (fits_pow 12 lAC (by omega))
      have FCB : Hid (fitsB (C * 0).natAbs = true) := Lib.hid (fits_pow 12 lCB (by omega))
      have FGC : Hid (fitsB ((G : Int) * ((C.natAbs : Nat) : Int)).natAbs = true) := Lib.hid (fits_pow 12 (gc_lt HG1.out HC.out) (by omega))
      obtain ⟨H, hH⟩ : ∃ H : Nat, H = Nat.gcd (0 * C).natAbs (C * 0).natAbs := ⟨_, rfl⟩
      have HH1 : Hid (H < 4294967296 ^ 12) := Lib.hid (by rw [hH]; exact gcd_lt lAC lCB)
      have HEQ : Hid ((H : Int) = ((G : Int) * ((C.natAbs : Nat) : Int))) := Lib.hid (by rw [hH]; exact gcd_scale HG.out)
      have HH := Lib.hid hH
      clear hH lAC lCB
      have p4 := B4.out.c0
      have q4 := B4.out.c1
      have p6 := B6.out.c0
      have q6 := B6.out.c1
      go_upto_region 22 with (go_at_call 30; (with_reducible refine (mul_fit (0 * C) B4.out.nu B6.out.nu rfl FAC.out).mono ?_); rintro e wz ⟨n21, a21, l21, c21, rfl, hn, hb⟩; (try have B4 := Lib.hid (B4.out.below hb)); (try have B5 := Lib.hid (B5.out.below hb)); (try have B6 := Lib.hid (B6.out.below hb)); (try have B14 := Lib.hid (B14.out.below hb)); have HWW := step1 HW HZ hb; have HW := HWW.1; have HZ := HWW.2; clear HWW; have NB := Lib.hid hn; clear hn hb)
      obtain ⟨W21, hW⟩ : ∃ X, X = (wz.alloc (.cells #[.bool n21, .slice a21 l21 c21] 27)) := ⟨_, rfl⟩
      obtain ⟨g21, hg21⟩ : ∃ g, g = wz.heap.size := ⟨_, rfl⟩
      have B21 : Hid (Bx W21 g21 n21 a21 l21 c21 (0 * C)) := Lib.hid (by rw [hW, hg21]; exact bx_new NB.out)
      have hb : Below wz.heap.size wz W21 := by rw [hW]; exact alloc_b _ _
      rw [← hW, ← hg21]
      clear hW hg21
      (try have B4 := Lib.hid (B4.out.below hb))
      (try have B5 := Lib.hid (B5.out.below hb))
      (try have B6 := Lib.hid (B6.out.below hb))
      (try have B14 := Lib.hid (B14.out.below hb))
      have HWW := step1 HW HZ hb
      have HW := HWW.1
      have HZ := HWW.2
      clear HWW
      clear hb
      clear NB
      clear p4 q4 p6 q6
      have p5 := B5.out.c0
      have q5 := B5.out.c1
      have p6 := B6.out.c0
      have q6 := B6.out.c1
      go_upto_region 23 with (go_at_call 30; (with_reducible refine (mul_fit (C * 0) B6.out.nu B5.out.nu rfl FCB.out).mono ?_); rintro e wz ⟨n23, a23, l23, c23, rfl, hn, hb⟩; (try have B5 := Lib.hid (B5.out.below hb)); (try have B6 := Lib.hid (B6.out.below hb)); (try have B14 := Lib.hid (B14.out.below hb)); (try have B21 := Lib.hid (B21.out.below hb)); have HWW := step1 HW HZ hb; have HW := HWW.1; have HZ := HWW.2; clear HWW; have NB := Lib.hid hn; clear hn hb)
      obtain ⟨W23, hW⟩ : ∃ X, X = (wz.alloc (.cells #[.bool n23, .slice a23 l23 c23] 27)) := ⟨_, rfl⟩
      obtain ⟨g23, hg23⟩ : ∃ g, g = wz.heap.size := ⟨_, rfl⟩
      have B23 : Hid (Bx W23 g23 n23 a23 l23 c23 (C * 0)) := Lib.hid (by rw [hW, hg23]; exact bx_new NB.out)
      have hb : Below wz.heap.size wz W23 := by rw [hW]; exact alloc_b _ _
      rw [← hW, ← hg23]
      clear hW hg23
      (try have B5 := Lib.hid (B5.out.below hb))
      (try have B6 := Lib.hid (B6.out.below hb))
      (try have B14 := Lib.hid (B14.out.below hb))
      (try have B21 := Lib.hid (B21.out.below hb))
      have HWW := step1 HW HZ hb
      have HW := HWW.1
      have HZ := HWW.2
      clear HWW
      clear hb
      clear NB
      clear p5 q5 p6 q6
      have p6 := B6.out.c0
      have q6 := B6.out.c1
      have p14 := B14.out.c0
      have q14 := B14.out.c1
      go_upto_region 24 with (go_at_call 30; (with_reducible refine (mul_fit ((G : Int) * ((C.natAbs : Nat) : Int)) B14.out.nu (nu_pos B6.out.nu) rfl FGC.out).mono ?_); rintro e wz ⟨n25, a25, l25, c25, rfl, hn, hb⟩; (try have B6 := Lib.hid (B6.out.below hb)); (try have B14 := Lib.hid (B14.out.below hb)); (try have B21 := Lib.hid (B21.out.below hb)); (try have B23 := Lib.hid (B23.out.below hb)); have HWW := step1 HW HZ hb; have HW := HWW.1; have HZ := HWW.2; clear HWW; have NB := Lib.hid hn; clear hn hb)
      obtain ⟨W25, hW⟩ : ∃ X, X = (wz.alloc (.cells #[.bool n25, .slice a25 l25 c25] 27)) := ⟨_, rfl⟩
      obtain ⟨g25, hg25⟩ : ∃ g, g = wz.heap.size := ⟨_, rfl⟩
      have B25 : Hid (Bx W25 g25 n25 a25 l25 c25 ((G : Int) * ((C.natAbs : Nat) : Int))) := Lib.hid (by rw [hW, hg25]; exact bx_new NB.out)
      have hb : Below wz.heap.size wz W25 := by rw [hW]; exact alloc_b _ _
      rw [← hW, ← hg25]
      clear hW hg25
      (try have B6 := Lib.hid (B6.out.below hb))
      (try have B14 := Lib.hid (B14.out.below hb))
      (try have B21 := Lib.hid (B21.out.below hb))
      (try have B23 := Lib.hid (B23.out.below hb))
      have HWW := step1 HW HZ hb
      have HW := HWW.1
      have HZ := HWW.2
      clear HWW
      clear hb
      clear NB
      clear p6 q6 p14 q14
      have p21 := B21.out.c0
      have q21 := B21.out.c1
      have p23 := B23.out.c0
      have q23 := B23.out.c1
      go_upto_region 25 with (go_at_call 17; (with_reducible refine (gcd_fit12 H B21.out.nu B23.out.nu HH.out HH1.out).mono ?_); rintro e wz ⟨n27, a27, l27, c27, rfl, hn, hb⟩; (try have B21 := Lib.hid (B21.out.below hb)); (try have B23 := Lib.hid (B23.out.below hb)); (try have B25 := Lib.hid (B25.out.below hb)); have HWW := step1 HW HZ hb; have HW := HWW.1; have HZ := HWW.2; clear HWW; have NB := Lib.hid hn; clear hn hb)
      obtain ⟨W27, hW⟩ : ∃ X, X = (wz.alloc (.cells #[.bool n27, .slice a27 l27 c27] 27)) := ⟨_, rfl⟩
      obtain ⟨g27, hg27⟩ : ∃ g, g = wz.heap.size := ⟨_, rfl⟩
      have B27 : Hid (Bx W27 g27 n27 a27 l27 c27 (H : Int)) := Lib.hid (by rw [hW, hg27]; exact bx_new NB.out)
      have hb : Below wz.heap.size wz W27 := by rw [hW]; exact alloc_b _ _
      rw [← hW, ← hg27]
      clear hW hg27
      (try have B21 := Lib.hid (B21.out.below hb))
      (try have B23 := Lib.hid (B23.out.below hb))
      (try have B25 := Lib.hid (B25.out.below hb))
      have HWW := step1 HW HZ hb
      have HW := HWW.1
      have HZ := HWW.2
      clear HWW
      clear hb
      clear NB
      clear p21 q21 p23 q23
      have p27 := B27.out.c0
      have q27 := B27.out.c1
      have p25 := B25.out.c0
      have q25 := B25.out.c1
      go_wp2_with (go_at_call 19; (with_reducible refine (same_yes B27.out.nu B25.out.nu HEQ.out).mono ?_); rintro e wz ⟨rfl, hb⟩; have HWW := step1 HW HZ hb; have HW := HWW.1; have HZ := HWW.2; clear HWW; clear hb)
      go_ret
      exact ⟨rfl, HW.out⟩
    case' neg =>
      subst hB0
      obtain ⟨e51, e52⟩ := B5.out.zero
      subst e51 e52
      have p4 := B4.out.c0
      have q4 := B4.out.c1
      have p5 := B5.out.c0
      have q5 := B5.out.c1
      go_upto_region 4 with (go_at_call 15; refine (div_zero B4.out.nu B5.out.nu).mono ?_; rintro e wz ⟨rfl, hb⟩; (try have B4 := Lib.hid (B4.out.below hb)); (try have B5 := Lib.hid (B5.out.below hb)); (try have B6 := Lib.hid (B6.out.below hb)); have HWW := step1 HW HZ hb; have HW := HWW.1; have HZ := HWW.2; clear HWW; clear hb)
      obtain ⟨W8, hW⟩ : ∃ X, X = ((wz.alloc (.cells #[.bool false, .slice none 0 0] 27)).alloc (.cells #[.bool false, .slice none 0 0] 27)) := ⟨_, rfl⟩
      obtain ⟨g7, hg7⟩ : ∃ g, g = wz.heap.size := ⟨_, rfl⟩
      obtain ⟨g8, hg8⟩ : ∃ g, g = wz.heap.size + 1 := ⟨_, rfl⟩
      have BB := Lib.hid (bx_two (nu_zero _) (nu_zero _) hW)
      have B7 : Hid (Bx W8 g7 false none 0 0 0) := Lib.hid (by rw [hg7]; exact BB.out.1)
      have B8 : Hid (Bx W8 g8 false none 0 0 0) := Lib.hid (by rw [hg8]; exact BB.out.2.1)
      have hb : Below wz.heap.size wz W8 := BB.out.2.2
      rw [← hW, ← hg8, ← hg7]
      clear hW hg7 hg8 BB
      (try have B4 := Lib.hid (B4.out.below hb))
      (try have B5 := Lib.hid (B5.out.below hb))
      (try have B6 := Lib.hid (B6.out.below hb))
      have HWW := step1 HW HZ hb
      have HW := HWW.1
      have HZ := HWW.2
      clear HWW
      clear hb
      clear p4 q4 p5 q5
      have q5 := B5.out.c1
      go_upto_region 11 with fail
      clear q5 B7 B8
      have p4 := B4.out.c0
      have q4 := B4.out.c1
      have p5 := B5.out.c0
      have q5 := B5.out.c1
      go_upto_region 12 with (go_at_call 17; (with_reducible refine (gcd_fit G B4.out.nu B5.out.nu HG.out HG1.out).mono ?_); rintro e wz ⟨n14, a14, l14, c14, rfl, hn, hb⟩; (try have B4 := Lib.hid (B4.out.below hb)); (try have B5 := Lib.hid (B5.out.below hb)); (try have B6 := Lib.hid (B6.out.below hb)); have HWW := step1 HW HZ hb; have HW := HWW.1; have HZ := HWW.2; clear HWW; have NB := Lib.hid hn; clear hn hb)
      obtain ⟨W14, hW⟩ : ∃ X, X = (wz.alloc (.cells #[.bool n14, .slice a14 l14 c14] 27)) := ⟨_, rfl⟩
      obtain ⟨g14, hg14⟩ : ∃ g, g = wz.heap.size := ⟨_, rfl⟩
      have B14 : Hid (Bx W14 g14 n14 a14 l14 c14 (G : Int)) := Lib.hid (by rw [hW, hg14]; exact bx_new NB.out)
      have hb : Below wz.heap.size wz W14 := by rw [hW]; exact alloc_b _ _
      rw [← hW, ← hg14]
      clear hW hg14
      (try have B4 := Lib.hid (B4.out.below hb))
      (try have B5 := Lib.hid (B5.out.below hb))
      (try have B6 := Lib.hid (B6.out.below hb))
      have HWW := step1 HW HZ hb
      have HW := HWW.1
      have HZ := HWW.2
      clear HWW
      clear hb
      clear NB
      clear p4 q4 p5 q5
      obtain rfl : n14 = false := by rw [nu_sign B14.out.nu]; exact decide_eq_false (by omega)
      have l4e := nu_len B4.out.nu
      have l5e := nu_len B5.out.nu
      have l14e := nu_len B14.out.nu
      have hg0 : G ≠ 0 := by rw [HG.out]; exact gcd_ne (.inl (by omega))
      have hl14 : l14 ≠ 0 := by rw [l14e]; exact digs_len_ne (by omega)
      have hl4 : l4 ≠ 0 := by rw [l4e]; exact digs_len_ne (by omega)
      have hl45 : l4 ≤ 1000 := by have := len_small HA.out; omega
      have hl14b : l14 ≤ 1000 := by have := len_small (z := (G : Int)) (by rw [Int.natAbs_natCast]; exact HG1.out); omega
      clear l4e l5e l14e
      have HG0 := Lib.hid hg0
      clear hg0
      have z14 : ((l14 : Int) == 0) = false := by simp; omega
      have z14b : (0 : Int) < (l14 : Int) := by omega
      have z14c : 0 < l14 := by omega
      have z14d : decide (0 < l14) = true := decide_eq_true z14c
      have z14e : decide ((0 : Int) < (l14 : Int)) = true := decide_eq_true z14b
      have z4 : ((l4 : Int) == 0) = false := by simp; omega
      have p14 := B14.out.c0
      have q14 := B14.out.c1
      have p4 := B4.out.c0
      have q4 := B4.out.c1
      have p5 := B5.out.c0
      have q5 := B5.out.c1
      go_upto_region 14 with fail
      go_wp2_with fail
      clear p14 q14 p4 q4 p5 q5
      obtain ⟨WS, hW⟩ : ∃ X, X = W14.alloc (.cells #[.bool n4, .slice a4 l4 c4, .bool false, .slice a5 0 c5] 27) := ⟨_, rfl⟩
      obtain ⟨gs, hgs⟩ : ∃ g, g = W14.heap.size := ⟨_, rfl⟩
      have hb : Below W14.heap.size W14 WS := by rw [hW]; exact alloc_b _ _
      have HRS : Hid (WS.heap[gs]? = some (.cells #[.bool n4, .slice a4 l4 c4, .bool false, .slice a5 0 c5] 27 (0, 0))) := Lib.hid (by rw [hW, hgs]; exact heap_alloc_new _ _)
      rw [← hW, ← hgs]
      clear hW hgs
      (try have B4 := Lib.hid (B4.out.below hb))
      (try have B5 := Lib.hid (B5.out.below hb))
      (try have B6 := Lib.hid (B6.out.below hb))
      (try have B14 := Lib.hid (B14.out.below hb))
      have HWW := step1 HW HZ hb
      have HW := HWW.1
      have HZ := HWW.2
      clear HWW
      clear hb
      have HSL : Hid (∀ V, Below WS.heap.size WS V → V.cell? ⟨gs, 0, none⟩ = some (.bool n4) ∧ V.cell? ⟨gs, 1, none⟩ = some (.slice a4 l4 c4) ∧ V.cell? ⟨gs, 2, none⟩ = some (.bool false) ∧ V.cell? ⟨gs, 3, none⟩ = some (.slice a5 0 c5)) := Lib.hid (fun V h => by
        have q := (h.block _ (Array.getElem?_eq_some_iff.1 HRS.out).1).trans HRS.out
        exact ⟨by rw [cell_of_row _ _ _ _ _ _ q]; rfl, by rw [cell_of_row _ _ _ _ _ _ q]; rfl, by rw [cell_of_row _ _ _ _ _ _ q]; rfl, by rw [cell_of_row _ _ _ _ _ _ q]; rfl⟩)
      have HGI : Hid ((G : Int) ≠ 0) := Lib.hid (by have := HG0.out; omega)
      have HMA : Hid (A % (G : Int) = 0) := Lib.hid (gcd_mod_left HG.out)
      have HMB : Hid ((0 : Int) % (G : Int) = 0) := Lib.hid (Int.zero_emod _)
      have HD : Hid (Below WS.heap.size WS WS) := Lib.hid (Below.refl _ _)
      have HE : Hid (WS.heap.size ≤ WS.heap.size) := Lib.hid (Nat.le_refl _)
      refine wp_loop_rounds 3 ?_
      rw [rounds_succ]
      obtain ⟨y0, y1, y2, y3⟩ := HSL.out _ HD.out
      go_upto_region 17 with fail
      clear y0 y1 y2 y3
      obtain ⟨W17, hW⟩ : ∃ X, X = (WS.alloc (.cells #[.bool n4, .slice a4 l4 c4] 27)) := ⟨_, rfl⟩
      obtain ⟨g17, hg17⟩ : ∃ g, g = WS.heap.size := ⟨_, rfl⟩
      have B17 : Hid (Bx W17 g17 n4 a4 l4 c4 A) := Lib.hid (by rw [hW, hg17]; exact bx_new B4.out.nu)
      have hb : Below WS.heap.size WS W17 := by rw [hW]; exact alloc_b _ _
      rw [← hW, ← hg17]
      clear hW hg17
      (try have B4 := Lib.hid (B4.out.below hb))
      (try have B5 := Lib.hid (B5.out.below hb))
      (try have B6 := Lib.hid (B6.out.below hb))
      (try have B14 := Lib.hid (B14.out.below hb))
      have HWW := step1 HW HZ hb
      have HW := HWW.1
      have HZ := HWW.2
      clear HWW
      have HDD := step1 HD HE hb
      have HD := HDD.1
      have HE := HDD.2
      clear HDD
      clear hb
      have p17 := B17.out.c0
      have q17 := B17.out.c1
      have p14 := B14.out.c0
      have q14 := B14.out.c1
      go_upto_region 18 with (go_at_call 15; (with_reducible refine (div_all B17.out.nu B14.out.nu HGI.out).mono ?_); rintro e wz ⟨n18, a18, l18, c18, n19, a19, l19, c19, rfl, hb, hn18, hn19⟩; (try have B4 := Lib.hid (B4.out.below hb)); (try have B5 := Lib.hid (B5.out.below hb)); (try have B6 := Lib.hid (B6.out.below hb)); (try have B14 := Lib.hid (B14.out.below hb)); (try have B17 := Lib.hid (B17.out.below hb)); have HWW := step1 HW HZ hb; have HW := HWW.1; have HZ := HWW.2; clear HWW; have HDD := step1 HD HE hb; have HD := HDD.1; have HE := HDD.2; clear HDD; rw [HMA.out] at hn19; have N18 := Lib.hid hn18; have N19 := Lib.hid hn19; clear hn18 hn19 hb)
      obtain ⟨W19, hW⟩ : ∃ X, X = ((wz.alloc (.cells #[.bool n18, .slice a18 l18 c18] 27)).alloc (.cells #[.bool n19, .slice a19 l19 c19] 27)) := ⟨_, rfl⟩
      obtain ⟨g18, hg18⟩ : ∃ g, g = wz.heap.size := ⟨_, rfl⟩
      obtain ⟨g19, hg19⟩ : ∃ g, g = wz.heap.size + 1 := ⟨_, rfl⟩
      have BB := Lib.hid (bx_two N18.out N19.out hW)
      have B18 : Hid (Bx W19 g18 n18 a18 l18 c18 ((A : Int) / (G : Int))) := Lib.hid (by rw [hg18]; exact BB.out.1)
      have B19 : Hid (Bx W19 g19 n19 a19 l19 c19 0) := Lib.hid (by rw [hg19]; exact BB.out.2.1)
      have hb : Below wz.heap.size wz W19 := BB.out.2.2
      rw [← hW, ← hg19, ← hg18]
      clear hW hg18 hg19 BB
      (try have B4 := Lib.hid (B4.out.below hb))
      (try have B5 := Lib.hid (B5.out.below hb))
      (try have B6 := Lib.hid (B6.out.below hb))
      (try have B14 := Lib.hid (B14.out.below hb))
      (try have B17 := Lib.hid (B17.out.below hb))
      have HWW := step1 HW HZ hb
      have HW := HWW.1
      have HZ := HWW.2
      clear HWW
      have HDD := step1 HD HE hb
      have HD := HDD.1
      have HE := HDD.2
      clear HDD
      clear hb
      clear N18 N19 B18 B17
      clear p17 q17 p14 q14
      obtain ⟨e1, e2⟩ := B19.out.zero
      subst e1 e2
      have p14 := B14.out.c0
      have q14 := B14.out.c1
      have p19 := B19.out.c0
      have q19 := B19.out.c1
      go_wp2_with fail
      clear p14 q14 p19 q19 B19
      rw [rounds_succ]
      obtain ⟨y0, y1, y2, y3⟩ := HSL.out _ HD.out
      go_upto_region 17 with fail
      clear y0 y1 y2 y3
      obtain ⟨W17, hW⟩ : ∃ X, X = (W19.alloc (.cells #[.bool false, .slice a5 0 c5] 27)) := ⟨_, rfl⟩
      obtain ⟨g17, hg17⟩ : ∃ g, g = W19.heap.size := ⟨_, rfl⟩
      have B17 : Hid (Bx W17 g17 false a5 0 c5 0) := Lib.hid (by rw [hW, hg17]; exact bx_new B5.out.nu)
      have hb : Below W19.heap.size W19 W17 := by rw [hW]; exact alloc_b _ _
      rw [← hW, ← hg17]
      clear hW hg17
      (try have B4 := Lib.hid (B4.out.below hb))
      (try have B5 := Lib.hid (B5.out.below hb))
      (try have B6 := Lib.hid (B6.out.below hb))
      (try have B14 := Lib.hid (B14.out.below hb))
      have HWW := step1 HW HZ hb
      have HW := HWW.1
      have HZ := HWW.2
      clear HWW
      have HDD := step1 HD HE hb
      have HD := HDD.1
      have HE := HDD.2
      clear HDD
      clear hb
      have p17 := B17.out.c0
      have q17 := B17.out.c1
      have p14 := B14.out.c0
      have q14 := B14.out.c1
      go_upto_region 18 with (go_at_call 15; (with_reducible refine (div_all B17.out.nu B14.out.nu HGI.out).mono ?_); rintro e wz ⟨n18, a18, l18, c18, n19, a19, l19, c19, rfl, hb, hn18, hn19⟩; (try have B4 := Lib.hid (B4.out.below hb)); (try have B5 := Lib.hid (B5.out.below hb)); (try have B6 := Lib.hid (B6.out.below hb)); (try have B14 := Lib.hid (B14.out.below hb)); (try have B17 := Lib.hid (B17.out.below hb)); have HWW := step1 HW HZ hb; have HW := HWW.1; have HZ := HWW.2; clear HWW; have HDD := step1 HD HE hb; have HD := HDD.1; have HE := HDD.2; clear HDD; rw [HMB.out] at hn19; have N18 := Lib.hid hn18; have N19 := Lib.hid hn19; clear hn18 hn19 hb)
      obtain ⟨W19, hW⟩ : ∃ X, X = ((wz.alloc (.cells #[.bool n18, .slice a18 l18 c18] 27)).alloc (.cells #[.bool n19, .slice a19 l19 c19] 27)) := ⟨_, rfl⟩
      obtain ⟨g18, hg18⟩ : ∃ g, g = wz.heap.size := ⟨_, rfl⟩
      obtain ⟨g19, hg19⟩ : ∃ g, g = wz.heap.size + 1 := ⟨_, rfl⟩
      have BB := Lib.hid (bx_two N18.out N19.out hW)
      have B18 : Hid (Bx W19 g18 n18 a18 l18 c18 ((0 : Int) / (G : Int))) := Lib.hid (by rw [hg18]; exact BB.out.1)
      have B19 : Hid (Bx W19 g19 n19 a19 l19 c19 0) := Lib.hid (by rw [hg19]; exact BB.out.2.1)
      have hb : Below wz.heap.size wz W19 := BB.out.2.2
      rw [← hW, ← hg19, ← hg18]
      clear hW hg18 hg19 BB
      (try have B4 := Lib.hid (B4.out.below hb))
      (try have B5 := Lib.hid (B5.out.below hb))
      (try have B6 := Lib.hid (B6.out.below hb))
      (try have B14 := Lib.hid (B14.out.below hb))
      (try have B17 := Lib.hid (B17.out.below hb))
      have HWW := step1 HW HZ hb
      have HW := HWW.1
      have HZ := HWW.2
      clear HWW
      have HDD := step1 HD HE hb
      have HD := HDD.1
      have HE := HDD.2
      clear HDD
      clear hb
      clear N18 N19 B18 B17
      clear p17 q17 p14 q14
      obtain ⟨e1, e2⟩ := B19.out.zero
      subst e1 e2
      have p14 := B14.out.c0
      have q14 := B14.out.c1
      have p19 := B19.out.c0
      have q19 := B19.out.c1
      go_wp2_with fail
      clear p14 q14 p19 q19 B19
      clear HSL HD HE HRS
      rw [rounds_succ]
      have lAC := lt_mul HA.out HC.out
      have lCB := lt_mul HC.out HB.out
      have FAC : Hid (fitsB (A * C).natAbs = true) := Lib.hid (fits_pow 12 lAC (by omega))
      have FCB : Hid (fitsB (C * 0).natAbs = true) := Lib.hid (fits_pow 12 lCB (by omega))
      have FGC : Hid (fitsB ((G : Int) * ((C.natAbs : Nat) : Int)).natAbs = true) := Lib.hid (fits_pow 12 (gc_lt HG1.out HC.out) (by omega))
      obtain ⟨H, hH⟩ : ∃ H : Nat, H = Nat.gcd (A * C).natAbs (C * 0).natAbs := ⟨_, rfl⟩
      have HH1 : Hid (H < 4294967296 ^ 12) := Lib.hid (by rw [hH]; exact gcd_lt lAC lCB)
      have HEQ : Hid ((H : Int) = ((G : Int) * ((C.natAbs : Nat) : Int))) := Lib.hid (by rw [hH]; exact gcd_scale HG.out)
      have HH := Lib.hid hH
      clear hH lAC lCB
      have p4 := B4.out.c0
      have q4 := B4.out.c1
      have p6 := B6.out.c0
      have q6 := B6.out.c1
      go_upto_region 22 with (go_at_call 30; (with_reducible refine (mul_fit (A * C) B4.out.nu B6.out.nu rfl FAC.out).mono ?_); rintro e wz ⟨n21, a21, l21, c21, rfl, hn, hb⟩; (try have B4 := Lib.hid (B4.out.below hb)); (try have B5 := Lib.hid (B5.out.below hb)); (try have B6 := Lib.hid (B6.out.below hb)); (try have B14 := Lib.hid (B14.out.below hb)); have HWW := step1 HW HZ hb; have HW := HWW.1; have HZ := HWW.2; clear HWW; have NB := Lib.hid hn; clear hn hb)
      obtain ⟨W21, hW⟩ : ∃ X, X = (wz.alloc (.cells #[.bool n21, .slice a21 l21 c21] 27)) := ⟨_, rfl⟩
      obtain ⟨g21, hg21⟩ : ∃ g, g = wz.heap.size := ⟨_, rfl⟩
      have B21 : Hid (Bx W21 g21 n21 a21 l21 c21 (A * C)) := Lib.hid (by rw [hW, hg21]; exact bx_new NB.out)
      have hb : Below wz.heap.size wz W21 := by rw [hW]; exact alloc_b _ _
      rw [← hW, ← hg21]
      clear hW hg21
      (try have B4 := Lib.hid (B4.out.below hb))
      (try have B5 := Lib.hid (B5.out.below hb))
      (try have B6 := Lib.hid (B6.out.below hb))
      (try have B14 := Lib.hid (B14.out.below hb))
      have HWW := step1 HW HZ hb
      have HW := HWW.1
      have HZ := HWW.2
      clear HWW
      clear hb
      clear NB
      clear p4 q4 p6 q6
      have p5 := B5.out.c0
      have q5 := B5.out.c1
      have p6 := B6.out.c0
      have q6 := B6.out.c1
      go_upto_region 23 with (go_at_call 30; (with_reducible refine (mul_fit (C * 0) B6.out.nu B5.out.nu rfl FCB.out).mono ?_); rintro e wz ⟨n23, a23, l23, c23, rfl, hn, hb⟩; (try have B5 := Lib.hid (B5.out.below hb)); (try have B6 := Lib.hid (B6.out.below hb)); (try have B14 := Lib.hid (B14.out.below hb)); (try have B21 := Lib.hid (B21.out.below hb)); have HWW := step1 HW HZ hb; have HW := HWW.1; have HZ := HWW.2; clear HWW; have NB := Lib.hid hn; clear hn hb)
      obtain ⟨W23, hW⟩ : ∃ X, X = (wz.alloc (.cells #[.bool n23, .slice a23 l23 c23] 27)) := ⟨_, rfl⟩
      obtain ⟨g23, hg23⟩ : ∃ g, g = wz.heap.size := ⟨_, rfl⟩
      have B23 : Hid (Bx W23 g23 n23 a23 l23 c23 (C * 0)) := Lib.hid (by rw [hW, hg23]; exact bx_new NB.out)
      have hb : Below wz.heap.size wz W23 := by rw [hW]; exact alloc_b _ _
      rw [← hW, ← hg23]
      clear hW hg23
      (try have B5 := Lib.hid (B5.out.below hb))
      (try have B6 := Lib.hid (B6.out.below hb))
      (try have B14 := Lib.hid (B14.out.below hb))
      (try have B21 := Lib.hid (B21.out.below hb))
      have HWW := step1 HW HZ hb
      have HW := HWW.1
      have HZ := HWW.2
      clear HWW
      clear hb
      clear NB
      clear p5 q5 p6 q6
      have p6 := B6.out.c0
      have q6 := B6.out.c1
      have p14 := B14.out.c0
      have q14 := B14.out.c1
      go_upto_region 24 with (go_at_call 30; (with_reducible refine (mul_fit ((G : Int) * ((C.natAbs : Nat) : Int)) B14.out.nu (nu_pos B6.out.nu) rfl FGC.out).mono ?_); rintro e wz ⟨n25, a25, l25, c25, rfl, hn, hb⟩; (try have B6 := Lib.hid (B6.out.below hb)); (try have B14 := Lib.hid (B14.out.below hb)); (try have B21 := Lib.hid (B21.out.below hb)); (try have B23 := Lib.hid (B23.out.below hb)); have HWW := step1 HW HZ hb; have HW := HWW.1; have HZ := HWW.2; clear HWW; have NB := Lib.hid hn; clear hn hb)
      obtain ⟨W25, hW⟩ : ∃ X, X = (wz.alloc (.cells #[.bool n25, .slice a25 l25 c25] 27)) := ⟨_, rfl⟩
      obtain ⟨g25, hg25⟩ : ∃ g, g = wz.heap.size := ⟨_, rfl⟩
      have B25 : Hid (Bx W25 g25 n25 a25 l25 c25 ((G : Int) * ((C.natAbs : Nat) : Int))) := Lib.hid (by rw [hW, hg25]; exact bx_new NB.out)
      have hb : Below wz.heap.size wz W25 := by rw [hW]; exact alloc_b _ _
      rw [← hW, ← hg25]
      clear hW hg25
      (try have B6 := Lib.hid (B6.out.below hb))
      (try have B14 := Lib.hid (B14.out.below hb))
      (try have B21 := Lib.hid (B21.out.below hb))
      (try have B23 := Lib.hid (B23.out.below hb))
      have HWW := step1 HW HZ hb
      have HW := HWW.1
      have HZ := HWW.2
      clear HWW
      clear hb
      clear NB
      clear p6 q6 p14 q14
      have p21 := B21.out.c0
      have q21 := B21.out.c1
      have p23 := B23.out.c0
      have q23 := B23.out.c1
      go_upto_region 25 with (go_at_call 17; (with_reducible refine (gcd_fit12 H B21.out.nu B23.out.nu HH.out HH1.out).mono ?_); rintro e wz ⟨n27, a27, l27, c27, rfl, hn, hb⟩; (try have B21 := Lib.hid (B21.out.below hb)); (try have B23 := Lib.hid (B23.out.below hb)); (try have B25 := Lib.hid (B25.out.below hb)); have HWW := step1 HW HZ hb; have HW := HWW.1; have HZ := HWW.2; clear HWW; have NB := Lib.hid hn; clear hn hb)
      obtain ⟨W27, hW⟩ : ∃ X, X = (wz.alloc (.cells #[.bool n27, .slice a27 l27 c27] 27)) := ⟨_, rfl⟩
      obtain ⟨g27, hg27⟩ : ∃ g, g = wz.heap.size := ⟨_, rfl⟩
      have B27 : Hid (Bx W27 g27 n27 a27 l27 c27 (H : Int)) := Lib.hid (by rw [hW, hg27]; exact bx_new NB.out)
      have hb : Below wz.heap.size wz W27 := by rw [hW]; exact alloc_b _ _
      rw [← hW, ← hg27]
      clear hW hg27
      (try have B21 := Lib.hid (B21.out.below hb))
      (try have B23 := Lib.hid (B23.out.below hb))
      (try have B25 := Lib.hid (B25.out.below hb))
      have HWW := step1 HW HZ hb
      have HW := HWW.1
      have HZ := HWW.2
      clear HWW
      clear hb
      clear NB
      clear p21 q21 p23 q23
      have p27 := B27.out.c0
      have q27 := B27.out.c1
      have p25 := B25.out.c0
      have q25 := B25.out.c1
      go_wp2_with (go_at_call 19; (with_reducible refine (same_yes B27.out.nu B25.out.nu HEQ.out).mono ?_); rintro e wz ⟨rfl, hb⟩; have HWW := step1 HW HZ hb; have HW := HWW.1; have HZ := HWW.2; clear HWW; clear hb)
      go_ret
      exact ⟨rfl, HW.out⟩
  case' neg =>
    have HDM : Hid (A / B * B + A % B = A) := Lib.hid (Int.ediv_mul_add_emod A B)
    have FA : Hid (fitsB A.natAbs = true) := Lib.hid (fits_pow 6 HA.out (by omega))
    have FP : Hid (fitsB (A / B * B).natAbs = true) := Lib.hid (fits_pow 7 (div_mul_lt HA.out HB.out hB0) (by omega))
    have HLT : Hid (A % B < ((B.natAbs : Nat) : Int)) := Lib.hid (Int.emod_lt A hB0)
    have hl5 : l5 ≠ 0 := by rw [nu_len B5.out.nu]; exact digs_len_ne (by omega)
    have hl5p : 0 < l5 := by omega
    have hl5i : (0 : Int) < (l5 : Int) := by omega
    have hl5d : decide (0 < l5) = true := decide_eq_true hl5p
    have hl5e : decide ((0 : Int) < (l5 : Int)) = true := decide_eq_true hl5i
    have p4 := B4.out.c0
    have q4 := B4.out.c1
    have p5 := B5.out.c0
    have q5 := B5.out.c1
    go_upto_region 4 with (go_at_call 15; (with_reducible refine (div_all B4.out.nu B5.out.nu hB0).mono ?_); rintro e wz ⟨n7, a7, l7, c7, n8, a8, l8, c8, rfl, hb, hn7, hn8⟩; (try have B4 := Lib.hid (B4.out.below hb)); (try have B5 := Lib.hid (B5.out.below hb)); (try have B6 := Lib.hid (B6.out.below hb)); have HWW := step1 HW HZ hb; have HW := HWW.1; have HZ := HWW.2; clear HWW; have N7 := Lib.hid hn7; have N8 := Lib.hid hn8; clear hn7 hn8 hb)
    obtain ⟨W8, hW⟩ : ∃ X, X = ((wz.alloc (.cells #[.bool n7, .slice a7 l7 c7] 27)).alloc (.cells #[.bool n8, .slice a8 l8 c8] 27)) := ⟨_, rfl⟩
    obtain ⟨g7, hg7⟩ : ∃ g, g = wz.heap.size := ⟨_, rfl⟩
    obtain ⟨g8, hg8⟩ : ∃ g, g = wz.heap.size + 1 := ⟨_, rfl⟩
    have BB := Lib.hid (bx_two N7.out N8.out hW)
    have B7 : Hid (Bx W8 g7 n7 a7 l7 c7 (A / B)) := Lib.hid (by rw [hg7]; exact BB.out.1)
    have B8 : Hid (Bx W8 g8 n8 a8 l8 c8 (A % B)) := Lib.hid (by rw [hg8]; exact BB.out.2.1)
    have hb : Below wz.heap.size wz W8 := BB.out.2.2
    rw [← hW, ← hg8, ← hg7]
    clear hW hg7 hg8 BB
    (try have B4 := Lib.hid (B4.out.below hb))
    (try have B5 := Lib.hid (B5.out.below hb))
    (try have B6 := Lib.hid (B6.out.below hb))
    have HWW := step1 HW HZ hb
    have HW := HWW.1
    have HZ := HWW.2
    clear HWW
    clear hb
    clear N7 N8
    clear p4 q4 p5 q5
    have q5 := B5.out.c1
    go_upto_region 7 with fail
    clear q5
    have p7 := B7.out.c0
    have q7 := B7.out.c1
    have p5 := B5.out.c0
    have q5 := B5.out.c1
    go_upto_region 8 with (go_at_call 30; refine (mul_fit (A / B * B) B7.out.nu B5.out.nu rfl FP.out).mono ?_; rintro e wz ⟨n10, a10, l10, c10, rfl, hn, hb⟩; (try have B4 := Lib.hid (B4.out.below hb)); (try have B5 := Lib.hid (B5.out.below hb)); (try have B6 := Lib.hid (B6.out.below hb)); (try have B7 := Lib.hid (B7.out.below hb)); (try have B8 := Lib.hid (B8.out.below hb)); have HWW := step1 HW HZ hb; have HW := HWW.1; have HZ := HWW.2; clear HWW; have NB := Lib.hid hn; clear hn hb)
    obtain ⟨W10, hW⟩ : ∃ X, X = (wz.alloc (.cells #[.bool n10, .slice a10 l10 c10] 27)) := ⟨_, rfl⟩
    obtain ⟨g10, hg10⟩ : ∃ g, g = wz.heap.size := ⟨_, rfl⟩
    have B10 : Hid (Bx W10 g10 n10 a10 l10 c10 (A / B * B)) := Lib.hid (by rw [hW, hg10]; exact bx_new NB.out)
    have hb : Below wz.heap.size wz W10 := by rw [hW]; exact alloc_b _ _
    rw [← hW, ← hg10]
    clear hW hg10
    (try have B4 := Lib.hid (B4.out.below hb))
    (try have B5 := Lib.hid (B5.out.below hb))
    (try have B6 := Lib.hid (B6.out.below hb))
    (try have B7 := Lib.hid (B7.out.below hb))
    (try have B8 := Lib.hid (B8.out.below hb))
    have HWW := step1 HW HZ hb
    have HW := HWW.1
    have HZ := HWW.2
    clear HWW
    clear hb
    clear NB
    clear p7 q7 p5 q5
    have p10 := B10.out.c0
    have q10 := B10.out.c1
    have p8 := B8.out.c0
    have q8 := B8.out.c1
    go_upto_region 9 with (go_at_call 28; (with_reducible refine (add_fit A B10.out.nu B8.out.nu HDM.out FA.out).mono ?_); rintro e wz ⟨n12, a12, l12, c12, rfl, hn, hb⟩; (try have B4 := Lib.hid (B4.out.below hb)); (try have B5 := Lib.hid (B5.out.below hb)); (try have B6 := Lib.hid (B6.out.below hb)); (try have B7 := Lib.hid (B7.out.below hb)); (try have B8 := Lib.hid (B8.out.below hb)); (try have B10 := Lib.hid (B10.out.below hb)); have HWW := step1 HW HZ hb; have HW := HWW.1; have HZ := HWW.2; clear HWW; have NB := Lib.hid hn; clear hn hb)
    obtain ⟨W12, hW⟩ : ∃ X, X = (wz.alloc (.cells #[.bool n12, .slice a12 l12 c12] 27)) := ⟨_, rfl⟩
    obtain ⟨g12, hg12⟩ : ∃ g, g = wz.heap.size := ⟨_, rfl⟩
    have B12 : Hid (Bx W12 g12 n12 a12 l12 c12 A) := Lib.hid (by rw [hW, hg12]; exact bx_new NB.out)
    have hb : Below wz.heap.size wz W12 := by rw [hW]; exact alloc_b _ _
    rw [← hW, ← hg12]
    clear hW hg12
    (try have B4 := Lib.hid (B4.out.below hb))
    (try have B5 := Lib.hid (B5.out.below hb))
    (try have B6 := Lib.hid (B6.out.below hb))
    (try have B7 := Lib.hid (B7.out.below hb))
    (try have B8 := Lib.hid (B8.out.below hb))
    (try have B10 := Lib.hid (B10.out.below hb))
    have HWW := step1 HW HZ hb
    have HW := HWW.1
    have HZ := HWW.2
    clear HWW
    clear hb
    clear NB
    clear p10 q10 p8 q8
    obtain rfl : n8 = false := by rw [nu_sign B8.out.nu]; exact decide_eq_false (Int.not_lt.2 (Int.emod_nonneg _ hB0))
    have p12 := B12.out.c0
    have q12 := B12.out.c1
    have p4 := B4.out.c0
    have q4 := B4.out.c1
    have p8 := B8.out.c0
    have q8 := B8.out.c1
    have p5 := B5.out.c0
    have q5 := B5.out.c1
    have p7 := B7.out.c0
    have q7 := B7.out.c1
    go_upto_region 11 with (first | (go_at_call 19; (with_reducible refine (same_yes B12.out.nu B4.out.nu rfl).mono ?_); rintro e wz ⟨rfl, hb⟩; (try have B4 := Lib.hid (B4.out.below hb)); (try have B5 := Lib.hid (B5.out.below hb)); (try have B6 := Lib.hid (B6.out.below hb)); (try have B7 := Lib.hid (B7.out.below hb)); (try have B8 := Lib.hid (B8.out.below hb)); (try have B12 := Lib.hid (B12.out.below hb)); have HWW := step1 HW HZ hb; have HW := HWW.1; have HZ := HWW.2; clear HWW; have p12 := B12.out.c0; have q12 := B12.out.c1; have p4 := B4.out.c0; have q4 := B4.out.c1; have p8 := B8.out.c0; have q8 := B8.out.c1; have p5 := B5.out.c0; have q5 := B5.out.c1; have p7 := B7.out.c0; have q7 := B7.out.c1; clear hb) | (go_at_call 31; (with_reducible refine (cmp_less B8.out.nu (nu_pos B5.out.nu) HLT.out).mono ?_); rintro e wz ⟨rfl, hb⟩; (try have B4 := Lib.hid (B4.out.below hb)); (try have B5 := Lib.hid (B5.out.below hb)); (try have B6 := Lib.hid (B6.out.below hb)); (try have B7 := Lib.hid (B7.out.below hb)); (try have B8 := Lib.hid (B8.out.below hb)); (try have B12 := Lib.hid (B12.out.below hb)); have HWW := step1 HW HZ hb; have HW := HWW.1; have HZ := HWW.2; clear HWW; have p12 := B12.out.c0; have q12 := B12.out.c1; have p4 := B4.out.c0; have q4 := B4.out.c1; have p8 := B8.out.c0; have q8 := B8.out.c1; have p5 := B5.out.c0; have q5 := B5.out.c1; have p7 := B7.out.c0; have q7 := B7.out.c1; clear hb) | (go_at_call_of 32 (Value.slice a7 l7 c7); (with_reducible refine (right_nuB B7.out.nu).mono ?_); rintro e wz ⟨rfl, hb⟩; (try have B4 := Lib.hid (B4.out.below hb)); (try have B5 := Lib.hid (B5.out.below hb)); (try have B6 := Lib.hid (B6.out.below hb)); (try have B7 := Lib.hid (B7.out.below hb)); (try have B8 := Lib.hid (B8.out.below hb)); (try have B12 := Lib.hid (B12.out.below hb)); have HWW := step1 HW HZ hb; have HW := HWW.1; have HZ := HWW.2; clear HWW; have p12 := B12.out.c0; have q12 := B12.out.c1; have p4 := B4.out.c0; have q4 := B4.out.c1; have p8 := B8.out.c0; have q8 := B8.out.c1; have p5 := B5.out.c0; have q5 := B5.out.c1; have p7 := B7.out.c0; have q7 := B7.out.c1; clear hb) | (go_at_call_of 32 (Value.slice a8 l8 c8); (with_reducible refine (right_nuB B8.out.nu).mono ?_); rintro e wz ⟨rfl, hb⟩; (try have B4 := Lib.hid (B4.out.below hb)); (try have B5 := Lib.hid (B5.out.below hb)); (try have B6 := Lib.hid (B6.out.below hb)); (try have B7 := Lib.hid (B7.out.below hb)); (try have B8 := Lib.hid (B8.out.below hb)); (try have B12 := Lib.hid (B12.out.below hb)); have HWW := step1 HW HZ hb; have HW := HWW.1; have HZ := HWW.2; clear HWW; have p12 := B12.out.c0; have q12 := B12.out.c1; have p4 := B4.out.c0; have q4 := B4.out.c1; have p8 := B8.out.c0; have q8 := B8.out.c1; have p5 := B5.out.c0; have q5 := B5.out.c1; have p7 := B7.out.c0; have q7 := B7.out.c1; clear hb))
    clear p12 q12 p4 q4 p8 q8 p5 q5 p7 q7 B7 B8 B10 B12
    have p4 := B4.out.c0
    have q4 := B4.out.c1
    have p5 := B5.out.c0
    have q5 := B5.out.c1
    go_upto_region 12 with (go_at_call 17; (with_reducible refine (gcd_fit G B4.out.nu B5.out.nu HG.out HG1.out).mono ?_); rintro e wz ⟨n14, a14, l14, c14, rfl, hn, hb⟩; (try have B4 := Lib.hid (B4.out.below hb)); (try have B5 := Lib.hid (B5.out.below hb)); (try have B6 := Lib.hid (B6.out.below hb)); have HWW := step1 HW HZ hb; have HW := HWW.1; have HZ := HWW.2; clear HWW; have NB := Lib.hid hn; clear hn hb)
    obtain ⟨W14, hW⟩ : ∃ X, X = (wz.alloc (.cells #[.bool n14, .slice a14 l14 c14] 27)) := ⟨_, rfl⟩
    obtain ⟨g14, hg14⟩ : ∃ g, g = wz.heap.size := ⟨_, rfl⟩
    have B14 : Hid (Bx W14 g14 n14 a14 l14 c14 (G : Int)) := Lib.hid (by rw [hW, hg14]; exact bx_new NB.out)
    have hb : Below wz.heap.size wz W14 := by rw [hW]; exact alloc_b _ _
    rw [← hW, ← hg14]
    clear hW hg14
    (try have B4 := Lib.hid (B4.out.below hb))
    (try have B5 := Lib.hid (B5.out.below hb))
    (try have B6 := Lib.hid (B6.out.below hb))
    have HWW := step1 HW HZ hb
    have HW := HWW.1
    have HZ := HWW.2
    clear HWW
    clear hb
    clear NB
    clear p4 q4 p5 q5
    obtain rfl : n14 = false := by rw [nu_sign B14.out.nu]; exact decide_eq_false (by omega)
    have l4e := nu_len B4.out.nu
    have l5e := nu_len B5.out.nu
    have l14e := nu_len B14.out.nu
    have hg0 : G ≠ 0 := by rw [HG.out]; exact gcd_ne (.inr (by omega))
    have hl14 : l14 ≠ 0 := by rw [l14e]; exact digs_len_ne (by omega)
    have hl45 : l4 + l5 ≤ 1000 := by have := len_small HA.out; have := len_small HB.out; omega
    have hl14b : l14 ≤ 1000 := by have := len_small (z := (G : Int)) (by rw [Int.natAbs_natCast]; exact HG1.out); omega
    clear l4e l5e l14e
    have HG0 := Lib.hid hg0
    clear hg0
    have z14 : ((l14 : Int) == 0) = false := by simp; omega
    have z14b : (0 : Int) < (l14 : Int) := by omega
    have z14c : 0 < l14 := by omega
    have z14d : decide (0 < l14) = true := decide_eq_true z14c
    have z14e : decide ((0 : Int) < (l14 : Int)) = true := decide_eq_true z14b
    have z45 : ((l4 : Int) + (l5 : Int) == 0) = false := by simp; omega
    have p14 := B14.out.c0
    have q14 := B14.out.c1
    have p4 := B4.out.c0
    have q4 := B4.out.c1
    have p5 := B5.out.c0
    have q5 := B5.out.c1
    go_upto_region 14 with fail
    go_wp2_with fail
    clear p14 q14 p4 q4 p5 q5
    obtain ⟨WS, hW⟩ : ∃ X, X = W14.alloc (.cells #[.bool n4, .slice a4 l4 c4, .bool n5, .slice a5 l5 c5] 27) := ⟨_, rfl⟩
    obtain ⟨gs, hgs⟩ : ∃ g, g = W14.heap.size := ⟨_, rfl⟩
    have hb : Below W14.heap.size W14 WS := by rw [hW]; exact alloc_b _ _
    have HRS : Hid (WS.heap[gs]? = some (.cells #[.bool n4, .slice a4 l4 c4, .bool n5, .slice a5 l5 c5] 27 (0, 0))) := Lib.hid (by rw [hW, hgs]; exact heap_alloc_new _ _)
    rw [← hW, ← hgs]
    clear hW hgs
    (try have B4 := Lib.hid (B4.out.below hb))
    (try have B5 := Lib.hid (B5.out.below hb))
    (try have B6 := Lib.hid (B6.out.below hb))
    (try have B14 := Lib.hid (B14.out.below hb))
    have HWW := step1 HW HZ hb
    have HW := HWW.1
    have HZ := HWW.2
    clear HWW
    clear hb
    have HSL : Hid (∀ V, Below WS.heap.size WS V → V.cell? ⟨gs, 0, none⟩ = some (.bool n4) ∧ V.cell? ⟨gs, 1, none⟩ = some (.slice a4 l4 c4) ∧ V.cell? ⟨gs, 2, none⟩ = some (.bool n5) ∧ V.cell? ⟨gs, 3, none⟩ = some (.slice a5 l5 c5)) := Lib.hid (fun V h => by
      have q := (h.block _ (Array.getElem?_eq_some_iff.1 HRS.out).1).trans HRS.out
      exact ⟨by rw [cell_of_row _ _ _ _ _ _ q]; rfl, by rw [cell_of_row _ _ _ _ _ _ q]; rfl, by rw [cell_of_row _ _ _ _ _ _ q]; rfl, by rw [cell_of_row _ _ _ _ _ _ q]; rfl⟩)
    have HGI : Hid ((G : Int) ≠ 0) := Lib.hid (by have := HG0.out; omega)
    have HMA : Hid (A % (G : Int) = 0) := Lib.hid (gcd_mod_left HG.out)
    have HMB : Hid ((B : Int) % (G : Int) = 0) := Lib.hid (gcd_mod_right HG.out)
    have HD : Hid (Below WS.heap.size WS WS) := Lib.hid (Below.refl _ _)
    have HE : Hid (WS.heap.size ≤ WS.heap.size) := Lib.hid (Nat.le_refl _)
    refine wp_loop_rounds 3 ?_
    rw [rounds_succ]
    obtain ⟨y0, y1, y2, y3⟩ := HSL.out _ HD.out
    go_upto_region 17 with fail
    clear y0 y1 y2 y3
    obtain ⟨W17, hW⟩ : ∃ X, X = (WS.alloc (.cells #[.bool n4, .slice a4 l4 c4] 27)) := ⟨_, rfl⟩
    obtain ⟨g17, hg17⟩ : ∃ g, g = WS.heap.size := ⟨_, rfl⟩
    have B17 : Hid (Bx W17 g17 n4 a4 l4 c4 A) := Lib.hid (by rw [hW, hg17]; exact bx_new B4.out.nu)
    have hb : Below WS.heap.size WS W17 := by rw [hW]; exact alloc_b _ _
    rw [← hW, ← hg17]
    clear hW hg17
    (try have B4 := Lib.hid (B4.out.below hb))
    (try have B5 := Lib.hid (B5.out.below hb))
    (try have B6 := Lib.hid (B6.out.below hb))
    (try have B14 := Lib.hid (B14.out.below hb))
    have HWW := step1 HW HZ hb
    have HW := HWW.1
    have HZ := HWW.2
    clear HWW
    have HDD := step1 HD HE hb
    have HD := HDD.1
    have HE := HDD.2
    clear HDD
    clear hb
    have p17 := B17.out.c0
    have q17 := B17.out.c1
    have p14 := B14.out.c0
    have q14 := B14.out.c1
    go_upto_region 18 with (go_at_call 15; (with_reducible refine (div_all B17.out.nu B14.out.nu HGI.out).mono ?_); rintro e wz ⟨n18, a18, l18, c18, n19, a19, l19, c19, rfl, hb, hn18, hn19⟩; (try have B4 := Lib.hid (B4.out.below hb)); (try have B5 := Lib.hid (B5.out.below hb)); (try have B6 := Lib.hid (B6.out.below hb)); (try have B14 := Lib.hid (B14.out.below hb)); (try have B17 := Lib.hid (B17.out.below hb)); have HWW := step1 HW HZ hb; have HW := HWW.1; have HZ := HWW.2; clear HWW; have HDD := step1 HD HE hb; have HD := HDD.1; have HE := HDD.2; clear HDD; rw [HMA.out] at hn19; have N18 := Lib.hid hn18; have N19 := Lib.hid hn19; clear hn18 hn19 hb)
    obtain ⟨W19, hW⟩ : ∃ X, X = ((wz.alloc (.cells #[.bool n18, .slice a18 l18 c18] 27)).alloc (.cells #[.bool n19, .slice a19 l19 c19] 27)) := ⟨_, rfl⟩
    obtain ⟨g18, hg18⟩ : ∃ g, g = wz.heap.size := ⟨_, rfl⟩
    obtain ⟨g19, hg19⟩ : ∃ g, g = wz.heap.size + 1 := ⟨_, rfl⟩
    have BB := Lib.hid (bx_two N18.out N19.out hW)
    have B18 : Hid (Bx W19 g18 n18 a18 l18 c18 ((A : Int) / (G : Int))) := Lib.hid (by rw [hg18]; exact BB.out.1)
    have B19 : Hid (Bx W19 g19 n19 a19 l19 c19 0) := Lib.hid (by rw [hg19]; exact BB.out.2.1)
    have hb : Below wz.heap.size wz W19 := BB.out.2.2
    rw [← hW, ← hg19, ← hg18]
    clear hW hg18 hg19 BB
    (try have B4 := Lib.hid (B4.out.below hb))
    (try have B5 := Lib.hid (B5.out.below hb))
    (try have B6 := Lib.hid (B6.out.below hb))
    (try have B14 := Lib.hid (B14.out.below hb))
    (try have B17 := Lib.hid (B17.out.below hb))
    have HWW := step1 HW HZ hb
    have HW := HWW.1
    have HZ := HWW.2
    clear HWW
    have HDD := step1 HD HE hb
    have HD := HDD.1
    have HE := HDD.2
    clear HDD
    clear hb
    clear N18 N19 B18 B17
    clear p17 q17 p14 q14
    obtain ⟨e1, e2⟩ := B19.out.zero
    subst e1 e2
    have p14 := B14.out.c0
    have q14 := B14.out.c1
    have p19 := B19.out.c0
    have q19 := B19.out.c1
    go_wp2_with fail
    clear p14 q14 p19 q19 B19
    rw [rounds_succ]
    obtain ⟨y0, y1, y2, y3⟩ := HSL.out _ HD.out
    go_upto_region 17 with fail
    clear y0 y1 y2 y3
    obtain ⟨W17, hW⟩ : ∃ X, X = (W19.alloc (.cells #[.bool n5, .slice a5 l5 c5] 27)) := ⟨_, rfl⟩
    obtain ⟨g17, hg17⟩ : ∃ g, g = W19.heap.size := ⟨_, rfl⟩
    have B17 : Hid (Bx W17 g17 n5 a5 l5 c5 B) := Lib.hid (by rw [hW, hg17]; exact bx_new B5.out.nu)
    have hb : Below W19.heap.size W19 W17 := by rw [hW]; exact alloc_b _ _
    rw [← hW, ← hg17]
    clear hW hg17
    (try have B4 := Lib.hid (B4.out.below hb))
    (try have B5 := Lib.hid (B5.out.below hb))
    (try have B6 := Lib.hid (B6.out.below hb))
    (try have B14 := Lib.hid (B14.out.below hb))
    have HWW := step1 HW HZ hb
    have HW := HWW.1
    have HZ := HWW.2
    clear HWW
    have HDD := step1 HD HE hb
    have HD := HDD.1
    have HE := HDD.2
    clear HDD
    clear hb
    have p17 := B17.out.c0
    have q17 := B17.out.c1
    have p14 := B14.out.c0
    have q14 := B14.out.c1
    go_upto_region 18 with (go_at_call 15; (with_reducible refine (div_all B17.out.nu B14.out.nu HGI.out).mono ?_); rintro e wz ⟨n18, a18, l18, c18, n19, a19, l19, c19, rfl, hb, hn18, hn19⟩; (try have B4 := Lib.hid (B4.out.below hb)); (try have B5 := Lib.hid (B5.out.below hb)); (try have B6 := Lib.hid (B6.out.below hb)); (try have B14 := Lib.hid (B14.out.below hb)); (try have B17 := Lib.hid (B17.out.below hb)); have HWW := step1 HW HZ hb; have HW := HWW.1; have HZ := HWW.2; clear HWW; have HDD := step1 HD HE hb; have HD := HDD.1; have HE := HDD.2; clear HDD; rw [HMB.out] at hn19; have N18 := Lib.hid hn18; have N19 := Lib.hid hn19; clear hn18 hn19 hb)
    obtain ⟨W19, hW⟩ : ∃ X, X = ((wz.alloc (.cells #[.bool n18, .slice a18 l18 c18] 27)).alloc (.cells #[.bool n19, .slice a19 l19 c19] 27)) := ⟨_, rfl⟩
    obtain ⟨g18, hg18⟩ : ∃ g, g = wz.heap.size := ⟨_, rfl⟩
    obtain ⟨g19, hg19⟩ : ∃ g, g = wz.heap.size + 1 := ⟨_, rfl⟩
    have BB := Lib.hid (bx_two N18.out N19.out hW)
    have B18 : Hid (Bx W19 g18 n18 a18 l18 c18 ((B : Int) / (G : Int))) := Lib.hid (by rw [hg18]; exact BB.out.1)
    have B19 : Hid (Bx W19 g19 n19 a19 l19 c19 0) := Lib.hid (by rw [hg19]; exact BB.out.2.1)
    have hb : Below wz.heap.size wz W19 := BB.out.2.2
    rw [← hW, ← hg19, ← hg18]
    clear hW hg18 hg19 BB
    (try have B4 := Lib.hid (B4.out.below hb))
    (try have B5 := Lib.hid (B5.out.below hb))
    (try have B6 := Lib.hid (B6.out.below hb))
    (try have B14 := Lib.hid (B14.out.below hb))
    (try have B17 := Lib.hid (B17.out.below hb))
    have HWW := step1 HW HZ hb
    have HW := HWW.1
    have HZ := HWW.2
    clear HWW
    have HDD := step1 HD HE hb
    have HD := HDD.1
    have HE := HDD.2
    clear HDD
    clear hb
    clear N18 N19 B18 B17
    clear p17 q17 p14 q14
    obtain ⟨e1, e2⟩ := B19.out.zero
    subst e1 e2
    have p14 := B14.out.c0
    have q14 := B14.out.c1
    have p19 := B19.out.c0
    have q19 := B19.out.c1
    go_wp2_with fail
    clear p14 q14 p19 q19 B19
    clear HSL HD HE HRS
    rw [rounds_succ]
    have lAC := lt_mul HA.out HC.out
    have lCB := lt_mul HC.out HB.out
    have FAC : Hid (fitsB (A * C).natAbs = true) := Lib.hid (fits_pow 12 lAC (by omega))
    have FCB : Hid (fitsB (C * B).natAbs = true) := Lib.hid (fits_pow 12 lCB (by omega))
    have FGC : Hid (fitsB ((G : Int) * ((C.natAbs : Nat) : Int)).natAbs = true) := Lib.hid (fits_pow 12 (gc_lt HG1.out HC.out) (by omega))
    obtain ⟨H, hH⟩ : ∃ H : Nat, H = Nat.gcd (A * C).natAbs (C * B).natAbs := ⟨_, rfl⟩
    have HH1 : Hid (H < 4294967296 ^ 12) := Lib.hid (by rw [hH]; exact gcd_lt lAC lCB)
    have HEQ : Hid ((H : Int) = ((G : Int) * ((C.natAbs : Nat) : Int))) := Lib.hid (by rw [hH]; exact gcd_scale HG.out)
    have HH := Lib.hid hH
    clear hH lAC lCB
    have p4 := B4.out.c0
    have q4 := B4.out.c1
    have p6 := B6.out.c0
    have q6 := B6.out.c1
    go_upto_region 22 with (go_at_call 30; (with_reducible refine (mul_fit (A * C) B4.out.nu B6.out.nu rfl FAC.out).mono ?_); rintro e wz ⟨n21, a21, l21, c21, rfl, hn, hb⟩; (try have B4 := Lib.hid (B4.out.below hb)); (try have B5 := Lib.hid (B5.out.below hb)); (try have B6 := Lib.hid (B6.out.below hb)); (try have B14 := Lib.hid (B14.out.below hb)); have HWW := step1 HW HZ hb; have HW := HWW.1; have HZ := HWW.2; clear HWW; have NB := Lib.hid hn; clear hn hb)
    obtain ⟨W21, hW⟩ : ∃ X, X = (wz.alloc (.cells #[.bool n21, .slice a21 l21 c21] 27)) := ⟨_, rfl⟩
    obtain ⟨g21, hg21⟩ : ∃ g, g = wz.heap.size := ⟨_, rfl⟩
    have B21 : Hid (Bx W21 g21 n21 a21 l21 c21 (A * C)) := Lib.hid (by rw [hW, hg21]; exact bx_new NB.out)
    have hb : Below wz.heap.size wz W21 := by rw [hW]; exact alloc_b _ _
    rw [← hW, ← hg21]
    clear hW hg21
    (try have B4 := Lib.hid (B4.out.below hb))
    (try have B5 := Lib.hid (B5.out.below hb))
    (try have B6 := Lib.hid (B6.out.below hb))
    (try have B14 := Lib.hid (B14.out.below hb))
    have HWW := step1 HW HZ hb
    have HW := HWW.1
    have HZ := HWW.2
    clear HWW
    clear hb
    clear NB
    clear p4 q4 p6 q6
    have p5 := B5.out.c0
    have q5 := B5.out.c1
    have p6 := B6.out.c0
    have q6 := B6.out.c1
    go_upto_region 23 with (go_at_call 30; (with_reducible refine (mul_fit (C * B) B6.out.nu B5.out.nu rfl FCB.out).mono ?_); rintro e wz ⟨n23, a23, l23, c23, rfl, hn, hb⟩; (try have B5 := Lib.hid (B5.out.below hb)); (try have B6 := Lib.hid (B6.out.below hb)); (try have B14 := Lib.hid (B14.out.below hb)); (try have B21 := Lib.hid (B21.out.below hb)); have HWW := step1 HW HZ hb; have HW := HWW.1; have HZ := HWW.2; clear HWW; have NB := Lib.hid hn; clear hn hb)
    obtain ⟨W23, hW⟩ : ∃ X, X = (wz.alloc (.cells #[.bool n23, .slice a23 l23 c23] 27)) := ⟨_, rfl⟩
    obtain ⟨g23, hg23⟩ : ∃ g, g = wz.heap.size := ⟨_, rfl⟩
    have B23 : Hid (Bx W23 g23 n23 a23 l23 c23 (C * B)) := Lib.hid (by rw [hW, hg23]; exact bx_new NB.out)
    have hb : Below wz.heap.size wz W23 := by rw [hW]; exact alloc_b _ _
    rw [← hW, ← hg23]
    clear hW hg23
    (try have B5 := Lib.hid (B5.out.below hb))
    (try have B6 := Lib.hid (B6.out.below hb))
    (try have B14 := Lib.hid (B14.out.below hb))
    (try have B21 := Lib.hid (B21.out.below hb))
    have HWW := step1 HW HZ hb
    have HW := HWW.1
    have HZ := HWW.2
    clear HWW
    clear hb
    clear NB
    clear p5 q5 p6 q6
    have p6 := B6.out.c0
    have q6 := B6.out.c1
    have p14 := B14.out.c0
    have q14 := B14.out.c1
    go_upto_region 24 with (go_at_call 30; (with_reducible refine (mul_fit ((G : Int) * ((C.natAbs : Nat) : Int)) B14.out.nu (nu_pos B6.out.nu) rfl FGC.out).mono ?_); rintro e wz ⟨n25, a25, l25, c25, rfl, hn, hb⟩; (try have B6 := Lib.hid (B6.out.below hb)); (try have B14 := Lib.hid (B14.out.below hb)); (try have B21 := Lib.hid (B21.out.below hb)); (try have B23 := Lib.hid (B23.out.below hb)); have HWW := step1 HW HZ hb; have HW := HWW.1; have HZ := HWW.2; clear HWW; have NB := Lib.hid hn; clear hn hb)
    obtain ⟨W25, hW⟩ : ∃ X, X = (wz.alloc (.cells #[.bool n25, .slice a25 l25 c25] 27)) := ⟨_, rfl⟩
    obtain ⟨g25, hg25⟩ : ∃ g, g = wz.heap.size := ⟨_, rfl⟩
    have B25 : Hid (Bx W25 g25 n25 a25 l25 c25 ((G : Int) * ((C.natAbs : Nat) : Int))) := Lib.hid (by rw [hW, hg25]; exact bx_new NB.out)
    have hb : Below wz.heap.size wz W25 := by rw [hW]; exact alloc_b _ _
    rw [← hW, ← hg25]
    clear hW hg25
    (try have B6 := Lib.hid (B6.out.below hb))
    (try have B14 := Lib.hid (B14.out.below hb))
    (try have B21 := Lib.hid (B21.out.below hb))
    (try have B23 := Lib.hid (B23.out.below hb))
    have HWW := step1 HW HZ hb
    have HW := HWW.1
    have HZ := HWW.2
    clear HWW
    clear hb
    clear NB
    clear p6 q6 p14 q14
    have p21 := B21.out.c0
    have q21 := B21.out.c1
    have p23 := B23.out.c0
    have q23 := B23.out.c1
    go_upto_region 25 with (go_at_call 17; (with_reducible refine (gcd_fit12 H B21.out.nu B23.out.nu HH.out HH1.out).mono ?_); rintro e wz ⟨n27, a27, l27, c27, rfl, hn, hb⟩; (try have B21 := Lib.hid (B21.out.below hb)); (try have B23 := Lib.hid (B23.out.below hb)); (try have B25 := Lib.hid (B25.out.below hb)); have HWW := step1 HW HZ hb; have HW := HWW.1; have HZ := HWW.2; clear HWW; have NB := Lib.hid hn; clear hn hb)
    obtain ⟨W27, hW⟩ : ∃ X, X = (wz.alloc (.cells #[.bool n27, .slice a27 l27 c27] 27)) := ⟨_, rfl⟩
    obtain ⟨g27, hg27⟩ : ∃ g, g = wz.heap.size := ⟨_, rfl⟩
    have B27 : Hid (Bx W27 g27 n27 a27 l27 c27 (H : Int)) := Lib.hid (by rw [hW, hg27]; exact bx_new NB.out)
    have hb : Below wz.heap.size wz W27 := by rw [hW]; exact alloc_b _ _
    rw [← hW, ← hg27]
    clear hW hg27
    (try have B21 := Lib.hid (B21.out.below hb))
    (try have B23 := Lib.hid (B23.out.below hb))
    (try have B25 := Lib.hid (B25.out.below hb))
    have HWW := step1 HW HZ hb
    have HW := HWW.1
    have HZ := HWW.2
    clear HWW
    clear hb
    clear NB
    clear p21 q21 p23 q23
    have p27 := B27.out.c0
    have q27 := B27.out.c1
    have p25 := B25.out.c0
    have q25 := B25.out.c1
    go_wp2_with (go_at_call 19; (with_reducible refine (same_yes B27.out.nu B25.out.nu HEQ.out).mono ?_); rintro e wz ⟨rfl, hb⟩; have HWW := step1 HW HZ hb; have HW := HWW.1; have HZ := HWW.2; clear HWW; clear hb)
    go_ret
    exact ⟨rfl, HW.out⟩

end Go.Proofs.YtdgmjmckeeeljaaGreatDoor

namespace Go.Proofs.YtdgmjmckeeeljaaGreatDoor
open Go.ChangeShapes Go.WideShapes Go.ChangeAt Go.RowKit

set_option maxRecDepth 100000 in
theorem divisors_lifted (os : Os) (started : os.Started) (H : Type) (enc : TypeId × Value → H) :
    ReturnsInHanded {} Tryz.checked os 8 .any (fun w args => (Rows.numDivisorsSpec.pre enc Tryz.prog Tryz.f8 [] false w args ∧ laidMetH Tryz.prog laidL w) ∧ sizedMet enc Tryz.prog Tryz.f8 (OpenSpec.ofChange Rows.numDivisorsSpec) false w args)
      (Rows.numDivisorsSpec.post enc Tryz.prog Tryz.f8 false true false false) := by
  refine returnsInHanded_of_change_and (C := Tryz.checked) (X := fun w _ => laidMetH Tryz.prog laidL w) (fun _ _ _ hh h => h.of_heap hh) ownR started (by kernel_rfl) Tryz.func8
    (ChangeSpec.witness_at (enc := enc) (C := Tryz.checked) (os := os) (X := fun w _ => laidMetH Tryz.prog laidL w) false (laidWorld os) #[.agg #[.slice none 0 0, .slice none 0 0, .slice none 0 0]] 8 rfl (by kernel_rfl) (by kernel_rfl) (by kernel_rfl) (by kernel_rfl) (by kernel_rfl) (laidWorld_met os _)) ?_
  intro W base args ds gs before hval0 hW _ _ hL _
  have hval : ∀ (j : Nat) t v, Tryz.f8.params[j]? = some t → args[j]? = some v → Value.okWide Tryz.prog W .any base t v := hval0
  have hW' := hW
  obtain ⟨p, q, hA0, hV, rfl, hfz, hnd⟩ := hW
  have hA : DataW.TrodAll enc Tryz.prog W 0 (fun _ => true) true Tryz.f8.params.toList args.toList ds p := hA0
  rw [Tryz.params8] at hA hval
  obtain ⟨v0, vs0, d0, ds0, p0, q0, hargs, rfl, rfl, h0, r0⟩ := trodAll_cons hA
  obtain ⟨rfl, rfl, rfl⟩ := trodAll_nil r0
  obtain rfl : args = #[v0] := by cases args; simp_all
  obtain ⟨rfl, rfl⟩ := trodVars_none hV
  have k0 := h0
  have lt0 : ∀ x ∈ p0, x.block < W.heap.size := by obtain ⟨m, hm⟩ := k0; exact DataW.trod_lt m _ _ _ hm
  obtain ⟨cs0, rfl, hs0⟩ := okWide_arr Tryz.underlying52 (hval 0 52 v0 rfl rfl)
  obtain ⟨u0, u1, u2, rfl⟩ := array_three (hs0.trans cells52)
  obtain ⟨f0, hf0⟩ := h0
  obtain ⟨y0, y1, y2, n, t0, t1, t2⟩ := trod_arr3 Tryz.underlying52 cells22 hf0
  obtain ⟨ao0, n0, c0, z0, rfl, L0⟩ := open_li t0
  obtain ⟨ao1, n1, c1, z1, rfl, L1⟩ := open_li t1
  obtain ⟨ao2, n2, c2, z2, rfl, L2⟩ := open_li t2
  clear hA0 hval0
  simp only [List.append_nil] at hW'
  have htab := tab_of_laid hL
  refine (divisors_any L0 L1 L2 (fun W' hb => tab_below htab hb)).mono fun e W' ⟨he, bel⟩ => ?_
  subst he
  exact ⟨_, rfl, _, _, _, [], _, [], hW', trodAll_mk1 (shut_bool Tryz.underlying4 _), (trodAll_cons_mk (Below.trod laidOut (by kernel_rfl) (of_decide_eq_true (by kernel_rfl)) k0 bel lt0) trodAll_mk0), rfl, bel.frame _, fun h => by cases h⟩

theorem divisors_over : Rows.NumDivisorsSaid :=
  OpenClaim.holds_of_wide 8 Tryz.f8 rfl rfl rfl rfl rfl rfl rfl ⟨rfl, rfl, rfl, rfl, rfl⟩ rfl rfl rfl rfl rfl (by kernel_rfl) Tryz.func8 (by kernel_rfl)
    (of_decide_eq_true (by kernel_rfl)) (by unfold Func.isWrapper; first | (rw [if_pos (by decide +kernel)]; kernel_rfl) | (rw [if_neg (by decide +kernel)]; exact ⟨rfl, rfl⟩))
    (fun os started H enc _ => divisors_lifted os started H enc)

/-- The statement. -/
theorem numDivisors_holds : Rows.NumDivisorsCardSaid :=
  Claim7.holds_tied_plain_at .later [] [.data, .data, .data, .sentinel, .sentinel] true (true, "958520932160259f8438aa7be4506227f44fa7fbd0be64069e22fe8a588b6fcf") true
    divisors_over (fun _ h => by cases h) (by kernel_rfl) (fun _ h => by cases h) numDivisors_row_tie rfl ⟨rfl, rfl⟩ (by kernel_rfl) rfl
    (fun f fn hf hfn => by
      obtain rfl : f = 8 := Option.some.inj ((show Tryz.prog.funcNamed "equipoise/equipoiselaw01.NumDivisors" = some 8 by kernel_rfl).symm.trans hf) |>.symm
      obtain rfl : fn = Tryz.f8 := (Option.some.inj (Tryz.func8.symm.trans hfn)).symm
      exact ⟨by kernel_rfl, fun j t ht => by
        rw [Tryz.params8] at ht
        have h3 : t = 52 := by
          rcases j with _ | j
          · simpa using ht.symm
          · simp at ht
        subst h3
        exact (show Tryz.prog.wantsStandIn 52 = false by kernel_rfl)⟩)
    (by kernel_rfl)

end Go.Proofs.YtdgmjmckeeeljaaGreatDoor
