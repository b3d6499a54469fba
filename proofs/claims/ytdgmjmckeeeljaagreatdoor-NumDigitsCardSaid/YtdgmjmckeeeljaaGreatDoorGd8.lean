/- The law NumDigits, walked. Condition: the table of powers of ten is laid. -/
import Derived.BigRegion
import Derived.Deep.RegionHeld3
import Derived.Test.YtdgmjmckeeeljaaGreatDoorGd6
import Derived.Test.YtdgmjmckeeeljaaGreatDoorGd7
namespace Go.Proofs.YtdgmjmckeeeljaaGreatDoor
open Go.RowKit

set_option maxRecDepth 10000 in
set_option maxHeartbeats 8000000 in
theorem digits_any {w : World} {s0 s1 : Option Addr} {n0 n1 c0 c1 : Nat} {z0 z1 : List Int} (h0 : Li w (.slice s0 n0 c0) z0) (h1 : Li w (.slice s1 n1 c1) z1) (e : UInt8) (htab : ∀ W, Below w.heap.size w W → Tab W) :
    Calls Tryz.prog 9 #[.agg #[.slice s0 n0 c0, .slice s1 n1 c1], .int .u8 e.toNat] w fun e w' => e = .returned (.bool true) ∧ Below w.heap.size w w' := by
  have he := e.toNat_lt
  obtain ⟨E, hE⟩ : ∃ E : Nat, E = e.toNat := ⟨_, rfl⟩
  rw [← hE] at he ⊢
  have HM0 := Lib.hid (fun W (hb : Below w.heap.size w W) => made_parts (h0.below hb))
  have HM1 := Lib.hid (fun W (hb : Below w.heap.size w W) => made_parts (h1.below hb))
  have HSA : Hid (∀ W, Below w.heap.size w W → Calls Tryz.prog 10 #[] W fun e w' => e = .returned (.bool true) ∧ Below W.heap.size W w') := Lib.hid (fun W hb => sanity_any W (fun W' hb' => htab W' (hb.trans (hb'.mono hb.size))))
  have HTAB := Lib.hid htab
  have HW : Hid (Below w.heap.size w w) := Lib.hid (Below.refl _ _)
  have HZ : Hid (w.heap.size ≤ w.heap.size) := Lib.hid (Nat.le_refl _)
  clear hE h0 h1 htab
  go_enter Tryz.func9, Tryz.ntmps9
  go_upto_region 1 with fail
  obtain ⟨W, hW⟩ : ∃ W, W = w.alloc (.cells #[.slice s0 n0 c0, .slice s1 n1 c1] 23) := ⟨_, rfl⟩
  have hb : Below w.heap.size w W := by rw [hW]; exact alloc_b _ _
  have r0 : W.heap[w.heap.size]? = some (.cells #[.slice s0 n0 c0, .slice s1 n1 c1] 23 (0, 0)) := by rw [hW]; exact heap_alloc_new _ _
  have HBL : Hid (∀ W', Below W.heap.size W W' → W'.cell? ⟨w.heap.size, 0, none⟩ = some (.slice s0 n0 c0) ∧ W'.cell? ⟨w.heap.size, 1, none⟩ = some (.slice s1 n1 c1)) := Lib.hid (fun W' h => by
    have q0 := (h.block _ (Array.getElem?_eq_some_iff.1 r0).1).trans r0
    exact ⟨by rw [cell_of_row _ _ _ _ _ _ q0]; rfl, by rw [cell_of_row _ _ _ _ _ _ q0]; rfl⟩)
  have HWW := step1 HW HZ hb
  have HW := HWW.1
  have HZ := HWW.2
  have HD : Hid (Below W.heap.size W W) := Lib.hid (Below.refl _ _)
  have HE : Hid (W.heap.size ≤ W.heap.size) := Lib.hid (Nat.le_refl _)
  rw [← hW]
  clear hW hb HWW r0
  go_upto_region 2 with (go_at_call 10; refine (HSA.out _ HW.out).mono ?_; rintro e wz ⟨rfl, hb⟩; have HWW := step1 HW HZ hb; have HW := HWW.1; have HZ := HWW.2; have HDD := step1 HD HE hb; have HD := HDD.1; have HE := HDD.2; clear HWW HDD hb)
  obtain ⟨k0, k1⟩ := HBL.out _ HD.out
  obtain ⟨W1, hW1⟩ : ∃ W1, W1 = wz := ⟨_, rfl⟩
  obtain ⟨T, hT⟩ : ∃ T : Array Value, T = #[.agg #[.slice s0 n0 c0, .slice s1 n1 c1], .int .u8 (E : Nat), .pointer (some ⟨w.heap.size, 0, none⟩), undef, .bool false, .bool true, undef, undef, undef, undef, undef, undef, undef, undef, undef, undef, undef, undef, undef, undef, undef, undef, undef, undef, undef, .bool true, undef, undef, undef, undef, undef, undef, undef, undef, undef, undef, undef, undef, undef, undef, undef, undef, undef, undef, undef, undef, undef, undef, undef, undef, undef, undef, undef, undef, undef, undef, undef, undef, undef, undef, undef, undef, undef, undef, undef, undef, undef, undef, undef, undef, undef, undef, undef, undef, undef, undef, undef, undef, undef, undef, undef, undef, undef, undef, undef, undef, undef, undef, undef, undef, undef, undef, undef, undef, undef, undef, undef, undef, undef, undef, undef, undef, undef, undef, undef, undef, undef, undef, undef, undef, undef, undef, undef, undef, undef, undef, undef, undef, undef, undef, undef, undef, undef, undef, undef, undef, undef, undef, undef, undef, undef, undef, undef, undef, undef, undef, undef, undef, undef, undef, undef, undef, undef, undef, undef, undef, undef, undef, undef, undef, undef, undef, undef, undef, undef, undef, undef, undef, undef, undef, undef, undef, undef, undef, undef, undef, undef, undef, undef, undef, undef, undef, undef, undef, undef, undef, undef, undef, undef, undef, undef, undef, undef, undef, undef, undef, undef, undef, undef] := ⟨_, rfl⟩
  rw [← hT]
  refine regionP_inv (by kernel_rfl) (fun l a w' => ∃ vs gs, RM wz T 2 26 6 w.heap.size (fun t => if t = 0 then .slice s0 n0 c0 else .slice s1 n1 c1) vs gs l a w') ?h0 ?step ?fin
  case h0 => exact ⟨fun _ => undef, fun _ => 0, RM.start rfl (show Below wz.heap.size wz wz.drew from ⟨rfl, rfl, rfl, Nat.le_refl _, fun _ _ => rfl⟩)⟩
  case step =>
      rintro l a w' i' ⟨vs, gs, hR⟩ hi'
      obtain ⟨hl0, o, ho, hdep⟩ := mem_ready.1 hi'
      have h15 : i' < 10 := by
        have := (Array.getElem?_eq_some_iff.1 ho).1
        simpa using this
      have hbw : Below w.heap.size w w' := HW.out.trans (hR.bl.mono HZ.out)
      obtain ⟨y0, y1⟩ := HBL.out _ (HD.out.trans (hR.bl.mono HE.out))
      rcases (show i' = 0 ∨ i' = 1 ∨ i' = 2 ∨ i' = 3 ∨ i' = 4 ∨ i' = 5 ∨ i' = 6 ∨ i' = 7 ∨ i' = 8 ∨ i' = 9 by omega) with rfl | rfl | rfl | rfl | rfl | rfl | rfl | rfl | rfl | rfl
      · simp at ho
        subst ho
        simp [Region.binds] at hdep
        have k2 : a.tmps.getD 2 undef = .pointer (some ⟨w.heap.size, 0, none⟩) := (hR.fr.kept rfl (by simp [hT])).trans (by rw [hT]; rfl)
        clear hi' hdep hl0
        unfold wpOp
        simp [Region.wanted]
        refine .inl ?_
        unfold Oper.wp
        simp [execOp, go_sem, Act.eval, k2]
        exact ⟨vs, gs, hR.plain (by omega) (by omega) rfl rfl⟩
      · simp at ho
        subst ho
        simp [Region.binds] at hdep
        have k3 : a.tmps.getD 26 undef = .pointer (some ⟨w.heap.size, 0, none⟩) := hR.fr.done (i := 0) rfl (by simp_all) (by simp [hT])
        clear hi' hdep hl0
        unfold wpOp
        simp [Region.wanted]
        refine .inl ?_
        unfold Oper.wp
        simp [execOp, go_sem, Act.eval, k3, y0]
        exact ⟨vs, gs, hR.plain (by omega) (by omega) rfl rfl⟩
      · simp at ho
        subst ho
        simp [Region.binds] at hdep
        have k4 : a.tmps.getD 27 undef = .slice s0 n0 c0 := hR.fr.done (i := 1) rfl (by simp_all) (by simp [hT])
        clear hi' hdep
        unfold wpOp
        simp [Region.wanted]
        refine .inl ?_
        unfold Oper.wp
        simp [execOp, go_sem, Act.eval, k4]
        refine (HM0.out w' hbw).mono ?_
        rintro e w'' ⟨neg, ao, n, cap, z, rfl, hn, hA, hb⟩
        exact ⟨_, gs, hR.call (t := 0) (by omega) hl0 rfl (.inr (by omega)) ⟨neg, ao, n, cap, z, rfl, hn, hA⟩ hb⟩
      · simp at ho
        subst ho
        simp [Region.binds] at hdep
        have k2 : a.tmps.getD 2 undef = .pointer (some ⟨w.heap.size, 0, none⟩) := (hR.fr.kept rfl (by simp [hT])).trans (by rw [hT]; rfl)
        clear hi' hdep hl0
        unfold wpOp
        simp [Region.wanted]
        refine .inl ?_
        unfold Oper.wp
        simp [execOp, go_sem, Act.eval, k2]
        exact ⟨vs, gs, hR.plain (by omega) (by omega) rfl rfl⟩
      · simp at ho
        subst ho
        simp [Region.binds] at hdep
        have k3 : a.tmps.getD 29 undef = .pointer (some ⟨w.heap.size, 1, none⟩) := hR.fr.done (i := 3) rfl (by simp_all) (by simp [hT])
        clear hi' hdep hl0
        unfold wpOp
        simp [Region.wanted]
        refine .inl ?_
        unfold Oper.wp
        simp [execOp, go_sem, Act.eval, k3, y1]
        exact ⟨vs, gs, hR.plain (by omega) (by omega) rfl rfl⟩
      · simp at ho
        subst ho
        simp [Region.binds] at hdep
        have k4 : a.tmps.getD 30 undef = .slice s1 n1 c1 := hR.fr.done (i := 4) rfl (by simp_all) (by simp [hT])
        clear hi' hdep
        unfold wpOp
        simp [Region.wanted]
        refine .inl ?_
        unfold Oper.wp
        simp [execOp, go_sem, Act.eval, k4]
        refine (HM1.out w' hbw).mono ?_
        rintro e w'' ⟨neg, ao, n, cap, z, rfl, hn, hA, hb⟩
        exact ⟨_, gs, hR.call (t := 1) (by omega) hl0 rfl (.inr (by omega)) ⟨neg, ao, n, cap, z, rfl, hn, hA⟩ hb⟩
      · simp at ho
        subst ho
        simp [Region.binds] at hdep
        clear hi' hdep
        unfold wpOp
        simp [Region.wanted]
        refine .inl ?_
        unfold Oper.wp
        simp [execOp, go_sem, Act.eval]
        exact ⟨vs, _, hR.alloc (t := 0) (by omega) hl0 rfl (.inr (by omega))⟩
      · simp at ho
        subst ho
        simp [Region.binds] at hdep
        clear hi' hdep
        unfold wpOp
        simp [Region.wanted]
        refine .inl ?_
        unfold Oper.wp
        simp [execOp, go_sem, Act.eval]
        exact ⟨vs, _, hR.alloc (t := 1) (by omega) hl0 rfl (.inr (by omega))⟩
      · simp at ho
        subst ho
        simp [Region.binds] at hdep
        have j1 : l.getD 6 true = true := getD_true (by simp_all)
        have j2 : l.getD 2 true = true := getD_true (by simp_all)
        have k5 : a.tmps.getD 6 undef = .pointer (some ⟨gs 0, 0, none⟩) := hR.fr.done (i := 6) rfl (by simp_all) (by simp [hT])
        have k6 : a.tmps.getD 28 undef = vs 0 := hR.fr.done (i := 2) rfl (by simp_all) (by simp [hT])
        obtain ⟨neg, ao, n, cap, z, ev, _⟩ := hR.val 0 (by omega) j2
        rw [ev] at k6
        obtain ⟨x0, x1, x2, x3, x4⟩ := hR.ready (t := 0) (by omega) hl0 j1
        clear hi' hdep
        unfold wpOp
        simp [Region.wanted]
        refine .inl ?_
        unfold Oper.wp
        simp [execOp, go_sem, Act.eval, k5, k6, x0, x1, x2, x3, x4]
        exact ⟨vs, gs, hR.store (t := 0) (by omega) hl0 j1 j2 ev undef⟩
      · simp at ho
        subst ho
        simp [Region.binds] at hdep
        have j1 : l.getD 7 true = true := getD_true (by simp_all)
        have j2 : l.getD 5 true = true := getD_true (by simp_all)
        have k5 : a.tmps.getD 7 undef = .pointer (some ⟨gs 1, 0, none⟩) := hR.fr.done (i := 7) rfl (by simp_all) (by simp [hT])
        have k6 : a.tmps.getD 31 undef = vs 1 := hR.fr.done (i := 5) rfl (by simp_all) (by simp [hT])
        obtain ⟨neg, ao, n, cap, z, ev, _⟩ := hR.val 1 (by omega) j2
        rw [ev] at k6
        obtain ⟨x0, x1, x2, x3, x4⟩ := hR.ready (t := 1) (by omega) hl0 j1
        clear hi' hdep
        unfold wpOp
        simp [Region.wanted]
        refine .inl ?_
        unfold Oper.wp
        simp [execOp, go_sem, Act.eval, k5, k6, x0, x1, x2, x3, x4]
        exact ⟨vs, gs, hR.store (t := 1) (by omega) hl0 j1 j2 ev undef⟩
  case' fin =>
      rintro l a W ⟨vs, gs, hR⟩ hz
      have hnot := List.eq_nil_iff_forall_not_mem.1 hz
      have hk : ∀ k, k < 10 → (l.getD k true = false → False) → l.getD k false = true := fun k h12 h => by
        have hs := hR.size
        cases h' : l.getD k true with
        | false => exact (h h').elim
        | true => simp [Array.getD, hs, h12] at h' ⊢; exact h'
      have st0 := hk 0 (by omega) (fun h => hnot 0 (mem_ready.2 ⟨h, _, rfl, by simp [Region.binds]⟩))
      have st1 := hk 1 (by omega) (fun h => hnot 1 (mem_ready.2 ⟨h, _, rfl, by simp [Region.binds]; simp_all⟩))
      have st2 := hk 2 (by omega) (fun h => hnot 2 (mem_ready.2 ⟨h, _, rfl, by simp [Region.binds]; simp_all⟩))
      have st3 := hk 3 (by omega) (fun h => hnot 3 (mem_ready.2 ⟨h, _, rfl, by simp [Region.binds]⟩))
      have st4 := hk 4 (by omega) (fun h => hnot 4 (mem_ready.2 ⟨h, _, rfl, by simp [Region.binds]; simp_all⟩))
      have st5 := hk 5 (by omega) (fun h => hnot 5 (mem_ready.2 ⟨h, _, rfl, by simp [Region.binds]; simp_all⟩))
      have st6 := hk 6 (by omega) (fun h => hnot 6 (mem_ready.2 ⟨h, _, rfl, by simp [Region.binds]⟩))
      have st7 := hk 7 (by omega) (fun h => hnot 7 (mem_ready.2 ⟨h, _, rfl, by simp [Region.binds]⟩))
      have st8 := hk 8 (by omega) (fun h => hnot 8 (mem_ready.2 ⟨h, _, rfl, by simp [Region.binds]; simp_all⟩))
      have st9 := hk 9 (by omega) (fun h => hnot 9 (mem_ready.2 ⟨h, _, rfl, by simp [Region.binds]; simp_all⟩))
      have hall : ∀ i, i < 10 → l.getD i true = true := fun i hi => by
        rcases (show i = 0 ∨ i = 1 ∨ i = 2 ∨ i = 3 ∨ i = 4 ∨ i = 5 ∨ i = 6 ∨ i = 7 ∨ i = 8 ∨ i = 9 by omega) with rfl | rfl | rfl | rfl | rfl | rfl | rfl | rfl | rfl | rfl
        · exact getD_true st0
        · exact getD_true st1
        · exact getD_true st2
        · exact getD_true st3
        · exact getD_true st4
        · exact getD_true st5
        · exact getD_true st6
        · exact getD_true st7
        · exact getD_true st8
        · exact getD_true st9
      clear st0 st1 st2 st3 st4 st5 st6 st7 st8 st9 hk hnot hz
      obtain ⟨n6, a6, l6, c6, A, ev0, B6, HA⟩ := hR.bx (t := 0) (by omega) (hall 8 (by omega))
      obtain ⟨n7, a7, l7, c7, B, ev1, B7, HB⟩ := hR.bx (t := 1) (by omega) (hall 9 (by omega))
      have hTs : T.size = 189 := by rw [hT]; rfl
      have ha : a = ⟨((((((((T.setIfInBounds 26 (.pointer (some ⟨w.heap.size, 0, none⟩))).setIfInBounds 27 (.slice s0 n0 c0)).setIfInBounds 28 (vs 0)).setIfInBounds 29 (.pointer (some ⟨w.heap.size, 1, none⟩))).setIfInBounds 30 (.slice s1 n1 c1)).setIfInBounds 31 (vs 1)).setIfInBounds 6 (.pointer (some ⟨gs 0, 0, none⟩))).setIfInBounds 7 (.pointer (some ⟨gs 1, 0, none⟩))), []⟩ := by
        refine hR.fr.all (fun j i v h => hall i (by have := mOwn_lt h; simp only [] at this; omega)) (by simp) (fun j hj => ?_)
        by_cases h1 : 26 ≤ j ∧ j < 32
        · rcases (show j = 26 ∨ j = 27 ∨ j = 28 ∨ j = 29 ∨ j = 30 ∨ j = 31 by omega) with rfl | rfl | rfl | rfl | rfl | rfl <;> simp [sets_getD, mOwn, hTs]
        · by_cases h2 : 6 ≤ j ∧ j < 8
          · rcases (show j = 6 ∨ j = 7 by omega) with rfl | rfl <;> simp [sets_getD, mOwn, hTs]
          · have e : mOwn 2 26 6 w.heap.size (fun t => if t = 0 then .slice s0 n0 c0 else .slice s1 n1 c1) vs gs j = none := by
              unfold mOwn
              rw [if_neg (by omega), if_neg (by omega)]
            rw [e]
            simp only [sets_getD]
            repeat rw [if_neg (by omega)]
      have hbl := hR.bl
      clear hR hall
      rw [ev0, ev1] at ha
      obtain ⟨g6, hg6⟩ : ∃ g6, g6 = gs 0 := ⟨_, rfl⟩
      obtain ⟨g7, hg7⟩ : ∃ g7, g7 = gs 1 := ⟨_, rfl⟩
      rw [← hg6] at ha B6
      rw [← hg7] at ha B7
      have ha2 : a = ⟨#[.agg #[.slice s0 n0 c0, .slice s1 n1 c1], .int .u8 (E : Nat), .pointer (some ⟨w.heap.size, 0, none⟩), undef, .bool false, .bool true, .pointer (some ⟨g6, 0, none⟩), .pointer (some ⟨g7, 0, none⟩), undef, undef, undef, undef, undef, undef, undef, undef, undef, undef, undef, undef, undef, undef, undef, undef, undef, .bool true, .pointer (some ⟨w.heap.size, 0, none⟩), .slice s0 n0 c0, .agg #[.bool n6, .slice a6 l6 c6], .pointer (some ⟨w.heap.size, 1, none⟩), .slice s1 n1 c1, .agg #[.bool n7, .slice a7 l7 c7], undef, undef, undef, undef, undef, undef, undef, undef, undef, undef, undef, undef, undef, undef, undef, undef, undef, undef, undef, undef, undef, undef, undef, undef, undef, undef, undef, undef, undef, undef, undef, undef, undef, undef, undef, undef, undef, undef, undef, undef, undef, undef, undef, undef, undef, undef, undef, undef, undef, undef, undef, undef, undef, undef, undef, undef, undef, undef, undef, undef, undef, undef, undef, undef, undef, undef, undef, undef, undef, undef, undef, undef, undef, undef, undef, undef, undef, undef, undef, undef, undef, undef, undef, undef, undef, undef, undef, undef, undef, undef, undef, undef, undef, undef, undef, undef, undef, undef, undef, undef, undef, undef, undef, undef, undef, undef, undef, undef, undef, undef, undef, undef, undef, undef, undef, undef, undef, undef, undef, undef, undef, undef, undef, undef, undef, undef, undef, undef, undef, undef, undef, undef, undef, undef, undef, undef, undef, undef, undef, undef, undef, undef, undef, undef, undef, undef, undef, undef, undef, undef, undef, undef, undef, undef, undef, undef, undef], []⟩ := by
        rw [ha, hT]
        simp only [List.setIfInBounds_toArray, List.set_cons_succ, List.set_cons_zero]
      subst ha2
      have B6 := Lib.hid B6
      have B7 := Lib.hid B7
      have HA := Lib.hid HA
      have HB := Lib.hid HB
      have HWW := step1 HW HZ hbl
      have HDD := step1 HD HE hbl
      have HW := HWW.1
      have HZ := HWW.2
      have HD := HDD.1
      have HE := HDD.2
      clear HWW HDD hbl ha hT hTs ev0 ev1 hg6 hg7 vs gs k0 k1 hW1
  obtain ⟨D, hD⟩ : ∃ D : Nat, D = E % 10 := ⟨_, rfl⟩
  have hD10 : D < 10 := by omega
  obtain ⟨U, hU⟩ : ∃ U : Nat, U = A.natAbs := ⟨_, rfl⟩
  have dU : U < 4294967296 ^ 6 := by rw [hU]; exact HA.out
  obtain ⟨TN, hTN⟩ : ∃ TN : Int, TN = (U : Int) * 10 := ⟨_, rfl⟩
  obtain ⟨NX, hNX⟩ : ∃ NX : Int, NX = TN + (D : Int) := ⟨_, rfl⟩
  obtain ⟨M, hM⟩ : ∃ M, M = A * B := ⟨_, rfl⟩
  have dM := lt_mul HA.out HB.out
  rw [← hM] at dM
  have ET : Hid ((U : Int) * 10 = TN) := Lib.hid hTN.symm
  have EN : Hid (TN + (D : Int) = NX) := Lib.hid hNX.symm
  have EM : Hid (A * B = M) := Lib.hid hM.symm
  have e7 : (4294967296 : Nat) ^ 7 = 4294967296 * 4294967296 ^ 6 := by rw [Nat.pow_succ, Nat.mul_comm]
  have FT : Hid (fitsB TN.natAbs = true) := Lib.hid (fits_pow 7 (by rw [e7]; omega) (by omega))
  have FN : Hid (fitsB NX.natAbs = true) := Lib.hid (fits_pow 7 (by rw [e7]; omega) (by omega))
  have FM : Hid (fitsB M.natAbs = true) := Lib.hid (fits_pow 12 dM (by omega))
  have FA : Hid (fitsB A.natAbs = true) := Lib.hid (fits_pow 6 HA.out (by omega))
  have t0 : (E : Int).tmod 10 = (D : Nat) := by rw [Int.tmod_eq_emod_of_nonneg (by omega)]; omega
  have w0 : IntKind.i64.wrap (E : Int) = (E : Int) := by rw [IntKind.wrap_i64]; omega
  have w2 : IntKind.i64.wrap (D : Int) = (D : Int) := by rw [IntKind.wrap_i64]; omega
  clear e7 dM HSA HM0 HM1 HBL
  have HU := Lib.hid dU
  have dUd := Lib.hid dU
  have HHU := Lib.hid hU
  have HHN := Lib.hid hNX
  have HHT := Lib.hid hTN
  have HHM := Lib.hid hM
  clear dU hU hNX hTN hM hD
  go_upto_region 4 with fail
  clear t0 w0
  have q6 := B6.out.c1
  go_upto_region 5 with fail
  obtain ⟨W9, hW⟩ : ∃ X, X = W.alloc (.cells #[.bool false, .slice a6 l6 c6] 27) := ⟨_, rfl⟩
  obtain ⟨g9, hg⟩ : ∃ g, g = W.heap.size := ⟨_, rfl⟩
  have hb : Below W.heap.size W W9 := by rw [hW]; exact alloc_b _ _
  have B9 : Hid (Bx W9 g9 false a6 l6 c6 (U : Int)) := Lib.hid (by rw [hW, hg]; exact bx_new (nu_abs B6.out.nu HHU.out))
  rw [← hW]
  rw [← hg]
  clear hW hg
  have B6 := Lib.hid (B6.out.below hb)
  have B7 := Lib.hid (B7.out.below hb)
  have HWW := step1 HW HZ hb
  have HW := HWW.1
  have HZ := HWW.2
  have HDD := step1 HD HE hb
  have HD := HDD.1
  have HE := HDD.2
  clear HWW HDD
  clear hb
  clear q6
  obtain ⟨T, hT⟩ : ∃ T : Array Value, T = #[.agg #[.slice s0 n0 c0, .slice s1 n1 c1], .int .u8 (E : Nat), .pointer (some ⟨w.heap.size, 0, none⟩), undef, .bool false, .bool true, .pointer (some ⟨g6, 0, none⟩), .pointer (some ⟨g7, 0, none⟩), .int .i64 (D : Nat), .pointer (some ⟨g9, 0, none⟩), undef, undef, undef, undef, undef, undef, undef, undef, undef, undef, undef, undef, undef, undef, undef, .bool true, .pointer (some ⟨w.heap.size, 0, none⟩), .slice s0 n0 c0, .agg #[.bool n6, .slice a6 l6 c6], .pointer (some ⟨w.heap.size, 1, none⟩), .slice s1 n1 c1, .agg #[.bool n7, .slice a7 l7 c7], .int .u8 (E : Nat), .int .i64 (E : Nat), .int .i64 (D : Nat), .pointer (some ⟨g6, 1, none⟩), .slice a6 l6 c6, .agg #[.bool false, .slice a6 l6 c6], undef, undef, undef, undef, undef, undef, undef, undef, undef, undef, undef, undef, undef, undef, undef, undef, undef, undef, undef, undef, undef, undef, undef, undef, undef, undef, undef, undef, undef, undef, undef, undef, undef, undef, undef, undef, undef, undef, undef, undef, undef, undef, undef, undef, undef, undef, undef, undef, undef, undef, undef, undef, undef, undef, undef, undef, undef, undef, undef, undef, undef, undef, undef, undef, undef, undef, undef, undef, undef, undef, undef, undef, undef, undef, undef, undef, undef, undef, undef, undef, undef, undef, undef, undef, undef, undef, undef, undef, undef, undef, undef, undef, undef, undef, undef, undef, undef, undef, undef, undef, undef, undef, undef, undef, undef, undef, undef, undef, undef, undef, undef, undef, undef, undef, undef, undef, undef, undef, undef, undef, undef, undef, undef, undef, undef, undef, undef, undef, undef, undef, undef, undef, undef, undef, undef, undef, undef, undef, undef, undef, undef, undef, undef, undef, undef, undef, undef, undef, undef, undef, undef] := ⟨_, rfl⟩
  rw [← hT]
  refine regionP_inv (by kernel_rfl) (fun l a w' => ∃ vals, RG W9 T [some 39, some 40, some 41, some 38, some 42, some 43, some 10, none, some 11] [.val (.agg #[.bool false, .slice a6 l6 c6]), .nu 10, .pair TN, .pair TN, .nu TN, .val (.bool true), .any, .any, .val (.bool true)] (some (6, 7, TN)) vals l a w') ?h01 ?step1 ?fin1
  case h01 => exact ⟨fun _ => undef, RG.start rfl (show Below W9.heap.size W9 W9.drew from ⟨rfl, rfl, rfl, Nat.le_refl _, fun _ _ => rfl⟩) (fun _ _ _ e => by cases e; exact ⟨by decide, by decide⟩)⟩
  case step1 =>
      rintro l a w' i' ⟨vals, hR⟩ hi'
      obtain ⟨hl0, o, ho, hdep⟩ := mem_ready.1 hi'
      have h15 : i' < 9 := by
        have := (Array.getElem?_eq_some_iff.1 ho).1
        simpa using this
      have hbl := hR.bl
      have Y9 := B9.out.below hbl
      have y0 := Y9.c0
      have y1 := Y9.c1
      rcases (show i' = 0 ∨ i' = 1 ∨ i' = 2 ∨ i' = 3 ∨ i' = 4 ∨ i' = 5 ∨ i' = 6 ∨ i' = 7 ∨ i' = 8 by omega) with rfl | rfl | rfl | rfl | rfl | rfl | rfl | rfl | rfl
      · simp at ho
        subst ho
        simp [Region.binds] at hdep
        have k : a.tmps.getD 9 undef = .pointer (some ⟨g9, 0, none⟩) := (hR.fr.kept rfl (by simp [hT])).trans (by rw [hT]; rfl)
        clear hi' hdep
        unfold wpOp
        simp [Region.wanted]
        refine .inl ?_
        unfold Oper.wp
        simp [execOp, go_sem, Act.eval, k, y0, y1]
        exact ⟨_, hR.op 0 39 rfl (by decide) hl0 (Below.refl _ _) rfl (fun _ _ _ e => by cases e; exact ⟨by decide, by decide⟩)⟩
      · simp at ho
        subst ho
        simp [Region.binds] at hdep
        clear hi' hdep
        unfold wpOp
        simp [Region.wanted]
        refine .inl ?_
        unfold Oper.wp
        simp [execOp, go_sem, Act.eval]
        refine (of_X 10 w' (by decide) (by decide)).mono ?_
        rintro e w'' ⟨x, rfl, hn, hb⟩
        obtain ⟨neg, ao, n, cap, rfl, hn⟩ := nu_parts hn
        exact ⟨_, hR.op 1 40 rfl (by decide) hl0 hb ⟨_, _, _, _, rfl, hn⟩ (fun _ _ _ e => by cases e; exact ⟨by decide, by decide⟩)⟩
      · simp at ho
        subst ho
        simp [Region.binds] at hdep
        have k : a.tmps.getD 39 undef = vals 0 := hR.fr.done (i := 0) rfl (by simp_all) (by simp [hT])
        have m : a.tmps.getD 40 undef = vals 1 := hR.fr.done (i := 1) rfl (by simp_all) (by simp [hT])
        have e0 : vals 0 = .agg #[.bool false, .slice a6 l6 c6] := hR.val 0 (by decide) (getD_true (by simp_all))
        obtain ⟨neg, ao, n, cap, e1, hn⟩ := hR.val 1 (by decide) (getD_true (by simp_all))
        rw [e0] at k
        rw [e1] at m
        clear hi' hdep
        unfold wpOp
        simp [Region.wanted]
        refine .inl ?_
        unfold Oper.wp
        simp [execOp, go_sem, Act.eval, k, m]
        refine (mul_fit TN Y9.nu hn ET.out FT.out).mono ?_
        rintro e w'' ⟨neg', ao', n', cap', rfl, hn', hb⟩
        exact ⟨_, hR.op 2 41 rfl (by decide) hl0 hb ⟨_, _, _, _, rfl, hn'⟩ (fun _ _ _ e => by cases e; exact ⟨by decide, by decide⟩)⟩
      · simp at ho
        subst ho
        simp [Region.binds] at hdep
        have k : a.tmps.getD 41 undef = vals 2 := hR.fr.done (i := 2) rfl (by simp_all) (by simp [hT])
        obtain ⟨neg, ao, n, cap, e1, hn⟩ := hR.val 2 (by decide) (getD_true (by simp_all))
        rw [e1] at k
        clear hi' hdep
        unfold wpOp
        simp [Region.wanted]
        refine .inl ?_
        unfold Oper.wp
        simp [execOp, go_sem, Act.eval, k]
        exact ⟨_, hR.op 3 38 rfl (by decide) hl0 (Below.refl _ _) ⟨_, _, _, _, rfl, hn⟩ (fun _ _ _ e => by cases e; exact ⟨by decide, by decide⟩)⟩
      · simp at ho
        subst ho
        simp [Region.binds] at hdep
        have k : a.tmps.getD 38 undef = vals 3 := hR.fr.done (i := 3) rfl (by simp_all) (by simp [hT])
        obtain ⟨neg, ao, n, cap, e1, hn⟩ := hR.val 3 (by decide) (getD_true (by simp_all))
        rw [e1] at k
        clear hi' hdep
        unfold wpOp
        simp [Region.wanted]
        refine .inl ?_
        unfold Oper.wp
        simp [execOp, go_sem, Act.eval, k]
        exact ⟨_, hR.op 4 42 rfl (by decide) hl0 (Below.refl _ _) ⟨_, _, _, _, rfl, hn⟩ (fun _ _ _ e => by cases e; exact ⟨by decide, by decide⟩)⟩
      · simp at ho
        subst ho
        simp [Region.binds] at hdep
        have k : a.tmps.getD 38 undef = vals 3 := hR.fr.done (i := 3) rfl (by simp_all) (by simp [hT])
        obtain ⟨neg, ao, n, cap, e1, hn⟩ := hR.val 3 (by decide) (getD_true (by simp_all))
        rw [e1] at k
        clear hi' hdep
        unfold wpOp
        simp [Region.wanted]
        refine .inl ?_
        unfold Oper.wp
        simp [execOp, go_sem, Act.eval, k]
        exact ⟨_, hR.op 5 43 rfl (by decide) hl0 (Below.refl _ _) rfl (fun _ _ _ e => by cases e; exact ⟨by decide, by decide⟩)⟩
      · simp at ho
        subst ho
        simp [Region.binds] at hdep
        clear hi' hdep
        unfold wpOp
        simp [Region.wanted]
        refine .inl ?_
        unfold Oper.wp
        simp [execOp, go_sem, Act.eval]
        exact ⟨_, hR.alloc (d := 10) rfl (by decide) hl0 rfl (by decide)⟩
      · simp at ho
        subst ho
        simp [Region.binds] at hdep
        have k5 : a.tmps.getD 10 undef = vals 6 := hR.fr.done (i := 6) rfl (by simp_all) (by simp [hT])
        have k6 : a.tmps.getD 42 undef = vals 4 := hR.fr.done (i := 4) rfl (by simp_all) (by simp [hT])
        obtain ⟨neg, ao, n, cap, ev, hn⟩ := hR.val 4 (by decide) (getD_true (by simp_all))
        rw [ev] at k6
        have j1 : l.getD 6 true = true := getD_true (by simp_all)
        obtain ⟨g, hg, x0, x1, x2, x3, x4⟩ := hR.ready hl0 j1
        rw [hg] at k5
        clear hi' hdep
        unfold wpOp
        simp [Region.wanted]
        refine .inl ?_
        unfold Oper.wp
        simp [execOp, go_sem, Act.eval, k5, k6, x0, x1, x2, x3, x4]
        exact ⟨_, hR.store rfl hl0 j1 rfl hg hn undef⟩
      · simp at ho
        subst ho
        simp [Region.binds] at hdep
        have k : a.tmps.getD 43 undef = vals 5 := hR.fr.done (i := 5) rfl (by simp_all) (by simp [hT])
        have e1 : vals 5 = .bool true := hR.val 5 (by decide) (getD_true (by simp_all))
        rw [e1] at k
        clear hi' hdep
        unfold wpOp
        simp [Region.wanted]
        refine .inl ?_
        unfold Oper.wp
        simp [execOp, go_sem, Act.eval, k]
        exact ⟨_, hR.op 8 11 rfl (by decide) hl0 (Below.refl _ _) rfl (fun _ _ _ e => by cases e; exact ⟨by decide, by decide⟩)⟩
  case' fin1 =>
      rintro l a W5 ⟨vals, hR⟩ hz
      have hnot := List.eq_nil_iff_forall_not_mem.1 hz
      have hk : ∀ k, k < 9 → (l.getD k true = false → False) → l.getD k false = true := fun k h12 h => by
        have hs := hR.size
        cases h' : l.getD k true with
        | false => exact (h h').elim
        | true => simp at hs; simp [Array.getD, hs, h12] at h' ⊢; exact h'
      have st0 := hk 0 (by omega) (fun h => hnot 0 (mem_ready.2 ⟨h, _, rfl, by simp [Region.binds] <;> simp_all⟩))
      have st1 := hk 1 (by omega) (fun h => hnot 1 (mem_ready.2 ⟨h, _, rfl, by simp [Region.binds] <;> simp_all⟩))
      have st2 := hk 2 (by omega) (fun h => hnot 2 (mem_ready.2 ⟨h, _, rfl, by simp [Region.binds] <;> simp_all⟩))
      have st3 := hk 3 (by omega) (fun h => hnot 3 (mem_ready.2 ⟨h, _, rfl, by simp [Region.binds] <;> simp_all⟩))
      have st4 := hk 4 (by omega) (fun h => hnot 4 (mem_ready.2 ⟨h, _, rfl, by simp [Region.binds] <;> simp_all⟩))
      have st5 := hk 5 (by omega) (fun h => hnot 5 (mem_ready.2 ⟨h, _, rfl, by simp [Region.binds] <;> simp_all⟩))
      have st6 := hk 6 (by omega) (fun h => hnot 6 (mem_ready.2 ⟨h, _, rfl, by simp [Region.binds]⟩))
      have st7 := hk 7 (by omega) (fun h => hnot 7 (mem_ready.2 ⟨h, _, rfl, by simp [Region.binds] <;> simp_all⟩))
      have st8 := hk 8 (by omega) (fun h => hnot 8 (mem_ready.2 ⟨h, _, rfl, by simp [Region.binds] <;> simp_all⟩))
      have hall : ∀ i, i < 9 → l.getD i true = true := fun i hi => by
        rcases (show i = 0 ∨ i = 1 ∨ i = 2 ∨ i = 3 ∨ i = 4 ∨ i = 5 ∨ i = 6 ∨ i = 7 ∨ i = 8 by omega) with rfl | rfl | rfl | rfl | rfl | rfl | rfl | rfl | rfl
        · exact getD_true st0
        · exact getD_true st1
        · exact getD_true st2
        · exact getD_true st3
        · exact getD_true st4
        · exact getD_true st5
        · exact getD_true st6
        · exact getD_true st7
        · exact getD_true st8
      clear st0 st1 st2 st3 st4 st5 st6 st7 st8 hk hnot hz
      obtain ⟨g10, n10, a10, l10, c10, evg, B10⟩ := hR.boxed (hall 6 (by decide)) (hall 7 (by decide))
      have ev0 : vals 0 = .agg #[.bool false, .slice a6 l6 c6] := hR.val 0 (by decide) (hall 0 (by decide))
      have ev5 : vals 5 = .bool true := hR.val 5 (by decide) (hall 5 (by decide))
      have ev8 : vals 8 = .bool true := hR.val 8 (by decide) (hall 8 (by decide))
      have hTs : T.size = 189 := by rw [hT]; rfl
      have ha : a = ⟨((((((((T.setIfInBounds 39 (vals 0)).setIfInBounds 40 (vals 1)).setIfInBounds 41 (vals 2)).setIfInBounds 38 (vals 3)).setIfInBounds 42 (vals 4)).setIfInBounds 43 (vals 5)).setIfInBounds 10 (vals 6)).setIfInBounds 11 (vals 8)), []⟩ := by
        refine hR.all (fun i hi => hall i (by simpa using hi)) (by simp) (fun j hj => ?_)
        by_cases h1 : j = 39 ∨ j = 40 ∨ j = 41 ∨ j = 38 ∨ j = 42 ∨ j = 43 ∨ j = 10 ∨ j = 11
        · rcases h1 with rfl | rfl | rfl | rfl | rfl | rfl | rfl | rfl <;> simp [sets_getD, tOwn, List.findIdx?, List.findIdx?.go, hTs]
        · simp only [not_or] at h1
          obtain ⟨m39, m40, m41, m38, m42, m43, m10, m11⟩ := h1
          have e : tOwn [some 39, some 40, some 41, some 38, some 42, some 43, some 10, none, some 11] vals j = none := by
            unfold tOwn
            simp [List.findIdx?, List.findIdx?.go, Ne.symm m39, Ne.symm m40, Ne.symm m41, Ne.symm m38, Ne.symm m42, Ne.symm m43, Ne.symm m10, Ne.symm m11]
          rw [e]
          simp only [sets_getD]
          repeat rw [if_neg (by omega)]
      have hbl := hR.bl
      clear hR hall
      rw [ev0] at ha
      obtain ⟨x40, hx40⟩ : ∃ x, x = vals 1 := ⟨_, rfl⟩
      rw [← hx40] at ha
      obtain ⟨x41, hx41⟩ : ∃ x, x = vals 2 := ⟨_, rfl⟩
      rw [← hx41] at ha
      obtain ⟨x38, hx38⟩ : ∃ x, x = vals 3 := ⟨_, rfl⟩
      rw [← hx38] at ha
      obtain ⟨x42, hx42⟩ : ∃ x, x = vals 4 := ⟨_, rfl⟩
      rw [← hx42] at ha
      rw [ev5] at ha
      rw [evg] at ha
      rw [ev8] at ha
      have ha2 : a = ⟨#[.agg #[.slice s0 n0 c0, .slice s1 n1 c1], .int .u8 (E : Nat), .pointer (some ⟨w.heap.size, 0, none⟩), undef, .bool false, .bool true, .pointer (some ⟨g6, 0, none⟩), .pointer (some ⟨g7, 0, none⟩), .int .i64 (D : Nat), .pointer (some ⟨g9, 0, none⟩), .pointer (some ⟨g10, 0, none⟩), .bool true, undef, undef, undef, undef, undef, undef, undef, undef, undef, undef, undef, undef, undef, .bool true, .pointer (some ⟨w.heap.size, 0, none⟩), .slice s0 n0 c0, .agg #[.bool n6, .slice a6 l6 c6], .pointer (some ⟨w.heap.size, 1, none⟩), .slice s1 n1 c1, .agg #[.bool n7, .slice a7 l7 c7], .int .u8 (E : Nat), .int .i64 (E : Nat), .int .i64 (D : Nat), .pointer (some ⟨g6, 1, none⟩), .slice a6 l6 c6, .agg #[.bool false, .slice a6 l6 c6], x38, .agg #[.bool false, .slice a6 l6 c6], x40, x41, x42, .bool true, undef, undef, undef, undef, undef, undef, undef, undef, undef, undef, undef, undef, undef, undef, undef, undef, undef, undef, undef, undef, undef, undef, undef, undef, undef, undef, undef, undef, undef, undef, undef, undef, undef, undef, undef, undef, undef, undef, undef, undef, undef, undef, undef, undef, undef, undef, undef, undef, undef, undef, undef, undef, undef, undef, undef, undef, undef, undef, undef, undef, undef, undef, undef, undef, undef, undef, undef, undef, undef, undef, undef, undef, undef, undef, undef, undef, undef, undef, undef, undef, undef, undef, undef, undef, undef, undef, undef, undef, undef, undef, undef, undef, undef, undef, undef, undef, undef, undef, undef, undef, undef, undef, undef, undef, undef, undef, undef, undef, undef, undef, undef, undef, undef, undef, undef, undef, undef, undef, undef, undef, undef, undef, undef, undef, undef, undef, undef, undef, undef, undef, undef, undef, undef, undef, undef, undef, undef, undef, undef, undef, undef, undef, undef, undef, undef], []⟩ := by
        rw [ha, hT]
        simp only [List.setIfInBounds_toArray, List.set_cons_succ, List.set_cons_zero]
      subst ha2
      have B10 := Lib.hid B10
      have B6 := Lib.hid (B6.out.below hbl)
      have B7 := Lib.hid (B7.out.below hbl)
      have B9 := Lib.hid (B9.out.below hbl)
      have HWW := step1 HW HZ hbl
      have HDD := step1 HD HE hbl
      have HW := HWW.1
      have HZ := HWW.2
      have HD := HDD.1
      have HE := HDD.2
      clear HWW HDD hbl ha hT hTs ev0 ev5 ev8 hx40 hx41 hx38 hx42 vals evg
  go_upto_region 6 with fail
  obtain ⟨T, hT⟩ : ∃ T : Array Value, T = #[.agg #[.slice s0 n0 c0, .slice s1 n1 c1], .int .u8 (E : Nat), .pointer (some ⟨w.heap.size, 0, none⟩), undef, .bool false, .bool true, .pointer (some ⟨g6, 0, none⟩), .pointer (some ⟨g7, 0, none⟩), .int .i64 (D : Nat), .pointer (some ⟨g9, 0, none⟩), .pointer (some ⟨g10, 0, none⟩), .bool true, undef, undef, undef, undef, undef, undef, undef, undef, undef, undef, undef, undef, undef, .bool true, .pointer (some ⟨w.heap.size, 0, none⟩), .slice s0 n0 c0, .agg #[.bool n6, .slice a6 l6 c6], .pointer (some ⟨w.heap.size, 1, none⟩), .slice s1 n1 c1, .agg #[.bool n7, .slice a7 l7 c7], .int .u8 (E : Nat), .int .i64 (E : Nat), .int .i64 (D : Nat), .pointer (some ⟨g6, 1, none⟩), .slice a6 l6 c6, .agg #[.bool false, .slice a6 l6 c6], x38, .agg #[.bool false, .slice a6 l6 c6], x40, x41, x42, .bool true, undef, undef, undef, undef, undef, undef, undef, undef, undef, undef, undef, undef, undef, undef, undef, undef, undef, undef, undef, undef, undef, undef, undef, undef, undef, undef, undef, undef, undef, undef, undef, undef, undef, undef, undef, undef, undef, undef, undef, undef, undef, undef, undef, undef, undef, undef, undef, undef, undef, undef, undef, undef, undef, undef, undef, undef, undef, undef, undef, undef, undef, undef, undef, undef, undef, undef, undef, undef, undef, undef, undef, undef, undef, undef, undef, undef, undef, undef, undef, undef, undef, undef, undef, undef, undef, undef, undef, undef, undef, undef, undef, undef, undef, undef, undef, undef, undef, undef, undef, undef, undef, undef, undef, undef, undef, undef, undef, undef, undef, undef, undef, undef, undef, undef, undef, undef, undef, undef, undef, undef, undef, undef, undef, undef, undef, undef, undef, undef, undef, undef, undef, undef, undef, undef, undef, undef, undef, undef, undef, undef, undef, undef, undef, undef, undef] := ⟨_, rfl⟩
  rw [← hT]
  refine regionP_inv (by kernel_rfl) (fun l a w' => ∃ vals, RG W5 T [some 45, some 46, some 47, some 48, some 44, some 49, some 50, some 12, none, some 13] [.val (.agg #[.bool n10, .slice a10 l10 c10]), .val (.int .i64 (D : Nat)), .nu (D : Nat), .pair NX, .pair NX, .nu NX, .val (.bool true), .any, .any, .val (.bool true)] (some (7, 8, NX)) vals l a w') ?h02 ?step2 ?fin2
  case h02 => exact ⟨fun _ => undef, RG.start rfl (show Below W5.heap.size W5 W5.drew from ⟨rfl, rfl, rfl, Nat.le_refl _, fun _ _ => rfl⟩) (fun _ _ _ e => by cases e; exact ⟨by decide, by decide⟩)⟩
  case step2 =>
      rintro l a w' i' ⟨vals, hR⟩ hi'
      obtain ⟨hl0, o, ho, hdep⟩ := mem_ready.1 hi'
      have h15 : i' < 10 := by
        have := (Array.getElem?_eq_some_iff.1 ho).1
        simpa using this
      have hbl := hR.bl
      have Y10 := B10.out.below hbl
      have y0 := Y10.c0
      have y1 := Y10.c1
      rcases (show i' = 0 ∨ i' = 1 ∨ i' = 2 ∨ i' = 3 ∨ i' = 4 ∨ i' = 5 ∨ i' = 6 ∨ i' = 7 ∨ i' = 8 ∨ i' = 9 by omega) with rfl | rfl | rfl | rfl | rfl | rfl | rfl | rfl | rfl | rfl
      · simp at ho
        subst ho
        simp [Region.binds] at hdep
        have k : a.tmps.getD 10 undef = .pointer (some ⟨g10, 0, none⟩) := (hR.fr.kept rfl (by simp [hT])).trans (by rw [hT]; rfl)
        clear hi' hdep
        unfold wpOp
        simp [Region.wanted]
        refine .inl ?_
        unfold Oper.wp
        simp [execOp, go_sem, Act.eval, k, y0, y1]
        exact ⟨_, hR.op 0 45 rfl (by decide) hl0 (Below.refl _ _) rfl (fun _ _ _ e => by cases e; exact ⟨by decide, by decide⟩)⟩
      · simp at ho
        subst ho
        simp [Region.binds] at hdep
        have k : a.tmps.getD 8 undef = .int .i64 (D : Nat) := (hR.fr.kept rfl (by simp [hT])).trans (by rw [hT]; rfl)
        clear hi' hdep
        unfold wpOp
        simp [Region.wanted]
        refine .inl ?_
        unfold Oper.wp
        simp [execOp, go_sem, Act.eval, k]
        exact ⟨_, hR.op 1 46 rfl (by decide) hl0 (Below.refl _ _) rfl (fun _ _ _ e => by cases e; exact ⟨by decide, by decide⟩)⟩
      · simp at ho
        subst ho
        simp [Region.binds] at hdep
        have k : a.tmps.getD 46 undef = vals 1 := hR.fr.done (i := 1) rfl (by simp_all) (by simp [hT])
        have e0 : vals 1 = .int .i64 (D : Nat) := hR.val 1 (by decide) (getD_true (by simp_all))
        rw [e0] at k
        clear hi' hdep
        unfold wpOp
        simp [Region.wanted]
        refine .inl ?_
        unfold Oper.wp
        simp [execOp, go_sem, Act.eval, k]
        refine (of_X (D : Int) w' (by omega) (by omega)).mono ?_
        rintro e w'' ⟨x, rfl, hn, hb⟩
        obtain ⟨neg, ao, n, cap, rfl, hn⟩ := nu_parts hn
        exact ⟨_, hR.op 2 47 rfl (by decide) hl0 hb ⟨_, _, _, _, rfl, hn⟩ (fun _ _ _ e => by cases e; exact ⟨by decide, by decide⟩)⟩
      · simp at ho
        subst ho
        simp [Region.binds] at hdep
        have k : a.tmps.getD 45 undef = vals 0 := hR.fr.done (i := 0) rfl (by simp_all) (by simp [hT])
        have m : a.tmps.getD 47 undef = vals 2 := hR.fr.done (i := 2) rfl (by simp_all) (by simp [hT])
        have e0 : vals 0 = .agg #[.bool n10, .slice a10 l10 c10] := hR.val 0 (by decide) (getD_true (by simp_all))
        obtain ⟨neg, ao, n, cap, e1, hn⟩ := hR.val 2 (by decide) (getD_true (by simp_all))
        rw [e0] at k
        rw [e1] at m
        clear hi' hdep
        unfold wpOp
        simp [Region.wanted]
        refine .inl ?_
        unfold Oper.wp
        simp [execOp, go_sem, Act.eval, k, m]
        refine (add_fit NX Y10.nu hn EN.out FN.out).mono ?_
        rintro e w'' ⟨neg', ao', n', cap', rfl, hn', hb⟩
        exact ⟨_, hR.op 3 48 rfl (by decide) hl0 hb ⟨_, _, _, _, rfl, hn'⟩ (fun _ _ _ e => by cases e; exact ⟨by decide, by decide⟩)⟩
      · simp at ho
        subst ho
        simp [Region.binds] at hdep
        have k : a.tmps.getD 48 undef = vals 3 := hR.fr.done (i := 3) rfl (by simp_all) (by simp [hT])
        obtain ⟨neg, ao, n, cap, e1, hn⟩ := hR.val 3 (by decide) (getD_true (by simp_all))
        rw [e1] at k
        clear hi' hdep
        unfold wpOp
        simp [Region.wanted]
        refine .inl ?_
        unfold Oper.wp
        simp [execOp, go_sem, Act.eval, k]
        exact ⟨_, hR.op 4 44 rfl (by decide) hl0 (Below.refl _ _) ⟨_, _, _, _, rfl, hn⟩ (fun _ _ _ e => by cases e; exact ⟨by decide, by decide⟩)⟩
      · simp at ho
        subst ho
        simp [Region.binds] at hdep
        have k : a.tmps.getD 44 undef = vals 4 := hR.fr.done (i := 4) rfl (by simp_all) (by simp [hT])
        obtain ⟨neg, ao, n, cap, e1, hn⟩ := hR.val 4 (by decide) (getD_true (by simp_all))
        rw [e1] at k
        clear hi' hdep
        unfold wpOp
        simp [Region.wanted]
        refine .inl ?_
        unfold Oper.wp
        simp [execOp, go_sem, Act.eval, k]
        exact ⟨_, hR.op 5 49 rfl (by decide) hl0 (Below.refl _ _) ⟨_, _, _, _, rfl, hn⟩ (fun _ _ _ e => by cases e; exact ⟨by decide, by decide⟩)⟩
      · simp at ho
        subst ho
        simp [Region.binds] at hdep
        have k : a.tmps.getD 44 undef = vals 4 := hR.fr.done (i := 4) rfl (by simp_all) (by simp [hT])
        obtain ⟨neg, ao, n, cap, e1, hn⟩ := hR.val 4 (by decide) (getD_true (by simp_all))
        rw [e1] at k
        clear hi' hdep
        unfold wpOp
        simp [Region.wanted]
        refine .inl ?_
        unfold Oper.wp
        simp [execOp, go_sem, Act.eval, k]
        exact ⟨_, hR.op 6 50 rfl (by decide) hl0 (Below.refl _ _) rfl (fun _ _ _ e => by cases e; exact ⟨by decide, by decide⟩)⟩
      · simp at ho
        subst ho
        simp [Region.binds] at hdep
        clear hi' hdep
        unfold wpOp
        simp [Region.wanted]
        refine .inl ?_
        unfold Oper.wp
        simp [execOp, go_sem, Act.eval]
        exact ⟨_, hR.alloc (d := 12) rfl (by decide) hl0 rfl (by decide)⟩
      · simp at ho
        subst ho
        simp [Region.binds] at hdep
        have k5 : a.tmps.getD 12 undef = vals 7 := hR.fr.done (i := 7) rfl (by simp_all) (by simp [hT])
        have k6 : a.tmps.getD 49 undef = vals 5 := hR.fr.done (i := 5) rfl (by simp_all) (by simp [hT])
        obtain ⟨neg, ao, n, cap, ev, hn⟩ := hR.val 5 (by decide) (getD_true (by simp_all))
        rw [ev] at k6
        have j1 : l.getD 7 true = true := getD_true (by simp_all)
        obtain ⟨g, hg, x0, x1, x2, x3, x4⟩ := hR.ready hl0 j1
        rw [hg] at k5
        clear hi' hdep
        unfold wpOp
        simp [Region.wanted]
        refine .inl ?_
        unfold Oper.wp
        simp [execOp, go_sem, Act.eval, k5, k6, x0, x1, x2, x3, x4]
        exact ⟨_, hR.store rfl hl0 j1 rfl hg hn undef⟩
      · simp at ho
        subst ho
        simp [Region.binds] at hdep
        have k : a.tmps.getD 50 undef = vals 6 := hR.fr.done (i := 6) rfl (by simp_all) (by simp [hT])
        have e1 : vals 6 = .bool true := hR.val 6 (by decide) (getD_true (by simp_all))
        rw [e1] at k
        clear hi' hdep
        unfold wpOp
        simp [Region.wanted]
        refine .inl ?_
        unfold Oper.wp
        simp [execOp, go_sem, Act.eval, k]
        exact ⟨_, hR.op 9 13 rfl (by decide) hl0 (Below.refl _ _) rfl (fun _ _ _ e => by cases e; exact ⟨by decide, by decide⟩)⟩
  case' fin2 =>
      rintro l a W6 ⟨vals, hR⟩ hz
      have hnot := List.eq_nil_iff_forall_not_mem.1 hz
      have hk : ∀ k, k < 10 → (l.getD k true = false → False) → l.getD k false = true := fun k h12 h => by
        have hs := hR.size
        cases h' : l.getD k true with
        | false => exact (h h').elim
        | true => simp at hs; simp [Array.getD, hs, h12] at h' ⊢; exact h'
      have st0 := hk 0 (by omega) (fun h => hnot 0 (mem_ready.2 ⟨h, _, rfl, by simp [Region.binds] <;> simp_all⟩))
      have st1 := hk 1 (by omega) (fun h => hnot 1 (mem_ready.2 ⟨h, _, rfl, by simp [Region.binds] <;> simp_all⟩))
      have st2 := hk 2 (by omega) (fun h => hnot 2 (mem_ready.2 ⟨h, _, rfl, by simp [Region.binds] <;> simp_all⟩))
      have st3 := hk 3 (by omega) (fun h => hnot 3 (mem_ready.2 ⟨h, _, rfl, by simp [Region.binds] <;> simp_all⟩))
      have st4 := hk 4 (by omega) (fun h => hnot 4 (mem_ready.2 ⟨h, _, rfl, by simp [Region.binds] <;> simp_all⟩))
      have st5 := hk 5 (by omega) (fun h => hnot 5 (mem_ready.2 ⟨h, _, rfl, by simp [Region.binds] <;> simp_all⟩))
      have st6 := hk 6 (by omega) (fun h => hnot 6 (mem_ready.2 ⟨h, _, rfl, by simp [Region.binds] <;> simp_all⟩))
      have st7 := hk 7 (by omega) (fun h => hnot 7 (mem_ready.2 ⟨h, _, rfl, by simp [Region.binds]⟩))
      have st8 := hk 8 (by omega) (fun h => hnot 8 (mem_ready.2 ⟨h, _, rfl, by simp [Region.binds] <;> simp_all⟩))
      have st9 := hk 9 (by omega) (fun h => hnot 9 (mem_ready.2 ⟨h, _, rfl, by simp [Region.binds] <;> simp_all⟩))
      have hall : ∀ i, i < 10 → l.getD i true = true := fun i hi => by
        rcases (show i = 0 ∨ i = 1 ∨ i = 2 ∨ i = 3 ∨ i = 4 ∨ i = 5 ∨ i = 6 ∨ i = 7 ∨ i = 8 ∨ i = 9 by omega) with rfl | rfl | rfl | rfl | rfl | rfl | rfl | rfl | rfl | rfl
        · exact getD_true st0
        · exact getD_true st1
        · exact getD_true st2
        · exact getD_true st3
        · exact getD_true st4
        · exact getD_true st5
        · exact getD_true st6
        · exact getD_true st7
        · exact getD_true st8
        · exact getD_true st9
      clear st0 st1 st2 st3 st4 st5 st6 st7 st8 st9 hk hnot hz
      obtain ⟨g12, n12, a12, l12, c12, evg, B12⟩ := hR.boxed (hall 7 (by decide)) (hall 8 (by decide))
      have ev0 : vals 0 = .agg #[.bool n10, .slice a10 l10 c10] := hR.val 0 (by decide) (hall 0 (by decide))
      have ev1 : vals 1 = .int .i64 (D : Nat) := hR.val 1 (by decide) (hall 1 (by decide))
      have ev6 : vals 6 = .bool true := hR.val 6 (by decide) (hall 6 (by decide))
      have ev9 : vals 9 = .bool true := hR.val 9 (by decide) (hall 9 (by decide))
      have hTs : T.size = 189 := by rw [hT]; rfl
      have ha : a = ⟨(((((((((T.setIfInBounds 45 (vals 0)).setIfInBounds 46 (vals 1)).setIfInBounds 47 (vals 2)).setIfInBounds 48 (vals 3)).setIfInBounds 44 (vals 4)).setIfInBounds 49 (vals 5)).setIfInBounds 50 (vals 6)).setIfInBounds 12 (vals 7)).setIfInBounds 13 (vals 9)), []⟩ := by
        refine hR.all (fun i hi => hall i (by simpa using hi)) (by simp) (fun j hj => ?_)
        by_cases h1 : j = 45 ∨ j = 46 ∨ j = 47 ∨ j = 48 ∨ j = 44 ∨ j = 49 ∨ j = 50 ∨ j = 12 ∨ j = 13
        · rcases h1 with rfl | rfl | rfl | rfl | rfl | rfl | rfl | rfl | rfl <;> simp [sets_getD, tOwn, List.findIdx?, List.findIdx?.go, hTs]
        · simp only [not_or] at h1
          obtain ⟨m45, m46, m47, m48, m44, m49, m50, m12, m13⟩ := h1
          have e : tOwn [some 45, some 46, some 47, some 48, some 44, some 49, some 50, some 12, none, some 13] vals j = none := by
            unfold tOwn
            simp [List.findIdx?, List.findIdx?.go, Ne.symm m45, Ne.symm m46, Ne.symm m47, Ne.symm m48, Ne.symm m44, Ne.symm m49, Ne.symm m50, Ne.symm m12, Ne.symm m13]
          rw [e]
          simp only [sets_getD]
          repeat rw [if_neg (by omega)]
      have hbl := hR.bl
      clear hR hall
      rw [ev0] at ha
      rw [ev1] at ha
      obtain ⟨x47, hx47⟩ : ∃ x, x = vals 2 := ⟨_, rfl⟩
      rw [← hx47] at ha
      obtain ⟨x48, hx48⟩ : ∃ x, x = vals 3 := ⟨_, rfl⟩
      rw [← hx48] at ha
      obtain ⟨x44, hx44⟩ : ∃ x, x = vals 4 := ⟨_, rfl⟩
      rw [← hx44] at ha
      obtain ⟨x49, hx49⟩ : ∃ x, x = vals 5 := ⟨_, rfl⟩
      rw [← hx49] at ha
      rw [ev6] at ha
      rw [evg] at ha
      rw [ev9] at ha
      have ha2 : a = ⟨#[.agg #[.slice s0 n0 c0, .slice s1 n1 c1], .int .u8 (E : Nat), .pointer (some ⟨w.heap.size, 0, none⟩), undef, .bool false, .bool true, .pointer (some ⟨g6, 0, none⟩), .pointer (some ⟨g7, 0, none⟩), .int .i64 (D : Nat), .pointer (some ⟨g9, 0, none⟩), .pointer (some ⟨g10, 0, none⟩), .bool true, .pointer (some ⟨g12, 0, none⟩), .bool true, undef, undef, undef, undef, undef, undef, undef, undef, undef, undef, undef, .bool true, .pointer (some ⟨w.heap.size, 0, none⟩), .slice s0 n0 c0, .agg #[.bool n6, .slice a6 l6 c6], .pointer (some ⟨w.heap.size, 1, none⟩), .slice s1 n1 c1, .agg #[.bool n7, .slice a7 l7 c7], .int .u8 (E : Nat), .int .i64 (E : Nat), .int .i64 (D : Nat), .pointer (some ⟨g6, 1, none⟩), .slice a6 l6 c6, .agg #[.bool false, .slice a6 l6 c6], x38, .agg #[.bool false, .slice a6 l6 c6], x40, x41, x42, .bool true, x44, .agg #[.bool n10, .slice a10 l10 c10], .int .i64 (D : Nat), x47, x48, x49, .bool true, undef, undef, undef, undef, undef, undef, undef, undef, undef, undef, undef, undef, undef, undef, undef, undef, undef, undef, undef, undef, undef, undef, undef, undef, undef, undef, undef, undef, undef, undef, undef, undef, undef, undef, undef, undef, undef, undef, undef, undef, undef, undef, undef, undef, undef, undef, undef, undef, undef, undef, undef, undef, undef, undef, undef, undef, undef, undef, undef, undef, undef, undef, undef, undef, undef, undef, undef, undef, undef, undef, undef, undef, undef, undef, undef, undef, undef, undef, undef, undef, undef, undef, undef, undef, undef, undef, undef, undef, undef, undef, undef, undef, undef, undef, undef, undef, undef, undef, undef, undef, undef, undef, undef, undef, undef, undef, undef, undef, undef, undef, undef, undef, undef, undef, undef, undef, undef, undef, undef, undef, undef, undef, undef, undef, undef, undef, undef, undef, undef, undef, undef, undef, undef, undef, undef, undef, undef, undef], []⟩ := by
        rw [ha, hT]
        simp only [List.setIfInBounds_toArray, List.set_cons_succ, List.set_cons_zero]
      subst ha2
      have B12 := Lib.hid B12
      have B6 := Lib.hid (B6.out.below hbl)
      have B7 := Lib.hid (B7.out.below hbl)
      have B9 := Lib.hid (B9.out.below hbl)
      have B10 := Lib.hid (B10.out.below hbl)
      have HWW := step1 HW HZ hbl
      have HDD := step1 HD HE hbl
      have HW := HWW.1
      have HZ := HWW.2
      have HD := HDD.1
      have HE := HDD.2
      clear HWW HDD hbl ha hT hTs ev0 ev1 ev6 ev9 hx47 hx48 hx44 hx49 vals evg
  go_upto_region 7 with fail
  have HTX : Hid (∀ (v : Value) (z : Int) (W : World), Nu W v z → Below w.heap.size w W → ∀ {S : ByteArray}, (⟨(txt z).toArray⟩ : ByteArray) = S → Calls Tryz.prog 23 #[v] W fun e w' => e = .returned (.string S) ∧ Below W.heap.size W w') := Lib.hid (fun v z W hn hb S hS => by subst hS; exact text_any hn (HTAB.out W hb))
  obtain ⟨TA, hTA⟩ : ∃ TA : ByteArray, TA = ⟨(txt (U : Int)).toArray⟩ := ⟨_, rfl⟩
  have HTA : Hid ((⟨(txt (U : Int)).toArray⟩ : ByteArray) = TA) := Lib.hid hTA.symm
  obtain ⟨TD, hTD⟩ : ∃ TD : ByteArray, TD = ⟨#[UInt8.ofNat (48 + D)]⟩ := ⟨_, rfl⟩
  have hconv : Hid ((⟨#[UInt8.ofNat (48 + D)]⟩ : ByteArray) = TD) := Lib.hid hTD.symm
  have w48 : IntKind.i64.wrap (48 + (D : Int)) = 48 + (D : Int) := by rw [IntKind.wrap_i64]; omega
  have u48 : IntKind.u8.wrap (48 + (D : Int)) = 48 + (D : Int) := by rw [IntKind.wrap_u8]; omega
  have hsTA : TA.size < 10000 := by rw [hTA]; exact txt_size HU.out
  have hroom := str_room (show TA.size < 10000 by rw [hTA]; exact txt_size HU.out) (show TD.size < 10000 by rw [hTD]; show 1 < 10000; omega)
  clear hTA hTD
  obtain ⟨T, hT⟩ : ∃ T : Array Value, T = #[.agg #[.slice s0 n0 c0, .slice s1 n1 c1], .int .u8 (E : Nat), .pointer (some ⟨w.heap.size, 0, none⟩), undef, .bool false, .bool true, .pointer (some ⟨g6, 0, none⟩), .pointer (some ⟨g7, 0, none⟩), .int .i64 (D : Nat), .pointer (some ⟨g9, 0, none⟩), .pointer (some ⟨g10, 0, none⟩), .bool true, .pointer (some ⟨g12, 0, none⟩), .bool true, undef, undef, undef, undef, undef, undef, undef, undef, undef, undef, undef, .bool true, .pointer (some ⟨w.heap.size, 0, none⟩), .slice s0 n0 c0, .agg #[.bool n6, .slice a6 l6 c6], .pointer (some ⟨w.heap.size, 1, none⟩), .slice s1 n1 c1, .agg #[.bool n7, .slice a7 l7 c7], .int .u8 (E : Nat), .int .i64 (E : Nat), .int .i64 (D : Nat), .pointer (some ⟨g6, 1, none⟩), .slice a6 l6 c6, .agg #[.bool false, .slice a6 l6 c6], x38, .agg #[.bool false, .slice a6 l6 c6], x40, x41, x42, .bool true, x44, .agg #[.bool n10, .slice a10 l10 c10], .int .i64 (D : Nat), x47, x48, x49, .bool true, undef, undef, undef, undef, undef, undef, undef, undef, undef, undef, undef, undef, undef, undef, undef, undef, undef, undef, undef, undef, undef, undef, undef, undef, undef, undef, undef, undef, undef, undef, undef, undef, undef, undef, undef, undef, undef, undef, undef, undef, undef, undef, undef, undef, undef, undef, undef, undef, undef, undef, undef, undef, undef, undef, undef, undef, undef, undef, undef, undef, undef, undef, undef, undef, undef, undef, undef, undef, undef, undef, undef, undef, undef, undef, undef, undef, undef, undef, undef, undef, undef, undef, undef, undef, undef, undef, undef, undef, undef, undef, undef, undef, undef, undef, undef, undef, undef, undef, undef, undef, undef, undef, undef, undef, undef, undef, undef, undef, undef, undef, undef, undef, undef, undef, undef, undef, undef, undef, undef, undef, undef, undef, undef, undef, undef, undef, undef, undef, undef, undef, undef, undef, undef, undef, undef, undef, undef, undef] := ⟨_, rfl⟩
  rw [← hT]
  refine regionP_inv (by kernel_rfl) (fun l a w' => ∃ vals, RG W6 T [some 51, some 52, some 53, some 54, some 55, some 56, some 57, some 58, some 14] [.val (.agg #[.bool false, .slice a6 l6 c6]), .val (.string TA), .val (.int .i64 (D : Nat)), .val (.int .i64 (48 + (D : Nat))), .val (.int .u8 (48 + (D : Nat))), .byte (48 + (D : Nat)), .val (.string TD), .val (.string (TA ++ TD)), .val (.string (TA ++ TD))] none vals l a w') ?h03 ?step3 ?fin3
  case h03 => exact ⟨fun _ => undef, RG.start rfl (show Below W6.heap.size W6 W6.drew from ⟨rfl, rfl, rfl, Nat.le_refl _, fun _ _ => rfl⟩) (fun _ _ _ e => by cases e)⟩
  case step3 =>
      rintro l a w' i' ⟨vals, hR⟩ hi'
      obtain ⟨hl0, o, ho, hdep⟩ := mem_ready.1 hi'
      have h15 : i' < 9 := by
        have := (Array.getElem?_eq_some_iff.1 ho).1
        simpa using this
      have hbl := hR.bl
      have Y9 := B9.out.below hbl
      have y0 := Y9.c0
      have y1 := Y9.c1
      rcases (show i' = 0 ∨ i' = 1 ∨ i' = 2 ∨ i' = 3 ∨ i' = 4 ∨ i' = 5 ∨ i' = 6 ∨ i' = 7 ∨ i' = 8 by omega) with rfl | rfl | rfl | rfl | rfl | rfl | rfl | rfl | rfl
      · simp at ho
        subst ho
        simp [Region.binds] at hdep
        have k : a.tmps.getD 9 undef = .pointer (some ⟨g9, 0, none⟩) := (hR.fr.kept rfl (by simp [hT])).trans (by rw [hT]; rfl)
        clear hi' hdep
        unfold wpOp
        simp [Region.wanted]
        refine .inl ?_
        unfold Oper.wp
        simp [execOp, go_sem, Act.eval, k, y0, y1]
        exact ⟨_, hR.op 0 51 rfl (by decide) hl0 (Below.refl _ _) rfl (fun _ _ _ e => by cases e)⟩
      · simp at ho
        subst ho
        simp [Region.binds] at hdep
        have k : a.tmps.getD 51 undef = vals 0 := hR.fr.done (i := 0) rfl (by simp_all) (by simp [hT])
        have e0 : vals 0 = .agg #[.bool false, .slice a6 l6 c6] := hR.val 0 (by decide) (getD_true (by simp_all))
        rw [e0] at k
        clear hi' hdep
        unfold wpOp
        simp [Region.wanted]
        refine .inl ?_
        unfold Oper.wp
        simp [execOp, go_sem, Act.eval, k]
        refine (HTX.out _ _ _ Y9.nu (HW.out.trans (hbl.mono HZ.out)) HTA.out).mono ?_
        rintro e w'' ⟨rfl, hb⟩
        exact ⟨_, hR.op 1 52 rfl (by decide) hl0 hb rfl (fun _ _ _ e => by cases e)⟩
      · simp at ho
        subst ho
        simp [Region.binds] at hdep
        have k : a.tmps.getD 8 undef = .int .i64 (D : Nat) := (hR.fr.kept rfl (by simp [hT])).trans (by rw [hT]; rfl)
        clear hi' hdep
        unfold wpOp
        simp [Region.wanted]
        refine .inl ?_
        unfold Oper.wp
        simp [execOp, go_sem, Act.eval, k]
        exact ⟨_, hR.op 2 53 rfl (by decide) hl0 (Below.refl _ _) rfl (fun _ _ _ e => by cases e)⟩
      · simp at ho
        subst ho
        simp [Region.binds] at hdep
        have k : a.tmps.getD 53 undef = vals 2 := hR.fr.done (i := 2) rfl (by simp_all) (by simp [hT])
        have e0 : vals 2 = .int .i64 (D : Nat) := hR.val 2 (by decide) (getD_true (by simp_all))
        rw [e0] at k
        clear hi' hdep
        unfold wpOp
        simp [Region.wanted]
        refine .inl ?_
        unfold Oper.wp
        simp [execOp, go_sem, Act.eval, k, w48]
        exact ⟨_, hR.op 3 54 rfl (by decide) hl0 (Below.refl _ _) rfl (fun _ _ _ e => by cases e)⟩
      · simp at ho
        subst ho
        simp [Region.binds] at hdep
        have k : a.tmps.getD 54 undef = vals 3 := hR.fr.done (i := 3) rfl (by simp_all) (by simp [hT])
        have e0 : vals 3 = .int .i64 (48 + (D : Nat)) := hR.val 3 (by decide) (getD_true (by simp_all))
        rw [e0] at k
        clear hi' hdep
        unfold wpOp
        simp [Region.wanted]
        refine .inl ?_
        unfold Oper.wp
        simp [execOp, go_sem, Act.eval, k, u48]
        exact ⟨_, hR.op 4 55 rfl (by decide) hl0 (Below.refl _ _) rfl (fun _ _ _ e => by cases e)⟩
      · simp at ho
        subst ho
        simp [Region.binds] at hdep
        have k : a.tmps.getD 55 undef = vals 4 := hR.fr.done (i := 4) rfl (by simp_all) (by simp [hT])
        have e0 : vals 4 = .int .u8 (48 + (D : Nat)) := hR.val 4 (by decide) (getD_true (by simp_all))
        rw [e0] at k
        clear hi' hdep
        have kk : a.tmps[55]?.getD undef = .int .u8 (48 + (D : Nat)) := by rw [← Array.getD_eq_getD_getElem?]; exact k
        unfold wpOp
        simp [Region.wanted]
        refine .inl ?_
        unfold Oper.wp
        simp [execOp, go_sem, Act.eval, k, kk]
        exact ⟨_, hR.op 5 56 rfl (by decide) hl0 (alloc_b _ _) ⟨_, rfl, heap_alloc_new _ _⟩ (fun _ _ _ e => by cases e)⟩
      · simp at ho
        subst ho
        simp [Region.binds] at hdep
        have k : a.tmps.getD 56 undef = vals 5 := hR.fr.done (i := 5) rfl (by simp_all) (by simp [hT])
        obtain ⟨g, e0, hg⟩ := hR.val 5 (by decide) (getD_true (by simp_all))
        rw [e0] at k
        clear hi' hdep
        have x0 := conv_one hD10 hconv.out hg
        unfold wpOp
        simp [Region.wanted]
        refine .inl ?_
        unfold Oper.wp
        simp [execOp, go_sem, Act.eval, k, x0]
        exact ⟨_, hR.op 6 57 rfl (by decide) hl0 (Below.refl _ _) rfl (fun _ _ _ e => by cases e)⟩
      · simp at ho
        subst ho
        simp [Region.binds] at hdep
        have k : a.tmps.getD 52 undef = vals 1 := hR.fr.done (i := 1) rfl (by simp_all) (by simp [hT])
        have m : a.tmps.getD 57 undef = vals 6 := hR.fr.done (i := 6) rfl (by simp_all) (by simp [hT])
        have e0 : vals 1 = .string TA := hR.val 1 (by decide) (getD_true (by simp_all))
        have e1 : vals 6 = .string TD := hR.val 6 (by decide) (getD_true (by simp_all))
        rw [e0] at k
        rw [e1] at m
        clear hi' hdep
        unfold wpOp
        simp [Region.wanted]
        refine .inl ?_
        unfold Oper.wp
        simp [execOp, go_sem, Act.eval, k, m, hroom]
        exact ⟨_, hR.op 7 58 rfl (by decide) hl0 (Below.refl _ _) rfl (fun _ _ _ e => by cases e)⟩
      · simp at ho
        subst ho
        simp [Region.binds] at hdep
        have k : a.tmps.getD 58 undef = vals 7 := hR.fr.done (i := 7) rfl (by simp_all) (by simp [hT])
        have e0 : vals 7 = .string (TA ++ TD) := hR.val 7 (by decide) (getD_true (by simp_all))
        rw [e0] at k
        clear hi' hdep
        unfold wpOp
        simp [Region.wanted]
        refine .inl ?_
        unfold Oper.wp
        simp [execOp, go_sem, Act.eval, k]
        exact ⟨_, hR.op 8 14 rfl (by decide) hl0 (Below.refl _ _) rfl (fun _ _ _ e => by cases e)⟩
  case' fin3 =>
      rintro l a W7 ⟨vals, hR⟩ hz
      have hnot := List.eq_nil_iff_forall_not_mem.1 hz
      have hk : ∀ k, k < 9 → (l.getD k true = false → False) → l.getD k false = true := fun k h12 h => by
        have hs := hR.size
        cases h' : l.getD k true with
        | false => exact (h h').elim
        | true => simp at hs; simp [Array.getD, hs, h12] at h' ⊢; exact h'
      have st0 := hk 0 (by omega) (fun h => hnot 0 (mem_ready.2 ⟨h, _, rfl, by simp [Region.binds] <;> simp_all⟩))
      have st1 := hk 1 (by omega) (fun h => hnot 1 (mem_ready.2 ⟨h, _, rfl, by simp [Region.binds] <;> simp_all⟩))
      have st2 := hk 2 (by omega) (fun h => hnot 2 (mem_ready.2 ⟨h, _, rfl, by simp [Region.binds] <;> simp_all⟩))
      have st3 := hk 3 (by omega) (fun h => hnot 3 (mem_ready.2 ⟨h, _, rfl, by simp [Region.binds] <;> simp_all⟩))
      have st4 := hk 4 (by omega) (fun h => hnot 4 (mem_ready.2 ⟨h, _, rfl, by simp [Region.binds] <;> simp_all⟩))
      have st5 := hk 5 (by omega) (fun h => hnot 5 (mem_ready.2 ⟨h, _, rfl, by simp [Region.binds] <;> simp_all⟩))
      have st6 := hk 6 (by omega) (fun h => hnot 6 (mem_ready.2 ⟨h, _, rfl, by simp [Region.binds] <;> simp_all⟩))
      have st7 := hk 7 (by omega) (fun h => hnot 7 (mem_ready.2 ⟨h, _, rfl, by simp [Region.binds] <;> simp_all⟩))
      have st8 := hk 8 (by omega) (fun h => hnot 8 (mem_ready.2 ⟨h, _, rfl, by simp [Region.binds] <;> simp_all⟩))
      have hall : ∀ i, i < 9 → l.getD i true = true := fun i hi => by
        rcases (show i = 0 ∨ i = 1 ∨ i = 2 ∨ i = 3 ∨ i = 4 ∨ i = 5 ∨ i = 6 ∨ i = 7 ∨ i = 8 by omega) with rfl | rfl | rfl | rfl | rfl | rfl | rfl | rfl | rfl
        · exact getD_true st0
        · exact getD_true st1
        · exact getD_true st2
        · exact getD_true st3
        · exact getD_true st4
        · exact getD_true st5
        · exact getD_true st6
        · exact getD_true st7
        · exact getD_true st8
      clear st0 st1 st2 st3 st4 st5 st6 st7 st8 hk hnot hz
      have ev0 : vals 0 = .agg #[.bool false, .slice a6 l6 c6] := hR.val 0 (by decide) (hall 0 (by decide))
      have ev1 : vals 1 = .string TA := hR.val 1 (by decide) (hall 1 (by decide))
      have ev2 : vals 2 = .int .i64 (D : Nat) := hR.val 2 (by decide) (hall 2 (by decide))
      have ev3 : vals 3 = .int .i64 (48 + (D : Nat)) := hR.val 3 (by decide) (hall 3 (by decide))
      have ev4 : vals 4 = .int .u8 (48 + (D : Nat)) := hR.val 4 (by decide) (hall 4 (by decide))
      have ev6 : vals 6 = .string TD := hR.val 6 (by decide) (hall 6 (by decide))
      have ev7 : vals 7 = .string (TA ++ TD) := hR.val 7 (by decide) (hall 7 (by decide))
      have ev8 : vals 8 = .string (TA ++ TD) := hR.val 8 (by decide) (hall 8 (by decide))
      have hTs : T.size = 189 := by rw [hT]; rfl
      have ha : a = ⟨(((((((((T.setIfInBounds 51 (vals 0)).setIfInBounds 52 (vals 1)).setIfInBounds 53 (vals 2)).setIfInBounds 54 (vals 3)).setIfInBounds 55 (vals 4)).setIfInBounds 56 (vals 5)).setIfInBounds 57 (vals 6)).setIfInBounds 58 (vals 7)).setIfInBounds 14 (vals 8)), []⟩ := by
        refine hR.all (fun i hi => hall i (by simpa using hi)) (by simp) (fun j hj => ?_)
        by_cases h1 : j = 51 ∨ j = 52 ∨ j = 53 ∨ j = 54 ∨ j = 55 ∨ j = 56 ∨ j = 57 ∨ j = 58 ∨ j = 14
        · rcases h1 with rfl | rfl | rfl | rfl | rfl | rfl | rfl | rfl | rfl <;> simp [sets_getD, tOwn, List.findIdx?, List.findIdx?.go, hTs]
        · simp only [not_or] at h1
          obtain ⟨m51, m52, m53, m54, m55, m56, m57, m58, m14⟩ := h1
          have e : tOwn [some 51, some 52, some 53, some 54, some 55, some 56, some 57, some 58, some 14] vals j = none := by
            unfold tOwn
            simp [List.findIdx?, List.findIdx?.go, Ne.symm m51, Ne.symm m52, Ne.symm m53, Ne.symm m54, Ne.symm m55, Ne.symm m56, Ne.symm m57, Ne.symm m58, Ne.symm m14]
          rw [e]
          simp only [sets_getD]
          repeat rw [if_neg (by omega)]
      have hbl := hR.bl
      clear hR hall
      rw [ev0] at ha
      rw [ev1] at ha
      rw [ev2] at ha
      rw [ev3] at ha
      rw [ev4] at ha
      obtain ⟨x56, hx56⟩ : ∃ x, x = vals 5 := ⟨_, rfl⟩
      rw [← hx56] at ha
      rw [ev6] at ha
      rw [ev7] at ha
      rw [ev8] at ha
      have ha2 : a = ⟨#[.agg #[.slice s0 n0 c0, .slice s1 n1 c1], .int .u8 (E : Nat), .pointer (some ⟨w.heap.size, 0, none⟩), undef, .bool false, .bool true, .pointer (some ⟨g6, 0, none⟩), .pointer (some ⟨g7, 0, none⟩), .int .i64 (D : Nat), .pointer (some ⟨g9, 0, none⟩), .pointer (some ⟨g10, 0, none⟩), .bool true, .pointer (some ⟨g12, 0, none⟩), .bool true, .string (TA ++ TD), undef, undef, undef, undef, undef, undef, undef, undef, undef, undef, .bool true, .pointer (some ⟨w.heap.size, 0, none⟩), .slice s0 n0 c0, .agg #[.bool n6, .slice a6 l6 c6], .pointer (some ⟨w.heap.size, 1, none⟩), .slice s1 n1 c1, .agg #[.bool n7, .slice a7 l7 c7], .int .u8 (E : Nat), .int .i64 (E : Nat), .int .i64 (D : Nat), .pointer (some ⟨g6, 1, none⟩), .slice a6 l6 c6, .agg #[.bool false, .slice a6 l6 c6], x38, .agg #[.bool false, .slice a6 l6 c6], x40, x41, x42, .bool true, x44, .agg #[.bool n10, .slice a10 l10 c10], .int .i64 (D : Nat), x47, x48, x49, .bool true, .agg #[.bool false, .slice a6 l6 c6], .string TA, .int .i64 (D : Nat), .int .i64 (48 + (D : Nat)), .int .u8 (48 + (D : Nat)), x56, .string TD, .string (TA ++ TD), undef, undef, undef, undef, undef, undef, undef, undef, undef, undef, undef, undef, undef, undef, undef, undef, undef, undef, undef, undef, undef, undef, undef, undef, undef, undef, undef, undef, undef, undef, undef, undef, undef, undef, undef, undef, undef, undef, undef, undef, undef, undef, undef, undef, undef, undef, undef, undef, undef, undef, undef, undef, undef, undef, undef, undef, undef, undef, undef, undef, undef, undef, undef, undef, undef, undef, undef, undef, undef, undef, undef, undef, undef, undef, undef, undef, undef, undef, undef, undef, undef, undef, undef, undef, undef, undef, undef, undef, undef, undef, undef, undef, undef, undef, undef, undef, undef, undef, undef, undef, undef, undef, undef, undef, undef, undef, undef, undef, undef, undef, undef, undef, undef, undef, undef, undef, undef, undef, undef, undef, undef, undef, undef, undef, undef, undef, undef, undef, undef, undef], []⟩ := by
        rw [ha, hT]
        simp only [List.setIfInBounds_toArray, List.set_cons_succ, List.set_cons_zero]
      subst ha2
      have B6 := Lib.hid (B6.out.below hbl)
      have B7 := Lib.hid (B7.out.below hbl)
      have B9 := Lib.hid (B9.out.below hbl)
      have B10 := Lib.hid (B10.out.below hbl)
      have B12 := Lib.hid (B12.out.below hbl)
      have HWW := step1 HW HZ hbl
      have HDD := step1 HD HE hbl
      have HW := HWW.1
      have HZ := HWW.2
      have HD := HDD.1
      have HE := HDD.2
      clear HWW HDD hbl ha hT hTs ev0 ev1 ev2 ev3 ev4 ev6 ev7 ev8 hx56 vals
  go_upto_region 8 with fail
  have L6 : l6 = (digs U).length := by rw [HHU.out]; exact nu_len B6.out.nu
  have hsg := nu_sign B6.out.nu
  obtain ⟨TB, hTB⟩ : ∃ TB : ByteArray, TB = ⟨(txt NX).toArray⟩ := ⟨_, rfl⟩
  have HTB : Hid ((⟨(txt NX).toArray⟩ : ByteArray) = TB) := Lib.hid hTB.symm
  clear hTB
  by_cases hA0 : A = 0
  case' pos =>
      have hU0 : U = 0 := by rw [HHU.out, hA0]; rfl
      have hl0 : l6 = 0 := by rw [L6, hU0, digs_zero]; rfl
      have h2 := zero_digit hD10 hU0 HTA.out hconv.out HTB.out HHN.out HHT.out
      have hn6 : n6 = false := by rw [hsg, hA0]; rfl
      have h3 := h2.1
      have h4 := Lib.hid h2.2
      have HA0 := Lib.hid hA0
      clear h2 hsg L6 hA0 hU0
      subst hl0 hn6
      have q6 := B6.out.c1
      go_upto_region 10 with fail
      rw [h4.out]
      clear h3 h4 q6
      obtain ⟨TX, hTX⟩ : ∃ TX : ByteArray, TX = ⟨(txt A).toArray⟩ := ⟨_, rfl⟩
      have HTXA : Hid ((⟨(txt A).toArray⟩ : ByteArray) = TX) := Lib.hid hTX.symm
      have HPA := Lib.hid (fun W => parse_txt_yes W HA.out HTXA.out)
      clear hTX
      have p6 := B6.out.c0
      have q6 := B6.out.c1
      go_upto_region 11 with (first | (go_at_call 23; refine (HTX.out _ A _ B6.out.nu HW.out HTXA.out).mono ?_; rintro e wz ⟨rfl, hb⟩; (try have B6 := Lib.hid (B6.out.below hb)); (try have B7 := Lib.hid (B7.out.below hb)); (try have B9 := Lib.hid (B9.out.below hb)); (try have B10 := Lib.hid (B10.out.below hb)); (try have B12 := Lib.hid (B12.out.below hb)); have HWW := step1 HW HZ hb; have HW := HWW.1; have HZ := HWW.2; have HDD := step1 HD HE hb; have HD := HDD.1; have HE := HDD.2; clear HWW HDD; clear hb) | (go_at_call 24; refine (HPA.out _).mono ?_; rintro e wz ⟨n15, a15, l15, c15, rfl, hn, hb⟩; (try have B6 := Lib.hid (B6.out.below hb)); (try have B7 := Lib.hid (B7.out.below hb)); (try have B9 := Lib.hid (B9.out.below hb)); (try have B10 := Lib.hid (B10.out.below hb)); (try have B12 := Lib.hid (B12.out.below hb)); have HWW := step1 HW HZ hb; have HW := HWW.1; have HZ := HWW.2; have HDD := step1 HD HE hb; have HD := HDD.1; have HE := HDD.2; clear HWW HDD; have NB := Lib.hid hn; clear hn hb))
      obtain ⟨W15, hW⟩ : ∃ X, X = wz.alloc (.cells #[.bool n15, .slice a15 l15 c15] 27) := ⟨_, rfl⟩
      obtain ⟨g15, hg⟩ : ∃ g, g = wz.heap.size := ⟨_, rfl⟩
      have hb : Below wz.heap.size wz W15 := by rw [hW]; exact alloc_b _ _
      have B15 : Hid (Bx W15 g15 n15 a15 l15 c15 A) := Lib.hid (by rw [hW, hg]; exact bx_new NB.out)
      rw [← hW, ← hg]
      clear hW hg NB p6 q6
      (try have B6 := Lib.hid (B6.out.below hb))
      (try have B7 := Lib.hid (B7.out.below hb))
      (try have B9 := Lib.hid (B9.out.below hb))
      (try have B10 := Lib.hid (B10.out.below hb))
      (try have B12 := Lib.hid (B12.out.below hb))
      have HWW := step1 HW HZ hb
      have HW := HWW.1
      have HZ := HWW.2
      have HDD := step1 HD HE hb
      have HD := HDD.1
      have HE := HDD.2
      clear HWW HDD
      clear hb
      have HD : Hid (Below W15.heap.size W15 W15) := Lib.hid (Below.refl _ _)
      have HE : Hid (W15.heap.size ≤ W15.heap.size) := Lib.hid (Nat.le_refl _)
      have H12 : Hid (∀ W, Below W15.heap.size W15 W → Calls Tryz.prog 23 #[.agg #[.bool n12, .slice a12 l12 c12]] W fun e w' => e = .returned (.string TB) ∧ Below W.heap.size W w') := Lib.hid (fun W h => HTX.out _ NX W (B12.out.nu.below h) (HW.out.trans (h.mono HZ.out)) HTB.out)
      have H6 : Hid (∀ W, Below W15.heap.size W15 W → Calls Tryz.prog 23 #[.agg #[.bool false, .slice a6 0 c6]] W fun e w' => e = .returned (.string TX) ∧ Below W.heap.size W w') := Lib.hid (fun W h => HTX.out _ A W (B6.out.nu.below h) (HW.out.trans (h.mono HZ.out)) HTXA.out)
      have H9 : Hid (∀ W, Below W15.heap.size W15 W → Calls Tryz.prog 23 #[.agg #[.bool false, .slice a6 0 c6]] W fun e w' => e = .returned (.string TA) ∧ Below W.heap.size W w') := Lib.hid (fun W h => HTX.out _ _ W (B9.out.nu.below h) (HW.out.trans (h.mono HZ.out)) HTA.out)
      have H19 : Hid (∀ W, Below W15.heap.size W15 W → Calls Tryz.prog 19 #[.agg #[.bool n15, .slice a15 l15 c15], .agg #[.bool false, .slice a6 0 c6]] W (SameRes W true)) := Lib.hid (fun W h => same_yes (B15.out.nu.below h) (B6.out.nu.below h) rfl)
      have hroom2 : ¬ 9223372036854775807 < (⟨#[45]⟩ : ByteArray).size + TA.size := str_room (show 1 < 10000 by omega) hsTA
      have hroom3 : ¬ 9223372036854775807 < 1 + TA.size := hroom2
      refine frame_named ?_
      intro T hT
      obtain ⟨vals, hvals⟩ : ∃ vals : Nat → Value, vals = (fun i => if i = 0 then .bool true else if i = 1 then .bool false else if i = 2 then .bool false else if i = 3 then .bool true else if i = 4 then .bool false else if i = 5 then .bool false else if i = 6 then .bool false else if i = 7 then .bool true else if i = 8 then .bool false else if i = 9 then .bool false else if i = 10 then .bool false else if i = 11 then .agg #[.bool n12, .slice a12 l12 c12] else if i = 12 then .string TB else if i = 13 then .string TB else if i = 14 then .bool false else if i = 15 then .bool false else if i = 16 then .bool false else if i = 17 then .agg #[.bool n15, .slice a15 l15 c15] else if i = 18 then .agg #[.bool false, .slice a6 0 c6] else if i = 19 then .bool true else if i = 20 then .bool false else if i = 21 then .bool false else if i = 22 then .bool false else if i = 23 then .pointer (some ⟨g6, 0, none⟩) else if i = 24 then .bool false else if i = 25 then .bool false else if i = 26 then undef else if i = 27 then undef else if i = 28 then undef else if i = 29 then undef else if i = 30 then undef else if i = 31 then undef else if i = 32 then .bool false else if i = 33 then .bool false else undef) := ⟨_, rfl⟩
      have v0 : vals 0 = .bool true := by rw [hvals]; rfl
      have v1 : vals 1 = .bool false := by rw [hvals]; rfl
      have v2 : vals 2 = .bool false := by rw [hvals]; rfl
      have v3 : vals 3 = .bool true := by rw [hvals]; rfl
      have v4 : vals 4 = .bool false := by rw [hvals]; rfl
      have v5 : vals 5 = .bool false := by rw [hvals]; rfl
      have v6 : vals 6 = .bool false := by rw [hvals]; rfl
      have v7 : vals 7 = .bool true := by rw [hvals]; rfl
      have v8 : vals 8 = .bool false := by rw [hvals]; rfl
      have v9 : vals 9 = .bool false := by rw [hvals]; rfl
      have v10 : vals 10 = .bool false := by rw [hvals]; rfl
      have v11 : vals 11 = .agg #[.bool n12, .slice a12 l12 c12] := by rw [hvals]; rfl
      have v12 : vals 12 = .string TB := by rw [hvals]; rfl
      have v13 : vals 13 = .string TB := by rw [hvals]; rfl
      have v14 : vals 14 = .bool false := by rw [hvals]; rfl
      have v15 : vals 15 = .bool false := by rw [hvals]; rfl
      have v16 : vals 16 = .bool false := by rw [hvals]; rfl
      have v17 : vals 17 = .agg #[.bool n15, .slice a15 l15 c15] := by rw [hvals]; rfl
      have v18 : vals 18 = .agg #[.bool false, .slice a6 0 c6] := by rw [hvals]; rfl
      have v19 : vals 19 = .bool true := by rw [hvals]; rfl
      have v20 : vals 20 = .bool false := by rw [hvals]; rfl
      have v21 : vals 21 = .bool false := by rw [hvals]; rfl
      have v22 : vals 22 = .bool false := by rw [hvals]; rfl
      have v23 : vals 23 = .pointer (some ⟨g6, 0, none⟩) := by rw [hvals]; rfl
      have v24 : vals 24 = .bool false := by rw [hvals]; rfl
      have v25 : vals 25 = .bool false := by rw [hvals]; rfl
      have v26 : vals 26 = undef := by rw [hvals]; rfl
      have v27 : vals 27 = undef := by rw [hvals]; rfl
      have v28 : vals 28 = undef := by rw [hvals]; rfl
      have v29 : vals 29 = undef := by rw [hvals]; rfl
      have v30 : vals 30 = undef := by rw [hvals]; rfl
      have v31 : vals 31 = undef := by rw [hvals]; rfl
      have v32 : vals 32 = .bool false := by rw [hvals]; rfl
      have v33 : vals 33 = .bool false := by rw [hvals]; rfl
      clear hvals
      refine regionP_inv (by kernel_rfl) (fun l a w' => RB W15 T [some 74, some 75, some 76, some 77, some 78, some 79, some 80, some 81, some 82, some 83, some 84, some 85, some 86, some 87, some 88, some 89, some 90, some 91, some 92, some 93, some 94, some 95, some 96, some 97, some 98, some 99, some 100, some 101, some 102, some 103, some 104, some 105, some 106, some 107] vals l a w') ?h0b1 ?stepb1 ?finb1
      case h0b1 => exact RB.start rfl (show Below W15.heap.size W15 W15.drew from ⟨rfl, rfl, rfl, Nat.le_refl _, fun _ _ => rfl⟩)
      case stepb1 =>
          rintro l a w' i' hR hi'
          obtain ⟨hl0, o, ho, hdep⟩ := mem_ready.1 hi'
          have h15 : i' < 34 := by
            have := (Array.getElem?_eq_some_iff.1 ho).1
            simpa using this
          have hbl := hR.bl
          have y12a := (B12.out.below hbl).c0
          have y15a := (B15.out.below hbl).c0
          have y6a := (B6.out.below hbl).c0
          have y9a := (B9.out.below hbl).c0
          have y12b := (B12.out.below hbl).c1
          have y15b := (B15.out.below hbl).c1
          have y6b := (B6.out.below hbl).c1
          have y9b := (B9.out.below hbl).c1
          rcases (show i' = 0 ∨ i' = 1 ∨ i' = 2 ∨ i' = 3 ∨ i' = 4 ∨ i' = 5 ∨ i' = 6 ∨ i' = 7 ∨ i' = 8 ∨ i' = 9 ∨ i' = 10 ∨ i' = 11 ∨ i' = 12 ∨ i' = 13 ∨ i' = 14 ∨ i' = 15 ∨ i' = 16 ∨ i' = 17 ∨ i' = 18 ∨ i' = 19 ∨ i' = 20 ∨ i' = 21 ∨ i' = 22 ∨ i' = 23 ∨ i' = 24 ∨ i' = 25 ∨ i' = 26 ∨ i' = 27 ∨ i' = 28 ∨ i' = 29 ∨ i' = 30 ∨ i' = 31 ∨ i' = 32 ∨ i' = 33 by omega) with rfl | rfl | rfl | rfl | rfl | rfl | rfl | rfl | rfl | rfl | rfl | rfl | rfl | rfl | rfl | rfl | rfl | rfl | rfl | rfl | rfl | rfl | rfl | rfl | rfl | rfl | rfl | rfl | rfl | rfl | rfl | rfl | rfl | rfl
          · simp at ho
            subst ho
            simp [Region.binds] at hdep
            have k0 : a.tmps.getD 11 undef = _ := (hR.fr.kept rfl (by simp [hT])).trans (by rw [hT]; try rfl)
            clear hi' hdep
            unfold wpOp
            simp [Region.wanted]
            refine .inl ?_
            unfold Oper.wp
            simp [execOp, go_sem, Act.eval, k0]
            exact hR.op 0 74 v0 rfl (by decide) hl0 (Below.refl _ _)
          · simp at ho
            subst ho
            simp [Region.binds] at hdep
            have k0 : a.tmps.getD 74 undef = _ := (hR.fr.done (i := 0) rfl (by simp_all) (by simp [hT])).trans v0
            clear hi' hdep
            unfold wpOp
            simp [Region.wanted]
            refine .inl ?_
            unfold Oper.wp
            simp [execOp, go_sem, Act.eval, k0]
            exact hR.op 1 75 v1 rfl (by decide) hl0 (Below.refl _ _)
          · simp at ho
            subst ho
            simp [Region.binds] at hdep
            have k0 : a.tmps.getD 75 undef = _ := (hR.fr.done (i := 1) rfl (by simp_all) (by simp [hT])).trans v1
            clear hi' hdep
            unfold wpOp
            simp [Region.wanted]
            refine .inl ?_
            unfold Oper.wp
            simp [execOp, go_sem, Act.eval, k0]
            exact hR.op 2 76 v2 rfl (by decide) hl0 (Below.refl _ _)
          · simp at ho
            subst ho
            simp [Region.binds] at hdep
            have k0 : a.tmps.getD 13 undef = _ := (hR.fr.kept rfl (by simp [hT])).trans (by rw [hT]; try rfl)
            have kg : a.tmps[76]? = some (.bool false) := hR.fr.opt (by simp [hT]) ((hR.fr.done (i := 2) rfl (by simp_all) (by simp [hT])).trans v2)
            clear hi' hdep
            unfold wpOp
            simp [Region.wanted, yielded, kg]
            refine .inl ?_
            unfold Oper.wp
            simp [execOp, go_sem, Act.eval, k0]
            exact hR.op 3 77 v3 rfl (by decide) hl0 (Below.refl _ _)
          · simp at ho
            subst ho
            simp [Region.binds] at hdep
            have k0 : a.tmps.getD 77 undef = _ := (hR.fr.done (i := 3) rfl (by simp_all) (by simp [hT])).trans v3
            have kg : a.tmps[76]? = some (.bool false) := hR.fr.opt (by simp [hT]) ((hR.fr.done (i := 2) rfl (by simp_all) (by simp [hT])).trans v2)
            clear hi' hdep
            unfold wpOp
            simp [Region.wanted, yielded, kg]
            refine .inl ?_
            unfold Oper.wp
            simp [execOp, go_sem, Act.eval, k0]
            exact hR.op 4 78 v4 rfl (by decide) hl0 (Below.refl _ _)
          · simp at ho
            subst ho
            simp [Region.binds] at hdep
            have k0 : a.tmps.getD 76 undef = _ := (hR.fr.done (i := 2) rfl (by simp_all) (by simp [hT])).trans v2
            have k1 : a.tmps.getD 78 undef = _ := (hR.fr.done (i := 4) rfl (by simp_all) (by simp [hT])).trans v4
            clear hi' hdep
            unfold wpOp
            simp [Region.wanted]
            refine .inl ?_
            unfold Oper.wp
            simp [execOp, go_sem, Act.eval, k0, k1]
            exact hR.op 5 79 v5 rfl (by decide) hl0 (Below.refl _ _)
          · simp at ho
            subst ho
            simp [Region.binds] at hdep
            have k0 : a.tmps.getD 79 undef = _ := (hR.fr.done (i := 5) rfl (by simp_all) (by simp [hT])).trans v5
            clear hi' hdep
            unfold wpOp
            simp [Region.wanted]
            refine .inl ?_
            unfold Oper.wp
            simp [execOp, go_sem, Act.eval, k0]
            exact hR.op 6 80 v6 rfl (by decide) hl0 (Below.refl _ _)
          · simp at ho
            subst ho
            simp [Region.binds] at hdep
            have k0 : a.tmps.getD 16 undef = _ := (hR.fr.kept rfl (by simp [hT])).trans (by rw [hT]; try rfl)
            have kg : a.tmps[80]? = some (.bool false) := hR.fr.opt (by simp [hT]) ((hR.fr.done (i := 6) rfl (by simp_all) (by simp [hT])).trans v6)
            clear hi' hdep
            unfold wpOp
            simp [Region.wanted, yielded, kg]
            refine .inl ?_
            unfold Oper.wp
            simp [execOp, go_sem, Act.eval, k0]
            exact hR.op 7 81 v7 rfl (by decide) hl0 (Below.refl _ _)
          · simp at ho
            subst ho
            simp [Region.binds] at hdep
            have k0 : a.tmps.getD 81 undef = _ := (hR.fr.done (i := 7) rfl (by simp_all) (by simp [hT])).trans v7
            have kg : a.tmps[80]? = some (.bool false) := hR.fr.opt (by simp [hT]) ((hR.fr.done (i := 6) rfl (by simp_all) (by simp [hT])).trans v6)
            clear hi' hdep
            unfold wpOp
            simp [Region.wanted, yielded, kg]
            refine .inl ?_
            unfold Oper.wp
            simp [execOp, go_sem, Act.eval, k0]
            exact hR.op 8 82 v8 rfl (by decide) hl0 (Below.refl _ _)
          · simp at ho
            subst ho
            simp [Region.binds] at hdep
            have k0 : a.tmps.getD 80 undef = _ := (hR.fr.done (i := 6) rfl (by simp_all) (by simp [hT])).trans v6
            have k1 : a.tmps.getD 82 undef = _ := (hR.fr.done (i := 8) rfl (by simp_all) (by simp [hT])).trans v8
            clear hi' hdep
            unfold wpOp
            simp [Region.wanted]
            refine .inl ?_
            unfold Oper.wp
            simp [execOp, go_sem, Act.eval, k0, k1]
            exact hR.op 9 83 v9 rfl (by decide) hl0 (Below.refl _ _)
          · simp at ho
            subst ho
            simp [Region.binds] at hdep
            have k0 : a.tmps.getD 83 undef = _ := (hR.fr.done (i := 9) rfl (by simp_all) (by simp [hT])).trans v9
            clear hi' hdep
            unfold wpOp
            simp [Region.wanted]
            refine .inl ?_
            unfold Oper.wp
            simp [execOp, go_sem, Act.eval, k0]
            exact hR.op 10 84 v10 rfl (by decide) hl0 (Below.refl _ _)
          · simp at ho
            subst ho
            simp [Region.binds] at hdep
            have k0 : a.tmps.getD 12 undef = _ := (hR.fr.kept rfl (by simp [hT])).trans (by rw [hT]; try rfl)
            have kg : a.tmps[84]? = some (.bool false) := hR.fr.opt (by simp [hT]) ((hR.fr.done (i := 10) rfl (by simp_all) (by simp [hT])).trans v10)
            clear hi' hdep
            unfold wpOp
            simp [Region.wanted, yielded, kg]
            refine .inl ?_
            unfold Oper.wp
            simp [execOp, go_sem, Act.eval, k0, y12a, y12b]
            exact hR.op 11 85 v11 rfl (by decide) hl0 (Below.refl _ _)
          · simp at ho
            subst ho
            simp [Region.binds] at hdep
            have k0 : a.tmps.getD 85 undef = _ := (hR.fr.done (i := 11) rfl (by simp_all) (by simp [hT])).trans v11
            have kg : a.tmps[84]? = some (.bool false) := hR.fr.opt (by simp [hT]) ((hR.fr.done (i := 10) rfl (by simp_all) (by simp [hT])).trans v10)
            clear hi' hdep
            unfold wpOp
            simp [Region.wanted, yielded, kg]
            refine .inl ?_
            unfold Oper.wp
            simp [execOp, go_sem, Act.eval, k0]
            refine (H12.out _ hbl).mono ?_
            rintro e w'' ⟨rfl, hb⟩
            exact hR.op 12 86 v12 rfl (by decide) hl0 hb
          · simp at ho
            subst ho
            simp [Region.binds] at hdep
            have k0 : a.tmps.getD 14 undef = _ := (hR.fr.kept rfl (by simp [hT])).trans (by rw [hT]; try rfl)
            have kg : a.tmps[84]? = some (.bool false) := hR.fr.opt (by simp [hT]) ((hR.fr.done (i := 10) rfl (by simp_all) (by simp [hT])).trans v10)
            clear hi' hdep
            unfold wpOp
            simp [Region.wanted, yielded, kg]
            refine .inl ?_
            unfold Oper.wp
            simp [execOp, go_sem, Act.eval, k0]
            exact hR.op 13 87 v13 rfl (by decide) hl0 (Below.refl _ _)
          · simp at ho
            subst ho
            simp [Region.binds] at hdep
            have k0 : a.tmps.getD 86 undef = _ := (hR.fr.done (i := 12) rfl (by simp_all) (by simp [hT])).trans v12
            have k1 : a.tmps.getD 87 undef = _ := (hR.fr.done (i := 13) rfl (by simp_all) (by simp [hT])).trans v13
            have kg : a.tmps[84]? = some (.bool false) := hR.fr.opt (by simp [hT]) ((hR.fr.done (i := 10) rfl (by simp_all) (by simp [hT])).trans v10)
            clear hi' hdep
            unfold wpOp
            simp [Region.wanted, yielded, kg]
            refine .inl ?_
            unfold Oper.wp
            simp [execOp, go_sem, Act.eval, k0, k1]
            exact hR.op 14 88 v14 rfl (by decide) hl0 (Below.refl _ _)
          · simp at ho
            subst ho
            simp [Region.binds] at hdep
            have k0 : a.tmps.getD 84 undef = _ := (hR.fr.done (i := 10) rfl (by simp_all) (by simp [hT])).trans v10
            have k1 : a.tmps.getD 88 undef = _ := (hR.fr.done (i := 14) rfl (by simp_all) (by simp [hT])).trans v14
            clear hi' hdep
            unfold wpOp
            simp [Region.wanted]
            refine .inl ?_
            unfold Oper.wp
            simp [execOp, go_sem, Act.eval, k0, k1]
            exact hR.op 15 89 v15 rfl (by decide) hl0 (Below.refl _ _)
          · simp at ho
            subst ho
            simp [Region.binds] at hdep
            have k0 : a.tmps.getD 89 undef = _ := (hR.fr.done (i := 15) rfl (by simp_all) (by simp [hT])).trans v15
            clear hi' hdep
            unfold wpOp
            simp [Region.wanted]
            refine .inl ?_
            unfold Oper.wp
            simp [execOp, go_sem, Act.eval, k0]
            exact hR.op 16 90 v16 rfl (by decide) hl0 (Below.refl _ _)
          · simp at ho
            subst ho
            simp [Region.binds] at hdep
            have k0 : a.tmps.getD 15 undef = _ := (hR.fr.kept rfl (by simp [hT])).trans (by rw [hT]; try rfl)
            have kg : a.tmps[90]? = some (.bool false) := hR.fr.opt (by simp [hT]) ((hR.fr.done (i := 16) rfl (by simp_all) (by simp [hT])).trans v16)
            clear hi' hdep
            unfold wpOp
            simp [Region.wanted, yielded, kg]
            refine .inl ?_
            unfold Oper.wp
            simp [execOp, go_sem, Act.eval, k0, y15a, y15b]
            exact hR.op 17 91 v17 rfl (by decide) hl0 (Below.refl _ _)
          · simp at ho
            subst ho
            simp [Region.binds] at hdep
            have k0 : a.tmps.getD 6 undef = _ := (hR.fr.kept rfl (by simp [hT])).trans (by rw [hT]; try rfl)
            have kg : a.tmps[90]? = some (.bool false) := hR.fr.opt (by simp [hT]) ((hR.fr.done (i := 16) rfl (by simp_all) (by simp [hT])).trans v16)
            clear hi' hdep
            unfold wpOp
            simp [Region.wanted, yielded, kg]
            refine .inl ?_
            unfold Oper.wp
            simp [execOp, go_sem, Act.eval, k0, y6a, y6b]
            exact hR.op 18 92 v18 rfl (by decide) hl0 (Below.refl _ _)
          · simp at ho
            subst ho
            simp [Region.binds] at hdep
            have k0 : a.tmps.getD 91 undef = _ := (hR.fr.done (i := 17) rfl (by simp_all) (by simp [hT])).trans v17
            have k1 : a.tmps.getD 92 undef = _ := (hR.fr.done (i := 18) rfl (by simp_all) (by simp [hT])).trans v18
            have kg : a.tmps[90]? = some (.bool false) := hR.fr.opt (by simp [hT]) ((hR.fr.done (i := 16) rfl (by simp_all) (by simp [hT])).trans v16)
            clear hi' hdep
            unfold wpOp
            simp [Region.wanted, yielded, kg]
            refine .inl ?_
            unfold Oper.wp
            simp [execOp, go_sem, Act.eval, k0, k1]
            refine (H19.out _ hbl).mono ?_
            rintro e w'' ⟨rfl, hb⟩
            exact hR.op 19 93 v19 rfl (by decide) hl0 hb
          · simp at ho
            subst ho
            simp [Region.binds] at hdep
            have k0 : a.tmps.getD 93 undef = _ := (hR.fr.done (i := 19) rfl (by simp_all) (by simp [hT])).trans v19
            have kg : a.tmps[90]? = some (.bool false) := hR.fr.opt (by simp [hT]) ((hR.fr.done (i := 16) rfl (by simp_all) (by simp [hT])).trans v16)
            clear hi' hdep
            unfold wpOp
            simp [Region.wanted, yielded, kg]
            refine .inl ?_
            unfold Oper.wp
            simp [execOp, go_sem, Act.eval, k0]
            exact hR.op 20 94 v20 rfl (by decide) hl0 (Below.refl _ _)
          · simp at ho
            subst ho
            simp [Region.binds] at hdep
            have k0 : a.tmps.getD 90 undef = _ := (hR.fr.done (i := 16) rfl (by simp_all) (by simp [hT])).trans v16
            have k1 : a.tmps.getD 94 undef = _ := (hR.fr.done (i := 20) rfl (by simp_all) (by simp [hT])).trans v20
            clear hi' hdep
            unfold wpOp
            simp [Region.wanted]
            refine .inl ?_
            unfold Oper.wp
            simp [execOp, go_sem, Act.eval, k0, k1]
            exact hR.op 21 95 v21 rfl (by decide) hl0 (Below.refl _ _)
          · simp at ho
            subst ho
            simp [Region.binds] at hdep
            have k0 : a.tmps.getD 95 undef = _ := (hR.fr.done (i := 21) rfl (by simp_all) (by simp [hT])).trans v21
            clear hi' hdep
            unfold wpOp
            simp [Region.wanted]
            refine .inl ?_
            unfold Oper.wp
            simp [execOp, go_sem, Act.eval, k0]
            exact hR.op 22 96 v22 rfl (by decide) hl0 (Below.refl _ _)
          · simp at ho
            subst ho
            simp [Region.binds] at hdep
            have k0 : a.tmps.getD 6 undef = _ := (hR.fr.kept rfl (by simp [hT])).trans (by rw [hT]; try rfl)
            have kg : a.tmps[96]? = some (.bool false) := hR.fr.opt (by simp [hT]) ((hR.fr.done (i := 22) rfl (by simp_all) (by simp [hT])).trans v22)
            clear hi' hdep
            unfold wpOp
            simp [Region.wanted, yielded, kg]
            refine .inl ?_
            unfold Oper.wp
            simp [execOp, go_sem, Act.eval, k0, y6a, y6b]
            exact hR.op 23 97 v23 rfl (by decide) hl0 (Below.refl _ _)
          · simp at ho
            subst ho
            simp [Region.binds] at hdep
            have k0 : a.tmps.getD 97 undef = _ := (hR.fr.done (i := 23) rfl (by simp_all) (by simp [hT])).trans v23
            have kg : a.tmps[96]? = some (.bool false) := hR.fr.opt (by simp [hT]) ((hR.fr.done (i := 22) rfl (by simp_all) (by simp [hT])).trans v22)
            clear hi' hdep
            unfold wpOp
            simp [Region.wanted, yielded, kg]
            refine .inl ?_
            unfold Oper.wp
            simp [execOp, go_sem, Act.eval, k0, y6a, y6b]
            exact hR.op 24 98 v24 rfl (by decide) hl0 (Below.refl _ _)
          · simp at ho
            subst ho
            simp [Region.binds] at hdep
            have k0 : a.tmps.getD 98 undef = _ := (hR.fr.done (i := 24) rfl (by simp_all) (by simp [hT])).trans v24
            have kg : a.tmps[96]? = some (.bool false) := hR.fr.opt (by simp [hT]) ((hR.fr.done (i := 22) rfl (by simp_all) (by simp [hT])).trans v22)
            clear hi' hdep
            unfold wpOp
            simp [Region.wanted, yielded, kg]
            refine .inl ?_
            unfold Oper.wp
            simp [execOp, go_sem, Act.eval, k0]
            exact hR.op 25 99 v25 rfl (by decide) hl0 (Below.refl _ _)
          · simp at ho
            subst ho
            simp [Region.binds] at hdep
            have kg : a.tmps[99]? = some (.bool false) := hR.fr.opt (by simp [hT]) ((hR.fr.done (i := 25) rfl (by simp_all) (by simp [hT])).trans v25)
            clear hi' hdep
            unfold wpOp
            simp [Region.wanted, yielded, kg]
            exact hR.op 26 100 v26 rfl (by decide) hl0 (Below.refl _ _)
          · simp at ho
            subst ho
            simp [Region.binds] at hdep
            have kg : a.tmps[99]? = some (.bool false) := hR.fr.opt (by simp [hT]) ((hR.fr.done (i := 25) rfl (by simp_all) (by simp [hT])).trans v25)
            clear hi' hdep
            unfold wpOp
            simp [Region.wanted, yielded, kg]
            exact hR.op 27 101 v27 rfl (by decide) hl0 (Below.refl _ _)
          · simp at ho
            subst ho
            simp [Region.binds] at hdep
            have kg : a.tmps[99]? = some (.bool false) := hR.fr.opt (by simp [hT]) ((hR.fr.done (i := 25) rfl (by simp_all) (by simp [hT])).trans v25)
            clear hi' hdep
            unfold wpOp
            simp [Region.wanted, yielded, kg]
            exact hR.op 28 102 v28 rfl (by decide) hl0 (Below.refl _ _)
          · simp at ho
            subst ho
            simp [Region.binds] at hdep
            have kg : a.tmps[99]? = some (.bool false) := hR.fr.opt (by simp [hT]) ((hR.fr.done (i := 25) rfl (by simp_all) (by simp [hT])).trans v25)
            clear hi' hdep
            unfold wpOp
            simp [Region.wanted, yielded, kg]
            exact hR.op 29 103 v29 rfl (by decide) hl0 (Below.refl _ _)
          · simp at ho
            subst ho
            simp [Region.binds] at hdep
            have kg : a.tmps[99]? = some (.bool false) := hR.fr.opt (by simp [hT]) ((hR.fr.done (i := 25) rfl (by simp_all) (by simp [hT])).trans v25)
            clear hi' hdep
            unfold wpOp
            simp [Region.wanted, yielded, kg]
            exact hR.op 30 104 v30 rfl (by decide) hl0 (Below.refl _ _)
          · simp at ho
            subst ho
            simp [Region.binds] at hdep
            have kg : a.tmps[99]? = some (.bool false) := hR.fr.opt (by simp [hT]) ((hR.fr.done (i := 25) rfl (by simp_all) (by simp [hT])).trans v25)
            clear hi' hdep
            unfold wpOp
            simp [Region.wanted, yielded, kg]
            exact hR.op 31 105 v31 rfl (by decide) hl0 (Below.refl _ _)
          · simp at ho
            subst ho
            simp [Region.binds] at hdep
            have k0 : a.tmps.getD 99 undef = _ := (hR.fr.done (i := 25) rfl (by simp_all) (by simp [hT])).trans v25
            have k1 : a.tmps.getD 105 undef = _ := (hR.fr.done (i := 31) rfl (by simp_all) (by simp [hT])).trans v31
            have kg : a.tmps[96]? = some (.bool false) := hR.fr.opt (by simp [hT]) ((hR.fr.done (i := 22) rfl (by simp_all) (by simp [hT])).trans v22)
            clear hi' hdep
            unfold wpOp
            simp [Region.wanted, yielded, kg]
            refine .inl ?_
            unfold Oper.wp
            simp [execOp, go_sem, Act.eval, k0, k1]
            exact hR.op 32 106 v32 rfl (by decide) hl0 (Below.refl _ _)
          · simp at ho
            subst ho
            simp [Region.binds] at hdep
            have k0 : a.tmps.getD 96 undef = _ := (hR.fr.done (i := 22) rfl (by simp_all) (by simp [hT])).trans v22
            have k1 : a.tmps.getD 106 undef = _ := (hR.fr.done (i := 32) rfl (by simp_all) (by simp [hT])).trans v32
            clear hi' hdep
            unfold wpOp
            simp [Region.wanted]
            refine .inl ?_
            unfold Oper.wp
            simp [execOp, go_sem, Act.eval, k0, k1]
            exact hR.op 33 107 v33 rfl (by decide) hl0 (Below.refl _ _)
      case' finb1 =>
          rintro l a W16 hR hz
          have hnot := List.eq_nil_iff_forall_not_mem.1 hz
          have hk : ∀ k, k < 34 → (l.getD k true = false → False) → l.getD k false = true := fun k h12 h => by
            have hs := hR.size
            cases h' : l.getD k true with
            | false => exact (h h').elim
            | true => simp at hs; simp [Array.getD, hs, h12] at h' ⊢; exact h'
          have st0 := hk 0 (by omega) (fun h => hnot 0 (mem_ready.2 ⟨h, _, rfl, by simp [Region.binds] <;> simp_all⟩))
          have st1 := hk 1 (by omega) (fun h => hnot 1 (mem_ready.2 ⟨h, _, rfl, by simp [Region.binds] <;> simp_all⟩))
          have st2 := hk 2 (by omega) (fun h => hnot 2 (mem_ready.2 ⟨h, _, rfl, by simp [Region.binds] <;> simp_all⟩))
          have st3 := hk 3 (by omega) (fun h => hnot 3 (mem_ready.2 ⟨h, _, rfl, by simp [Region.binds] <;> simp_all⟩))
          have st4 := hk 4 (by omega) (fun h => hnot 4 (mem_ready.2 ⟨h, _, rfl, by simp [Region.binds] <;> simp_all⟩))
          have st5 := hk 5 (by omega) (fun h => hnot 5 (mem_ready.2 ⟨h, _, rfl, by simp [Region.binds] <;> simp_all⟩))
          have st6 := hk 6 (by omega) (fun h => hnot 6 (mem_ready.2 ⟨h, _, rfl, by simp [Region.binds] <;> simp_all⟩))
          have st7 := hk 7 (by omega) (fun h => hnot 7 (mem_ready.2 ⟨h, _, rfl, by simp [Region.binds] <;> simp_all⟩))
          have st8 := hk 8 (by omega) (fun h => hnot 8 (mem_ready.2 ⟨h, _, rfl, by simp [Region.binds] <;> simp_all⟩))
          have st9 := hk 9 (by omega) (fun h => hnot 9 (mem_ready.2 ⟨h, _, rfl, by simp [Region.binds] <;> simp_all⟩))
          have st10 := hk 10 (by omega) (fun h => hnot 10 (mem_ready.2 ⟨h, _, rfl, by simp [Region.binds] <;> simp_all⟩))
          have st11 := hk 11 (by omega) (fun h => hnot 11 (mem_ready.2 ⟨h, _, rfl, by simp [Region.binds] <;> simp_all⟩))
          have st12 := hk 12 (by omega) (fun h => hnot 12 (mem_ready.2 ⟨h, _, rfl, by simp [Region.binds] <;> simp_all⟩))
          have st13 := hk 13 (by omega) (fun h => hnot 13 (mem_ready.2 ⟨h, _, rfl, by simp [Region.binds] <;> simp_all⟩))
          have st14 := hk 14 (by omega) (fun h => hnot 14 (mem_ready.2 ⟨h, _, rfl, by simp [Region.binds] <;> simp_all⟩))
          have st15 := hk 15 (by omega) (fun h => hnot 15 (mem_ready.2 ⟨h, _, rfl, by simp [Region.binds] <;> simp_all⟩))
          have st16 := hk 16 (by omega) (fun h => hnot 16 (mem_ready.2 ⟨h, _, rfl, by simp [Region.binds] <;> simp_all⟩))
          have st17 := hk 17 (by omega) (fun h => hnot 17 (mem_ready.2 ⟨h, _, rfl, by simp [Region.binds] <;> simp_all⟩))
          have st18 := hk 18 (by omega) (fun h => hnot 18 (mem_ready.2 ⟨h, _, rfl, by simp [Region.binds] <;> simp_all⟩))
          have st19 := hk 19 (by omega) (fun h => hnot 19 (mem_ready.2 ⟨h, _, rfl, by simp [Region.binds] <;> simp_all⟩))
          have st20 := hk 20 (by omega) (fun h => hnot 20 (mem_ready.2 ⟨h, _, rfl, by simp [Region.binds] <;> simp_all⟩))
          have st21 := hk 21 (by omega) (fun h => hnot 21 (mem_ready.2 ⟨h, _, rfl, by simp [Region.binds] <;> simp_all⟩))
          have st22 := hk 22 (by omega) (fun h => hnot 22 (mem_ready.2 ⟨h, _, rfl, by simp [Region.binds] <;> simp_all⟩))
          have st23 := hk 23 (by omega) (fun h => hnot 23 (mem_ready.2 ⟨h, _, rfl, by simp [Region.binds] <;> simp_all⟩))
          have st24 := hk 24 (by omega) (fun h => hnot 24 (mem_ready.2 ⟨h, _, rfl, by simp [Region.binds] <;> simp_all⟩))
          have st25 := hk 25 (by omega) (fun h => hnot 25 (mem_ready.2 ⟨h, _, rfl, by simp [Region.binds] <;> simp_all⟩))
          have st26 := hk 26 (by omega) (fun h => hnot 26 (mem_ready.2 ⟨h, _, rfl, by simp [Region.binds] <;> simp_all⟩))
          have st27 := hk 27 (by omega) (fun h => hnot 27 (mem_ready.2 ⟨h, _, rfl, by simp [Region.binds] <;> simp_all⟩))
          have st28 := hk 28 (by omega) (fun h => hnot 28 (mem_ready.2 ⟨h, _, rfl, by simp [Region.binds] <;> simp_all⟩))
          have st29 := hk 29 (by omega) (fun h => hnot 29 (mem_ready.2 ⟨h, _, rfl, by simp [Region.binds] <;> simp_all⟩))
          have st30 := hk 30 (by omega) (fun h => hnot 30 (mem_ready.2 ⟨h, _, rfl, by simp [Region.binds] <;> simp_all⟩))
          have st31 := hk 31 (by omega) (fun h => hnot 31 (mem_ready.2 ⟨h, _, rfl, by simp [Region.binds] <;> simp_all⟩))
          have st32 := hk 32 (by omega) (fun h => hnot 32 (mem_ready.2 ⟨h, _, rfl, by simp [Region.binds] <;> simp_all⟩))
          have st33 := hk 33 (by omega) (fun h => hnot 33 (mem_ready.2 ⟨h, _, rfl, by simp [Region.binds] <;> simp_all⟩))
          have hall : ∀ i, i < 34 → l.getD i true = true := fun i hi => by
            rcases (show i = 0 ∨ i = 1 ∨ i = 2 ∨ i = 3 ∨ i = 4 ∨ i = 5 ∨ i = 6 ∨ i = 7 ∨ i = 8 ∨ i = 9 ∨ i = 10 ∨ i = 11 ∨ i = 12 ∨ i = 13 ∨ i = 14 ∨ i = 15 ∨ i = 16 ∨ i = 17 ∨ i = 18 ∨ i = 19 ∨ i = 20 ∨ i = 21 ∨ i = 22 ∨ i = 23 ∨ i = 24 ∨ i = 25 ∨ i = 26 ∨ i = 27 ∨ i = 28 ∨ i = 29 ∨ i = 30 ∨ i = 31 ∨ i = 32 ∨ i = 33 by omega) with rfl | rfl | rfl | rfl | rfl | rfl | rfl | rfl | rfl | rfl | rfl | rfl | rfl | rfl | rfl | rfl | rfl | rfl | rfl | rfl | rfl | rfl | rfl | rfl | rfl | rfl | rfl | rfl | rfl | rfl | rfl | rfl | rfl | rfl
            · exact getD_true st0
            · exact getD_true st1
            · exact getD_true st2
            · exact getD_true st3
            · exact getD_true st4
            · exact getD_true st5
            · exact getD_true st6
            · exact getD_true st7
            · exact getD_true st8
            · exact getD_true st9
            · exact getD_true st10
            · exact getD_true st11
            · exact getD_true st12
            · exact getD_true st13
            · exact getD_true st14
            · exact getD_true st15
            · exact getD_true st16
            · exact getD_true st17
            · exact getD_true st18
            · exact getD_true st19
            · exact getD_true st20
            · exact getD_true st21
            · exact getD_true st22
            · exact getD_true st23
            · exact getD_true st24
            · exact getD_true st25
            · exact getD_true st26
            · exact getD_true st27
            · exact getD_true st28
            · exact getD_true st29
            · exact getD_true st30
            · exact getD_true st31
            · exact getD_true st32
            · exact getD_true st33
          clear st0 st1 st2 st3 st4 st5 st6 st7 st8 st9 st10 st11 st12 st13 st14 st15 st16 st17 st18 st19 st20 st21 st22 st23 st24 st25 st26 st27 st28 st29 st30 st31 st32 st33 hk hnot hz
          have hTs : T.size = 189 := by rw [hT]; rfl
          have ha := hR.all (T' := ((((((((((((((((((((((((((((((((((T.setIfInBounds 74 (vals 0)).setIfInBounds 75 (vals 1)).setIfInBounds 76 (vals 2)).setIfInBounds 77 (vals 3)).setIfInBounds 78 (vals 4)).setIfInBounds 79 (vals 5)).setIfInBounds 80 (vals 6)).setIfInBounds 81 (vals 7)).setIfInBounds 82 (vals 8)).setIfInBounds 83 (vals 9)).setIfInBounds 84 (vals 10)).setIfInBounds 85 (vals 11)).setIfInBounds 86 (vals 12)).setIfInBounds 87 (vals 13)).setIfInBounds 88 (vals 14)).setIfInBounds 89 (vals 15)).setIfInBounds 90 (vals 16)).setIfInBounds 91 (vals 17)).setIfInBounds 92 (vals 18)).setIfInBounds 93 (vals 19)).setIfInBounds 94 (vals 20)).setIfInBounds 95 (vals 21)).setIfInBounds 96 (vals 22)).setIfInBounds 97 (vals 23)).setIfInBounds 98 (vals 24)).setIfInBounds 99 (vals 25)).setIfInBounds 100 (vals 26)).setIfInBounds 101 (vals 27)).setIfInBounds 102 (vals 28)).setIfInBounds 103 (vals 29)).setIfInBounds 104 (vals 30)).setIfInBounds 105 (vals 31)).setIfInBounds 106 (vals 32)).setIfInBounds 107 (vals 33))) (fun i hi => hall i (by simpa using hi)) (by simp) (fun j hj => by
            by_cases h1 : j = 74 ∨ j = 75 ∨ j = 76 ∨ j = 77 ∨ j = 78 ∨ j = 79 ∨ j = 80 ∨ j = 81 ∨ j = 82 ∨ j = 83 ∨ j = 84 ∨ j = 85 ∨ j = 86 ∨ j = 87 ∨ j = 88 ∨ j = 89 ∨ j = 90 ∨ j = 91 ∨ j = 92 ∨ j = 93 ∨ j = 94 ∨ j = 95 ∨ j = 96 ∨ j = 97 ∨ j = 98 ∨ j = 99 ∨ j = 100 ∨ j = 101 ∨ j = 102 ∨ j = 103 ∨ j = 104 ∨ j = 105 ∨ j = 106 ∨ j = 107
            · rcases h1 with rfl | rfl | rfl | rfl | rfl | rfl | rfl | rfl | rfl | rfl | rfl | rfl | rfl | rfl | rfl | rfl | rfl | rfl | rfl | rfl | rfl | rfl | rfl | rfl | rfl | rfl | rfl | rfl | rfl | rfl | rfl | rfl | rfl | rfl <;> simp [rv_sets, tOwn, List.findIdx?, List.findIdx?.go, hTs]
            · simp only [not_or] at h1
              obtain ⟨m74, m75, m76, m77, m78, m79, m80, m81, m82, m83, m84, m85, m86, m87, m88, m89, m90, m91, m92, m93, m94, m95, m96, m97, m98, m99, m100, m101, m102, m103, m104, m105, m106, m107⟩ := h1
              have e : tOwn [some 74, some 75, some 76, some 77, some 78, some 79, some 80, some 81, some 82, some 83, some 84, some 85, some 86, some 87, some 88, some 89, some 90, some 91, some 92, some 93, some 94, some 95, some 96, some 97, some 98, some 99, some 100, some 101, some 102, some 103, some 104, some 105, some 106, some 107] vals j = none := by
                unfold tOwn
                simp [List.findIdx?, List.findIdx?.go, Ne.symm m74, Ne.symm m75, Ne.symm m76, Ne.symm m77, Ne.symm m78, Ne.symm m79, Ne.symm m80, Ne.symm m81, Ne.symm m82, Ne.symm m83, Ne.symm m84, Ne.symm m85, Ne.symm m86, Ne.symm m87, Ne.symm m88, Ne.symm m89, Ne.symm m90, Ne.symm m91, Ne.symm m92, Ne.symm m93, Ne.symm m94, Ne.symm m95, Ne.symm m96, Ne.symm m97, Ne.symm m98, Ne.symm m99, Ne.symm m100, Ne.symm m101, Ne.symm m102, Ne.symm m103, Ne.symm m104, Ne.symm m105, Ne.symm m106, Ne.symm m107]
              rw [e]
              simp only [rv_sets]
              repeat rw [if_neg (by omega)])
          have hbl := hR.bl
          subst ha
          clear hR hall hTs
          rw [v0, v1, v2, v3, v4, v5, v6, v7, v8, v9, v10, v11, v12, v13, v14, v15, v16, v17, v18, v19, v20, v21, v22, v23, v24, v25, v26, v27, v28, v29, v30, v31, v32, v33, hT]
          simp only [List.setIfInBounds_toArray, List.set_cons_succ, List.set_cons_zero]
          clear v0 v1 v2 v3 v4 v5 v6 v7 v8 v9 v10 v11 v12 v13 v14 v15 v16 v17 v18 v19 v20 v21 v22 v23 v24 v25 v26 v27 v28 v29 v30 v31 v32 v33 vals hT T
      have hb := hbl
      (try have B6 := Lib.hid (B6.out.below hb))
      (try have B7 := Lib.hid (B7.out.below hb))
      (try have B9 := Lib.hid (B9.out.below hb))
      have HWW := step1 HW HZ hb
      have HW := HWW.1
      have HZ := HWW.2
      have HDD := step1 HD HE hb
      have HD := HDD.1
      have HE := HDD.2
      clear HWW HDD
      clear hb hbl hroom2 hroom3
      clear H12 H6 H9 H19 B10 B12 B15
      have p6 := B6.out.c0
      have q6 := B6.out.c1
      have p7 := B7.out.c0
      have q7 := B7.out.c1
      go_upto_region 13 with fail
      go_upto_region 14 with (first | (go_at_call 30; refine (mul_fit M B6.out.nu B7.out.nu EM.out FM.out).mono ?_; rintro e wz ⟨n17, a17, l17, c17, rfl, hn, hb⟩; (try have B6 := Lib.hid (B6.out.below hb)); (try have B7 := Lib.hid (B7.out.below hb)); (try have B9 := Lib.hid (B9.out.below hb)); have HWW := step1 HW HZ hb; have HW := HWW.1; have HZ := HWW.2; have HDD := step1 HD HE hb; have HD := HDD.1; have HE := HDD.2; clear HWW HDD; have NB := Lib.hid hn; clear hn hb))
      obtain ⟨W17, hW⟩ : ∃ X, X = wz.alloc (.cells #[.bool n17, .slice a17 l17 c17] 27) := ⟨_, rfl⟩
      obtain ⟨g17, hg⟩ : ∃ g, g = wz.heap.size := ⟨_, rfl⟩
      have hb : Below wz.heap.size wz W17 := by rw [hW]; exact alloc_b _ _
      have B17 : Hid (Bx W17 g17 n17 a17 l17 c17 M) := Lib.hid (by rw [hW, hg]; exact bx_new NB.out)
      rw [← hW, ← hg]
      clear hW hg NB
      (try have B6 := Lib.hid (B6.out.below hb))
      (try have B7 := Lib.hid (B7.out.below hb))
      (try have B9 := Lib.hid (B9.out.below hb))
      have HWW := step1 HW HZ hb
      have HW := HWW.1
      have HZ := HWW.2
      have HDD := step1 HD HE hb
      have HD := HDD.1
      have HE := HDD.2
      clear HWW HDD
      clear hb
      clear p6 q6 p7 q7
      have hkA : ∃ K, K = bitsB (decide (A < 0)) (digs A.natAbs) := ⟨_, rfl⟩
      obtain ⟨KA, hKA⟩ := hkA
      have hkB : ∃ K, K = bitsB (decide (B < 0)) (digs B.natAbs) := ⟨_, rfl⟩
      obtain ⟨KB, hKB⟩ := hkB
      have HA33 : Hid (∀ W, Below W17.heap.size W17 W → Calls Tryz.prog 33 #[.agg #[.bool false, .slice a6 0 c6]] W fun e w' => e = .returned (.int .i64 (KA : Nat)) ∧ Below W.heap.size W w') := Lib.hid (fun W h => bits_nu (B6.out.nu.below h) KA hKA.symm)
      have HB33 : Hid (∀ W, Below W17.heap.size W17 W → Calls Tryz.prog 33 #[.agg #[.bool n7, .slice a7 l7 c7]] W fun e w' => e = .returned (.int .i64 (KB : Nat)) ∧ Below W.heap.size W w') := Lib.hid (fun W h => bits_nu (B7.out.nu.below h) KB hKB.symm)
      have HKA := Lib.hid hKA
      have HKB := Lib.hid hKB
      clear hKA hKB
      refine frame_named ?_
      intro T hT
      obtain ⟨vals, hvals⟩ : ∃ vals : Nat → Value, vals = (fun i => if i = 0 then .agg #[.bool false, .slice a6 0 c6] else if i = 1 then .int .i64 (KA : Nat) else if i = 2 then .agg #[.bool n7, .slice a7 l7 c7] else if i = 3 then .int .i64 (KB : Nat) else if i = 4 then .int .i64 (KA : Nat) else if i = 5 then .int .i64 (KB : Nat) else undef) := ⟨_, rfl⟩
      have v0 : vals 0 = .agg #[.bool false, .slice a6 0 c6] := by rw [hvals]; rfl
      have v1 : vals 1 = .int .i64 (KA : Nat) := by rw [hvals]; rfl
      have v2 : vals 2 = .agg #[.bool n7, .slice a7 l7 c7] := by rw [hvals]; rfl
      have v3 : vals 3 = .int .i64 (KB : Nat) := by rw [hvals]; rfl
      have v4 : vals 4 = .int .i64 (KA : Nat) := by rw [hvals]; rfl
      have v5 : vals 5 = .int .i64 (KB : Nat) := by rw [hvals]; rfl
      clear hvals
      refine regionP_inv (by kernel_rfl) (fun l a w' => RB W17 T [some 114, some 115, some 116, some 117, some 19, some 20] vals l a w') ?h0b2 ?stepb2 ?finb2
      case h0b2 => exact RB.start rfl (show Below W17.heap.size W17 W17.drew from ⟨rfl, rfl, rfl, Nat.le_refl _, fun _ _ => rfl⟩)
      case stepb2 =>
          rintro l a w' i' hR hi'
          obtain ⟨hl0, o, ho, hdep⟩ := mem_ready.1 hi'
          have h15 : i' < 6 := by
            have := (Array.getElem?_eq_some_iff.1 ho).1
            simpa using this
          have hbl := hR.bl
          have y6a := (B6.out.below hbl).c0
          have y7a := (B7.out.below hbl).c0
          have y6b := (B6.out.below hbl).c1
          have y7b := (B7.out.below hbl).c1
          rcases (show i' = 0 ∨ i' = 1 ∨ i' = 2 ∨ i' = 3 ∨ i' = 4 ∨ i' = 5 by omega) with rfl | rfl | rfl | rfl | rfl | rfl
          · simp at ho
            subst ho
            simp [Region.binds] at hdep
            have k0 : a.tmps.getD 6 undef = _ := (hR.fr.kept rfl (by simp [hT])).trans (by rw [hT]; try rfl)
            clear hi' hdep
            unfold wpOp
            simp [Region.wanted]
            refine .inl ?_
            unfold Oper.wp
            simp [execOp, go_sem, Act.eval, k0, y6a, y6b]
            exact hR.op 0 114 v0 rfl (by decide) hl0 (Below.refl _ _)
          · simp at ho
            subst ho
            simp [Region.binds] at hdep
            have k0 : a.tmps.getD 114 undef = _ := (hR.fr.done (i := 0) rfl (by simp_all) (by simp [hT])).trans v0
            clear hi' hdep
            unfold wpOp
            simp [Region.wanted]
            refine .inl ?_
            unfold Oper.wp
            simp [execOp, go_sem, Act.eval, k0]
            refine (HA33.out _ hbl).mono ?_
            rintro e w'' ⟨rfl, hb⟩
            exact hR.op 1 115 v1 rfl (by decide) hl0 hb
          · simp at ho
            subst ho
            simp [Region.binds] at hdep
            have k0 : a.tmps.getD 7 undef = _ := (hR.fr.kept rfl (by simp [hT])).trans (by rw [hT]; try rfl)
            clear hi' hdep
            unfold wpOp
            simp [Region.wanted]
            refine .inl ?_
            unfold Oper.wp
            simp [execOp, go_sem, Act.eval, k0, y7a, y7b]
            exact hR.op 2 116 v2 rfl (by decide) hl0 (Below.refl _ _)
          · simp at ho
            subst ho
            simp [Region.binds] at hdep
            have k0 : a.tmps.getD 116 undef = _ := (hR.fr.done (i := 2) rfl (by simp_all) (by simp [hT])).trans v2
            clear hi' hdep
            unfold wpOp
            simp [Region.wanted]
            refine .inl ?_
            unfold Oper.wp
            simp [execOp, go_sem, Act.eval, k0]
            refine (HB33.out _ hbl).mono ?_
            rintro e w'' ⟨rfl, hb⟩
            exact hR.op 3 117 v3 rfl (by decide) hl0 hb
          · simp at ho
            subst ho
            simp [Region.binds] at hdep
            have k0 : a.tmps.getD 115 undef = _ := (hR.fr.done (i := 1) rfl (by simp_all) (by simp [hT])).trans v1
            clear hi' hdep
            unfold wpOp
            simp [Region.wanted]
            refine .inl ?_
            unfold Oper.wp
            simp [execOp, go_sem, Act.eval, k0]
            exact hR.op 4 19 v4 rfl (by decide) hl0 (Below.refl _ _)
          · simp at ho
            subst ho
            simp [Region.binds] at hdep
            have k0 : a.tmps.getD 117 undef = _ := (hR.fr.done (i := 3) rfl (by simp_all) (by simp [hT])).trans v3
            clear hi' hdep
            unfold wpOp
            simp [Region.wanted]
            refine .inl ?_
            unfold Oper.wp
            simp [execOp, go_sem, Act.eval, k0]
            exact hR.op 5 20 v5 rfl (by decide) hl0 (Below.refl _ _)
      case' finb2 =>
          rintro l a W18 hR hz
          have hnot := List.eq_nil_iff_forall_not_mem.1 hz
          have hk : ∀ k, k < 6 → (l.getD k true = false → False) → l.getD k false = true := fun k h12 h => by
            have hs := hR.size
            cases h' : l.getD k true with
            | false => exact (h h').elim
            | true => simp at hs; simp [Array.getD, hs, h12] at h' ⊢; exact h'
          have st0 := hk 0 (by omega) (fun h => hnot 0 (mem_ready.2 ⟨h, _, rfl, by simp [Region.binds] <;> simp_all⟩))
          have st1 := hk 1 (by omega) (fun h => hnot 1 (mem_ready.2 ⟨h, _, rfl, by simp [Region.binds] <;> simp_all⟩))
          have st2 := hk 2 (by omega) (fun h => hnot 2 (mem_ready.2 ⟨h, _, rfl, by simp [Region.binds] <;> simp_all⟩))
          have st3 := hk 3 (by omega) (fun h => hnot 3 (mem_ready.2 ⟨h, _, rfl, by simp [Region.binds] <;> simp_all⟩))
          have st4 := hk 4 (by omega) (fun h => hnot 4 (mem_ready.2 ⟨h, _, rfl, by simp [Region.binds] <;> simp_all⟩))
          have st5 := hk 5 (by omega) (fun h => hnot 5 (mem_ready.2 ⟨h, _, rfl, by simp [Region.binds] <;> simp_all⟩))
          have hall : ∀ i, i < 6 → l.getD i true = true := fun i hi => by
            rcases (show i = 0 ∨ i = 1 ∨ i = 2 ∨ i = 3 ∨ i = 4 ∨ i = 5 by omega) with rfl | rfl | rfl | rfl | rfl | rfl
            · exact getD_true st0
            · exact getD_true st1
            · exact getD_true st2
            · exact getD_true st3
            · exact getD_true st4
            · exact getD_true st5
          clear st0 st1 st2 st3 st4 st5 hk hnot hz
          have hTs : T.size = 189 := by rw [hT]; rfl
          have ha := hR.all (T' := ((((((T.setIfInBounds 114 (vals 0)).setIfInBounds 115 (vals 1)).setIfInBounds 116 (vals 2)).setIfInBounds 117 (vals 3)).setIfInBounds 19 (vals 4)).setIfInBounds 20 (vals 5))) (fun i hi => hall i (by simpa using hi)) (by simp) (fun j hj => by
            by_cases h1 : j = 114 ∨ j = 115 ∨ j = 116 ∨ j = 117 ∨ j = 19 ∨ j = 20
            · rcases h1 with rfl | rfl | rfl | rfl | rfl | rfl <;> simp [rv_sets, tOwn, List.findIdx?, List.findIdx?.go, hTs]
            · simp only [not_or] at h1
              obtain ⟨m114, m115, m116, m117, m19, m20⟩ := h1
              have e : tOwn [some 114, some 115, some 116, some 117, some 19, some 20] vals j = none := by
                unfold tOwn
                simp [List.findIdx?, List.findIdx?.go, Ne.symm m114, Ne.symm m115, Ne.symm m116, Ne.symm m117, Ne.symm m19, Ne.symm m20]
              rw [e]
              simp only [rv_sets]
              repeat rw [if_neg (by omega)])
          have hbl := hR.bl
          subst ha
          clear hR hall hTs
          rw [v0, v1, v2, v3, v4, v5, hT]
          simp only [List.setIfInBounds_toArray, List.set_cons_succ, List.set_cons_zero]
          clear v0 v1 v2 v3 v4 v5 vals hT T
      have hb := hbl
      (try have B6 := Lib.hid (B6.out.below hb))
      (try have B7 := Lib.hid (B7.out.below hb))
      (try have B9 := Lib.hid (B9.out.below hb))
      (try have B17 := Lib.hid (B17.out.below hb))
      have HWW := step1 HW HZ hb
      have HW := HWW.1
      have HZ := HWW.2
      have HDD := step1 HD HE hb
      have HD := HDD.1
      have HE := HDD.2
      clear HWW HDD
      clear hb hbl HA33 HB33
      have p6 := B6.out.c0
      have q6 := B6.out.c1
      have p17 := B17.out.c0
      have q17 := B17.out.c1
      have hKA0 : KA = 0 := by rw [HKA.out, HA0.out]; exact bits_0
      clear HKA
      subst hKA0
      have hKA6 : Hid (0 < 9223372036854775808) := Lib.hid (by omega)
      have hKJ6 : Hid (0 < 9223372036854775808) := Lib.hid (by omega)
      obtain ⟨PA, hPA⟩ : ∃ P : Int, P = 2 ^ 0 := ⟨_, rfl⟩
      obtain ⟨PB, hPB⟩ : ∃ P : Int, P = 2 ^ 0 := ⟨_, rfl⟩
      have EPA : Hid ((2 : Int) ^ 0 = PA) := Lib.hid hPA.symm
      have EPB : Hid ((2 : Int) ^ 0 = PB) := Lib.hid hPB.symm
      have FPA : Hid (fitsB PA.natAbs = true) := Lib.hid (by rw [hPA]; exact fits_two (by omega))
      have FPB : Hid (fitsB PB.natAbs = true) := Lib.hid (by rw [hPB]; exact fits_two (by omega))
      have hUA : (U : Int) < PA := by rw [hPA, HHU.out, HA0.out]; decide
      clear hPA hPB
      have hM0 : M = 0 := by rw [HHM.out, HA0.out]; exact Int.zero_mul _
      have hl17 : l17 = 0 := by have := nu_len B17.out.nu; rw [hM0] at this; rw [this]; exact congrArg List.length digs_zero
      subst hl17
      clear hM0
      go_upto_region 17 with fail
      go_upto_region 18 with (first | (go_at_call 27; refine (of_X 2 _ (by decide) (by decide)).mono ?_; rintro e wz ⟨x, rfl, hn, hb⟩; (try have B6 := Lib.hid (B6.out.below hb)); (try have B9 := Lib.hid (B9.out.below hb)); have HWW := step1 HW HZ hb; have HW := HWW.1; have HZ := HWW.2; have HDD := step1 HD HE hb; have HD := HDD.1; have HE := HDD.2; clear HWW HDD; have NB := Lib.hid hn; clear hn hb) | (go_at_call 20; refine (pow_fit PA 0 NB.out hKA6.out EPA.out FPA.out).mono ?_; rintro e wz ⟨n21, a21, l21, c21, rfl, hn, hb⟩; (try have B6 := Lib.hid (B6.out.below hb)); (try have B9 := Lib.hid (B9.out.below hb)); have HWW := step1 HW HZ hb; have HW := HWW.1; have HZ := HWW.2; have HDD := step1 HD HE hb; have HD := HDD.1; have HE := HDD.2; clear HWW HDD; have NB := Lib.hid hn; clear hn hb))
      obtain ⟨W21, hW⟩ : ∃ X, X = wz.alloc (.cells #[.bool n21, .slice a21 l21 c21] 27) := ⟨_, rfl⟩
      obtain ⟨g21, hg⟩ : ∃ g, g = wz.heap.size := ⟨_, rfl⟩
      have hb : Below wz.heap.size wz W21 := by rw [hW]; exact alloc_b _ _
      have B21 : Hid (Bx W21 g21 n21 a21 l21 c21 PA) := Lib.hid (by rw [hW, hg]; exact bx_new NB.out)
      rw [← hW, ← hg]
      clear hW hg NB
      (try have B6 := Lib.hid (B6.out.below hb))
      (try have B9 := Lib.hid (B9.out.below hb))
      have HWW := step1 HW HZ hb
      have HW := HWW.1
      have HZ := HWW.2
      have HDD := step1 HD HE hb
      have HD := HDD.1
      have HE := HDD.2
      clear HWW HDD
      clear hb
      go_upto_region 19 with (first | (go_at_call 27; refine (of_X 2 _ (by decide) (by decide)).mono ?_; rintro e wz ⟨x, rfl, hn, hb⟩; (try have B6 := Lib.hid (B6.out.below hb)); (try have B9 := Lib.hid (B9.out.below hb)); (try have B21 := Lib.hid (B21.out.below hb)); have HWW := step1 HW HZ hb; have HW := HWW.1; have HZ := HWW.2; have HDD := step1 HD HE hb; have HD := HDD.1; have HE := HDD.2; clear HWW HDD; have NB := Lib.hid hn; clear hn hb) | (go_at_call 20; refine (pow_fit PB 0 NB.out hKJ6.out EPB.out FPB.out).mono ?_; rintro e wz ⟨n23, a23, l23, c23, rfl, hn, hb⟩; (try have B6 := Lib.hid (B6.out.below hb)); (try have B9 := Lib.hid (B9.out.below hb)); (try have B21 := Lib.hid (B21.out.below hb)); have HWW := step1 HW HZ hb; have HW := HWW.1; have HZ := HWW.2; have HDD := step1 HD HE hb; have HD := HDD.1; have HE := HDD.2; clear HWW HDD; have NB := Lib.hid hn; clear hn hb))
      obtain ⟨W23, hW⟩ : ∃ X, X = wz.alloc (.cells #[.bool n23, .slice a23 l23 c23] 27) := ⟨_, rfl⟩
      obtain ⟨g23, hg⟩ : ∃ g, g = wz.heap.size := ⟨_, rfl⟩
      have hb : Below wz.heap.size wz W23 := by rw [hW]; exact alloc_b _ _
      have B23 : Hid (Bx W23 g23 n23 a23 l23 c23 PB) := Lib.hid (by rw [hW, hg]; exact bx_new NB.out)
      rw [← hW, ← hg]
      clear hW hg NB
      (try have B6 := Lib.hid (B6.out.below hb))
      (try have B9 := Lib.hid (B9.out.below hb))
      (try have B21 := Lib.hid (B21.out.below hb))
      have HWW := step1 HW HZ hb
      have HW := HWW.1
      have HZ := HWW.2
      have HDD := step1 HD HE hb
      have HD := HDD.1
      have HE := HDD.2
      clear HWW HDD
      clear hb
      have p6 := B6.out.c0
      have q6 := B6.out.c1
      have p9 := B9.out.c0
      have q9 := B9.out.c1
      have p21 := B21.out.c0
      have q21 := B21.out.c1
      have p23 := B23.out.c0
      have q23 := B23.out.c1
      have HC1 : Hid (Calls Tryz.prog 31 #[.agg #[.bool false, .slice a6 0 c6], .agg #[.bool n21, .slice a21 l21 c21]] W23 fun e w' => e = .returned (.int .i64 (-1)) ∧ Below W23.heap.size W23 w') := Lib.hid (cmp_less B9.out.nu B21.out.nu hUA)
      have HC2 : Hid (∀ W, Below W23.heap.size W23 W → Calls Tryz.prog 31 #[.agg #[.bool false, .slice a6 0 c6], .agg #[.bool n23, .slice a23 l23 c23]] W fun e w' => e = .returned (.int .i64 (cmpZ (U : Int) PB)) ∧ Below W.heap.size W w') := Lib.hid (fun W h => cmp_any (B9.out.nu.below h) (B23.out.nu.below h))
      have HD : Hid (Below W23.heap.size W23 W23) := Lib.hid (Below.refl _ _)
      have HE : Hid (W23.heap.size ≤ W23.heap.size) := Lib.hid (Nat.le_refl _)
      go_wp2_with (first | (go_at_call_of 31 (Value.slice a21 l21 c21); refine HC1.out.mono ?_; rintro e wz ⟨rfl, hb⟩; (try have B6 := Lib.hid (B6.out.below hb)); (try have B9 := Lib.hid (B9.out.below hb)); (try have B21 := Lib.hid (B21.out.below hb)); (try have B23 := Lib.hid (B23.out.below hb)); have HWW := step1 HW HZ hb; have HW := HWW.1; have HZ := HWW.2; have HDD := step1 HD HE hb; have HD := HDD.1; have HE := HDD.2; clear HWW HDD; have p6 := B6.out.c0; have q6 := B6.out.c1; have p9 := B9.out.c0; have q9 := B9.out.c1; have p21 := B21.out.c0; have q21 := B21.out.c1; have p23 := B23.out.c0; have q23 := B23.out.c1; clear hb) | (go_at_call_of 31 (Value.slice a23 l23 c23); refine (HC2.out _ HD.out).mono ?_; rintro e wz ⟨rfl, hb⟩; (try have B6 := Lib.hid (B6.out.below hb)); (try have B9 := Lib.hid (B9.out.below hb)); (try have B21 := Lib.hid (B21.out.below hb)); (try have B23 := Lib.hid (B23.out.below hb)); have HWW := step1 HW HZ hb; have HW := HWW.1; have HZ := HWW.2; have HDD := step1 HD HE hb; have HD := HDD.1; have HE := HDD.2; clear HWW HDD; have p6 := B6.out.c0; have q6 := B6.out.c1; have p9 := B9.out.c0; have q9 := B9.out.c1; have p21 := B21.out.c0; have q21 := B21.out.c1; have p23 := B23.out.c0; have q23 := B23.out.c1; clear hb))
      go_ret
      exact ⟨rfl, HW.out⟩
  case' neg =>
      have hU0 : U ≠ 0 := by rw [HHU.out]; omega
      have hl0 : l6 ≠ 0 := by rw [L6]; exact fun e => hU0 (digs_inj (by rw [List.eq_nil_of_length_eq_zero e, digs_zero]))
      have h2 := Lib.hid (some_digit hD10 hU0 HTA.out hconv.out HTB.out HHN.out HHT.out)
      have HA0 := Lib.hid hA0
      have HU0 := Lib.hid hU0
      have q6 := B6.out.c1
      clear L6 hA0 hU0
      go_upto_region 10 with fail
      rw [h2.out]
      clear h2 q6
      by_cases hAN : A < 0
      case' pos =>
        have hn6 : n6 = true := by rw [hsg]; exact decide_eq_true hAN
        clear hsg
        subst hn6
        obtain ⟨TX, hTX⟩ : ∃ TX : ByteArray, TX = ⟨(txt A).toArray⟩ := ⟨_, rfl⟩
        have HTXA : Hid ((⟨(txt A).toArray⟩ : ByteArray) = TX) := Lib.hid hTX.symm
        have HPA := Lib.hid (fun W => parse_txt_yes W HA.out HTXA.out)
        have hneg := neg_text hAN HHU.out HTA.out HTXA.out
        clear hTX
        have p6 := B6.out.c0
        have q6 := B6.out.c1
        go_upto_region 11 with (first | (go_at_call 23; refine (HTX.out _ A _ B6.out.nu HW.out HTXA.out).mono ?_; rintro e wz ⟨rfl, hb⟩; (try have B6 := Lib.hid (B6.out.below hb)); (try have B7 := Lib.hid (B7.out.below hb)); (try have B9 := Lib.hid (B9.out.below hb)); (try have B10 := Lib.hid (B10.out.below hb)); (try have B12 := Lib.hid (B12.out.below hb)); have HWW := step1 HW HZ hb; have HW := HWW.1; have HZ := HWW.2; have HDD := step1 HD HE hb; have HD := HDD.1; have HE := HDD.2; clear HWW HDD; clear hb) | (go_at_call 24; refine (HPA.out _).mono ?_; rintro e wz ⟨n15, a15, l15, c15, rfl, hn, hb⟩; (try have B6 := Lib.hid (B6.out.below hb)); (try have B7 := Lib.hid (B7.out.below hb)); (try have B9 := Lib.hid (B9.out.below hb)); (try have B10 := Lib.hid (B10.out.below hb)); (try have B12 := Lib.hid (B12.out.below hb)); have HWW := step1 HW HZ hb; have HW := HWW.1; have HZ := HWW.2; have HDD := step1 HD HE hb; have HD := HDD.1; have HE := HDD.2; clear HWW HDD; have NB := Lib.hid hn; clear hn hb))
        obtain ⟨W15, hW⟩ : ∃ X, X = wz.alloc (.cells #[.bool n15, .slice a15 l15 c15] 27) := ⟨_, rfl⟩
        obtain ⟨g15, hg⟩ : ∃ g, g = wz.heap.size := ⟨_, rfl⟩
        have hb : Below wz.heap.size wz W15 := by rw [hW]; exact alloc_b _ _
        have B15 : Hid (Bx W15 g15 n15 a15 l15 c15 A) := Lib.hid (by rw [hW, hg]; exact bx_new NB.out)
        rw [← hW, ← hg]
        clear hW hg NB p6 q6
        (try have B6 := Lib.hid (B6.out.below hb))
        (try have B7 := Lib.hid (B7.out.below hb))
        (try have B9 := Lib.hid (B9.out.below hb))
        (try have B10 := Lib.hid (B10.out.below hb))
        (try have B12 := Lib.hid (B12.out.below hb))
        have HWW := step1 HW HZ hb
        have HW := HWW.1
        have HZ := HWW.2
        have HDD := step1 HD HE hb
        have HD := HDD.1
        have HE := HDD.2
        clear HWW HDD
        clear hb
        have HD : Hid (Below W15.heap.size W15 W15) := Lib.hid (Below.refl _ _)
        have HE : Hid (W15.heap.size ≤ W15.heap.size) := Lib.hid (Nat.le_refl _)
        have H12 : Hid (∀ W, Below W15.heap.size W15 W → Calls Tryz.prog 23 #[.agg #[.bool n12, .slice a12 l12 c12]] W fun e w' => e = .returned (.string TB) ∧ Below W.heap.size W w') := Lib.hid (fun W h => HTX.out _ NX W (B12.out.nu.below h) (HW.out.trans (h.mono HZ.out)) HTB.out)
        have H6 : Hid (∀ W, Below W15.heap.size W15 W → Calls Tryz.prog 23 #[.agg #[.bool true, .slice a6 l6 c6]] W fun e w' => e = .returned (.string TX) ∧ Below W.heap.size W w') := Lib.hid (fun W h => HTX.out _ A W (B6.out.nu.below h) (HW.out.trans (h.mono HZ.out)) HTXA.out)
        have H9 : Hid (∀ W, Below W15.heap.size W15 W → Calls Tryz.prog 23 #[.agg #[.bool false, .slice a6 l6 c6]] W fun e w' => e = .returned (.string TA) ∧ Below W.heap.size W w') := Lib.hid (fun W h => HTX.out _ _ W (B9.out.nu.below h) (HW.out.trans (h.mono HZ.out)) HTA.out)
        have H19 : Hid (∀ W, Below W15.heap.size W15 W → Calls Tryz.prog 19 #[.agg #[.bool n15, .slice a15 l15 c15], .agg #[.bool true, .slice a6 l6 c6]] W (SameRes W true)) := Lib.hid (fun W h => same_yes (B15.out.nu.below h) (B6.out.nu.below h) rfl)
        have hroom2 : ¬ 9223372036854775807 < (⟨#[45]⟩ : ByteArray).size + TA.size := str_room (show 1 < 10000 by omega) hsTA
        have hroom3 : ¬ 9223372036854775807 < 1 + TA.size := hroom2
        refine frame_named ?_
        intro T hT
        obtain ⟨vals, hvals⟩ : ∃ vals : Nat → Value, vals = (fun i => if i = 0 then .bool true else if i = 1 then .bool false else if i = 2 then .bool false else if i = 3 then .bool true else if i = 4 then .bool false else if i = 5 then .bool false else if i = 6 then .bool false else if i = 7 then .bool true else if i = 8 then .bool false else if i = 9 then .bool false else if i = 10 then .bool false else if i = 11 then .agg #[.bool n12, .slice a12 l12 c12] else if i = 12 then .string TB else if i = 13 then .string TB else if i = 14 then .bool false else if i = 15 then .bool false else if i = 16 then .bool false else if i = 17 then .agg #[.bool n15, .slice a15 l15 c15] else if i = 18 then .agg #[.bool true, .slice a6 l6 c6] else if i = 19 then .bool true else if i = 20 then .bool false else if i = 21 then .bool false else if i = 22 then .bool false else if i = 23 then .pointer (some ⟨g6, 0, none⟩) else if i = 24 then .bool true else if i = 25 then .bool true else if i = 26 then .agg #[.bool true, .slice a6 l6 c6] else if i = 27 then .string TX else if i = 28 then .agg #[.bool false, .slice a6 l6 c6] else if i = 29 then .string TA else if i = 30 then .string TX else if i = 31 then .bool false else if i = 32 then .bool false else if i = 33 then .bool false else undef) := ⟨_, rfl⟩
        have v0 : vals 0 = .bool true := by rw [hvals]; rfl
        have v1 : vals 1 = .bool false := by rw [hvals]; rfl
        have v2 : vals 2 = .bool false := by rw [hvals]; rfl
        have v3 : vals 3 = .bool true := by rw [hvals]; rfl
        have v4 : vals 4 = .bool false := by rw [hvals]; rfl
        have v5 : vals 5 = .bool false := by rw [hvals]; rfl
        have v6 : vals 6 = .bool false := by rw [hvals]; rfl
        have v7 : vals 7 = .bool true := by rw [hvals]; rfl
        have v8 : vals 8 = .bool false := by rw [hvals]; rfl
        have v9 : vals 9 = .bool false := by rw [hvals]; rfl
        have v10 : vals 10 = .bool false := by rw [hvals]; rfl
        have v11 : vals 11 = .agg #[.bool n12, .slice a12 l12 c12] := by rw [hvals]; rfl
        have v12 : vals 12 = .string TB := by rw [hvals]; rfl
        have v13 : vals 13 = .string TB := by rw [hvals]; rfl
        have v14 : vals 14 = .bool false := by rw [hvals]; rfl
        have v15 : vals 15 = .bool false := by rw [hvals]; rfl
        have v16 : vals 16 = .bool false := by rw [hvals]; rfl
        have v17 : vals 17 = .agg #[.bool n15, .slice a15 l15 c15] := by rw [hvals]; rfl
        have v18 : vals 18 = .agg #[.bool true, .slice a6 l6 c6] := by rw [hvals]; rfl
        have v19 : vals 19 = .bool true := by rw [hvals]; rfl
        have v20 : vals 20 = .bool false := by rw [hvals]; rfl
        have v21 : vals 21 = .bool false := by rw [hvals]; rfl
        have v22 : vals 22 = .bool false := by rw [hvals]; rfl
        have v23 : vals 23 = .pointer (some ⟨g6, 0, none⟩) := by rw [hvals]; rfl
        have v24 : vals 24 = .bool true := by rw [hvals]; rfl
        have v25 : vals 25 = .bool true := by rw [hvals]; rfl
        have v26 : vals 26 = .agg #[.bool true, .slice a6 l6 c6] := by rw [hvals]; rfl
        have v27 : vals 27 = .string TX := by rw [hvals]; rfl
        have v28 : vals 28 = .agg #[.bool false, .slice a6 l6 c6] := by rw [hvals]; rfl
        have v29 : vals 29 = .string TA := by rw [hvals]; rfl
        have v30 : vals 30 = .string TX := by rw [hvals]; rfl
        have v31 : vals 31 = .bool false := by rw [hvals]; rfl
        have v32 : vals 32 = .bool false := by rw [hvals]; rfl
        have v33 : vals 33 = .bool false := by rw [hvals]; rfl
        clear hvals
        refine regionP_inv (by kernel_rfl) (fun l a w' => RB W15 T [some 74, some 75, some 76, some 77, some 78, some 79, some 80, some 81, some 82, some 83, some 84, some 85, some 86, some 87, some 88, some 89, some 90, some 91, some 92, some 93, some 94, some 95, some 96, some 97, some 98, some 99, some 100, some 101, some 102, some 103, some 104, some 105, some 106, some 107] vals l a w') ?h0b3 ?stepb3 ?finb3
        case h0b3 => exact RB.start rfl (show Below W15.heap.size W15 W15.drew from ⟨rfl, rfl, rfl, Nat.le_refl _, fun _ _ => rfl⟩)
        case stepb3 =>
            rintro l a w' i' hR hi'
            obtain ⟨hl0, o, ho, hdep⟩ := mem_ready.1 hi'
            have h15 : i' < 34 := by
              have := (Array.getElem?_eq_some_iff.1 ho).1
              simpa using this
            have hbl := hR.bl
            have y12a := (B12.out.below hbl).c0
            have y15a := (B15.out.below hbl).c0
            have y6a := (B6.out.below hbl).c0
            have y9a := (B9.out.below hbl).c0
            have y12b := (B12.out.below hbl).c1
            have y15b := (B15.out.below hbl).c1
            have y6b := (B6.out.below hbl).c1
            have y9b := (B9.out.below hbl).c1
            rcases (show i' = 0 ∨ i' = 1 ∨ i' = 2 ∨ i' = 3 ∨ i' = 4 ∨ i' = 5 ∨ i' = 6 ∨ i' = 7 ∨ i' = 8 ∨ i' = 9 ∨ i' = 10 ∨ i' = 11 ∨ i' = 12 ∨ i' = 13 ∨ i' = 14 ∨ i' = 15 ∨ i' = 16 ∨ i' = 17 ∨ i' = 18 ∨ i' = 19 ∨ i' = 20 ∨ i' = 21 ∨ i' = 22 ∨ i' = 23 ∨ i' = 24 ∨ i' = 25 ∨ i' = 26 ∨ i' = 27 ∨ i' = 28 ∨ i' = 29 ∨ i' = 30 ∨ i' = 31 ∨ i' = 32 ∨ i' = 33 by omega) with rfl | rfl | rfl | rfl | rfl | rfl | rfl | rfl | rfl | rfl | rfl | rfl | rfl | rfl | rfl | rfl | rfl | rfl | rfl | rfl | rfl | rfl | rfl | rfl | rfl | rfl | rfl | rfl | rfl | rfl | rfl | rfl | rfl | rfl
            · simp at ho
              subst ho
              simp [Region.binds] at hdep
              have k0 : a.tmps.getD 11 undef = _ := (hR.fr.kept rfl (by simp [hT])).trans (by rw [hT]; try rfl)
              clear hi' hdep
              unfold wpOp
              simp [Region.wanted]
              refine .inl ?_
              unfold Oper.wp
              simp [execOp, go_sem, Act.eval, k0]
              exact hR.op 0 74 v0 rfl (by decide) hl0 (Below.refl _ _)
            · simp at ho
              subst ho
              simp [Region.binds] at hdep
              have k0 : a.tmps.getD 74 undef = _ := (hR.fr.done (i := 0) rfl (by simp_all) (by simp [hT])).trans v0
              clear hi' hdep
              unfold wpOp
              simp [Region.wanted]
              refine .inl ?_
              unfold Oper.wp
              simp [execOp, go_sem, Act.eval, k0]
              exact hR.op 1 75 v1 rfl (by decide) hl0 (Below.refl _ _)
            · simp at ho
              subst ho
              simp [Region.binds] at hdep
              have k0 : a.tmps.getD 75 undef = _ := (hR.fr.done (i := 1) rfl (by simp_all) (by simp [hT])).trans v1
              clear hi' hdep
              unfold wpOp
              simp [Region.wanted]
              refine .inl ?_
              unfold Oper.wp
              simp [execOp, go_sem, Act.eval, k0]
              exact hR.op 2 76 v2 rfl (by decide) hl0 (Below.refl _ _)
            · simp at ho
              subst ho
              simp [Region.binds] at hdep
              have k0 : a.tmps.getD 13 undef = _ := (hR.fr.kept rfl (by simp [hT])).trans (by rw [hT]; try rfl)
              have kg : a.tmps[76]? = some (.bool false) := hR.fr.opt (by simp [hT]) ((hR.fr.done (i := 2) rfl (by simp_all) (by simp [hT])).trans v2)
              clear hi' hdep
              unfold wpOp
              simp [Region.wanted, yielded, kg]
              refine .inl ?_
              unfold Oper.wp
              simp [execOp, go_sem, Act.eval, k0]
              exact hR.op 3 77 v3 rfl (by decide) hl0 (Below.refl _ _)
            · simp at ho
              subst ho
              simp [Region.binds] at hdep
              have k0 : a.tmps.getD 77 undef = _ := (hR.fr.done (i := 3) rfl (by simp_all) (by simp [hT])).trans v3
              have kg : a.tmps[76]? = some (.bool false) := hR.fr.opt (by simp [hT]) ((hR.fr.done (i := 2) rfl (by simp_all) (by simp [hT])).trans v2)
              clear hi' hdep
              unfold wpOp
              simp [Region.wanted, yielded, kg]
              refine .inl ?_
              unfold Oper.wp
              simp [execOp, go_sem, Act.eval, k0]
              exact hR.op 4 78 v4 rfl (by decide) hl0 (Below.refl _ _)
            · simp at ho
              subst ho
              simp [Region.binds] at hdep
              have k0 : a.tmps.getD 76 undef = _ := (hR.fr.done (i := 2) rfl (by simp_all) (by simp [hT])).trans v2
              have k1 : a.tmps.getD 78 undef = _ := (hR.fr.done (i := 4) rfl (by simp_all) (by simp [hT])).trans v4
              clear hi' hdep
              unfold wpOp
              simp [Region.wanted]
              refine .inl ?_
              unfold Oper.wp
              simp [execOp, go_sem, Act.eval, k0, k1]
              exact hR.op 5 79 v5 rfl (by decide) hl0 (Below.refl _ _)
            · simp at ho
              subst ho
              simp [Region.binds] at hdep
              have k0 : a.tmps.getD 79 undef = _ := (hR.fr.done (i := 5) rfl (by simp_all) (by simp [hT])).trans v5
              clear hi' hdep
              unfold wpOp
              simp [Region.wanted]
              refine .inl ?_
              unfold Oper.wp
              simp [execOp, go_sem, Act.eval, k0]
              exact hR.op 6 80 v6 rfl (by decide) hl0 (Below.refl _ _)
            · simp at ho
              subst ho
              simp [Region.binds] at hdep
              have k0 : a.tmps.getD 16 undef = _ := (hR.fr.kept rfl (by simp [hT])).trans (by rw [hT]; try rfl)
              have kg : a.tmps[80]? = some (.bool false) := hR.fr.opt (by simp [hT]) ((hR.fr.done (i := 6) rfl (by simp_all) (by simp [hT])).trans v6)
              clear hi' hdep
              unfold wpOp
              simp [Region.wanted, yielded, kg]
              refine .inl ?_
              unfold Oper.wp
              simp [execOp, go_sem, Act.eval, k0]
              exact hR.op 7 81 v7 rfl (by decide) hl0 (Below.refl _ _)
            · simp at ho
              subst ho
              simp [Region.binds] at hdep
              have k0 : a.tmps.getD 81 undef = _ := (hR.fr.done (i := 7) rfl (by simp_all) (by simp [hT])).trans v7
              have kg : a.tmps[80]? = some (.bool false) := hR.fr.opt (by simp [hT]) ((hR.fr.done (i := 6) rfl (by simp_all) (by simp [hT])).trans v6)
              clear hi' hdep
              unfold wpOp
              simp [Region.wanted, yielded, kg]
              refine .inl ?_
              unfold Oper.wp
              simp [execOp, go_sem, Act.eval, k0]
              exact hR.op 8 82 v8 rfl (by decide) hl0 (Below.refl _ _)
            · simp at ho
              subst ho
              simp [Region.binds] at hdep
              have k0 : a.tmps.getD 80 undef = _ := (hR.fr.done (i := 6) rfl (by simp_all) (by simp [hT])).trans v6
              have k1 : a.tmps.getD 82 undef = _ := (hR.fr.done (i := 8) rfl (by simp_all) (by simp [hT])).trans v8
              clear hi' hdep
              unfold wpOp
              simp [Region.wanted]
              refine .inl ?_
              unfold Oper.wp
              simp [execOp, go_sem, Act.eval, k0, k1]
              exact hR.op 9 83 v9 rfl (by decide) hl0 (Below.refl _ _)
            · simp at ho
              subst ho
              simp [Region.binds] at hdep
              have k0 : a.tmps.getD 83 undef = _ := (hR.fr.done (i := 9) rfl (by simp_all) (by simp [hT])).trans v9
              clear hi' hdep
              unfold wpOp
              simp [Region.wanted]
              refine .inl ?_
              unfold Oper.wp
              simp [execOp, go_sem, Act.eval, k0]
              exact hR.op 10 84 v10 rfl (by decide) hl0 (Below.refl _ _)
            · simp at ho
              subst ho
              simp [Region.binds] at hdep
              have k0 : a.tmps.getD 12 undef = _ := (hR.fr.kept rfl (by simp [hT])).trans (by rw [hT]; try rfl)
              have kg : a.tmps[84]? = some (.bool false) := hR.fr.opt (by simp [hT]) ((hR.fr.done (i := 10) rfl (by simp_all) (by simp [hT])).trans v10)
              clear hi' hdep
              unfold wpOp
              simp [Region.wanted, yielded, kg]
              refine .inl ?_
              unfold Oper.wp
              simp [execOp, go_sem, Act.eval, k0, y12a, y12b]
              exact hR.op 11 85 v11 rfl (by decide) hl0 (Below.refl _ _)
            · simp at ho
              subst ho
              simp [Region.binds] at hdep
              have k0 : a.tmps.getD 85 undef = _ := (hR.fr.done (i := 11) rfl (by simp_all) (by simp [hT])).trans v11
              have kg : a.tmps[84]? = some (.bool false) := hR.fr.opt (by simp [hT]) ((hR.fr.done (i := 10) rfl (by simp_all) (by simp [hT])).trans v10)
              clear hi' hdep
              unfold wpOp
              simp [Region.wanted, yielded, kg]
              refine .inl ?_
              unfold Oper.wp
              simp [execOp, go_sem, Act.eval, k0]
              refine (H12.out _ hbl).mono ?_
              rintro e w'' ⟨rfl, hb⟩
              exact hR.op 12 86 v12 rfl (by decide) hl0 hb
            · simp at ho
              subst ho
              simp [Region.binds] at hdep
              have k0 : a.tmps.getD 14 undef = _ := (hR.fr.kept rfl (by simp [hT])).trans (by rw [hT]; try rfl)
              have kg : a.tmps[84]? = some (.bool false) := hR.fr.opt (by simp [hT]) ((hR.fr.done (i := 10) rfl (by simp_all) (by simp [hT])).trans v10)
              clear hi' hdep
              unfold wpOp
              simp [Region.wanted, yielded, kg]
              refine .inl ?_
              unfold Oper.wp
              simp [execOp, go_sem, Act.eval, k0]
              exact hR.op 13 87 v13 rfl (by decide) hl0 (Below.refl _ _)
            · simp at ho
              subst ho
              simp [Region.binds] at hdep
              have k0 : a.tmps.getD 86 undef = _ := (hR.fr.done (i := 12) rfl (by simp_all) (by simp [hT])).trans v12
              have k1 : a.tmps.getD 87 undef = _ := (hR.fr.done (i := 13) rfl (by simp_all) (by simp [hT])).trans v13
              have kg : a.tmps[84]? = some (.bool false) := hR.fr.opt (by simp [hT]) ((hR.fr.done (i := 10) rfl (by simp_all) (by simp [hT])).trans v10)
              clear hi' hdep
              unfold wpOp
              simp [Region.wanted, yielded, kg]
              refine .inl ?_
              unfold Oper.wp
              simp [execOp, go_sem, Act.eval, k0, k1]
              exact hR.op 14 88 v14 rfl (by decide) hl0 (Below.refl _ _)
            · simp at ho
              subst ho
              simp [Region.binds] at hdep
              have k0 : a.tmps.getD 84 undef = _ := (hR.fr.done (i := 10) rfl (by simp_all) (by simp [hT])).trans v10
              have k1 : a.tmps.getD 88 undef = _ := (hR.fr.done (i := 14) rfl (by simp_all) (by simp [hT])).trans v14
              clear hi' hdep
              unfold wpOp
              simp [Region.wanted]
              refine .inl ?_
              unfold Oper.wp
              simp [execOp, go_sem, Act.eval, k0, k1]
              exact hR.op 15 89 v15 rfl (by decide) hl0 (Below.refl _ _)
            · simp at ho
              subst ho
              simp [Region.binds] at hdep
              have k0 : a.tmps.getD 89 undef = _ := (hR.fr.done (i := 15) rfl (by simp_all) (by simp [hT])).trans v15
              clear hi' hdep
              unfold wpOp
              simp [Region.wanted]
              refine .inl ?_
              unfold Oper.wp
              simp [execOp, go_sem, Act.eval, k0]
              exact hR.op 16 90 v16 rfl (by decide) hl0 (Below.refl _ _)
            · simp at ho
              subst ho
              simp [Region.binds] at hdep
              have k0 : a.tmps.getD 15 undef = _ := (hR.fr.kept rfl (by simp [hT])).trans (by rw [hT]; try rfl)
              have kg : a.tmps[90]? = some (.bool false) := hR.fr.opt (by simp [hT]) ((hR.fr.done (i := 16) rfl (by simp_all) (by simp [hT])).trans v16)
              clear hi' hdep
              unfold wpOp
              simp [Region.wanted, yielded, kg]
              refine .inl ?_
              unfold Oper.wp
              simp [execOp, go_sem, Act.eval, k0, y15a, y15b]
              exact hR.op 17 91 v17 rfl (by decide) hl0 (Below.refl _ _)
            · simp at ho
              subst ho
              simp [Region.binds] at hdep
              have k0 : a.tmps.getD 6 undef = _ := (hR.fr.kept rfl (by simp [hT])).trans (by rw [hT]; try rfl)
              have kg : a.tmps[90]? = some (.bool false) := hR.fr.opt (by simp [hT]) ((hR.fr.done (i := 16) rfl (by simp_all) (by simp [hT])).trans v16)
              clear hi' hdep
              unfold wpOp
              simp [Region.wanted, yielded, kg]
              refine .inl ?_
              unfold Oper.wp
              simp [execOp, go_sem, Act.eval, k0, y6a, y6b]
              exact hR.op 18 92 v18 rfl (by decide) hl0 (Below.refl _ _)
            · simp at ho
              subst ho
              simp [Region.binds] at hdep
              have k0 : a.tmps.getD 91 undef = _ := (hR.fr.done (i := 17) rfl (by simp_all) (by simp [hT])).trans v17
              have k1 : a.tmps.getD 92 undef = _ := (hR.fr.done (i := 18) rfl (by simp_all) (by simp [hT])).trans v18
              have kg : a.tmps[90]? = some (.bool false) := hR.fr.opt (by simp [hT]) ((hR.fr.done (i := 16) rfl (by simp_all) (by simp [hT])).trans v16)
              clear hi' hdep
              unfold wpOp
              simp [Region.wanted, yielded, kg]
              refine .inl ?_
              unfold Oper.wp
              simp [execOp, go_sem, Act.eval, k0, k1]
              refine (H19.out _ hbl).mono ?_
              rintro e w'' ⟨rfl, hb⟩
              exact hR.op 19 93 v19 rfl (by decide) hl0 hb
            · simp at ho
              subst ho
              simp [Region.binds] at hdep
              have k0 : a.tmps.getD 93 undef = _ := (hR.fr.done (i := 19) rfl (by simp_all) (by simp [hT])).trans v19
              have kg : a.tmps[90]? = some (.bool false) := hR.fr.opt (by simp [hT]) ((hR.fr.done (i := 16) rfl (by simp_all) (by simp [hT])).trans v16)
              clear hi' hdep
              unfold wpOp
              simp [Region.wanted, yielded, kg]
              refine .inl ?_
              unfold Oper.wp
              simp [execOp, go_sem, Act.eval, k0]
              exact hR.op 20 94 v20 rfl (by decide) hl0 (Below.refl _ _)
            · simp at ho
              subst ho
              simp [Region.binds] at hdep
              have k0 : a.tmps.getD 90 undef = _ := (hR.fr.done (i := 16) rfl (by simp_all) (by simp [hT])).trans v16
              have k1 : a.tmps.getD 94 undef = _ := (hR.fr.done (i := 20) rfl (by simp_all) (by simp [hT])).trans v20
              clear hi' hdep
              unfold wpOp
              simp [Region.wanted]
              refine .inl ?_
              unfold Oper.wp
              simp [execOp, go_sem, Act.eval, k0, k1]
              exact hR.op 21 95 v21 rfl (by decide) hl0 (Below.refl _ _)
            · simp at ho
              subst ho
              simp [Region.binds] at hdep
              have k0 : a.tmps.getD 95 undef = _ := (hR.fr.done (i := 21) rfl (by simp_all) (by simp [hT])).trans v21
              clear hi' hdep
              unfold wpOp
              simp [Region.wanted]
              refine .inl ?_
              unfold Oper.wp
              simp [execOp, go_sem, Act.eval, k0]
              exact hR.op 22 96 v22 rfl (by decide) hl0 (Below.refl _ _)
            · simp at ho
              subst ho
              simp [Region.binds] at hdep
              have k0 : a.tmps.getD 6 undef = _ := (hR.fr.kept rfl (by simp [hT])).trans (by rw [hT]; try rfl)
              have kg : a.tmps[96]? = some (.bool false) := hR.fr.opt (by simp [hT]) ((hR.fr.done (i := 22) rfl (by simp_all) (by simp [hT])).trans v22)
              clear hi' hdep
              unfold wpOp
              simp [Region.wanted, yielded, kg]
              refine .inl ?_
              unfold Oper.wp
              simp [execOp, go_sem, Act.eval, k0, y6a, y6b]
              exact hR.op 23 97 v23 rfl (by decide) hl0 (Below.refl _ _)
            · simp at ho
              subst ho
              simp [Region.binds] at hdep
              have k0 : a.tmps.getD 97 undef = _ := (hR.fr.done (i := 23) rfl (by simp_all) (by simp [hT])).trans v23
              have kg : a.tmps[96]? = some (.bool false) := hR.fr.opt (by simp [hT]) ((hR.fr.done (i := 22) rfl (by simp_all) (by simp [hT])).trans v22)
              clear hi' hdep
              unfold wpOp
              simp [Region.wanted, yielded, kg]
              refine .inl ?_
              unfold Oper.wp
              simp [execOp, go_sem, Act.eval, k0, y6a, y6b]
              exact hR.op 24 98 v24 rfl (by decide) hl0 (Below.refl _ _)
            · simp at ho
              subst ho
              simp [Region.binds] at hdep
              have k0 : a.tmps.getD 98 undef = _ := (hR.fr.done (i := 24) rfl (by simp_all) (by simp [hT])).trans v24
              have kg : a.tmps[96]? = some (.bool false) := hR.fr.opt (by simp [hT]) ((hR.fr.done (i := 22) rfl (by simp_all) (by simp [hT])).trans v22)
              clear hi' hdep
              unfold wpOp
              simp [Region.wanted, yielded, kg]
              refine .inl ?_
              unfold Oper.wp
              simp [execOp, go_sem, Act.eval, k0]
              exact hR.op 25 99 v25 rfl (by decide) hl0 (Below.refl _ _)
            · simp at ho
              subst ho
              simp [Region.binds] at hdep
              have k0 : a.tmps.getD 6 undef = _ := (hR.fr.kept rfl (by simp [hT])).trans (by rw [hT]; try rfl)
              have kg : a.tmps[99]? = some (.bool true) := hR.fr.opt (by simp [hT]) ((hR.fr.done (i := 25) rfl (by simp_all) (by simp [hT])).trans v25)
              clear hi' hdep
              unfold wpOp
              simp [Region.wanted, yielded, kg]
              refine .inl ?_
              unfold Oper.wp
              simp [execOp, go_sem, Act.eval, k0, y6a, y6b]
              exact hR.op 26 100 v26 rfl (by decide) hl0 (Below.refl _ _)
            · simp at ho
              subst ho
              simp [Region.binds] at hdep
              have k0 : a.tmps.getD 100 undef = _ := (hR.fr.done (i := 26) rfl (by simp_all) (by simp [hT])).trans v26
              have kg : a.tmps[99]? = some (.bool true) := hR.fr.opt (by simp [hT]) ((hR.fr.done (i := 25) rfl (by simp_all) (by simp [hT])).trans v25)
              clear hi' hdep
              unfold wpOp
              simp [Region.wanted, yielded, kg]
              refine .inl ?_
              unfold Oper.wp
              simp [execOp, go_sem, Act.eval, k0]
              refine (H6.out _ hbl).mono ?_
              rintro e w'' ⟨rfl, hb⟩
              exact hR.op 27 101 v27 rfl (by decide) hl0 hb
            · simp at ho
              subst ho
              simp [Region.binds] at hdep
              have k0 : a.tmps.getD 9 undef = _ := (hR.fr.kept rfl (by simp [hT])).trans (by rw [hT]; try rfl)
              have kg : a.tmps[99]? = some (.bool true) := hR.fr.opt (by simp [hT]) ((hR.fr.done (i := 25) rfl (by simp_all) (by simp [hT])).trans v25)
              clear hi' hdep
              unfold wpOp
              simp [Region.wanted, yielded, kg]
              refine .inl ?_
              unfold Oper.wp
              simp [execOp, go_sem, Act.eval, k0, y9a, y9b]
              exact hR.op 28 102 v28 rfl (by decide) hl0 (Below.refl _ _)
            · simp at ho
              subst ho
              simp [Region.binds] at hdep
              have k0 : a.tmps.getD 102 undef = _ := (hR.fr.done (i := 28) rfl (by simp_all) (by simp [hT])).trans v28
              have kg : a.tmps[99]? = some (.bool true) := hR.fr.opt (by simp [hT]) ((hR.fr.done (i := 25) rfl (by simp_all) (by simp [hT])).trans v25)
              clear hi' hdep
              unfold wpOp
              simp [Region.wanted, yielded, kg]
              refine .inl ?_
              unfold Oper.wp
              simp [execOp, go_sem, Act.eval, k0]
              refine (H9.out _ hbl).mono ?_
              rintro e w'' ⟨rfl, hb⟩
              exact hR.op 29 103 v29 rfl (by decide) hl0 hb
            · simp at ho
              subst ho
              simp [Region.binds] at hdep
              have k0 : a.tmps.getD 103 undef = _ := (hR.fr.done (i := 29) rfl (by simp_all) (by simp [hT])).trans v29
              have kg : a.tmps[99]? = some (.bool true) := hR.fr.opt (by simp [hT]) ((hR.fr.done (i := 25) rfl (by simp_all) (by simp [hT])).trans v25)
              clear hi' hdep
              unfold wpOp
              simp [Region.wanted, yielded, kg]
              refine .inl ?_
              unfold Oper.wp
              simp [execOp, go_sem, Act.eval, k0, hroom2, hroom3, hneg]
              exact hR.op 30 104 v30 rfl (by decide) hl0 (Below.refl _ _)
            · simp at ho
              subst ho
              simp [Region.binds] at hdep
              have k0 : a.tmps.getD 101 undef = _ := (hR.fr.done (i := 27) rfl (by simp_all) (by simp [hT])).trans v27
              have k1 : a.tmps.getD 104 undef = _ := (hR.fr.done (i := 30) rfl (by simp_all) (by simp [hT])).trans v30
              have kg : a.tmps[99]? = some (.bool true) := hR.fr.opt (by simp [hT]) ((hR.fr.done (i := 25) rfl (by simp_all) (by simp [hT])).trans v25)
              clear hi' hdep
              unfold wpOp
              simp [Region.wanted, yielded, kg]
              refine .inl ?_
              unfold Oper.wp
              simp [execOp, go_sem, Act.eval, k0, k1]
              exact hR.op 31 105 v31 rfl (by decide) hl0 (Below.refl _ _)
            · simp at ho
              subst ho
              simp [Region.binds] at hdep
              have k0 : a.tmps.getD 99 undef = _ := (hR.fr.done (i := 25) rfl (by simp_all) (by simp [hT])).trans v25
              have k1 : a.tmps.getD 105 undef = _ := (hR.fr.done (i := 31) rfl (by simp_all) (by simp [hT])).trans v31
              have kg : a.tmps[96]? = some (.bool false) := hR.fr.opt (by simp [hT]) ((hR.fr.done (i := 22) rfl (by simp_all) (by simp [hT])).trans v22)
              clear hi' hdep
              unfold wpOp
              simp [Region.wanted, yielded, kg]
              refine .inl ?_
              unfold Oper.wp
              simp [execOp, go_sem, Act.eval, k0, k1]
              exact hR.op 32 106 v32 rfl (by decide) hl0 (Below.refl _ _)
            · simp at ho
              subst ho
              simp [Region.binds] at hdep
              have k0 : a.tmps.getD 96 undef = _ := (hR.fr.done (i := 22) rfl (by simp_all) (by simp [hT])).trans v22
              have k1 : a.tmps.getD 106 undef = _ := (hR.fr.done (i := 32) rfl (by simp_all) (by simp [hT])).trans v32
              clear hi' hdep
              unfold wpOp
              simp [Region.wanted]
              refine .inl ?_
              unfold Oper.wp
              simp [execOp, go_sem, Act.eval, k0, k1]
              exact hR.op 33 107 v33 rfl (by decide) hl0 (Below.refl _ _)
        case' finb3 =>
            rintro l a W16 hR hz
            have hnot := List.eq_nil_iff_forall_not_mem.1 hz
            have hk : ∀ k, k < 34 → (l.getD k true = false → False) → l.getD k false = true := fun k h12 h => by
              have hs := hR.size
              cases h' : l.getD k true with
              | false => exact (h h').elim
              | true => simp at hs; simp [Array.getD, hs, h12] at h' ⊢; exact h'
            have st0 := hk 0 (by omega) (fun h => hnot 0 (mem_ready.2 ⟨h, _, rfl, by simp [Region.binds] <;> simp_all⟩))
            have st1 := hk 1 (by omega) (fun h => hnot 1 (mem_ready.2 ⟨h, _, rfl, by simp [Region.binds] <;> simp_all⟩))
            have st2 := hk 2 (by omega) (fun h => hnot 2 (mem_ready.2 ⟨h, _, rfl, by simp [Region.binds] <;> simp_all⟩))
            have st3 := hk 3 (by omega) (fun h => hnot 3 (mem_ready.2 ⟨h, _, rfl, by simp [Region.binds] <;> simp_all⟩))
            have st4 := hk 4 (by omega) (fun h => hnot 4 (mem_ready.2 ⟨h, _, rfl, by simp [Region.binds] <;> simp_all⟩))
            have st5 := hk 5 (by omega) (fun h => hnot 5 (mem_ready.2 ⟨h, _, rfl, by simp [Region.binds] <;> simp_all⟩))
            have st6 := hk 6 (by omega) (fun h => hnot 6 (mem_ready.2 ⟨h, _, rfl, by simp [Region.binds] <;> simp_all⟩))
            have st7 := hk 7 (by omega) (fun h => hnot 7 (mem_ready.2 ⟨h, _, rfl, by simp [Region.binds] <;> simp_all⟩))
            have st8 := hk 8 (by omega) (fun h => hnot 8 (mem_ready.2 ⟨h, _, rfl, by simp [Region.binds] <;> simp_all⟩))
            have st9 := hk 9 (by omega) (fun h => hnot 9 (mem_ready.2 ⟨h, _, rfl, by simp [Region.binds] <;> simp_all⟩))
            have st10 := hk 10 (by omega) (fun h => hnot 10 (mem_ready.2 ⟨h, _, rfl, by simp [Region.binds] <;> simp_all⟩))
            have st11 := hk 11 (by omega) (fun h => hnot 11 (mem_ready.2 ⟨h, _, rfl, by simp [Region.binds] <;> simp_all⟩))
            have st12 := hk 12 (by omega) (fun h => hnot 12 (mem_ready.2 ⟨h, _, rfl, by simp [Region.binds] <;> simp_all⟩))
            have st13 := hk 13 (by omega) (fun h => hnot 13 (mem_ready.2 ⟨h, _, rfl, by simp [Region.binds] <;> simp_all⟩))
            have st14 := hk 14 (by omega) (fun h => hnot 14 (mem_ready.2 ⟨h, _, rfl, by simp [Region.binds] <;> simp_all⟩))
            have st15 := hk 15 (by omega) (fun h => hnot 15 (mem_ready.2 ⟨h, _, rfl, by simp [Region.binds] <;> simp_all⟩))
            have st16 := hk 16 (by omega) (fun h => hnot 16 (mem_ready.2 ⟨h, _, rfl, by simp [Region.binds] <;> simp_all⟩))
            have st17 := hk 17 (by omega) (fun h => hnot 17 (mem_ready.2 ⟨h, _, rfl, by simp [Region.binds] <;> simp_all⟩))
            have st18 := hk 18 (by omega) (fun h => hnot 18 (mem_ready.2 ⟨h, _, rfl, by simp [Region.binds] <;> simp_all⟩))
            have st19 := hk 19 (by omega) (fun h => hnot 19 (mem_ready.2 ⟨h, _, rfl, by simp [Region.binds] <;> simp_all⟩))
            have st20 := hk 20 (by omega) (fun h => hnot 20 (mem_ready.2 ⟨h, _, rfl, by simp [Region.binds] <;> simp_all⟩))
            have st21 := hk 21 (by omega) (fun h => hnot 21 (mem_ready.2 ⟨h, _, rfl, by simp [Region.binds] <;> simp_all⟩))
            have st22 := hk 22 (by omega) (fun h => hnot 22 (mem_ready.2 ⟨h, _, rfl, by simp [Region.binds] <;> simp_all⟩))
            have st23 := hk 23 (by omega) (fun h => hnot 23 (mem_ready.2 ⟨h, _, rfl, by simp [Region.binds] <;> simp_all⟩))
            have st24 := hk 24 (by omega) (fun h => hnot 24 (mem_ready.2 ⟨h, _, rfl, by simp [Region.binds] <;> simp_all⟩))
            have st25 := hk 25 (by omega) (fun h => hnot 25 (mem_ready.2 ⟨h, _, rfl, by simp [Region.binds] <;> simp_all⟩))
            have st26 := hk 26 (by omega) (fun h => hnot 26 (mem_ready.2 ⟨h, _, rfl, by simp [Region.binds] <;> simp_all⟩))
            have st27 := hk 27 (by omega) (fun h => hnot 27 (mem_ready.2 ⟨h, _, rfl, by simp [Region.binds] <;> simp_all⟩))
            have st28 := hk 28 (by omega) (fun h => hnot 28 (mem_ready.2 ⟨h, _, rfl, by simp [Region.binds] <;> simp_all⟩))
            have st29 := hk 29 (by omega) (fun h => hnot 29 (mem_ready.2 ⟨h, _, rfl, by simp [Region.binds] <;> simp_all⟩))
            have st30 := hk 30 (by omega) (fun h => hnot 30 (mem_ready.2 ⟨h, _, rfl, by simp [Region.binds] <;> simp_all⟩))
            have st31 := hk 31 (by omega) (fun h => hnot 31 (mem_ready.2 ⟨h, _, rfl, by simp [Region.binds] <;> simp_all⟩))
            have st32 := hk 32 (by omega) (fun h => hnot 32 (mem_ready.2 ⟨h, _, rfl, by simp [Region.binds] <;> simp_all⟩))
            have st33 := hk 33 (by omega) (fun h => hnot 33 (mem_ready.2 ⟨h, _, rfl, by simp [Region.binds] <;> simp_all⟩))
            have hall : ∀ i, i < 34 → l.getD i true = true := fun i hi => by
              rcases (show i = 0 ∨ i = 1 ∨ i = 2 ∨ i = 3 ∨ i = 4 ∨ i = 5 ∨ i = 6 ∨ i = 7 ∨ i = 8 ∨ i = 9 ∨ i = 10 ∨ i = 11 ∨ i = 12 ∨ i = 13 ∨ i = 14 ∨ i = 15 ∨ i = 16 ∨ i = 17 ∨ i = 18 ∨ i = 19 ∨ i = 20 ∨ i = 21 ∨ i = 22 ∨ i = 23 ∨ i = 24 ∨ i = 25 ∨ i = 26 ∨ i = 27 ∨ i = 28 ∨ i = 29 ∨ i = 30 ∨ i = 31 ∨ i = 32 ∨ i = 33 by omega) with rfl | rfl | rfl | rfl | rfl | rfl | rfl | rfl | rfl | rfl | rfl | rfl | rfl | rfl | rfl | rfl | rfl | rfl | rfl | rfl | rfl | rfl | rfl | rfl | rfl | rfl | rfl | rfl | rfl | rfl | rfl | rfl | rfl | rfl
              · exact getD_true st0
              · exact getD_true st1
              · exact getD_true st2
              · exact getD_true st3
              · exact getD_true st4
              · exact getD_true st5
              · exact getD_true st6
              · exact getD_true st7
              · exact getD_true st8
              · exact getD_true st9
              · exact getD_true st10
              · exact getD_true st11
              · exact getD_true st12
              · exact getD_true st13
              · exact getD_true st14
              · exact getD_true st15
              · exact getD_true st16
              · exact getD_true st17
              · exact getD_true st18
              · exact getD_true st19
              · exact getD_true st20
              · exact getD_true st21
              · exact getD_true st22
              · exact getD_true st23
              · exact getD_true st24
              · exact getD_true st25
              · exact getD_true st26
              · exact getD_true st27
              · exact getD_true st28
              · exact getD_true st29
              · exact getD_true st30
              · exact getD_true st31
              · exact getD_true st32
              · exact getD_true st33
            clear st0 st1 st2 st3 st4 st5 st6 st7 st8 st9 st10 st11 st12 st13 st14 st15 st16 st17 st18 st19 st20 st21 st22 st23 st24 st25 st26 st27 st28 st29 st30 st31 st32 st33 hk hnot hz
            have hTs : T.size = 189 := by rw [hT]; rfl
            have ha := hR.all (T' := ((((((((((((((((((((((((((((((((((T.setIfInBounds 74 (vals 0)).setIfInBounds 75 (vals 1)).setIfInBounds 76 (vals 2)).setIfInBounds 77 (vals 3)).setIfInBounds 78 (vals 4)).setIfInBounds 79 (vals 5)).setIfInBounds 80 (vals 6)).setIfInBounds 81 (vals 7)).setIfInBounds 82 (vals 8)).setIfInBounds 83 (vals 9)).setIfInBounds 84 (vals 10)).setIfInBounds 85 (vals 11)).setIfInBounds 86 (vals 12)).setIfInBounds 87 (vals 13)).setIfInBounds 88 (vals 14)).setIfInBounds 89 (vals 15)).setIfInBounds 90 (vals 16)).setIfInBounds 91 (vals 17)).setIfInBounds 92 (vals 18)).setIfInBounds 93 (vals 19)).setIfInBounds 94 (vals 20)).setIfInBounds 95 (vals 21)).setIfInBounds 96 (vals 22)).setIfInBounds 97 (vals 23)).setIfInBounds 98 (vals 24)).setIfInBounds 99 (vals 25)).setIfInBounds 100 (vals 26)).setIfInBounds 101 (vals 27)).setIfInBounds 102 (vals 28)).setIfInBounds 103 (vals 29)).setIfInBounds 104 (vals 30)).setIfInBounds 105 (vals 31)).setIfInBounds 106 (vals 32)).setIfInBounds 107 (vals 33))) (fun i hi => hall i (by simpa using hi)) (by simp) (fun j hj => by
              by_cases h1 : j = 74 ∨ j = 75 ∨ j = 76 ∨ j = 77 ∨ j = 78 ∨ j = 79 ∨ j = 80 ∨ j = 81 ∨ j = 82 ∨ j = 83 ∨ j = 84 ∨ j = 85 ∨ j = 86 ∨ j = 87 ∨ j = 88 ∨ j = 89 ∨ j = 90 ∨ j = 91 ∨ j = 92 ∨ j = 93 ∨ j = 94 ∨ j = 95 ∨ j = 96 ∨ j = 97 ∨ j = 98 ∨ j = 99 ∨ j = 100 ∨ j = 101 ∨ j = 102 ∨ j = 103 ∨ j = 104 ∨ j = 105 ∨ j = 106 ∨ j = 107
              · rcases h1 with rfl | rfl | rfl | rfl | rfl | rfl | rfl | rfl | rfl | rfl | rfl | rfl | rfl | rfl | rfl | rfl | rfl | rfl | rfl | rfl | rfl | rfl | rfl | rfl | rfl | rfl | rfl | rfl | rfl | rfl | rfl | rfl | rfl | rfl <;> simp [rv_sets, tOwn, List.findIdx?, List.findIdx?.go, hTs]
              · simp only [not_or] at h1
                obtain ⟨m74, m75, m76, m77, m78, m79, m80, m81, m82, m83, m84, m85, m86, m87, m88, m89, m90, m91, m92, m93, m94, m95, m96, m97, m98, m99, m100, m101, m102, m103, m104, m105, m106, m107⟩ := h1
                have e : tOwn [some 74, some 75, some 76, some 77, some 78, some 79, some 80, some 81, some 82, some 83, some 84, some 85, some 86, some 87, some 88, some 89, some 90, some 91, some 92, some 93, some 94, some 95, some 96, some 97, some 98, some 99, some 100, some 101, some 102, some 103, some 104, some 105, some 106, some 107] vals j = none := by
                  unfold tOwn
                  simp [List.findIdx?, List.findIdx?.go, Ne.symm m74, Ne.symm m75, Ne.symm m76, Ne.symm m77, Ne.symm m78, Ne.symm m79, Ne.symm m80, Ne.symm m81, Ne.symm m82, Ne.symm m83, Ne.symm m84, Ne.symm m85, Ne.symm m86, Ne.symm m87, Ne.symm m88, Ne.symm m89, Ne.symm m90, Ne.symm m91, Ne.symm m92, Ne.symm m93, Ne.symm m94, Ne.symm m95, Ne.symm m96, Ne.symm m97, Ne.symm m98, Ne.symm m99, Ne.symm m100, Ne.symm m101, Ne.symm m102, Ne.symm m103, Ne.symm m104, Ne.symm m105, Ne.symm m106, Ne.symm m107]
                rw [e]
                simp only [rv_sets]
                repeat rw [if_neg (by omega)])
            have hbl := hR.bl
            subst ha
            clear hR hall hTs
            rw [v0, v1, v2, v3, v4, v5, v6, v7, v8, v9, v10, v11, v12, v13, v14, v15, v16, v17, v18, v19, v20, v21, v22, v23, v24, v25, v26, v27, v28, v29, v30, v31, v32, v33, hT]
            simp only [List.setIfInBounds_toArray, List.set_cons_succ, List.set_cons_zero]
            clear v0 v1 v2 v3 v4 v5 v6 v7 v8 v9 v10 v11 v12 v13 v14 v15 v16 v17 v18 v19 v20 v21 v22 v23 v24 v25 v26 v27 v28 v29 v30 v31 v32 v33 vals hT T
        have hb := hbl
        (try have B6 := Lib.hid (B6.out.below hb))
        (try have B7 := Lib.hid (B7.out.below hb))
        (try have B9 := Lib.hid (B9.out.below hb))
        have HWW := step1 HW HZ hb
        have HW := HWW.1
        have HZ := HWW.2
        have HDD := step1 HD HE hb
        have HD := HDD.1
        have HE := HDD.2
        clear HWW HDD
        clear hb hbl hroom2 hroom3 hneg
        clear H12 H6 H9 H19 B10 B12 B15
        have p6 := B6.out.c0
        have q6 := B6.out.c1
        have p7 := B7.out.c0
        have q7 := B7.out.c1
        go_upto_region 13 with fail
        go_upto_region 14 with (first | (go_at_call 30; refine (mul_fit M B6.out.nu B7.out.nu EM.out FM.out).mono ?_; rintro e wz ⟨n17, a17, l17, c17, rfl, hn, hb⟩; (try have B6 := Lib.hid (B6.out.below hb)); (try have B7 := Lib.hid (B7.out.below hb)); (try have B9 := Lib.hid (B9.out.below hb)); have HWW := step1 HW HZ hb; have HW := HWW.1; have HZ := HWW.2; have HDD := step1 HD HE hb; have HD := HDD.1; have HE := HDD.2; clear HWW HDD; have NB := Lib.hid hn; clear hn hb))
        obtain ⟨W17, hW⟩ : ∃ X, X = wz.alloc (.cells #[.bool n17, .slice a17 l17 c17] 27) := ⟨_, rfl⟩
        obtain ⟨g17, hg⟩ : ∃ g, g = wz.heap.size := ⟨_, rfl⟩
        have hb : Below wz.heap.size wz W17 := by rw [hW]; exact alloc_b _ _
        have B17 : Hid (Bx W17 g17 n17 a17 l17 c17 M) := Lib.hid (by rw [hW, hg]; exact bx_new NB.out)
        rw [← hW, ← hg]
        clear hW hg NB
        (try have B6 := Lib.hid (B6.out.below hb))
        (try have B7 := Lib.hid (B7.out.below hb))
        (try have B9 := Lib.hid (B9.out.below hb))
        have HWW := step1 HW HZ hb
        have HW := HWW.1
        have HZ := HWW.2
        have HDD := step1 HD HE hb
        have HD := HDD.1
        have HE := HDD.2
        clear HWW HDD
        clear hb
        clear p6 q6 p7 q7
        have hkA : ∃ K, K = bitsB (decide (A < 0)) (digs A.natAbs) := ⟨_, rfl⟩
        obtain ⟨KA, hKA⟩ := hkA
        have hkB : ∃ K, K = bitsB (decide (B < 0)) (digs B.natAbs) := ⟨_, rfl⟩
        obtain ⟨KB, hKB⟩ := hkB
        have HA33 : Hid (∀ W, Below W17.heap.size W17 W → Calls Tryz.prog 33 #[.agg #[.bool true, .slice a6 l6 c6]] W fun e w' => e = .returned (.int .i64 (KA : Nat)) ∧ Below W.heap.size W w') := Lib.hid (fun W h => bits_nu (B6.out.nu.below h) KA hKA.symm)
        have HB33 : Hid (∀ W, Below W17.heap.size W17 W → Calls Tryz.prog 33 #[.agg #[.bool n7, .slice a7 l7 c7]] W fun e w' => e = .returned (.int .i64 (KB : Nat)) ∧ Below W.heap.size W w') := Lib.hid (fun W h => bits_nu (B7.out.nu.below h) KB hKB.symm)
        have HKA := Lib.hid hKA
        have HKB := Lib.hid hKB
        clear hKA hKB
        refine frame_named ?_
        intro T hT
        obtain ⟨vals, hvals⟩ : ∃ vals : Nat → Value, vals = (fun i => if i = 0 then .agg #[.bool true, .slice a6 l6 c6] else if i = 1 then .int .i64 (KA : Nat) else if i = 2 then .agg #[.bool n7, .slice a7 l7 c7] else if i = 3 then .int .i64 (KB : Nat) else if i = 4 then .int .i64 (KA : Nat) else if i = 5 then .int .i64 (KB : Nat) else undef) := ⟨_, rfl⟩
        have v0 : vals 0 = .agg #[.bool true, .slice a6 l6 c6] := by rw [hvals]; rfl
        have v1 : vals 1 = .int .i64 (KA : Nat) := by rw [hvals]; rfl
        have v2 : vals 2 = .agg #[.bool n7, .slice a7 l7 c7] := by rw [hvals]; rfl
        have v3 : vals 3 = .int .i64 (KB : Nat) := by rw [hvals]; rfl
        have v4 : vals 4 = .int .i64 (KA : Nat) := by rw [hvals]; rfl
        have v5 : vals 5 = .int .i64 (KB : Nat) := by rw [hvals]; rfl
        clear hvals
        refine regionP_inv (by kernel_rfl) (fun l a w' => RB W17 T [some 114, some 115, some 116, some 117, some 19, some 20] vals l a w') ?h0b4 ?stepb4 ?finb4
        case h0b4 => exact RB.start rfl (show Below W17.heap.size W17 W17.drew from ⟨rfl, rfl, rfl, Nat.le_refl _, fun _ _ => rfl⟩)
        case stepb4 =>
            rintro l a w' i' hR hi'
            obtain ⟨hl0, o, ho, hdep⟩ := mem_ready.1 hi'
            have h15 : i' < 6 := by
              have := (Array.getElem?_eq_some_iff.1 ho).1
              simpa using this
            have hbl := hR.bl
            have y6a := (B6.out.below hbl).c0
            have y7a := (B7.out.below hbl).c0
            have y6b := (B6.out.below hbl).c1
            have y7b := (B7.out.below hbl).c1
            rcases (show i' = 0 ∨ i' = 1 ∨ i' = 2 ∨ i' = 3 ∨ i' = 4 ∨ i' = 5 by omega) with rfl | rfl | rfl | rfl | rfl | rfl
            · simp at ho
              subst ho
              simp [Region.binds] at hdep
              have k0 : a.tmps.getD 6 undef = _ := (hR.fr.kept rfl (by simp [hT])).trans (by rw [hT]; try rfl)
              clear hi' hdep
              unfold wpOp
              simp [Region.wanted]
              refine .inl ?_
              unfold Oper.wp
              simp [execOp, go_sem, Act.eval, k0, y6a, y6b]
              exact hR.op 0 114 v0 rfl (by decide) hl0 (Below.refl _ _)
            · simp at ho
              subst ho
              simp [Region.binds] at hdep
              have k0 : a.tmps.getD 114 undef = _ := (hR.fr.done (i := 0) rfl (by simp_all) (by simp [hT])).trans v0
              clear hi' hdep
              unfold wpOp
              simp [Region.wanted]
              refine .inl ?_
              unfold Oper.wp
              simp [execOp, go_sem, Act.eval, k0]
              refine (HA33.out _ hbl).mono ?_
              rintro e w'' ⟨rfl, hb⟩
              exact hR.op 1 115 v1 rfl (by decide) hl0 hb
            · simp at ho
              subst ho
              simp [Region.binds] at hdep
              have k0 : a.tmps.getD 7 undef = _ := (hR.fr.kept rfl (by simp [hT])).trans (by rw [hT]; try rfl)
              clear hi' hdep
              unfold wpOp
              simp [Region.wanted]
              refine .inl ?_
              unfold Oper.wp
              simp [execOp, go_sem, Act.eval, k0, y7a, y7b]
              exact hR.op 2 116 v2 rfl (by decide) hl0 (Below.refl _ _)
            · simp at ho
              subst ho
              simp [Region.binds] at hdep
              have k0 : a.tmps.getD 116 undef = _ := (hR.fr.done (i := 2) rfl (by simp_all) (by simp [hT])).trans v2
              clear hi' hdep
              unfold wpOp
              simp [Region.wanted]
              refine .inl ?_
              unfold Oper.wp
              simp [execOp, go_sem, Act.eval, k0]
              refine (HB33.out _ hbl).mono ?_
              rintro e w'' ⟨rfl, hb⟩
              exact hR.op 3 117 v3 rfl (by decide) hl0 hb
            · simp at ho
              subst ho
              simp [Region.binds] at hdep
              have k0 : a.tmps.getD 115 undef = _ := (hR.fr.done (i := 1) rfl (by simp_all) (by simp [hT])).trans v1
              clear hi' hdep
              unfold wpOp
              simp [Region.wanted]
              refine .inl ?_
              unfold Oper.wp
              simp [execOp, go_sem, Act.eval, k0]
              exact hR.op 4 19 v4 rfl (by decide) hl0 (Below.refl _ _)
            · simp at ho
              subst ho
              simp [Region.binds] at hdep
              have k0 : a.tmps.getD 117 undef = _ := (hR.fr.done (i := 3) rfl (by simp_all) (by simp [hT])).trans v3
              clear hi' hdep
              unfold wpOp
              simp [Region.wanted]
              refine .inl ?_
              unfold Oper.wp
              simp [execOp, go_sem, Act.eval, k0]
              exact hR.op 5 20 v5 rfl (by decide) hl0 (Below.refl _ _)
        case' finb4 =>
            rintro l a W18 hR hz
            have hnot := List.eq_nil_iff_forall_not_mem.1 hz
            have hk : ∀ k, k < 6 → (l.getD k true = false → False) → l.getD k false = true := fun k h12 h => by
              have hs := hR.size
              cases h' : l.getD k true with
              | false => exact (h h').elim
              | true => simp at hs; simp [Array.getD, hs, h12] at h' ⊢; exact h'
            have st0 := hk 0 (by omega) (fun h => hnot 0 (mem_ready.2 ⟨h, _, rfl, by simp [Region.binds] <;> simp_all⟩))
            have st1 := hk 1 (by omega) (fun h => hnot 1 (mem_ready.2 ⟨h, _, rfl, by simp [Region.binds] <;> simp_all⟩))
            have st2 := hk 2 (by omega) (fun h => hnot 2 (mem_ready.2 ⟨h, _, rfl, by simp [Region.binds] <;> simp_all⟩))
            have st3 := hk 3 (by omega) (fun h => hnot 3 (mem_ready.2 ⟨h, _, rfl, by simp [Region.binds] <;> simp_all⟩))
            have st4 := hk 4 (by omega) (fun h => hnot 4 (mem_ready.2 ⟨h, _, rfl, by simp [Region.binds] <;> simp_all⟩))
            have st5 := hk 5 (by omega) (fun h => hnot 5 (mem_ready.2 ⟨h, _, rfl, by simp [Region.binds] <;> simp_all⟩))
            have hall : ∀ i, i < 6 → l.getD i true = true := fun i hi => by
              rcases (show i = 0 ∨ i = 1 ∨ i = 2 ∨ i = 3 ∨ i = 4 ∨ i = 5 by omega) with rfl | rfl | rfl | rfl | rfl | rfl
              · exact getD_true st0
              · exact getD_true st1
              · exact getD_true st2
              · exact getD_true st3
              · exact getD_true st4
              · exact getD_true st5
            clear st0 st1 st2 st3 st4 st5 hk hnot hz
            have hTs : T.size = 189 := by rw [hT]; rfl
            have ha := hR.all (T' := ((((((T.setIfInBounds 114 (vals 0)).setIfInBounds 115 (vals 1)).setIfInBounds 116 (vals 2)).setIfInBounds 117 (vals 3)).setIfInBounds 19 (vals 4)).setIfInBounds 20 (vals 5))) (fun i hi => hall i (by simpa using hi)) (by simp) (fun j hj => by
              by_cases h1 : j = 114 ∨ j = 115 ∨ j = 116 ∨ j = 117 ∨ j = 19 ∨ j = 20
              · rcases h1 with rfl | rfl | rfl | rfl | rfl | rfl <;> simp [rv_sets, tOwn, List.findIdx?, List.findIdx?.go, hTs]
              · simp only [not_or] at h1
                obtain ⟨m114, m115, m116, m117, m19, m20⟩ := h1
                have e : tOwn [some 114, some 115, some 116, some 117, some 19, some 20] vals j = none := by
                  unfold tOwn
                  simp [List.findIdx?, List.findIdx?.go, Ne.symm m114, Ne.symm m115, Ne.symm m116, Ne.symm m117, Ne.symm m19, Ne.symm m20]
                rw [e]
                simp only [rv_sets]
                repeat rw [if_neg (by omega)])
            have hbl := hR.bl
            subst ha
            clear hR hall hTs
            rw [v0, v1, v2, v3, v4, v5, hT]
            simp only [List.setIfInBounds_toArray, List.set_cons_succ, List.set_cons_zero]
            clear v0 v1 v2 v3 v4 v5 vals hT T
        have hb := hbl
        (try have B6 := Lib.hid (B6.out.below hb))
        (try have B7 := Lib.hid (B7.out.below hb))
        (try have B9 := Lib.hid (B9.out.below hb))
        (try have B17 := Lib.hid (B17.out.below hb))
        have HWW := step1 HW HZ hb
        have HW := HWW.1
        have HZ := HWW.2
        have HDD := step1 HD HE hb
        have HD := HDD.1
        have HE := HDD.2
        clear HWW HDD
        clear hb hbl HA33 HB33
        have p6 := B6.out.c0
        have q6 := B6.out.c1
        have p17 := B17.out.c0
        have q17 := B17.out.c1
        obtain ⟨b1, b2, b3⟩ := bits_facts HA.out HA0.out HKA.out.symm
        rw [← HHU.out] at b2 b3
        have hKA192 := bits_least b2 dUd.out b1
        have hKA6 : Hid (KA < 9223372036854775808) := Lib.hid (by omega)
        obtain ⟨KJ, hKJ⟩ : ∃ K : Nat, K = KA - 1 := ⟨_, rfl⟩
        have hKJ6 : Hid (KJ < 9223372036854775808) := Lib.hid (by omega)
        have hmax : max ((KA : Int) - 1) 0 = (KJ : Int) := by omega
        rw [← hKJ] at b2
        obtain ⟨PA, hPA⟩ : ∃ P : Int, P = 2 ^ KA := ⟨_, rfl⟩
        obtain ⟨PB, hPB⟩ : ∃ P : Int, P = 2 ^ KJ := ⟨_, rfl⟩
        have EPA : Hid ((2 : Int) ^ KA = PA) := Lib.hid hPA.symm
        have EPB : Hid ((2 : Int) ^ KJ = PB) := Lib.hid hPB.symm
        have FPA : Hid (fitsB PA.natAbs = true) := Lib.hid (by rw [hPA]; exact fits_two (by omega))
        have FPB : Hid (fitsB PB.natAbs = true) := Lib.hid (by rw [hPB]; exact fits_two (by omega))
        have hUA : (U : Int) < PA := by rw [hPA]; exact nat_lt_pow b3
        have hUB : PB ≤ (U : Int) := by rw [hPB]; exact nat_pow_le b2
        have hcz : 0 ≤ cmpZ (U : Int) PB := cmp_ge hUB
        have hz0 : ((KA : Int) == 0) = false := by simp; omega
        have hz1 : ((l6 : Int) == 0) = false := by simp; omega
        have HKJ := Lib.hid hKJ
        clear hPA hPB hKJ b2 b3 hUB
        by_cases hB0 : B = 0
        case' pos =>
          have hM0 : M = 0 := by rw [HHM.out, hB0]; exact Int.mul_zero _
          have hl17 : l17 = 0 := by have := nu_len B17.out.nu; rw [hM0] at this; rw [this]; exact congrArg List.length digs_zero
          subst hl17
          clear hM0 hB0
          go_upto_region 17 with fail
          go_upto_region 18 with (first | (go_at_call 27; refine (of_X 2 _ (by decide) (by decide)).mono ?_; rintro e wz ⟨x, rfl, hn, hb⟩; (try have B6 := Lib.hid (B6.out.below hb)); (try have B9 := Lib.hid (B9.out.below hb)); have HWW := step1 HW HZ hb; have HW := HWW.1; have HZ := HWW.2; have HDD := step1 HD HE hb; have HD := HDD.1; have HE := HDD.2; clear HWW HDD; have NB := Lib.hid hn; clear hn hb) | (go_at_call 20; refine (pow_fit PA KA NB.out hKA6.out EPA.out FPA.out).mono ?_; rintro e wz ⟨n21, a21, l21, c21, rfl, hn, hb⟩; (try have B6 := Lib.hid (B6.out.below hb)); (try have B9 := Lib.hid (B9.out.below hb)); have HWW := step1 HW HZ hb; have HW := HWW.1; have HZ := HWW.2; have HDD := step1 HD HE hb; have HD := HDD.1; have HE := HDD.2; clear HWW HDD; have NB := Lib.hid hn; clear hn hb))
          obtain ⟨W21, hW⟩ : ∃ X, X = wz.alloc (.cells #[.bool n21, .slice a21 l21 c21] 27) := ⟨_, rfl⟩
          obtain ⟨g21, hg⟩ : ∃ g, g = wz.heap.size := ⟨_, rfl⟩
          have hb : Below wz.heap.size wz W21 := by rw [hW]; exact alloc_b _ _
          have B21 : Hid (Bx W21 g21 n21 a21 l21 c21 PA) := Lib.hid (by rw [hW, hg]; exact bx_new NB.out)
          rw [← hW, ← hg]
          clear hW hg NB
          (try have B6 := Lib.hid (B6.out.below hb))
          (try have B9 := Lib.hid (B9.out.below hb))
          have HWW := step1 HW HZ hb
          have HW := HWW.1
          have HZ := HWW.2
          have HDD := step1 HD HE hb
          have HD := HDD.1
          have HE := HDD.2
          clear HWW HDD
          clear hb
          go_upto_region 19 with (first | (go_at_call 27; refine (of_X 2 _ (by decide) (by decide)).mono ?_; rintro e wz ⟨x, rfl, hn, hb⟩; (try have B6 := Lib.hid (B6.out.below hb)); (try have B9 := Lib.hid (B9.out.below hb)); (try have B21 := Lib.hid (B21.out.below hb)); have HWW := step1 HW HZ hb; have HW := HWW.1; have HZ := HWW.2; have HDD := step1 HD HE hb; have HD := HDD.1; have HE := HDD.2; clear HWW HDD; have NB := Lib.hid hn; clear hn hb) | (go_at_call 20; refine (pow_fit PB KJ NB.out hKJ6.out EPB.out FPB.out).mono ?_; rintro e wz ⟨n23, a23, l23, c23, rfl, hn, hb⟩; (try have B6 := Lib.hid (B6.out.below hb)); (try have B9 := Lib.hid (B9.out.below hb)); (try have B21 := Lib.hid (B21.out.below hb)); have HWW := step1 HW HZ hb; have HW := HWW.1; have HZ := HWW.2; have HDD := step1 HD HE hb; have HD := HDD.1; have HE := HDD.2; clear HWW HDD; have NB := Lib.hid hn; clear hn hb))
          obtain ⟨W23, hW⟩ : ∃ X, X = wz.alloc (.cells #[.bool n23, .slice a23 l23 c23] 27) := ⟨_, rfl⟩
          obtain ⟨g23, hg⟩ : ∃ g, g = wz.heap.size := ⟨_, rfl⟩
          have hb : Below wz.heap.size wz W23 := by rw [hW]; exact alloc_b _ _
          have B23 : Hid (Bx W23 g23 n23 a23 l23 c23 PB) := Lib.hid (by rw [hW, hg]; exact bx_new NB.out)
          rw [← hW, ← hg]
          clear hW hg NB
          (try have B6 := Lib.hid (B6.out.below hb))
          (try have B9 := Lib.hid (B9.out.below hb))
          (try have B21 := Lib.hid (B21.out.below hb))
          have HWW := step1 HW HZ hb
          have HW := HWW.1
          have HZ := HWW.2
          have HDD := step1 HD HE hb
          have HD := HDD.1
          have HE := HDD.2
          clear HWW HDD
          clear hb
          have p6 := B6.out.c0
          have q6 := B6.out.c1
          have p9 := B9.out.c0
          have q9 := B9.out.c1
          have p21 := B21.out.c0
          have q21 := B21.out.c1
          have p23 := B23.out.c0
          have q23 := B23.out.c1
          have HC1 : Hid (Calls Tryz.prog 31 #[.agg #[.bool false, .slice a6 l6 c6], .agg #[.bool n21, .slice a21 l21 c21]] W23 fun e w' => e = .returned (.int .i64 (-1)) ∧ Below W23.heap.size W23 w') := Lib.hid (cmp_less B9.out.nu B21.out.nu hUA)
          have HC2 : Hid (∀ W, Below W23.heap.size W23 W → Calls Tryz.prog 31 #[.agg #[.bool false, .slice a6 l6 c6], .agg #[.bool n23, .slice a23 l23 c23]] W fun e w' => e = .returned (.int .i64 (cmpZ (U : Int) PB)) ∧ Below W.heap.size W w') := Lib.hid (fun W h => cmp_any (B9.out.nu.below h) (B23.out.nu.below h))
          have HD : Hid (Below W23.heap.size W23 W23) := Lib.hid (Below.refl _ _)
          have HE : Hid (W23.heap.size ≤ W23.heap.size) := Lib.hid (Nat.le_refl _)
          go_wp2_with (first | (go_at_call_of 31 (Value.slice a21 l21 c21); refine HC1.out.mono ?_; rintro e wz ⟨rfl, hb⟩; (try have B6 := Lib.hid (B6.out.below hb)); (try have B9 := Lib.hid (B9.out.below hb)); (try have B21 := Lib.hid (B21.out.below hb)); (try have B23 := Lib.hid (B23.out.below hb)); have HWW := step1 HW HZ hb; have HW := HWW.1; have HZ := HWW.2; have HDD := step1 HD HE hb; have HD := HDD.1; have HE := HDD.2; clear HWW HDD; have p6 := B6.out.c0; have q6 := B6.out.c1; have p9 := B9.out.c0; have q9 := B9.out.c1; have p21 := B21.out.c0; have q21 := B21.out.c1; have p23 := B23.out.c0; have q23 := B23.out.c1; clear hb) | (go_at_call_of 31 (Value.slice a23 l23 c23); refine (HC2.out _ HD.out).mono ?_; rintro e wz ⟨rfl, hb⟩; (try have B6 := Lib.hid (B6.out.below hb)); (try have B9 := Lib.hid (B9.out.below hb)); (try have B21 := Lib.hid (B21.out.below hb)); (try have B23 := Lib.hid (B23.out.below hb)); have HWW := step1 HW HZ hb; have HW := HWW.1; have HZ := HWW.2; have HDD := step1 HD HE hb; have HD := HDD.1; have HE := HDD.2; clear HWW HDD; have p6 := B6.out.c0; have q6 := B6.out.c1; have p9 := B9.out.c0; have q9 := B9.out.c1; have p21 := B21.out.c0; have q21 := B21.out.c1; have p23 := B23.out.c0; have q23 := B23.out.c1; clear hb))
          go_ret
          exact ⟨rfl, HW.out⟩
        case' neg =>
          have hKP := bits_prod HA.out HB.out HA0.out hB0 HHM.out HKA.out HKB.out
          rcases hKP with hKP | hKP
          case' inl =>
            have hl17 : l17 ≠ 0 := prod_len (nu_len B17.out.nu) HHM.out HA0.out hB0
            have HP33 : Hid (∀ W, Below W18.heap.size W18 W → Calls Tryz.prog 33 #[.agg #[.bool n17, .slice a17 l17 c17]] W fun e w' => e = .returned (.int .i64 ((KA : Int) + (KB : Int))) ∧ Below W.heap.size W w') := Lib.hid (fun W h => by have q := bits_nu (B17.out.nu.below h) _ rfl; rwa [show ((bitsB (decide (M < 0)) (digs M.natAbs) : Nat) : Int) = ((KA : Int) + (KB : Int)) by rw [hKP]; omega] at q)
            have HD : Hid (Below W18.heap.size W18 W18) := Lib.hid (Below.refl _ _)
            have HE : Hid (W18.heap.size ≤ W18.heap.size) := Lib.hid (Nat.le_refl _)
            obtain ⟨c1, c2, _⟩ := bits_facts HB.out hB0 HKB.out.symm
            have hKB192 := bits_least c2 HB.out c1
            clear hKP hB0 c2
            go_upto_region 17 with (first | (go_at_call 33; refine (HP33.out _ HD.out).mono ?_; rintro e wz ⟨rfl, hb⟩; (try have B6 := Lib.hid (B6.out.below hb)); (try have B9 := Lib.hid (B9.out.below hb)); (try have B17 := Lib.hid (B17.out.below hb)); have HWW := step1 HW HZ hb; have HW := HWW.1; have HZ := HWW.2; have HDD := step1 HD HE hb; have HD := HDD.1; have HE := HDD.2; clear HWW HDD; have p17 := B17.out.c0; have q17 := B17.out.c1; clear hb))
            clear HP33
            go_upto_region 18 with (first | (go_at_call 27; refine (of_X 2 _ (by decide) (by decide)).mono ?_; rintro e wz ⟨x, rfl, hn, hb⟩; (try have B6 := Lib.hid (B6.out.below hb)); (try have B9 := Lib.hid (B9.out.below hb)); have HWW := step1 HW HZ hb; have HW := HWW.1; have HZ := HWW.2; have HDD := step1 HD HE hb; have HD := HDD.1; have HE := HDD.2; clear HWW HDD; have NB := Lib.hid hn; clear hn hb) | (go_at_call 20; refine (pow_fit PA KA NB.out hKA6.out EPA.out FPA.out).mono ?_; rintro e wz ⟨n21, a21, l21, c21, rfl, hn, hb⟩; (try have B6 := Lib.hid (B6.out.below hb)); (try have B9 := Lib.hid (B9.out.below hb)); have HWW := step1 HW HZ hb; have HW := HWW.1; have HZ := HWW.2; have HDD := step1 HD HE hb; have HD := HDD.1; have HE := HDD.2; clear HWW HDD; have NB := Lib.hid hn; clear hn hb))
            obtain ⟨W21, hW⟩ : ∃ X, X = wz.alloc (.cells #[.bool n21, .slice a21 l21 c21] 27) := ⟨_, rfl⟩
            obtain ⟨g21, hg⟩ : ∃ g, g = wz.heap.size := ⟨_, rfl⟩
            have hb : Below wz.heap.size wz W21 := by rw [hW]; exact alloc_b _ _
            have B21 : Hid (Bx W21 g21 n21 a21 l21 c21 PA) := Lib.hid (by rw [hW, hg]; exact bx_new NB.out)
            rw [← hW, ← hg]
            clear hW hg NB
            (try have B6 := Lib.hid (B6.out.below hb))
            (try have B9 := Lib.hid (B9.out.below hb))
            have HWW := step1 HW HZ hb
            have HW := HWW.1
            have HZ := HWW.2
            have HDD := step1 HD HE hb
            have HD := HDD.1
            have HE := HDD.2
            clear HWW HDD
            clear hb
            go_upto_region 19 with (first | (go_at_call 27; refine (of_X 2 _ (by decide) (by decide)).mono ?_; rintro e wz ⟨x, rfl, hn, hb⟩; (try have B6 := Lib.hid (B6.out.below hb)); (try have B9 := Lib.hid (B9.out.below hb)); (try have B21 := Lib.hid (B21.out.below hb)); have HWW := step1 HW HZ hb; have HW := HWW.1; have HZ := HWW.2; have HDD := step1 HD HE hb; have HD := HDD.1; have HE := HDD.2; clear HWW HDD; have NB := Lib.hid hn; clear hn hb) | (go_at_call 20; refine (pow_fit PB KJ NB.out hKJ6.out EPB.out FPB.out).mono ?_; rintro e wz ⟨n23, a23, l23, c23, rfl, hn, hb⟩; (try have B6 := Lib.hid (B6.out.below hb)); (try have B9 := Lib.hid (B9.out.below hb)); (try have B21 := Lib.hid (B21.out.below hb)); have HWW := step1 HW HZ hb; have HW := HWW.1; have HZ := HWW.2; have HDD := step1 HD HE hb; have HD := HDD.1; have HE := HDD.2; clear HWW HDD; have NB := Lib.hid hn; clear hn hb))
            obtain ⟨W23, hW⟩ : ∃ X, X = wz.alloc (.cells #[.bool n23, .slice a23 l23 c23] 27) := ⟨_, rfl⟩
            obtain ⟨g23, hg⟩ : ∃ g, g = wz.heap.size := ⟨_, rfl⟩
            have hb : Below wz.heap.size wz W23 := by rw [hW]; exact alloc_b _ _
            have B23 : Hid (Bx W23 g23 n23 a23 l23 c23 PB) := Lib.hid (by rw [hW, hg]; exact bx_new NB.out)
            rw [← hW, ← hg]
            clear hW hg NB
            (try have B6 := Lib.hid (B6.out.below hb))
            (try have B9 := Lib.hid (B9.out.below hb))
            (try have B21 := Lib.hid (B21.out.below hb))
            have HWW := step1 HW HZ hb
            have HW := HWW.1
            have HZ := HWW.2
            have HDD := step1 HD HE hb
            have HD := HDD.1
            have HE := HDD.2
            clear HWW HDD
            clear hb
            have p6 := B6.out.c0
            have q6 := B6.out.c1
            have p9 := B9.out.c0
            have q9 := B9.out.c1
            have p21 := B21.out.c0
            have q21 := B21.out.c1
            have p23 := B23.out.c0
            have q23 := B23.out.c1
            have HC1 : Hid (Calls Tryz.prog 31 #[.agg #[.bool false, .slice a6 l6 c6], .agg #[.bool n21, .slice a21 l21 c21]] W23 fun e w' => e = .returned (.int .i64 (-1)) ∧ Below W23.heap.size W23 w') := Lib.hid (cmp_less B9.out.nu B21.out.nu hUA)
            have HC2 : Hid (∀ W, Below W23.heap.size W23 W → Calls Tryz.prog 31 #[.agg #[.bool false, .slice a6 l6 c6], .agg #[.bool n23, .slice a23 l23 c23]] W fun e w' => e = .returned (.int .i64 (cmpZ (U : Int) PB)) ∧ Below W.heap.size W w') := Lib.hid (fun W h => cmp_any (B9.out.nu.below h) (B23.out.nu.below h))
            have HD : Hid (Below W23.heap.size W23 W23) := Lib.hid (Below.refl _ _)
            have HE : Hid (W23.heap.size ≤ W23.heap.size) := Lib.hid (Nat.le_refl _)
            go_wp2_with (first | (go_at_call_of 31 (Value.slice a21 l21 c21); refine HC1.out.mono ?_; rintro e wz ⟨rfl, hb⟩; (try have B6 := Lib.hid (B6.out.below hb)); (try have B9 := Lib.hid (B9.out.below hb)); (try have B21 := Lib.hid (B21.out.below hb)); (try have B23 := Lib.hid (B23.out.below hb)); have HWW := step1 HW HZ hb; have HW := HWW.1; have HZ := HWW.2; have HDD := step1 HD HE hb; have HD := HDD.1; have HE := HDD.2; clear HWW HDD; have p6 := B6.out.c0; have q6 := B6.out.c1; have p9 := B9.out.c0; have q9 := B9.out.c1; have p21 := B21.out.c0; have q21 := B21.out.c1; have p23 := B23.out.c0; have q23 := B23.out.c1; clear hb) | (go_at_call_of 31 (Value.slice a23 l23 c23); refine (HC2.out _ HD.out).mono ?_; rintro e wz ⟨rfl, hb⟩; (try have B6 := Lib.hid (B6.out.below hb)); (try have B9 := Lib.hid (B9.out.below hb)); (try have B21 := Lib.hid (B21.out.below hb)); (try have B23 := Lib.hid (B23.out.below hb)); have HWW := step1 HW HZ hb; have HW := HWW.1; have HZ := HWW.2; have HDD := step1 HD HE hb; have HD := HDD.1; have HE := HDD.2; clear HWW HDD; have p6 := B6.out.c0; have q6 := B6.out.c1; have p9 := B9.out.c0; have q9 := B9.out.c1; have p21 := B21.out.c0; have q21 := B21.out.c1; have p23 := B23.out.c0; have q23 := B23.out.c1; clear hb))
            go_ret
            exact ⟨rfl, HW.out⟩
          case' inr =>
            have hl17 : l17 ≠ 0 := prod_len (nu_len B17.out.nu) HHM.out HA0.out hB0
            have HP33 : Hid (∀ W, Below W18.heap.size W18 W → Calls Tryz.prog 33 #[.agg #[.bool n17, .slice a17 l17 c17]] W fun e w' => e = .returned (.int .i64 ((KA : Int) + (KB : Int) - 1)) ∧ Below W.heap.size W w') := Lib.hid (fun W h => by have q := bits_nu (B17.out.nu.below h) _ rfl; rwa [show ((bitsB (decide (M < 0)) (digs M.natAbs) : Nat) : Int) = ((KA : Int) + (KB : Int) - 1) by rw [hKP]; omega] at q)
            have HD : Hid (Below W18.heap.size W18 W18) := Lib.hid (Below.refl _ _)
            have HE : Hid (W18.heap.size ≤ W18.heap.size) := Lib.hid (Nat.le_refl _)
            obtain ⟨c1, c2, _⟩ := bits_facts HB.out hB0 HKB.out.symm
            have hKB192 := bits_least c2 HB.out c1
            clear hKP hB0 c2
            go_upto_region 17 with (first | (go_at_call 33; refine (HP33.out _ HD.out).mono ?_; rintro e wz ⟨rfl, hb⟩; (try have B6 := Lib.hid (B6.out.below hb)); (try have B9 := Lib.hid (B9.out.below hb)); (try have B17 := Lib.hid (B17.out.below hb)); have HWW := step1 HW HZ hb; have HW := HWW.1; have HZ := HWW.2; have HDD := step1 HD HE hb; have HD := HDD.1; have HE := HDD.2; clear HWW HDD; have p17 := B17.out.c0; have q17 := B17.out.c1; clear hb))
            clear HP33
            go_upto_region 18 with (first | (go_at_call 27; refine (of_X 2 _ (by decide) (by decide)).mono ?_; rintro e wz ⟨x, rfl, hn, hb⟩; (try have B6 := Lib.hid (B6.out.below hb)); (try have B9 := Lib.hid (B9.out.below hb)); have HWW := step1 HW HZ hb; have HW := HWW.1; have HZ := HWW.2; have HDD := step1 HD HE hb; have HD := HDD.1; have HE := HDD.2; clear HWW HDD; have NB := Lib.hid hn; clear hn hb) | (go_at_call 20; refine (pow_fit PA KA NB.out hKA6.out EPA.out FPA.out).mono ?_; rintro e wz ⟨n21, a21, l21, c21, rfl, hn, hb⟩; (try have B6 := Lib.hid (B6.out.below hb)); (try have B9 := Lib.hid (B9.out.below hb)); have HWW := step1 HW HZ hb; have HW := HWW.1; have HZ := HWW.2; have HDD := step1 HD HE hb; have HD := HDD.1; have HE := HDD.2; clear HWW HDD; have NB := Lib.hid hn; clear hn hb))
            obtain ⟨W21, hW⟩ : ∃ X, X = wz.alloc (.cells #[.bool n21, .slice a21 l21 c21] 27) := ⟨_, rfl⟩
            obtain ⟨g21, hg⟩ : ∃ g, g = wz.heap.size := ⟨_, rfl⟩
            have hb : Below wz.heap.size wz W21 := by rw [hW]; exact alloc_b _ _
            have B21 : Hid (Bx W21 g21 n21 a21 l21 c21 PA) := Lib.hid (by rw [hW, hg]; exact bx_new NB.out)
            rw [← hW, ← hg]
            clear hW hg NB
            (try have B6 := Lib.hid (B6.out.below hb))
            (try have B9 := Lib.hid (B9.out.below hb))
            have HWW := step1 HW HZ hb
            have HW := HWW.1
            have HZ := HWW.2
            have HDD := step1 HD HE hb
            have HD := HDD.1
            have HE := HDD.2
            clear HWW HDD
            clear hb
            go_upto_region 19 with (first | (go_at_call 27; refine (of_X 2 _ (by decide) (by decide)).mono ?_; rintro e wz ⟨x, rfl, hn, hb⟩; (try have B6 := Lib.hid (B6.out.below hb)); (try have B9 := Lib.hid (B9.out.below hb)); (try have B21 := Lib.hid (B21.out.below hb)); have HWW := step1 HW HZ hb; have HW := HWW.1; have HZ := HWW.2; have HDD := step1 HD HE hb; have HD := HDD.1; have HE := HDD.2; clear HWW HDD; have NB := Lib.hid hn; clear hn hb) | (go_at_call 20; refine (pow_fit PB KJ NB.out hKJ6.out EPB.out FPB.out).mono ?_; rintro e wz ⟨n23, a23, l23, c23, rfl, hn, hb⟩; (try have B6 := Lib.hid (B6.out.below hb)); (try have B9 := Lib.hid (B9.out.below hb)); (try have B21 := Lib.hid (B21.out.below hb)); have HWW := step1 HW HZ hb; have HW := HWW.1; have HZ := HWW.2; have HDD := step1 HD HE hb; have HD := HDD.1; have HE := HDD.2; clear HWW HDD; have NB := Lib.hid hn; clear hn hb))
            obtain ⟨W23, hW⟩ : ∃ X, X = wz.alloc (.cells #[.bool n23, .slice a23 l23 c23] 27) := ⟨_, rfl⟩
            obtain ⟨g23, hg⟩ : ∃ g, g = wz.heap.size := ⟨_, rfl⟩
            have hb : Below wz.heap.size wz W23 := by rw [hW]; exact alloc_b _ _
            have B23 : Hid (Bx W23 g23 n23 a23 l23 c23 PB) := Lib.hid (by rw [hW, hg]; exact bx_new NB.out)
            rw [← hW, ← hg]
            clear hW hg NB
            (try have B6 := Lib.hid (B6.out.below hb))
            (try have B9 := Lib.hid (B9.out.below hb))
            (try have B21 := Lib.hid (B21.out.below hb))
            have HWW := step1 HW HZ hb
            have HW := HWW.1
            have HZ := HWW.2
            have HDD := step1 HD HE hb
            have HD := HDD.1
            have HE := HDD.2
            clear HWW HDD
            clear hb
            have p6 := B6.out.c0
            have q6 := B6.out.c1
            have p9 := B9.out.c0
            have q9 := B9.out.c1
            have p21 := B21.out.c0
            have q21 := B21.out.c1
            have p23 := B23.out.c0
            have q23 := B23.out.c1
            have HC1 : Hid (Calls Tryz.prog 31 #[.agg #[.bool false, .slice a6 l6 c6], .agg #[.bool n21, .slice a21 l21 c21]] W23 fun e w' => e = .returned (.int .i64 (-1)) ∧ Below W23.heap.size W23 w') := Lib.hid (cmp_less B9.out.nu B21.out.nu hUA)
            have HC2 : Hid (∀ W, Below W23.heap.size W23 W → Calls Tryz.prog 31 #[.agg #[.bool false, .slice a6 l6 c6], .agg #[.bool n23, .slice a23 l23 c23]] W fun e w' => e = .returned (.int .i64 (cmpZ (U : Int) PB)) ∧ Below W.heap.size W w') := Lib.hid (fun W h => cmp_any (B9.out.nu.below h) (B23.out.nu.below h))
            have HD : Hid (Below W23.heap.size W23 W23) := Lib.hid (Below.refl _ _)
            have HE : Hid (W23.heap.size ≤ W23.heap.size) := Lib.hid (Nat.le_refl _)
            go_wp2_with (first | (go_at_call_of 31 (Value.slice a21 l21 c21); refine HC1.out.mono ?_; rintro e wz ⟨rfl, hb⟩; (try have B6 := Lib.hid (B6.out.below hb)); (try have B9 := Lib.hid (B9.out.below hb)); (try have B21 := Lib.hid (B21.out.below hb)); (try have B23 := Lib.hid (B23.out.below hb)); have HWW := step1 HW HZ hb; have HW := HWW.1; have HZ := HWW.2; have HDD := step1 HD HE hb; have HD := HDD.1; have HE := HDD.2; clear HWW HDD; have p6 := B6.out.c0; have q6 := B6.out.c1; have p9 := B9.out.c0; have q9 := B9.out.c1; have p21 := B21.out.c0; have q21 := B21.out.c1; have p23 := B23.out.c0; have q23 := B23.out.c1; clear hb) | (go_at_call_of 31 (Value.slice a23 l23 c23); refine (HC2.out _ HD.out).mono ?_; rintro e wz ⟨rfl, hb⟩; (try have B6 := Lib.hid (B6.out.below hb)); (try have B9 := Lib.hid (B9.out.below hb)); (try have B21 := Lib.hid (B21.out.below hb)); (try have B23 := Lib.hid (B23.out.below hb)); have HWW := step1 HW HZ hb; have HW := HWW.1; have HZ := HWW.2; have HDD := step1 HD HE hb; have HD := HDD.1; have HE := HDD.2; clear HWW HDD; have p6 := B6.out.c0; have q6 := B6.out.c1; have p9 := B9.out.c0; have q9 := B9.out.c1; have p21 := B21.out.c0; have q21 := B21.out.c1; have p23 := B23.out.c0; have q23 := B23.out.c1; clear hb))
            go_ret
            exact ⟨rfl, HW.out⟩
      case' neg =>
        have hn6 : n6 = false := by rw [hsg]; exact decide_eq_false hAN
        clear hsg
        subst hn6
        obtain ⟨TX, hTX⟩ : ∃ TX : ByteArray, TX = ⟨(txt A).toArray⟩ := ⟨_, rfl⟩
        have HTXA : Hid ((⟨(txt A).toArray⟩ : ByteArray) = TX) := Lib.hid hTX.symm
        have HPA := Lib.hid (fun W => parse_txt_yes W HA.out HTXA.out)
        clear hTX
        have p6 := B6.out.c0
        have q6 := B6.out.c1
        go_upto_region 11 with (first | (go_at_call 23; refine (HTX.out _ A _ B6.out.nu HW.out HTXA.out).mono ?_; rintro e wz ⟨rfl, hb⟩; (try have B6 := Lib.hid (B6.out.below hb)); (try have B7 := Lib.hid (B7.out.below hb)); (try have B9 := Lib.hid (B9.out.below hb)); (try have B10 := Lib.hid (B10.out.below hb)); (try have B12 := Lib.hid (B12.out.below hb)); have HWW := step1 HW HZ hb; have HW := HWW.1; have HZ := HWW.2; have HDD := step1 HD HE hb; have HD := HDD.1; have HE := HDD.2; clear HWW HDD; clear hb) | (go_at_call 24; refine (HPA.out _).mono ?_; rintro e wz ⟨n15, a15, l15, c15, rfl, hn, hb⟩; (try have B6 := Lib.hid (B6.out.below hb)); (try have B7 := Lib.hid (B7.out.below hb)); (try have B9 := Lib.hid (B9.out.below hb)); (try have B10 := Lib.hid (B10.out.below hb)); (try have B12 := Lib.hid (B12.out.below hb)); have HWW := step1 HW HZ hb; have HW := HWW.1; have HZ := HWW.2; have HDD := step1 HD HE hb; have HD := HDD.1; have HE := HDD.2; clear HWW HDD; have NB := Lib.hid hn; clear hn hb))
        obtain ⟨W15, hW⟩ : ∃ X, X = wz.alloc (.cells #[.bool n15, .slice a15 l15 c15] 27) := ⟨_, rfl⟩
        obtain ⟨g15, hg⟩ : ∃ g, g = wz.heap.size := ⟨_, rfl⟩
        have hb : Below wz.heap.size wz W15 := by rw [hW]; exact alloc_b _ _
        have B15 : Hid (Bx W15 g15 n15 a15 l15 c15 A) := Lib.hid (by rw [hW, hg]; exact bx_new NB.out)
        rw [← hW, ← hg]
        clear hW hg NB p6 q6
        (try have B6 := Lib.hid (B6.out.below hb))
        (try have B7 := Lib.hid (B7.out.below hb))
        (try have B9 := Lib.hid (B9.out.below hb))
        (try have B10 := Lib.hid (B10.out.below hb))
        (try have B12 := Lib.hid (B12.out.below hb))
        have HWW := step1 HW HZ hb
        have HW := HWW.1
        have HZ := HWW.2
        have HDD := step1 HD HE hb
        have HD := HDD.1
        have HE := HDD.2
        clear HWW HDD
        clear hb
        have HD : Hid (Below W15.heap.size W15 W15) := Lib.hid (Below.refl _ _)
        have HE : Hid (W15.heap.size ≤ W15.heap.size) := Lib.hid (Nat.le_refl _)
        have H12 : Hid (∀ W, Below W15.heap.size W15 W → Calls Tryz.prog 23 #[.agg #[.bool n12, .slice a12 l12 c12]] W fun e w' => e = .returned (.string TB) ∧ Below W.heap.size W w') := Lib.hid (fun W h => HTX.out _ NX W (B12.out.nu.below h) (HW.out.trans (h.mono HZ.out)) HTB.out)
        have H6 : Hid (∀ W, Below W15.heap.size W15 W → Calls Tryz.prog 23 #[.agg #[.bool false, .slice a6 l6 c6]] W fun e w' => e = .returned (.string TX) ∧ Below W.heap.size W w') := Lib.hid (fun W h => HTX.out _ A W (B6.out.nu.below h) (HW.out.trans (h.mono HZ.out)) HTXA.out)
        have H9 : Hid (∀ W, Below W15.heap.size W15 W → Calls Tryz.prog 23 #[.agg #[.bool false, .slice a6 l6 c6]] W fun e w' => e = .returned (.string TA) ∧ Below W.heap.size W w') := Lib.hid (fun W h => HTX.out _ _ W (B9.out.nu.below h) (HW.out.trans (h.mono HZ.out)) HTA.out)
        have H19 : Hid (∀ W, Below W15.heap.size W15 W → Calls Tryz.prog 19 #[.agg #[.bool n15, .slice a15 l15 c15], .agg #[.bool false, .slice a6 l6 c6]] W (SameRes W true)) := Lib.hid (fun W h => same_yes (B15.out.nu.below h) (B6.out.nu.below h) rfl)
        have hroom2 : ¬ 9223372036854775807 < (⟨#[45]⟩ : ByteArray).size + TA.size := str_room (show 1 < 10000 by omega) hsTA
        have hroom3 : ¬ 9223372036854775807 < 1 + TA.size := hroom2
        refine frame_named ?_
        intro T hT
        obtain ⟨vals, hvals⟩ : ∃ vals : Nat → Value, vals = (fun i => if i = 0 then .bool true else if i = 1 then .bool false else if i = 2 then .bool false else if i = 3 then .bool true else if i = 4 then .bool false else if i = 5 then .bool false else if i = 6 then .bool false else if i = 7 then .bool true else if i = 8 then .bool false else if i = 9 then .bool false else if i = 10 then .bool false else if i = 11 then .agg #[.bool n12, .slice a12 l12 c12] else if i = 12 then .string TB else if i = 13 then .string TB else if i = 14 then .bool false else if i = 15 then .bool false else if i = 16 then .bool false else if i = 17 then .agg #[.bool n15, .slice a15 l15 c15] else if i = 18 then .agg #[.bool false, .slice a6 l6 c6] else if i = 19 then .bool true else if i = 20 then .bool false else if i = 21 then .bool false else if i = 22 then .bool false else if i = 23 then .pointer (some ⟨g6, 0, none⟩) else if i = 24 then .bool false else if i = 25 then .bool false else if i = 26 then undef else if i = 27 then undef else if i = 28 then undef else if i = 29 then undef else if i = 30 then undef else if i = 31 then undef else if i = 32 then .bool false else if i = 33 then .bool false else undef) := ⟨_, rfl⟩
        have v0 : vals 0 = .bool true := by rw [hvals]; rfl
        have v1 : vals 1 = .bool false := by rw [hvals]; rfl
        have v2 : vals 2 = .bool false := by rw [hvals]; rfl
        have v3 : vals 3 = .bool true := by rw [hvals]; rfl
        have v4 : vals 4 = .bool false := by rw [hvals]; rfl
        have v5 : vals 5 = .bool false := by rw [hvals]; rfl
        have v6 : vals 6 = .bool false := by rw [hvals]; rfl
        have v7 : vals 7 = .bool true := by rw [hvals]; rfl
        have v8 : vals 8 = .bool false := by rw [hvals]; rfl
        have v9 : vals 9 = .bool false := by rw [hvals]; rfl
        have v10 : vals 10 = .bool false := by rw [hvals]; rfl
        have v11 : vals 11 = .agg #[.bool n12, .slice a12 l12 c12] := by rw [hvals]; rfl
        have v12 : vals 12 = .string TB := by rw [hvals]; rfl
        have v13 : vals 13 = .string TB := by rw [hvals]; rfl
        have v14 : vals 14 = .bool false := by rw [hvals]; rfl
        have v15 : vals 15 = .bool false := by rw [hvals]; rfl
        have v16 : vals 16 = .bool false := by rw [hvals]; rfl
        have v17 : vals 17 = .agg #[.bool n15, .slice a15 l15 c15] := by rw [hvals]; rfl
        have v18 : vals 18 = .agg #[.bool false, .slice a6 l6 c6] := by rw [hvals]; rfl
        have v19 : vals 19 = .bool true := by rw [hvals]; rfl
        have v20 : vals 20 = .bool false := by rw [hvals]; rfl
        have v21 : vals 21 = .bool false := by rw [hvals]; rfl
        have v22 : vals 22 = .bool false := by rw [hvals]; rfl
        have v23 : vals 23 = .pointer (some ⟨g6, 0, none⟩) := by rw [hvals]; rfl
        have v24 : vals 24 = .bool false := by rw [hvals]; rfl
        have v25 : vals 25 = .bool false := by rw [hvals]; rfl
        have v26 : vals 26 = undef := by rw [hvals]; rfl
        have v27 : vals 27 = undef := by rw [hvals]; rfl
        have v28 : vals 28 = undef := by rw [hvals]; rfl
        have v29 : vals 29 = undef := by rw [hvals]; rfl
        have v30 : vals 30 = undef := by rw [hvals]; rfl
        have v31 : vals 31 = undef := by rw [hvals]; rfl
        have v32 : vals 32 = .bool false := by rw [hvals]; rfl
        have v33 : vals 33 = .bool false := by rw [hvals]; rfl
        clear hvals
        refine regionP_inv (by kernel_rfl) (fun l a w' => RB W15 T [some 74, some 75, some 76, some 77, some 78, some 79, some 80, some 81, some 82, some 83, some 84, some 85, some 86, some 87, some 88, some 89, some 90, some 91, some 92, some 93, some 94, some 95, some 96, some 97, some 98, some 99, some 100, some 101, some 102, some 103, some 104, some 105, some 106, some 107] vals l a w') ?h0b5 ?stepb5 ?finb5
        case h0b5 => exact RB.start rfl (show Below W15.heap.size W15 W15.drew from ⟨rfl, rfl, rfl, Nat.le_refl _, fun _ _ => rfl⟩)
        case stepb5 =>
            rintro l a w' i' hR hi'
            obtain ⟨hl0, o, ho, hdep⟩ := mem_ready.1 hi'
            have h15 : i' < 34 := by
              have := (Array.getElem?_eq_some_iff.1 ho).1
              simpa using this
            have hbl := hR.bl
            have y12a := (B12.out.below hbl).c0
            have y15a := (B15.out.below hbl).c0
            have y6a := (B6.out.below hbl).c0
            have y9a := (B9.out.below hbl).c0
            have y12b := (B12.out.below hbl).c1
            have y15b := (B15.out.below hbl).c1
            have y6b := (B6.out.below hbl).c1
            have y9b := (B9.out.below hbl).c1
            rcases (show i' = 0 ∨ i' = 1 ∨ i' = 2 ∨ i' = 3 ∨ i' = 4 ∨ i' = 5 ∨ i' = 6 ∨ i' = 7 ∨ i' = 8 ∨ i' = 9 ∨ i' = 10 ∨ i' = 11 ∨ i' = 12 ∨ i' = 13 ∨ i' = 14 ∨ i' = 15 ∨ i' = 16 ∨ i' = 17 ∨ i' = 18 ∨ i' = 19 ∨ i' = 20 ∨ i' = 21 ∨ i' = 22 ∨ i' = 23 ∨ i' = 24 ∨ i' = 25 ∨ i' = 26 ∨ i' = 27 ∨ i' = 28 ∨ i' = 29 ∨ i' = 30 ∨ i' = 31 ∨ i' = 32 ∨ i' = 33 by omega) with rfl | rfl | rfl | rfl | rfl | rfl | rfl | rfl | rfl | rfl | rfl | rfl | rfl | rfl | rfl | rfl | rfl | rfl | rfl | rfl | rfl | rfl | rfl | rfl | rfl | rfl | rfl | rfl | rfl | rfl | rfl | rfl | rfl | rfl
            · simp at ho
              subst ho
              simp [Region.binds] at hdep
              have k0 : a.tmps.getD 11 undef = _ := (hR.fr.kept rfl (by simp [hT])).trans (by rw [hT]; try rfl)
              clear hi' hdep
              unfold wpOp
              simp [Region.wanted]
              refine .inl ?_
              unfold Oper.wp
              simp [execOp, go_sem, Act.eval, k0]
              exact hR.op 0 74 v0 rfl (by decide) hl0 (Below.refl _ _)
            · simp at ho
              subst ho
              simp [Region.binds] at hdep
              have k0 : a.tmps.getD 74 undef = _ := (hR.fr.done (i := 0) rfl (by simp_all) (by simp [hT])).trans v0
              clear hi' hdep
              unfold wpOp
              simp [Region.wanted]
              refine .inl ?_
              unfold Oper.wp
              simp [execOp, go_sem, Act.eval, k0]
              exact hR.op 1 75 v1 rfl (by decide) hl0 (Below.refl _ _)
            · simp at ho
              subst ho
              simp [Region.binds] at hdep
              have k0 : a.tmps.getD 75 undef = _ := (hR.fr.done (i := 1) rfl (by simp_all) (by simp [hT])).trans v1
              clear hi' hdep
              unfold wpOp
              simp [Region.wanted]
              refine .inl ?_
              unfold Oper.wp
              simp [execOp, go_sem, Act.eval, k0]
              exact hR.op 2 76 v2 rfl (by decide) hl0 (Below.refl _ _)
            · simp at ho
              subst ho
              simp [Region.binds] at hdep
              have k0 : a.tmps.getD 13 undef = _ := (hR.fr.kept rfl (by simp [hT])).trans (by rw [hT]; try rfl)
              have kg : a.tmps[76]? = some (.bool false) := hR.fr.opt (by simp [hT]) ((hR.fr.done (i := 2) rfl (by simp_all) (by simp [hT])).trans v2)
              clear hi' hdep
              unfold wpOp
              simp [Region.wanted, yielded, kg]
              refine .inl ?_
              unfold Oper.wp
              simp [execOp, go_sem, Act.eval, k0]
              exact hR.op 3 77 v3 rfl (by decide) hl0 (Below.refl _ _)
            · simp at ho
              subst ho
              simp [Region.binds] at hdep
              have k0 : a.tmps.getD 77 undef = _ := (hR.fr.done (i := 3) rfl (by simp_all) (by simp [hT])).trans v3
              have kg : a.tmps[76]? = some (.bool false) := hR.fr.opt (by simp [hT]) ((hR.fr.done (i := 2) rfl (by simp_all) (by simp [hT])).trans v2)
              clear hi' hdep
              unfold wpOp
              simp [Region.wanted, yielded, kg]
              refine .inl ?_
              unfold Oper.wp
              simp [execOp, go_sem, Act.eval, k0]
              exact hR.op 4 78 v4 rfl (by decide) hl0 (Below.refl _ _)
            · simp at ho
              subst ho
              simp [Region.binds] at hdep
              have k0 : a.tmps.getD 76 undef = _ := (hR.fr.done (i := 2) rfl (by simp_all) (by simp [hT])).trans v2
              have k1 : a.tmps.getD 78 undef = _ := (hR.fr.done (i := 4) rfl (by simp_all) (by simp [hT])).trans v4
              clear hi' hdep
              unfold wpOp
              simp [Region.wanted]
              refine .inl ?_
              unfold Oper.wp
              simp [execOp, go_sem, Act.eval, k0, k1]
              exact hR.op 5 79 v5 rfl (by decide) hl0 (Below.refl _ _)
            · simp at ho
              subst ho
              simp [Region.binds] at hdep
              have k0 : a.tmps.getD 79 undef = _ := (hR.fr.done (i := 5) rfl (by simp_all) (by simp [hT])).trans v5
              clear hi' hdep
              unfold wpOp
              simp [Region.wanted]
              refine .inl ?_
              unfold Oper.wp
              simp [execOp, go_sem, Act.eval, k0]
              exact hR.op 6 80 v6 rfl (by decide) hl0 (Below.refl _ _)
            · simp at ho
              subst ho
              simp [Region.binds] at hdep
              have k0 : a.tmps.getD 16 undef = _ := (hR.fr.kept rfl (by simp [hT])).trans (by rw [hT]; try rfl)
              have kg : a.tmps[80]? = some (.bool false) := hR.fr.opt (by simp [hT]) ((hR.fr.done (i := 6) rfl (by simp_all) (by simp [hT])).trans v6)
              clear hi' hdep
              unfold wpOp
              simp [Region.wanted, yielded, kg]
              refine .inl ?_
              unfold Oper.wp
              simp [execOp, go_sem, Act.eval, k0]
              exact hR.op 7 81 v7 rfl (by decide) hl0 (Below.refl _ _)
            · simp at ho
              subst ho
              simp [Region.binds] at hdep
              have k0 : a.tmps.getD 81 undef = _ := (hR.fr.done (i := 7) rfl (by simp_all) (by simp [hT])).trans v7
              have kg : a.tmps[80]? = some (.bool false) := hR.fr.opt (by simp [hT]) ((hR.fr.done (i := 6) rfl (by simp_all) (by simp [hT])).trans v6)
              clear hi' hdep
              unfold wpOp
              simp [Region.wanted, yielded, kg]
              refine .inl ?_
              unfold Oper.wp
              simp [execOp, go_sem, Act.eval, k0]
              exact hR.op 8 82 v8 rfl (by decide) hl0 (Below.refl _ _)
            · simp at ho
              subst ho
              simp [Region.binds] at hdep
              have k0 : a.tmps.getD 80 undef = _ := (hR.fr.done (i := 6) rfl (by simp_all) (by simp [hT])).trans v6
              have k1 : a.tmps.getD 82 undef = _ := (hR.fr.done (i := 8) rfl (by simp_all) (by simp [hT])).trans v8
              clear hi' hdep
              unfold wpOp
              simp [Region.wanted]
              refine .inl ?_
              unfold Oper.wp
              simp [execOp, go_sem, Act.eval, k0, k1]
              exact hR.op 9 83 v9 rfl (by decide) hl0 (Below.refl _ _)
            · simp at ho
              subst ho
              simp [Region.binds] at hdep
              have k0 : a.tmps.getD 83 undef = _ := (hR.fr.done (i := 9) rfl (by simp_all) (by simp [hT])).trans v9
              clear hi' hdep
              unfold wpOp
              simp [Region.wanted]
              refine .inl ?_
              unfold Oper.wp
              simp [execOp, go_sem, Act.eval, k0]
              exact hR.op 10 84 v10 rfl (by decide) hl0 (Below.refl _ _)
            · simp at ho
              subst ho
              simp [Region.binds] at hdep
              have k0 : a.tmps.getD 12 undef = _ := (hR.fr.kept rfl (by simp [hT])).trans (by rw [hT]; try rfl)
              have kg : a.tmps[84]? = some (.bool false) := hR.fr.opt (by simp [hT]) ((hR.fr.done (i := 10) rfl (by simp_all) (by simp [hT])).trans v10)
              clear hi' hdep
              unfold wpOp
              simp [Region.wanted, yielded, kg]
              refine .inl ?_
              unfold Oper.wp
              simp [execOp, go_sem, Act.eval, k0, y12a, y12b]
              exact hR.op 11 85 v11 rfl (by decide) hl0 (Below.refl _ _)
            · simp at ho
              subst ho
              simp [Region.binds] at hdep
              have k0 : a.tmps.getD 85 undef = _ := (hR.fr.done (i := 11) rfl (by simp_all) (by simp [hT])).trans v11
              have kg : a.tmps[84]? = some (.bool false) := hR.fr.opt (by simp [hT]) ((hR.fr.done (i := 10) rfl (by simp_all) (by simp [hT])).trans v10)
              clear hi' hdep
              unfold wpOp
              simp [Region.wanted, yielded, kg]
              refine .inl ?_
              unfold Oper.wp
              simp [execOp, go_sem, Act.eval, k0]
              refine (H12.out _ hbl).mono ?_
              rintro e w'' ⟨rfl, hb⟩
              exact hR.op 12 86 v12 rfl (by decide) hl0 hb
            · simp at ho
              subst ho
              simp [Region.binds] at hdep
              have k0 : a.tmps.getD 14 undef = _ := (hR.fr.kept rfl (by simp [hT])).trans (by rw [hT]; try rfl)
              have kg : a.tmps[84]? = some (.bool false) := hR.fr.opt (by simp [hT]) ((hR.fr.done (i := 10) rfl (by simp_all) (by simp [hT])).trans v10)
              clear hi' hdep
              unfold wpOp
              simp [Region.wanted, yielded, kg]
              refine .inl ?_
              unfold Oper.wp
              simp [execOp, go_sem, Act.eval, k0]
              exact hR.op 13 87 v13 rfl (by decide) hl0 (Below.refl _ _)
            · simp at ho
              subst ho
              simp [Region.binds] at hdep
              have k0 : a.tmps.getD 86 undef = _ := (hR.fr.done (i := 12) rfl (by simp_all) (by simp [hT])).trans v12
              have k1 : a.tmps.getD 87 undef = _ := (hR.fr.done (i := 13) rfl (by simp_all) (by simp [hT])).trans v13
              have kg : a.tmps[84]? = some (.bool false) := hR.fr.opt (by simp [hT]) ((hR.fr.done (i := 10) rfl (by simp_all) (by simp [hT])).trans v10)
              clear hi' hdep
              unfold wpOp
              simp [Region.wanted, yielded, kg]
              refine .inl ?_
              unfold Oper.wp
              simp [execOp, go_sem, Act.eval, k0, k1]
              exact hR.op 14 88 v14 rfl (by decide) hl0 (Below.refl _ _)
            · simp at ho
              subst ho
              simp [Region.binds] at hdep
              have k0 : a.tmps.getD 84 undef = _ := (hR.fr.done (i := 10) rfl (by simp_all) (by simp [hT])).trans v10
              have k1 : a.tmps.getD 88 undef = _ := (hR.fr.done (i := 14) rfl (by simp_all) (by simp [hT])).trans v14
              clear hi' hdep
              unfold wpOp
              simp [Region.wanted]
              refine .inl ?_
              unfold Oper.wp
              simp [execOp, go_sem, Act.eval, k0, k1]
              exact hR.op 15 89 v15 rfl (by decide) hl0 (Below.refl _ _)
            · simp at ho
              subst ho
              simp [Region.binds] at hdep
              have k0 : a.tmps.getD 89 undef = _ := (hR.fr.done (i := 15) rfl (by simp_all) (by simp [hT])).trans v15
              clear hi' hdep
              unfold wpOp
              simp [Region.wanted]
              refine .inl ?_
              unfold Oper.wp
              simp [execOp, go_sem, Act.eval, k0]
              exact hR.op 16 90 v16 rfl (by decide) hl0 (Below.refl _ _)
            · simp at ho
              subst ho
              simp [Region.binds] at hdep
              have k0 : a.tmps.getD 15 undef = _ := (hR.fr.kept rfl (by simp [hT])).trans (by rw [hT]; try rfl)
              have kg : a.tmps[90]? = some (.bool false) := hR.fr.opt (by simp [hT]) ((hR.fr.done (i := 16) rfl (by simp_all) (by simp [hT])).trans v16)
              clear hi' hdep
              unfold wpOp
              simp [Region.wanted, yielded, kg]
              refine .inl ?_
              unfold Oper.wp
              simp [execOp, go_sem, Act.eval, k0, y15a, y15b]
              exact hR.op 17 91 v17 rfl (by decide) hl0 (Below.refl _ _)
            · simp at ho
              subst ho
              simp [Region.binds] at hdep
              have k0 : a.tmps.getD 6 undef = _ := (hR.fr.kept rfl (by simp [hT])).trans (by rw [hT]; try rfl)
              have kg : a.tmps[90]? = some (.bool false) := hR.fr.opt (by simp [hT]) ((hR.fr.done (i := 16) rfl (by simp_all) (by simp [hT])).trans v16)
              clear hi' hdep
              unfold wpOp
              simp [Region.wanted, yielded, kg]
              refine .inl ?_
              unfold Oper.wp
              simp [execOp, go_sem, Act.eval, k0, y6a, y6b]
              exact hR.op 18 92 v18 rfl (by decide) hl0 (Below.refl _ _)
            · simp at ho
              subst ho
              simp [Region.binds] at hdep
              have k0 : a.tmps.getD 91 undef = _ := (hR.fr.done (i := 17) rfl (by simp_all) (by simp [hT])).trans v17
              have k1 : a.tmps.getD 92 undef = _ := (hR.fr.done (i := 18) rfl (by simp_all) (by simp [hT])).trans v18
              have kg : a.tmps[90]? = some (.bool false) := hR.fr.opt (by simp [hT]) ((hR.fr.done (i := 16) rfl (by simp_all) (by simp [hT])).trans v16)
              clear hi' hdep
              unfold wpOp
              simp [Region.wanted, yielded, kg]
              refine .inl ?_
              unfold Oper.wp
              simp [execOp, go_sem, Act.eval, k0, k1]
              refine (H19.out _ hbl).mono ?_
              rintro e w'' ⟨rfl, hb⟩
              exact hR.op 19 93 v19 rfl (by decide) hl0 hb
            · simp at ho
              subst ho
              simp [Region.binds] at hdep
              have k0 : a.tmps.getD 93 undef = _ := (hR.fr.done (i := 19) rfl (by simp_all) (by simp [hT])).trans v19
              have kg : a.tmps[90]? = some (.bool false) := hR.fr.opt (by simp [hT]) ((hR.fr.done (i := 16) rfl (by simp_all) (by simp [hT])).trans v16)
              clear hi' hdep
              unfold wpOp
              simp [Region.wanted, yielded, kg]
              refine .inl ?_
              unfold Oper.wp
              simp [execOp, go_sem, Act.eval, k0]
              exact hR.op 20 94 v20 rfl (by decide) hl0 (Below.refl _ _)
            · simp at ho
              subst ho
              simp [Region.binds] at hdep
              have k0 : a.tmps.getD 90 undef = _ := (hR.fr.done (i := 16) rfl (by simp_all) (by simp [hT])).trans v16
              have k1 : a.tmps.getD 94 undef = _ := (hR.fr.done (i := 20) rfl (by simp_all) (by simp [hT])).trans v20
              clear hi' hdep
              unfold wpOp
              simp [Region.wanted]
              refine .inl ?_
              unfold Oper.wp
              simp [execOp, go_sem, Act.eval, k0, k1]
              exact hR.op 21 95 v21 rfl (by decide) hl0 (Below.refl _ _)
            · simp at ho
              subst ho
              simp [Region.binds] at hdep
              have k0 : a.tmps.getD 95 undef = _ := (hR.fr.done (i := 21) rfl (by simp_all) (by simp [hT])).trans v21
              clear hi' hdep
              unfold wpOp
              simp [Region.wanted]
              refine .inl ?_
              unfold Oper.wp
              simp [execOp, go_sem, Act.eval, k0]
              exact hR.op 22 96 v22 rfl (by decide) hl0 (Below.refl _ _)
            · simp at ho
              subst ho
              simp [Region.binds] at hdep
              have k0 : a.tmps.getD 6 undef = _ := (hR.fr.kept rfl (by simp [hT])).trans (by rw [hT]; try rfl)
              have kg : a.tmps[96]? = some (.bool false) := hR.fr.opt (by simp [hT]) ((hR.fr.done (i := 22) rfl (by simp_all) (by simp [hT])).trans v22)
              clear hi' hdep
              unfold wpOp
              simp [Region.wanted, yielded, kg]
              refine .inl ?_
              unfold Oper.wp
              simp [execOp, go_sem, Act.eval, k0, y6a, y6b]
              exact hR.op 23 97 v23 rfl (by decide) hl0 (Below.refl _ _)
            · simp at ho
              subst ho
              simp [Region.binds] at hdep
              have k0 : a.tmps.getD 97 undef = _ := (hR.fr.done (i := 23) rfl (by simp_all) (by simp [hT])).trans v23
              have kg : a.tmps[96]? = some (.bool false) := hR.fr.opt (by simp [hT]) ((hR.fr.done (i := 22) rfl (by simp_all) (by simp [hT])).trans v22)
              clear hi' hdep
              unfold wpOp
              simp [Region.wanted, yielded, kg]
              refine .inl ?_
              unfold Oper.wp
              simp [execOp, go_sem, Act.eval, k0, y6a, y6b]
              exact hR.op 24 98 v24 rfl (by decide) hl0 (Below.refl _ _)
            · simp at ho
              subst ho
              simp [Region.binds] at hdep
              have k0 : a.tmps.getD 98 undef = _ := (hR.fr.done (i := 24) rfl (by simp_all) (by simp [hT])).trans v24
              have kg : a.tmps[96]? = some (.bool false) := hR.fr.opt (by simp [hT]) ((hR.fr.done (i := 22) rfl (by simp_all) (by simp [hT])).trans v22)
              clear hi' hdep
              unfold wpOp
              simp [Region.wanted, yielded, kg]
              refine .inl ?_
              unfold Oper.wp
              simp [execOp, go_sem, Act.eval, k0]
              exact hR.op 25 99 v25 rfl (by decide) hl0 (Below.refl _ _)
            · simp at ho
              subst ho
              simp [Region.binds] at hdep
              have kg : a.tmps[99]? = some (.bool false) := hR.fr.opt (by simp [hT]) ((hR.fr.done (i := 25) rfl (by simp_all) (by simp [hT])).trans v25)
              clear hi' hdep
              unfold wpOp
              simp [Region.wanted, yielded, kg]
              exact hR.op 26 100 v26 rfl (by decide) hl0 (Below.refl _ _)
            · simp at ho
              subst ho
              simp [Region.binds] at hdep
              have kg : a.tmps[99]? = some (.bool false) := hR.fr.opt (by simp [hT]) ((hR.fr.done (i := 25) rfl (by simp_all) (by simp [hT])).trans v25)
              clear hi' hdep
              unfold wpOp
              simp [Region.wanted, yielded, kg]
              exact hR.op 27 101 v27 rfl (by decide) hl0 (Below.refl _ _)
            · simp at ho
              subst ho
              simp [Region.binds] at hdep
              have kg : a.tmps[99]? = some (.bool false) := hR.fr.opt (by simp [hT]) ((hR.fr.done (i := 25) rfl (by simp_all) (by simp [hT])).trans v25)
              clear hi' hdep
              unfold wpOp
              simp [Region.wanted, yielded, kg]
              exact hR.op 28 102 v28 rfl (by decide) hl0 (Below.refl _ _)
            · simp at ho
              subst ho
              simp [Region.binds] at hdep
              have kg : a.tmps[99]? = some (.bool false) := hR.fr.opt (by simp [hT]) ((hR.fr.done (i := 25) rfl (by simp_all) (by simp [hT])).trans v25)
              clear hi' hdep
              unfold wpOp
              simp [Region.wanted, yielded, kg]
              exact hR.op 29 103 v29 rfl (by decide) hl0 (Below.refl _ _)
            · simp at ho
              subst ho
              simp [Region.binds] at hdep
              have kg : a.tmps[99]? = some (.bool false) := hR.fr.opt (by simp [hT]) ((hR.fr.done (i := 25) rfl (by simp_all) (by simp [hT])).trans v25)
              clear hi' hdep
              unfold wpOp
              simp [Region.wanted, yielded, kg]
              exact hR.op 30 104 v30 rfl (by decide) hl0 (Below.refl _ _)
            · simp at ho
              subst ho
              simp [Region.binds] at hdep
              have kg : a.tmps[99]? = some (.bool false) := hR.fr.opt (by simp [hT]) ((hR.fr.done (i := 25) rfl (by simp_all) (by simp [hT])).trans v25)
              clear hi' hdep
              unfold wpOp
              simp [Region.wanted, yielded, kg]
              exact hR.op 31 105 v31 rfl (by decide) hl0 (Below.refl _ _)
            · simp at ho
              subst ho
              simp [Region.binds] at hdep
              have k0 : a.tmps.getD 99 undef = _ := (hR.fr.done (i := 25) rfl (by simp_all) (by simp [hT])).trans v25
              have k1 : a.tmps.getD 105 undef = _ := (hR.fr.done (i := 31) rfl (by simp_all) (by simp [hT])).trans v31
              have kg : a.tmps[96]? = some (.bool false) := hR.fr.opt (by simp [hT]) ((hR.fr.done (i := 22) rfl (by simp_all) (by simp [hT])).trans v22)
              clear hi' hdep
              unfold wpOp
              simp [Region.wanted, yielded, kg]
              refine .inl ?_
              unfold Oper.wp
              simp [execOp, go_sem, Act.eval, k0, k1]
              exact hR.op 32 106 v32 rfl (by decide) hl0 (Below.refl _ _)
            · simp at ho
              subst ho
              simp [Region.binds] at hdep
              have k0 : a.tmps.getD 96 undef = _ := (hR.fr.done (i := 22) rfl (by simp_all) (by simp [hT])).trans v22
              have k1 : a.tmps.getD 106 undef = _ := (hR.fr.done (i := 32) rfl (by simp_all) (by simp [hT])).trans v32
              clear hi' hdep
              unfold wpOp
              simp [Region.wanted]
              refine .inl ?_
              unfold Oper.wp
              simp [execOp, go_sem, Act.eval, k0, k1]
              exact hR.op 33 107 v33 rfl (by decide) hl0 (Below.refl _ _)
        case' finb5 =>
            rintro l a W16 hR hz
            have hnot := List.eq_nil_iff_forall_not_mem.1 hz
            have hk : ∀ k, k < 34 → (l.getD k true = false → False) → l.getD k false = true := fun k h12 h => by
              have hs := hR.size
              cases h' : l.getD k true with
              | false => exact (h h').elim
              | true => simp at hs; simp [Array.getD, hs, h12] at h' ⊢; exact h'
            have st0 := hk 0 (by omega) (fun h => hnot 0 (mem_ready.2 ⟨h, _, rfl, by simp [Region.binds] <;> simp_all⟩))
            have st1 := hk 1 (by omega) (fun h => hnot 1 (mem_ready.2 ⟨h, _, rfl, by simp [Region.binds] <;> simp_all⟩))
            have st2 := hk 2 (by omega) (fun h => hnot 2 (mem_ready.2 ⟨h, _, rfl, by simp [Region.binds] <;> simp_all⟩))
            have st3 := hk 3 (by omega) (fun h => hnot 3 (mem_ready.2 ⟨h, _, rfl, by simp [Region.binds] <;> simp_all⟩))
            have st4 := hk 4 (by omega) (fun h => hnot 4 (mem_ready.2 ⟨h, _, rfl, by simp [Region.binds] <;> simp_all⟩))
            have st5 := hk 5 (by omega) (fun h => hnot 5 (mem_ready.2 ⟨h, _, rfl, by simp [Region.binds] <;> simp_all⟩))
            have st6 := hk 6 (by omega) (fun h => hnot 6 (mem_ready.2 ⟨h, _, rfl, by simp [Region.binds] <;> simp_all⟩))
            have st7 := hk 7 (by omega) (fun h => hnot 7 (mem_ready.2 ⟨h, _, rfl, by simp [Region.binds] <;> simp_all⟩))
            have st8 := hk 8 (by omega) (fun h => hnot 8 (mem_ready.2 ⟨h, _, rfl, by simp [Region.binds] <;> simp_all⟩))
            have st9 := hk 9 (by omega) (fun h => hnot 9 (mem_ready.2 ⟨h, _, rfl, by simp [Region.binds] <;> simp_all⟩))
            have st10 := hk 10 (by omega) (fun h => hnot 10 (mem_ready.2 ⟨h, _, rfl, by simp [Region.binds] <;> simp_all⟩))
            have st11 := hk 11 (by omega) (fun h => hnot 11 (mem_ready.2 ⟨h, _, rfl, by simp [Region.binds] <;> simp_all⟩))
            have st12 := hk 12 (by omega) (fun h => hnot 12 (mem_ready.2 ⟨h, _, rfl, by simp [Region.binds] <;> simp_all⟩))
            have st13 := hk 13 (by omega) (fun h => hnot 13 (mem_ready.2 ⟨h, _, rfl, by simp [Region.binds] <;> simp_all⟩))
            have st14 := hk 14 (by omega) (fun h => hnot 14 (mem_ready.2 ⟨h, _, rfl, by simp [Region.binds] <;> simp_all⟩))
            have st15 := hk 15 (by omega) (fun h => hnot 15 (mem_ready.2 ⟨h, _, rfl, by simp [Region.binds] <;> simp_all⟩))
            have st16 := hk 16 (by omega) (fun h => hnot 16 (mem_ready.2 ⟨h, _, rfl, by simp [Region.binds] <;> simp_all⟩))
            have st17 := hk 17 (by omega) (fun h => hnot 17 (mem_ready.2 ⟨h, _, rfl, by simp [Region.binds] <;> simp_all⟩))
            have st18 := hk 18 (by omega) (fun h => hnot 18 (mem_ready.2 ⟨h, _, rfl, by simp [Region.binds] <;> simp_all⟩))
            have st19 := hk 19 (by omega) (fun h => hnot 19 (mem_ready.2 ⟨h, _, rfl, by simp [Region.binds] <;> simp_all⟩))
            have st20 := hk 20 (by omega) (fun h => hnot 20 (mem_ready.2 ⟨h, _, rfl, by simp [Region.binds] <;> simp_all⟩))
            have st21 := hk 21 (by omega) (fun h => hnot 21 (mem_ready.2 ⟨h, _, rfl, by simp [Region.binds] <;> simp_all⟩))
            have st22 := hk 22 (by omega) (fun h => hnot 22 (mem_ready.2 ⟨h, _, rfl, by simp [Region.binds] <;> simp_all⟩))
            have st23 := hk 23 (by omega) (fun h => hnot 23 (mem_ready.2 ⟨h, _, rfl, by simp [Region.binds] <;> simp_all⟩))
            have st24 := hk 24 (by omega) (fun h => hnot 24 (mem_ready.2 ⟨h, _, rfl, by simp [Region.binds] <;> simp_all⟩))
            have st25 := hk 25 (by omega) (fun h => hnot 25 (mem_ready.2 ⟨h, _, rfl, by simp [Region.binds] <;> simp_all⟩))
            have st26 := hk 26 (by omega) (fun h => hnot 26 (mem_ready.2 ⟨h, _, rfl, by simp [Region.binds] <;> simp_all⟩))
            have st27 := hk 27 (by omega) (fun h => hnot 27 (mem_ready.2 ⟨h, _, rfl, by simp [Region.binds] <;> simp_all⟩))
            have st28 := hk 28 (by omega) (fun h => hnot 28 (mem_ready.2 ⟨h, _, rfl, by simp [Region.binds] <;> simp_all⟩))
            have st29 := hk 29 (by omega) (fun h => hnot 29 (mem_ready.2 ⟨h, _, rfl, by simp [Region.binds] <;> simp_all⟩))
            have st30 := hk 30 (by omega) (fun h => hnot 30 (mem_ready.2 ⟨h, _, rfl, by simp [Region.binds] <;> simp_all⟩))
            have st31 := hk 31 (by omega) (fun h => hnot 31 (mem_ready.2 ⟨h, _, rfl, by simp [Region.binds] <;> simp_all⟩))
            have st32 := hk 32 (by omega) (fun h => hnot 32 (mem_ready.2 ⟨h, _, rfl, by simp [Region.binds] <;> simp_all⟩))
            have st33 := hk 33 (by omega) (fun h => hnot 33 (mem_ready.2 ⟨h, _, rfl, by simp [Region.binds] <;> simp_all⟩))
            have hall : ∀ i, i < 34 → l.getD i true = true := fun i hi => by
              rcases (show i = 0 ∨ i = 1 ∨ i = 2 ∨ i = 3 ∨ i = 4 ∨ i = 5 ∨ i = 6 ∨ i = 7 ∨ i = 8 ∨ i = 9 ∨ i = 10 ∨ i = 11 ∨ i = 12 ∨ i = 13 ∨ i = 14 ∨ i = 15 ∨ i = 16 ∨ i = 17 ∨ i = 18 ∨ i = 19 ∨ i = 20 ∨ i = 21 ∨ i = 22 ∨ i = 23 ∨ i = 24 ∨ i = 25 ∨ i = 26 ∨ i = 27 ∨ i = 28 ∨ i = 29 ∨ i = 30 ∨ i = 31 ∨ i = 32 ∨ i = 33 by omega) with rfl | rfl | rfl | rfl | rfl | rfl | rfl | rfl | rfl | rfl | rfl | rfl | rfl | rfl | rfl | rfl | rfl | rfl | rfl | rfl | rfl | rfl | rfl | rfl | rfl | rfl | rfl | rfl | rfl | rfl | rfl | rfl | rfl | rfl
              · exact getD_true st0
              · exact getD_true st1
              · exact getD_true st2
              · exact getD_true st3
              · exact getD_true st4
              · exact getD_true st5
              · exact getD_true st6
              · exact getD_true st7
              · exact getD_true st8
              · exact getD_true st9
              · exact getD_true st10
              · exact getD_true st11
              · exact getD_true st12
              · exact getD_true st13
              · exact getD_true st14
              · exact getD_true st15
              · exact getD_true st16
              · exact getD_true st17
              · exact getD_true st18
              · exact getD_true st19
              · exact getD_true st20
              · exact getD_true st21
              · exact getD_true st22
              · exact getD_true st23
              · exact getD_true st24
              · exact getD_true st25
              · exact getD_true st26
              · exact getD_true st27
              · exact getD_true st28
              · exact getD_true st29
              · exact getD_true st30
              · exact getD_true st31
              · exact getD_true st32
              · exact getD_true st33
            clear st0 st1 st2 st3 st4 st5 st6 st7 st8 st9 st10 st11 st12 st13 st14 st15 st16 st17 st18 st19 st20 st21 st22 st23 st24 st25 st26 st27 st28 st29 st30 st31 st32 st33 hk hnot hz
            have hTs : T.size = 189 := by rw [hT]; rfl
            have ha := hR.all (T' := ((((((((((((((((((((((((((((((((((T.setIfInBounds 74 (vals 0)).setIfInBounds 75 (vals 1)).setIfInBounds 76 (vals 2)).setIfInBounds 77 (vals 3)).setIfInBounds 78 (vals 4)).setIfInBounds 79 (vals 5)).setIfInBounds 80 (vals 6)).setIfInBounds 81 (vals 7)).setIfInBounds 82 (vals 8)).setIfInBounds 83 (vals 9)).setIfInBounds 84 (vals 10)).setIfInBounds 85 (vals 11)).setIfInBounds 86 (vals 12)).setIfInBounds 87 (vals 13)).setIfInBounds 88 (vals 14)).setIfInBounds 89 (vals 15)).setIfInBounds 90 (vals 16)).setIfInBounds 91 (vals 17)).setIfInBounds 92 (vals 18)).setIfInBounds 93 (vals 19)).setIfInBounds 94 (vals 20)).setIfInBounds 95 (vals 21)).setIfInBounds 96 (vals 22)).setIfInBounds 97 (vals 23)).setIfInBounds 98 (vals 24)).setIfInBounds 99 (vals 25)).setIfInBounds 100 (vals 26)).setIfInBounds 101 (vals 27)).setIfInBounds 102 (vals 28)).setIfInBounds 103 (vals 29)).setIfInBounds 104 (vals 30)).setIfInBounds 105 (vals 31)).setIfInBounds 106 (vals 32)).setIfInBounds 107 (vals 33))) (fun i hi => hall i (by simpa using hi)) (by simp) (fun j hj => by
              by_cases h1 : j = 74 ∨ j = 75 ∨ j = 76 ∨ j = 77 ∨ j = 78 ∨ j = 79 ∨ j = 80 ∨ j = 81 ∨ j = 82 ∨ j = 83 ∨ j = 84 ∨ j = 85 ∨ j = 86 ∨ j = 87 ∨ j = 88 ∨ j = 89 ∨ j = 90 ∨ j = 91 ∨ j = 92 ∨ j = 93 ∨ j = 94 ∨ j = 95 ∨ j = 96 ∨ j = 97 ∨ j = 98 ∨ j = 99 ∨ j = 100 ∨ j = 101 ∨ j = 102 ∨ j = 103 ∨ j = 104 ∨ j = 105 ∨ j = 106 ∨ j = 107
              · rcases h1 with rfl | rfl | rfl | rfl | rfl | rfl | rfl | rfl | rfl | rfl | rfl | rfl | rfl | rfl | rfl | rfl | rfl | rfl | rfl | rfl | rfl | rfl | rfl | rfl | rfl | rfl | rfl | rfl | rfl | rfl | rfl | rfl | rfl | rfl <;> simp [rv_sets, tOwn, List.findIdx?, List.findIdx?.go, hTs]
              · simp only [not_or] at h1
                obtain ⟨m74, m75, m76, m77, m78, m79, m80, m81, m82, m83, m84, m85, m86, m87, m88, m89, m90, m91, m92, m93, m94, m95, m96, m97, m98, m99, m100, m101, m102, m103, m104, m105, m106, m107⟩ := h1
                have e : tOwn [some 74, some 75, some 76, some 77, some 78, some 79, some 80, some 81, some 82, some 83, some 84, some 85, some 86, some 87, some 88, some 89, some 90, some 91, some 92, some 93, some 94, some 95, some 96, some 97, some 98, some 99, some 100, some 101, some 102, some 103, some 104, some 105, some 106, some 107] vals j = none := by
                  unfold tOwn
                  simp [List.findIdx?, List.findIdx?.go, Ne.symm m74, Ne.symm m75, Ne.symm m76, Ne.symm m77, Ne.symm m78, Ne.symm m79, Ne.symm m80, Ne.symm m81, Ne.symm m82, Ne.symm m83, Ne.symm m84, Ne.symm m85, Ne.symm m86, Ne.symm m87, Ne.symm m88, Ne.symm m89, Ne.symm m90, Ne.symm m91, Ne.symm m92, Ne.symm m93, Ne.symm m94, Ne.symm m95, Ne.symm m96, Ne.symm m97, Ne.symm m98, Ne.symm m99, Ne.symm m100, Ne.symm m101, Ne.symm m102, Ne.symm m103, Ne.symm m104, Ne.symm m105, Ne.symm m106, Ne.symm m107]
                rw [e]
                simp only [rv_sets]
                repeat rw [if_neg (by omega)])
            have hbl := hR.bl
            subst ha
            clear hR hall hTs
            rw [v0, v1, v2, v3, v4, v5, v6, v7, v8, v9, v10, v11, v12, v13, v14, v15, v16, v17, v18, v19, v20, v21, v22, v23, v24, v25, v26, v27, v28, v29, v30, v31, v32, v33, hT]
            simp only [List.setIfInBounds_toArray, List.set_cons_succ, List.set_cons_zero]
            clear v0 v1 v2 v3 v4 v5 v6 v7 v8 v9 v10 v11 v12 v13 v14 v15 v16 v17 v18 v19 v20 v21 v22 v23 v24 v25 v26 v27 v28 v29 v30 v31 v32 v33 vals hT T
        have hb := hbl
        (try have B6 := Lib.hid (B6.out.below hb))
        (try have B7 := Lib.hid (B7.out.below hb))
        (try have B9 := Lib.hid (B9.out.below hb))
        have HWW := step1 HW HZ hb
        have HW := HWW.1
        have HZ := HWW.2
        have HDD := step1 HD HE hb
        have HD := HDD.1
        have HE := HDD.2
        clear HWW HDD
        clear hb hbl hroom2 hroom3
        clear H12 H6 H9 H19 B10 B12 B15
        have p6 := B6.out.c0
        have q6 := B6.out.c1
        have p7 := B7.out.c0
        have q7 := B7.out.c1
        go_upto_region 13 with fail
        go_upto_region 14 with (first | (go_at_call 30; refine (mul_fit M B6.out.nu B7.out.nu EM.out FM.out).mono ?_; rintro e wz ⟨n17, a17, l17, c17, rfl, hn, hb⟩; (try have B6 := Lib.hid (B6.out.below hb)); (try have B7 := Lib.hid (B7.out.below hb)); (try have B9 := Lib.hid (B9.out.below hb)); have HWW := step1 HW HZ hb; have HW := HWW.1; have HZ := HWW.2; have HDD := step1 HD HE hb; have HD := HDD.1; have HE := HDD.2; clear HWW HDD; have NB := Lib.hid hn; clear hn hb))
        obtain ⟨W17, hW⟩ : ∃ X, X = wz.alloc (.cells #[.bool n17, .slice a17 l17 c17] 27) := ⟨_, rfl⟩
        obtain ⟨g17, hg⟩ : ∃ g, g = wz.heap.size := ⟨_, rfl⟩
        have hb : Below wz.heap.size wz W17 := by rw [hW]; exact alloc_b _ _
        have B17 : Hid (Bx W17 g17 n17 a17 l17 c17 M) := Lib.hid (by rw [hW, hg]; exact bx_new NB.out)
        rw [← hW, ← hg]
        clear hW hg NB
        (try have B6 := Lib.hid (B6.out.below hb))
        (try have B7 := Lib.hid (B7.out.below hb))
        (try have B9 := Lib.hid (B9.out.below hb))
        have HWW := step1 HW HZ hb
        have HW := HWW.1
        have HZ := HWW.2
        have HDD := step1 HD HE hb
        have HD := HDD.1
        have HE := HDD.2
        clear HWW HDD
        clear hb
        clear p6 q6 p7 q7
        have hkA : ∃ K, K = bitsB (decide (A < 0)) (digs A.natAbs) := ⟨_, rfl⟩
        obtain ⟨KA, hKA⟩ := hkA
        have hkB : ∃ K, K = bitsB (decide (B < 0)) (digs B.natAbs) := ⟨_, rfl⟩
        obtain ⟨KB, hKB⟩ := hkB
        have HA33 : Hid (∀ W, Below W17.heap.size W17 W → Calls Tryz.prog 33 #[.agg #[.bool false, .slice a6 l6 c6]] W fun e w' => e = .returned (.int .i64 (KA : Nat)) ∧ Below W.heap.size W w') := Lib.hid (fun W h => bits_nu (B6.out.nu.below h) KA hKA.symm)
        have HB33 : Hid (∀ W, Below W17.heap.size W17 W → Calls Tryz.prog 33 #[.agg #[.bool n7, .slice a7 l7 c7]] W fun e w' => e = .returned (.int .i64 (KB : Nat)) ∧ Below W.heap.size W w') := Lib.hid (fun W h => bits_nu (B7.out.nu.below h) KB hKB.symm)
        have HKA := Lib.hid hKA
        have HKB := Lib.hid hKB
        clear hKA hKB
        refine frame_named ?_
        intro T hT
        obtain ⟨vals, hvals⟩ : ∃ vals : Nat → Value, vals = (fun i => if i = 0 then .agg #[.bool false, .slice a6 l6 c6] else if i = 1 then .int .i64 (KA : Nat) else if i = 2 then .agg #[.bool n7, .slice a7 l7 c7] else if i = 3 then .int .i64 (KB : Nat) else if i = 4 then .int .i64 (KA : Nat) else if i = 5 then .int .i64 (KB : Nat) else undef) := ⟨_, rfl⟩
        have v0 : vals 0 = .agg #[.bool false, .slice a6 l6 c6] := by rw [hvals]; rfl
        have v1 : vals 1 = .int .i64 (KA : Nat) := by rw [hvals]; rfl
        have v2 : vals 2 = .agg #[.bool n7, .slice a7 l7 c7] := by rw [hvals]; rfl
        have v3 : vals 3 = .int .i64 (KB : Nat) := by rw [hvals]; rfl
        have v4 : vals 4 = .int .i64 (KA : Nat) := by rw [hvals]; rfl
        have v5 : vals 5 = .int .i64 (KB : Nat) := by rw [hvals]; rfl
        clear hvals
        refine regionP_inv (by kernel_rfl) (fun l a w' => RB W17 T [some 114, some 115, some 116, some 117, some 19, some 20] vals l a w') ?h0b6 ?stepb6 ?finb6
        case h0b6 => exact RB.start rfl (show Below W17.heap.size W17 W17.drew from ⟨rfl, rfl, rfl, Nat.le_refl _, fun _ _ => rfl⟩)
        case stepb6 =>
            rintro l a w' i' hR hi'
            obtain ⟨hl0, o, ho, hdep⟩ := mem_ready.1 hi'
            have h15 : i' < 6 := by
              have := (Array.getElem?_eq_some_iff.1 ho).1
              simpa using this
            have hbl := hR.bl
            have y6a := (B6.out.below hbl).c0
            have y7a := (B7.out.below hbl).c0
            have y6b := (B6.out.below hbl).c1
            have y7b := (B7.out.below hbl).c1
            rcases (show i' = 0 ∨ i' = 1 ∨ i' = 2 ∨ i' = 3 ∨ i' = 4 ∨ i' = 5 by omega) with rfl | rfl | rfl | rfl | rfl | rfl
            · simp at ho
              subst ho
              simp [Region.binds] at hdep
              have k0 : a.tmps.getD 6 undef = _ := (hR.fr.kept rfl (by simp [hT])).trans (by rw [hT]; try rfl)
              clear hi' hdep
              unfold wpOp
              simp [Region.wanted]
              refine .inl ?_
              unfold Oper.wp
              simp [execOp, go_sem, Act.eval, k0, y6a, y6b]
              exact hR.op 0 114 v0 rfl (by decide) hl0 (Below.refl _ _)
            · simp at ho
              subst ho
              simp [Region.binds] at hdep
              have k0 : a.tmps.getD 114 undef = _ := (hR.fr.done (i := 0) rfl (by simp_all) (by simp [hT])).trans v0
              clear hi' hdep
              unfold wpOp
              simp [Region.wanted]
              refine .inl ?_
              unfold Oper.wp
              simp [execOp, go_sem, Act.eval, k0]
              refine (HA33.out _ hbl).mono ?_
              rintro e w'' ⟨rfl, hb⟩
              exact hR.op 1 115 v1 rfl (by decide) hl0 hb
            · simp at ho
              subst ho
              simp [Region.binds] at hdep
              have k0 : a.tmps.getD 7 undef = _ := (hR.fr.kept rfl (by simp [hT])).trans (by rw [hT]; try rfl)
              clear hi' hdep
              unfold wpOp
              simp [Region.wanted]
              refine .inl ?_
              unfold Oper.wp
              simp [execOp, go_sem, Act.eval, k0, y7a, y7b]
              exact hR.op 2 116 v2 rfl (by decide) hl0 (Below.refl _ _)
            · simp at ho
              subst ho
              simp [Region.binds] at hdep
              have k0 : a.tmps.getD 116 undef = _ := (hR.fr.done (i := 2) rfl (by simp_all) (by simp [hT])).trans v2
              clear hi' hdep
              unfold wpOp
              simp [Region.wanted]
              refine .inl ?_
              unfold Oper.wp
              simp [execOp, go_sem, Act.eval, k0]
              refine (HB33.out _ hbl).mono ?_
              rintro e w'' ⟨rfl, hb⟩
              exact hR.op 3 117 v3 rfl (by decide) hl0 hb
            · simp at ho
              subst ho
              simp [Region.binds] at hdep
              have k0 : a.tmps.getD 115 undef = _ := (hR.fr.done (i := 1) rfl (by simp_all) (by simp [hT])).trans v1
              clear hi' hdep
              unfold wpOp
              simp [Region.wanted]
              refine .inl ?_
              unfold Oper.wp
              simp [execOp, go_sem, Act.eval, k0]
              exact hR.op 4 19 v4 rfl (by decide) hl0 (Below.refl _ _)
            · simp at ho
              subst ho
              simp [Region.binds] at hdep
              have k0 : a.tmps.getD 117 undef = _ := (hR.fr.done (i := 3) rfl (by simp_all) (by simp [hT])).trans v3
              clear hi' hdep
              unfold wpOp
              simp [Region.wanted]
              refine .inl ?_
              unfold Oper.wp
              simp [execOp, go_sem, Act.eval, k0]
              exact hR.op 5 20 v5 rfl (by decide) hl0 (Below.refl _ _)
        case' finb6 =>
            rintro l a W18 hR hz
            have hnot := List.eq_nil_iff_forall_not_mem.1 hz
            have hk : ∀ k, k < 6 → (l.getD k true = false → False) → l.getD k false = true := fun k h12 h => by
              have hs := hR.size
              cases h' : l.getD k true with
              | false => exact (h h').elim
              | true => simp at hs; simp [Array.getD, hs, h12] at h' ⊢; exact h'
            have st0 := hk 0 (by omega) (fun h => hnot 0 (mem_ready.2 ⟨h, _, rfl, by simp [Region.binds] <;> simp_all⟩))
            have st1 := hk 1 (by omega) (fun h => hnot 1 (mem_ready.2 ⟨h, _, rfl, by simp [Region.binds] <;> simp_all⟩))
            have st2 := hk 2 (by omega) (fun h => hnot 2 (mem_ready.2 ⟨h, _, rfl, by simp [Region.binds] <;> simp_all⟩))
            have st3 := hk 3 (by omega) (fun h => hnot 3 (mem_ready.2 ⟨h, _, rfl, by simp [Region.binds] <;> simp_all⟩))
            have st4 := hk 4 (by omega) (fun h => hnot 4 (mem_ready.2 ⟨h, _, rfl, by simp [Region.binds] <;> simp_all⟩))
            have st5 := hk 5 (by omega) (fun h => hnot 5 (mem_ready.2 ⟨h, _, rfl, by simp [Region.binds] <;> simp_all⟩))
            have hall : ∀ i, i < 6 → l.getD i true = true := fun i hi => by
              rcases (show i = 0 ∨ i = 1 ∨ i = 2 ∨ i = 3 ∨ i = 4 ∨ i = 5 by omega) with rfl | rfl | rfl | rfl | rfl | rfl
              · exact getD_true st0
              · exact getD_true st1
              · exact getD_true st2
              · exact getD_true st3
              · exact getD_true st4
              · exact getD_true st5
            clear st0 st1 st2 st3 st4 st5 hk hnot hz
            have hTs : T.size = 189 := by rw [hT]; rfl
            have ha := hR.all (T' := ((((((T.setIfInBounds 114 (vals 0)).setIfInBounds 115 (vals 1)).setIfInBounds 116 (vals 2)).setIfInBounds 117 (vals 3)).setIfInBounds 19 (vals 4)).setIfInBounds 20 (vals 5))) (fun i hi => hall i (by simpa using hi)) (by simp) (fun j hj => by
              by_cases h1 : j = 114 ∨ j = 115 ∨ j = 116 ∨ j = 117 ∨ j = 19 ∨ j = 20
              · rcases h1 with rfl | rfl | rfl | rfl | rfl | rfl <;> simp [rv_sets, tOwn, List.findIdx?, List.findIdx?.go, hTs]
              · simp only [not_or] at h1
                obtain ⟨m114, m115, m116, m117, m19, m20⟩ := h1
                have e : tOwn [some 114, some 115, some 116, some 117, some 19, some 20] vals j = none := by
                  unfold tOwn
                  simp [List.findIdx?, List.findIdx?.go, Ne.symm m114, Ne.symm m115, Ne.symm m116, Ne.symm m117, Ne.symm m19, Ne.symm m20]
                rw [e]
                simp only [rv_sets]
                repeat rw [if_neg (by omega)])
            have hbl := hR.bl
            subst ha
            clear hR hall hTs
            rw [v0, v1, v2, v3, v4, v5, hT]
            simp only [List.setIfInBounds_toArray, List.set_cons_succ, List.set_cons_zero]
            clear v0 v1 v2 v3 v4 v5 vals hT T
        have hb := hbl
        (try have B6 := Lib.hid (B6.out.below hb))
        (try have B7 := Lib.hid (B7.out.below hb))
        (try have B9 := Lib.hid (B9.out.below hb))
        (try have B17 := Lib.hid (B17.out.below hb))
        have HWW := step1 HW HZ hb
        have HW := HWW.1
        have HZ := HWW.2
        have HDD := step1 HD HE hb
        have HD := HDD.1
        have HE := HDD.2
        clear HWW HDD
        clear hb hbl HA33 HB33
        have p6 := B6.out.c0
        have q6 := B6.out.c1
        have p17 := B17.out.c0
        have q17 := B17.out.c1
        obtain ⟨b1, b2, b3⟩ := bits_facts HA.out HA0.out HKA.out.symm
        rw [← HHU.out] at b2 b3
        have hKA192 := bits_least b2 dUd.out b1
        have hKA6 : Hid (KA < 9223372036854775808) := Lib.hid (by omega)
        obtain ⟨KJ, hKJ⟩ : ∃ K : Nat, K = KA - 1 := ⟨_, rfl⟩
        have hKJ6 : Hid (KJ < 9223372036854775808) := Lib.hid (by omega)
        have hmax : max ((KA : Int) - 1) 0 = (KJ : Int) := by omega
        rw [← hKJ] at b2
        obtain ⟨PA, hPA⟩ : ∃ P : Int, P = 2 ^ KA := ⟨_, rfl⟩
        obtain ⟨PB, hPB⟩ : ∃ P : Int, P = 2 ^ KJ := ⟨_, rfl⟩
        have EPA : Hid ((2 : Int) ^ KA = PA) := Lib.hid hPA.symm
        have EPB : Hid ((2 : Int) ^ KJ = PB) := Lib.hid hPB.symm
        have FPA : Hid (fitsB PA.natAbs = true) := Lib.hid (by rw [hPA]; exact fits_two (by omega))
        have FPB : Hid (fitsB PB.natAbs = true) := Lib.hid (by rw [hPB]; exact fits_two (by omega))
        have hUA : (U : Int) < PA := by rw [hPA]; exact nat_lt_pow b3
        have hUB : PB ≤ (U : Int) := by rw [hPB]; exact nat_pow_le b2
        have hcz : 0 ≤ cmpZ (U : Int) PB := cmp_ge hUB
        have hz0 : ((KA : Int) == 0) = false := by simp; omega
        have hz1 : ((l6 : Int) == 0) = false := by simp; omega
        have HKJ := Lib.hid hKJ
        clear hPA hPB hKJ b2 b3 hUB
        by_cases hB0 : B = 0
        case' pos =>
          have hM0 : M = 0 := by rw [HHM.out, hB0]; exact Int.mul_zero _
          have hl17 : l17 = 0 := by have := nu_len B17.out.nu; rw [hM0] at this; rw [this]; exact congrArg List.length digs_zero
          subst hl17
          clear hM0 hB0
          go_upto_region 17 with fail
          go_upto_region 18 with (first | (go_at_call 27; refine (of_X 2 _ (by decide) (by decide)).mono ?_; rintro e wz ⟨x, rfl, hn, hb⟩; (try have B6 := Lib.hid (B6.out.below hb)); (try have B9 := Lib.hid (B9.out.below hb)); have HWW := step1 HW HZ hb; have HW := HWW.1; have HZ := HWW.2; have HDD := step1 HD HE hb; have HD := HDD.1; have HE := HDD.2; clear HWW HDD; have NB := Lib.hid hn; clear hn hb) | (go_at_call 20; refine (pow_fit PA KA NB.out hKA6.out EPA.out FPA.out).mono ?_; rintro e wz ⟨n21, a21, l21, c21, rfl, hn, hb⟩; (try have B6 := Lib.hid (B6.out.below hb)); (try have B9 := Lib.hid (B9.out.below hb)); have HWW := step1 HW HZ hb; have HW := HWW.1; have HZ := HWW.2; have HDD := step1 HD HE hb; have HD := HDD.1; have HE := HDD.2; clear HWW HDD; have NB := Lib.hid hn; clear hn hb))
          obtain ⟨W21, hW⟩ : ∃ X, X = wz.alloc (.cells #[.bool n21, .slice a21 l21 c21] 27) := ⟨_, rfl⟩
          obtain ⟨g21, hg⟩ : ∃ g, g = wz.heap.size := ⟨_, rfl⟩
          have hb : Below wz.heap.size wz W21 := by rw [hW]; exact alloc_b _ _
          have B21 : Hid (Bx W21 g21 n21 a21 l21 c21 PA) := Lib.hid (by rw [hW, hg]; exact bx_new NB.out)
          rw [← hW, ← hg]
          clear hW hg NB
          (try have B6 := Lib.hid (B6.out.below hb))
          (try have B9 := Lib.hid (B9.out.below hb))
          have HWW := step1 HW HZ hb
          have HW := HWW.1
          have HZ := HWW.2
          have HDD := step1 HD HE hb
          have HD := HDD.1
          have HE := HDD.2
          clear HWW HDD
          clear hb
          go_upto_region 19 with (first | (go_at_call 27; refine (of_X 2 _ (by decide) (by decide)).mono ?_; rintro e wz ⟨x, rfl, hn, hb⟩; (try have B6 := Lib.hid (B6.out.below hb)); (try have B9 := Lib.hid (B9.out.below hb)); (try have B21 := Lib.hid (B21.out.below hb)); have HWW := step1 HW HZ hb; have HW := HWW.1; have HZ := HWW.2; have HDD := step1 HD HE hb; have HD := HDD.1; have HE := HDD.2; clear HWW HDD; have NB := Lib.hid hn; clear hn hb) | (go_at_call 20; refine (pow_fit PB KJ NB.out hKJ6.out EPB.out FPB.out).mono ?_; rintro e wz ⟨n23, a23, l23, c23, rfl, hn, hb⟩; (try have B6 := Lib.hid (B6.out.below hb)); (try have B9 := Lib.hid (B9.out.below hb)); (try have B21 := Lib.hid (B21.out.below hb)); have HWW := step1 HW HZ hb; have HW := HWW.1; have HZ := HWW.2; have HDD := step1 HD HE hb; have HD := HDD.1; have HE := HDD.2; clear HWW HDD; have NB := Lib.hid hn; clear hn hb))
          obtain ⟨W23, hW⟩ : ∃ X, X = wz.alloc (.cells #[.bool n23, .slice a23 l23 c23] 27) := ⟨_, rfl⟩
          obtain ⟨g23, hg⟩ : ∃ g, g = wz.heap.size := ⟨_, rfl⟩
          have hb : Below wz.heap.size wz W23 := by rw [hW]; exact alloc_b _ _
          have B23 : Hid (Bx W23 g23 n23 a23 l23 c23 PB) := Lib.hid (by rw [hW, hg]; exact bx_new NB.out)
          rw [← hW, ← hg]
          clear hW hg NB
          (try have B6 := Lib.hid (B6.out.below hb))
          (try have B9 := Lib.hid (B9.out.below hb))
          (try have B21 := Lib.hid (B21.out.below hb))
          have HWW := step1 HW HZ hb
          have HW := HWW.1
          have HZ := HWW.2
          have HDD := step1 HD HE hb
          have HD := HDD.1
          have HE := HDD.2
          clear HWW HDD
          clear hb
          have p6 := B6.out.c0
          have q6 := B6.out.c1
          have p9 := B9.out.c0
          have q9 := B9.out.c1
          have p21 := B21.out.c0
          have q21 := B21.out.c1
          have p23 := B23.out.c0
          have q23 := B23.out.c1
          have HC1 : Hid (Calls Tryz.prog 31 #[.agg #[.bool false, .slice a6 l6 c6], .agg #[.bool n21, .slice a21 l21 c21]] W23 fun e w' => e = .returned (.int .i64 (-1)) ∧ Below W23.heap.size W23 w') := Lib.hid (cmp_less B9.out.nu B21.out.nu hUA)
          have HC2 : Hid (∀ W, Below W23.heap.size W23 W → Calls Tryz.prog 31 #[.agg #[.bool false, .slice a6 l6 c6], .agg #[.bool n23, .slice a23 l23 c23]] W fun e w' => e = .returned (.int .i64 (cmpZ (U : Int) PB)) ∧ Below W.heap.size W w') := Lib.hid (fun W h => cmp_any (B9.out.nu.below h) (B23.out.nu.below h))
          have HD : Hid (Below W23.heap.size W23 W23) := Lib.hid (Below.refl _ _)
          have HE : Hid (W23.heap.size ≤ W23.heap.size) := Lib.hid (Nat.le_refl _)
          go_wp2_with (first | (go_at_call_of 31 (Value.slice a21 l21 c21); refine HC1.out.mono ?_; rintro e wz ⟨rfl, hb⟩; (try have B6 := Lib.hid (B6.out.below hb)); (try have B9 := Lib.hid (B9.out.below hb)); (try have B21 := Lib.hid (B21.out.below hb)); (try have B23 := Lib.hid (B23.out.below hb)); have HWW := step1 HW HZ hb; have HW := HWW.1; have HZ := HWW.2; have HDD := step1 HD HE hb; have HD := HDD.1; have HE := HDD.2; clear HWW HDD; have p6 := B6.out.c0; have q6 := B6.out.c1; have p9 := B9.out.c0; have q9 := B9.out.c1; have p21 := B21.out.c0; have q21 := B21.out.c1; have p23 := B23.out.c0; have q23 := B23.out.c1; clear hb) | (go_at_call_of 31 (Value.slice a23 l23 c23); refine (HC2.out _ HD.out).mono ?_; rintro e wz ⟨rfl, hb⟩; (try have B6 := Lib.hid (B6.out.below hb)); (try have B9 := Lib.hid (B9.out.below hb)); (try have B21 := Lib.hid (B21.out.below hb)); (try have B23 := Lib.hid (B23.out.below hb)); have HWW := step1 HW HZ hb; have HW := HWW.1; have HZ := HWW.2; have HDD := step1 HD HE hb; have HD := HDD.1; have HE := HDD.2; clear HWW HDD; have p6 := B6.out.c0; have q6 := B6.out.c1; have p9 := B9.out.c0; have q9 := B9.out.c1; have p21 := B21.out.c0; have q21 := B21.out.c1; have p23 := B23.out.c0; have q23 := B23.out.c1; clear hb))
          go_ret
          exact ⟨rfl, HW.out⟩
        case' neg =>
          have hKP := bits_prod HA.out HB.out HA0.out hB0 HHM.out HKA.out HKB.out
          rcases hKP with hKP | hKP
          case' inl =>
            have hl17 : l17 ≠ 0 := prod_len (nu_len B17.out.nu) HHM.out HA0.out hB0
            have HP33 : Hid (∀ W, Below W18.heap.size W18 W → Calls Tryz.prog 33 #[.agg #[.bool n17, .slice a17 l17 c17]] W fun e w' => e = .returned (.int .i64 ((KA : Int) + (KB : Int))) ∧ Below W.heap.size W w') := Lib.hid (fun W h => by have q := bits_nu (B17.out.nu.below h) _ rfl; rwa [show ((bitsB (decide (M < 0)) (digs M.natAbs) : Nat) : Int) = ((KA : Int) + (KB : Int)) by rw [hKP]; omega] at q)
            have HD : Hid (Below W18.heap.size W18 W18) := Lib.hid (Below.refl _ _)
            have HE : Hid (W18.heap.size ≤ W18.heap.size) := Lib.hid (Nat.le_refl _)
            obtain ⟨c1, c2, _⟩ := bits_facts HB.out hB0 HKB.out.symm
            have hKB192 := bits_least c2 HB.out c1
            clear hKP hB0 c2
            go_upto_region 17 with (first | (go_at_call 33; refine (HP33.out _ HD.out).mono ?_; rintro e wz ⟨rfl, hb⟩; (try have B6 := Lib.hid (B6.out.below hb)); (try have B9 := Lib.hid (B9.out.below hb)); (try have B17 := Lib.hid (B17.out.below hb)); have HWW := step1 HW HZ hb; have HW := HWW.1; have HZ := HWW.2; have HDD := step1 HD HE hb; have HD := HDD.1; have HE := HDD.2; clear HWW HDD; have p17 := B17.out.c0; have q17 := B17.out.c1; clear hb))
            clear HP33
            go_upto_region 18 with (first | (go_at_call 27; refine (of_X 2 _ (by decide) (by decide)).mono ?_; rintro e wz ⟨x, rfl, hn, hb⟩; (try have B6 := Lib.hid (B6.out.below hb)); (try have B9 := Lib.hid (B9.out.below hb)); have HWW := step1 HW HZ hb; have HW := HWW.1; have HZ := HWW.2; have HDD := step1 HD HE hb; have HD := HDD.1; have HE := HDD.2; clear HWW HDD; have NB := Lib.hid hn; clear hn hb) | (go_at_call 20; refine (pow_fit PA KA NB.out hKA6.out EPA.out FPA.out).mono ?_; rintro e wz ⟨n21, a21, l21, c21, rfl, hn, hb⟩; (try have B6 := Lib.hid (B6.out.below hb)); (try have B9 := Lib.hid (B9.out.below hb)); have HWW := step1 HW HZ hb; have HW := HWW.1; have HZ := HWW.2; have HDD := step1 HD HE hb; have HD := HDD.1; have HE := HDD.2; clear HWW HDD; have NB := Lib.hid hn; clear hn hb))
            obtain ⟨W21, hW⟩ : ∃ X, X = wz.alloc (.cells #[.bool n21, .slice a21 l21 c21] 27) := ⟨_, rfl⟩
            obtain ⟨g21, hg⟩ : ∃ g, g = wz.heap.size := ⟨_, rfl⟩
            have hb : Below wz.heap.size wz W21 := by rw [hW]; exact alloc_b _ _
            have B21 : Hid (Bx W21 g21 n21 a21 l21 c21 PA) := Lib.hid (by rw [hW, hg]; exact bx_new NB.out)
            rw [← hW, ← hg]
            clear hW hg NB
            (try have B6 := Lib.hid (B6.out.below hb))
            (try have B9 := Lib.hid (B9.out.below hb))
            have HWW := step1 HW HZ hb
            have HW := HWW.1
            have HZ := HWW.2
            have HDD := step1 HD HE hb
            have HD := HDD.1
            have HE := HDD.2
            clear HWW HDD
            clear hb
            go_upto_region 19 with (first | (go_at_call 27; refine (of_X 2 _ (by decide) (by decide)).mono ?_; rintro e wz ⟨x, rfl, hn, hb⟩; (try have B6 := Lib.hid (B6.out.below hb)); (try have B9 := Lib.hid (B9.out.below hb)); (try have B21 := Lib.hid (B21.out.below hb)); have HWW := step1 HW HZ hb; have HW := HWW.1; have HZ := HWW.2; have HDD := step1 HD HE hb; have HD := HDD.1; have HE := HDD.2; clear HWW HDD; have NB := Lib.hid hn; clear hn hb) | (go_at_call 20; refine (pow_fit PB KJ NB.out hKJ6.out EPB.out FPB.out).mono ?_; rintro e wz ⟨n23, a23, l23, c23, rfl, hn, hb⟩; (try have B6 := Lib.hid (B6.out.below hb)); (try have B9 := Lib.hid (B9.out.below hb)); (try have B21 := Lib.hid (B21.out.below hb)); have HWW := step1 HW HZ hb; have HW := HWW.1; have HZ := HWW.2; have HDD := step1 HD HE hb; have HD := HDD.1; have HE := HDD.2; clear HWW HDD; have NB := Lib.hid hn; clear hn hb))
            obtain ⟨W23, hW⟩ : ∃ X, X = wz.alloc (.cells #[.bool n23, .slice a23 l23 c23] 27) := ⟨_, rfl⟩
            obtain ⟨g23, hg⟩ : ∃ g, g = wz.heap.size := ⟨_, rfl⟩
            have hb : Below wz.heap.size wz W23 := by rw [hW]; exact alloc_b _ _
            have B23 : Hid (Bx W23 g23 n23 a23 l23 c23 PB) := Lib.hid (by rw [hW, hg]; exact bx_new NB.out)
            rw [← hW, ← hg]
            clear hW hg NB
            (try have B6 := Lib.hid (B6.out.below hb))
            (try have B9 := Lib.hid (B9.out.below hb))
            (try have B21 := Lib.hid (B21.out.below hb))
            have HWW := step1 HW HZ hb
            have HW := HWW.1
            have HZ := HWW.2
            have HDD := step1 HD HE hb
            have HD := HDD.1
            have HE := HDD.2
            clear HWW HDD
            clear hb
            have p6 := B6.out.c0
            have q6 := B6.out.c1
            have p9 := B9.out.c0
            have q9 := B9.out.c1
            have p21 := B21.out.c0
            have q21 := B21.out.c1
            have p23 := B23.out.c0
            have q23 := B23.out.c1
            have HC1 : Hid (Calls Tryz.prog 31 #[.agg #[.bool false, .slice a6 l6 c6], .agg #[.bool n21, .slice a21 l21 c21]] W23 fun e w' => e = .returned (.int .i64 (-1)) ∧ Below W23.heap.size W23 w') := Lib.hid (cmp_less B9.out.nu B21.out.nu hUA)
            have HC2 : Hid (∀ W, Below W23.heap.size W23 W → Calls Tryz.prog 31 #[.agg #[.bool false, .slice a6 l6 c6], .agg #[.bool n23, .slice a23 l23 c23]] W fun e w' => e = .returned (.int .i64 (cmpZ (U : Int) PB)) ∧ Below W.heap.size W w') := Lib.hid (fun W h => cmp_any (B9.out.nu.below h) (B23.out.nu.below h))
            have HD : Hid (Below W23.heap.size W23 W23) := Lib.hid (Below.refl _ _)
            have HE : Hid (W23.heap.size ≤ W23.heap.size) := Lib.hid (Nat.le_refl _)
            go_wp2_with (first | (go_at_call_of 31 (Value.slice a21 l21 c21); refine HC1.out.mono ?_; rintro e wz ⟨rfl, hb⟩; (try have B6 := Lib.hid (B6.out.below hb)); (try have B9 := Lib.hid (B9.out.below hb)); (try have B21 := Lib.hid (B21.out.below hb)); (try have B23 := Lib.hid (B23.out.below hb)); have HWW := step1 HW HZ hb; have HW := HWW.1; have HZ := HWW.2; have HDD := step1 HD HE hb; have HD := HDD.1; have HE := HDD.2; clear HWW HDD; have p6 := B6.out.c0; have q6 := B6.out.c1; have p9 := B9.out.c0; have q9 := B9.out.c1; have p21 := B21.out.c0; have q21 := B21.out.c1; have p23 := B23.out.c0; have q23 := B23.out.c1; clear hb) | (go_at_call_of 31 (Value.slice a23 l23 c23); refine (HC2.out _ HD.out).mono ?_; rintro e wz ⟨rfl, hb⟩; (try have B6 := Lib.hid (B6.out.below hb)); (try have B9 := Lib.hid (B9.out.below hb)); (try have B21 := Lib.hid (B21.out.below hb)); (try have B23 := Lib.hid (B23.out.below hb)); have HWW := step1 HW HZ hb; have HW := HWW.1; have HZ := HWW.2; have HDD := step1 HD HE hb; have HD := HDD.1; have HE := HDD.2; clear HWW HDD; have p6 := B6.out.c0; have q6 := B6.out.c1; have p9 := B9.out.c0; have q9 := B9.out.c1; have p21 := B21.out.c0; have q21 := B21.out.c1; have p23 := B23.out.c0; have q23 := B23.out.c1; clear hb))
            go_ret
            exact ⟨rfl, HW.out⟩
          case' inr =>
            have hl17 : l17 ≠ 0 := prod_len (nu_len B17.out.nu) HHM.out HA0.out hB0
            have HP33 : Hid (∀ W, Below W18.heap.size W18 W → Calls Tryz.prog 33 #[.agg #[.bool n17, .slice a17 l17 c17]] W fun e w' => e = .returned (.int .i64 ((KA : Int) + (KB : Int) - 1)) ∧ Below W.heap.size W w') := Lib.hid (fun W h => by have q := bits_nu (B17.out.nu.below h) _ rfl; rwa [show ((bitsB (decide (M < 0)) (digs M.natAbs) : Nat) : Int) = ((KA : Int) + (KB : Int) - 1) by rw [hKP]; omega] at q)
            have HD : Hid (Below W18.heap.size W18 W18) := Lib.hid (Below.refl _ _)
            have HE : Hid (W18.heap.size ≤ W18.heap.size) := Lib.hid (Nat.le_refl _)
            obtain ⟨c1, c2, _⟩ := bits_facts HB.out hB0 HKB.out.symm
            have hKB192 := bits_least c2 HB.out c1
            clear hKP hB0 c2
            go_upto_region 17 with (first | (go_at_call 33; refine (HP33.out _ HD.out).mono ?_; rintro e wz ⟨rfl, hb⟩; (try have B6 := Lib.hid (B6.out.below hb)); (try have B9 := Lib.hid (B9.out.below hb)); (try have B17 := Lib.hid (B17.out.below hb)); have HWW := step1 HW HZ hb; have HW := HWW.1; have HZ := HWW.2; have HDD := step1 HD HE hb; have HD := HDD.1; have HE := HDD.2; clear HWW HDD; have p17 := B17.out.c0; have q17 := B17.out.c1; clear hb))
            clear HP33
            go_upto_region 18 with (first | (go_at_call 27; refine (of_X 2 _ (by decide) (by decide)).mono ?_; rintro e wz ⟨x, rfl, hn, hb⟩; (try have B6 := Lib.hid (B6.out.below hb)); (try have B9 := Lib.hid (B9.out.below hb)); have HWW := step1 HW HZ hb; have HW := HWW.1; have HZ := HWW.2; have HDD := step1 HD HE hb; have HD := HDD.1; have HE := HDD.2; clear HWW HDD; have NB := Lib.hid hn; clear hn hb) | (go_at_call 20; refine (pow_fit PA KA NB.out hKA6.out EPA.out FPA.out).mono ?_; rintro e wz ⟨n21, a21, l21, c21, rfl, hn, hb⟩; (try have B6 := Lib.hid (B6.out.below hb)); (try have B9 := Lib.hid (B9.out.below hb)); have HWW := step1 HW HZ hb; have HW := HWW.1; have HZ := HWW.2; have HDD := step1 HD HE hb; have HD := HDD.1; have HE := HDD.2; clear HWW HDD; have NB := Lib.hid hn; clear hn hb))
            obtain ⟨W21, hW⟩ : ∃ X, X = wz.alloc (.cells #[.bool n21, .slice a21 l21 c21] 27) := ⟨_, rfl⟩
            obtain ⟨g21, hg⟩ : ∃ g, g = wz.heap.size := ⟨_, rfl⟩
            have hb : Below wz.heap.size wz W21 := by rw [hW]; exact alloc_b _ _
            have B21 : Hid (Bx W21 g21 n21 a21 l21 c21 PA) := Lib.hid (by rw [hW, hg]; exact bx_new NB.out)
            rw [← hW, ← hg]
            clear hW hg NB
            (try have B6 := Lib.hid (B6.out.below hb))
            (try have B9 := Lib.hid (B9.out.below hb))
            have HWW := step1 HW HZ hb
            have HW := HWW.1
            have HZ := HWW.2
            have HDD := step1 HD HE hb
            have HD := HDD.1
            have HE := HDD.2
            clear HWW HDD
            clear hb
            go_upto_region 19 with (first | (go_at_call 27; refine (of_X 2 _ (by decide) (by decide)).mono ?_; rintro e wz ⟨x, rfl, hn, hb⟩; (try have B6 := Lib.hid (B6.out.below hb)); (try have B9 := Lib.hid (B9.out.below hb)); (try have B21 := Lib.hid (B21.out.below hb)); have HWW := step1 HW HZ hb; have HW := HWW.1; have HZ := HWW.2; have HDD := step1 HD HE hb; have HD := HDD.1; have HE := HDD.2; clear HWW HDD; have NB := Lib.hid hn; clear hn hb) | (go_at_call 20; refine (pow_fit PB KJ NB.out hKJ6.out EPB.out FPB.out).mono ?_; rintro e wz ⟨n23, a23, l23, c23, rfl, hn, hb⟩; (try have B6 := Lib.hid (B6.out.below hb)); (try have B9 := Lib.hid (B9.out.below hb)); (try have B21 := Lib.hid (B21.out.below hb)); have HWW := step1 HW HZ hb; have HW := HWW.1; have HZ := HWW.2; have HDD := step1 HD HE hb; have HD := HDD.1; have HE := HDD.2; clear HWW HDD; have NB := Lib.hid hn; clear hn hb))
            obtain ⟨W23, hW⟩ : ∃ X, X = wz.alloc (.cells #[.bool n23, .slice a23 l23 c23] 27) := ⟨_, rfl⟩
            obtain ⟨g23, hg⟩ : ∃ g, g = wz.heap.size := ⟨_, rfl⟩
            have hb : Below wz.heap.size wz W23 := by rw [hW]; exact alloc_b _ _
            have B23 : Hid (Bx W23 g23 n23 a23 l23 c23 PB) := Lib.hid (by rw [hW, hg]; exact bx_new NB.out)
            rw [← hW, ← hg]
            clear hW hg NB
            (try have B6 := Lib.hid (B6.out.below hb))
            (try have B9 := Lib.hid (B9.out.below hb))
            (try have B21 := Lib.hid (B21.out.below hb))
            have HWW := step1 HW HZ hb
            have HW := HWW.1
            have HZ := HWW.2
            have HDD := step1 HD HE hb
            have HD := HDD.1
            have HE := HDD.2
            clear HWW HDD
            clear hb
            have p6 := B6.out.c0
            have q6 := B6.out.c1
            have p9 := B9.out.c0
            have q9 := B9.out.c1
            have p21 := B21.out.c0
            have q21 := B21.out.c1
            have p23 := B23.out.c0
            have q23 := B23.out.c1
            have HC1 : Hid (Calls Tryz.prog 31 #[.agg #[.bool false, .slice a6 l6 c6], .agg #[.bool n21, .slice a21 l21 c21]] W23 fun e w' => e = .returned (.int .i64 (-1)) ∧ Below W23.heap.size W23 w') := Lib.hid (cmp_less B9.out.nu B21.out.nu hUA)
            have HC2 : Hid (∀ W, Below W23.heap.size W23 W → Calls Tryz.prog 31 #[.agg #[.bool false, .slice a6 l6 c6], .agg #[.bool n23, .slice a23 l23 c23]] W fun e w' => e = .returned (.int .i64 (cmpZ (U : Int) PB)) ∧ Below W.heap.size W w') := Lib.hid (fun W h => cmp_any (B9.out.nu.below h) (B23.out.nu.below h))
            have HD : Hid (Below W23.heap.size W23 W23) := Lib.hid (Below.refl _ _)
            have HE : Hid (W23.heap.size ≤ W23.heap.size) := Lib.hid (Nat.le_refl _)
            go_wp2_with (first | (go_at_call_of 31 (Value.slice a21 l21 c21); refine HC1.out.mono ?_; rintro e wz ⟨rfl, hb⟩; (try have B6 := Lib.hid (B6.out.below hb)); (try have B9 := Lib.hid (B9.out.below hb)); (try have B21 := Lib.hid (B21.out.below hb)); (try have B23 := Lib.hid (B23.out.below hb)); have HWW := step1 HW HZ hb; have HW := HWW.1; have HZ := HWW.2; have HDD := step1 HD HE hb; have HD := HDD.1; have HE := HDD.2; clear HWW HDD; have p6 := B6.out.c0; have q6 := B6.out.c1; have p9 := B9.out.c0; have q9 := B9.out.c1; have p21 := B21.out.c0; have q21 := B21.out.c1; have p23 := B23.out.c0; have q23 := B23.out.c1; clear hb) | (go_at_call_of 31 (Value.slice a23 l23 c23); refine (HC2.out _ HD.out).mono ?_; rintro e wz ⟨rfl, hb⟩; (try have B6 := Lib.hid (B6.out.below hb)); (try have B9 := Lib.hid (B9.out.below hb)); (try have B21 := Lib.hid (B21.out.below hb)); (try have B23 := Lib.hid (B23.out.below hb)); have HWW := step1 HW HZ hb; have HW := HWW.1; have HZ := HWW.2; have HDD := step1 HD HE hb; have HD := HDD.1; have HE := HDD.2; clear HWW HDD; have p6 := B6.out.c0; have q6 := B6.out.c1; have p9 := B9.out.c0; have q9 := B9.out.c1; have p21 := B21.out.c0; have q21 := B21.out.c1; have p23 := B23.out.c0; have q23 := B23.out.c1; clear hb))
            go_ret
            exact ⟨rfl, HW.out⟩

end Go.Proofs.YtdgmjmckeeeljaaGreatDoor
