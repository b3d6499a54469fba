/- The law NumDivides, walked. Condition: the table of powers of ten is laid. -/
import Derived.BigRegion
import Derived.Deep.RegionHeld3
import Derived.Deep.CutRange
import Derived.Test.YtdgmjmckeeeljaaGreatDoorGh5
import Derived.Test.YtdgmjmckeeeljaaGreatDoorGh8
import Derived.Test.YtdgmjmckeeeljaaGreatDoorGh11
import Derived.Test.YtdgmjmckeeeljaaGreatDoorGh7
namespace Go.Proofs.YtdgmjmckeeeljaaGreatDoor
open Go.RowKit

theorem cutd_parts {w : World} {neg : Bool} {ao : Option Addr} {n cap : Nat} {ds : List Nat} (h : Sl w (.slice ao n cap) ds) :
    Calls Tryz.prog 13 #[.agg #[.bool neg, .slice ao n cap], .int .i64 20] w fun e w' => ∃ neg ao n cap xs, e = .returned (.agg #[.bool neg, .slice ao n cap]) ∧ Nc w' (.agg #[.bool neg, .slice ao n cap]) xs ∧ xs.length ≤ 512 ∧ Below w.heap.size w w' :=
  (cut20_any h).mono fun e w' ⟨h1, h2, h3⟩ => ⟨_, _, _, _, ds.take (min n 20), h1, ⟨_, _, rfl, h2, by rw [List.length_take]; omega⟩, by rw [List.length_take]; omega, h3⟩

set_option maxRecDepth 100000 in
set_option maxHeartbeats 8000000 in
theorem ndivides_any {w : World} {s0 s1 : Option Addr} {n0 n1 c0 c1 : Nat} {z0 z1 : List Int} (h0 : Li w (.slice s0 n0 c0) z0) (h1 : Li w (.slice s1 n1 c1) z1) (L : Int) (L0 : 0 ≤ L) (L1 : L ≤ 255)
    (p0 p1 : Bool) {x0 x1 : Option Addr} {m0 m1 d0 d1 : Nat} {r0 r1 : List Nat} (q0 : Sl w (.slice x0 m0 d0) r0) (q1 : Sl w (.slice x1 m1 d1) r1) (htab : ∀ W, Below w.heap.size w W → Tab W) :
    Calls Tryz.prog 4 #[.agg #[.slice s0 n0 c0, .slice s1 n1 c1], .int .u8 L, .agg #[.bool p0, .slice x0 m0 d0, .bool p1, .slice x1 m1 d1]] w fun e w' => e = .returned (.bool true) ∧ Below w.heap.size w w' := by
  have HM0 := Lib.hid (fun W (hb : Below w.heap.size w W) => made_parts (h0.below hb))
  have HM1 := Lib.hid (fun W (hb : Below w.heap.size w W) => made_parts (h1.below hb))
  have HC0 := Lib.hid (fun W (hb : Below w.heap.size w W) => cutd_parts (neg := p0) (q0.below hb))
  have HC1 := Lib.hid (fun W (hb : Below w.heap.size w W) => cutd_parts (neg := p1) (q1.below hb))
  have HSA : Hid (∀ W, Below w.heap.size w W → Calls Tryz.prog 10 #[] W fun e w' => e = .returned (.bool true) ∧ Below W.heap.size W w') := Lib.hid (fun W hb => sanity_any W (fun W' hb' => htab W' (hb.trans (hb'.mono hb.size))))
  have HW : Hid (Below w.heap.size w w) := Lib.hid (Below.refl _ _)
  have HZ : Hid (w.heap.size ≤ w.heap.size) := Lib.hid (Nat.le_refl _)
  clear h0 h1 q0 q1 htab
  go_enter Tryz.func4, Tryz.ntmps4
  go_upto_region 1 with fail
  obtain ⟨W, hW⟩ : ∃ W, W = (w.alloc (.cells #[.slice s0 n0 c0, .slice s1 n1 c1] 23)).alloc (.cells #[.bool p0, .slice x0 m0 d0, .bool p1, .slice x1 m1 d1] 28) := ⟨_, rfl⟩
  have hb : Below w.heap.size w W := by rw [hW]; go_grown
  have r0 : W.heap[w.heap.size]? = some (.cells #[.slice s0 n0 c0, .slice s1 n1 c1] 23 (0, 0)) := by rw [hW]; exact (Below.heap_alloc _ _ _ (by simp)).trans (heap_alloc_new _ _)
  have r1 : W.heap[w.heap.size + 1]? = some (.cells #[.bool p0, .slice x0 m0 d0, .bool p1, .slice x1 m1 d1] 28 (0, 0)) := by
    rw [hW]
    have := heap_alloc_new (w.alloc (.cells #[.slice s0 n0 c0, .slice s1 n1 c1] 23)) (.cells #[.bool p0, .slice x0 m0 d0, .bool p1, .slice x1 m1 d1] 28)
    rw [World.size_alloc] at this
    exact this
  have HBL : Hid (∀ W', Below W.heap.size W W' → W'.cell? ⟨w.heap.size, 0, none⟩ = some (.slice s0 n0 c0) ∧ W'.cell? ⟨w.heap.size, 1, none⟩ = some (.slice s1 n1 c1)) := Lib.hid (fun W' h => by
    have q0 := (h.block _ (Array.getElem?_eq_some_iff.1 r0).1).trans r0
    exact ⟨by rw [cell_of_row _ _ _ _ _ _ q0]; rfl, by rw [cell_of_row _ _ _ _ _ _ q0]; rfl⟩)
  have HBR : Hid (∀ W', Below W.heap.size W W' → W'.cell? ⟨w.heap.size + 1, 0, none⟩ = some (.bool p0) ∧ W'.cell? ⟨w.heap.size + 1, 1, none⟩ = some (.slice x0 m0 d0) ∧ W'.cell? ⟨w.heap.size + 1, 2, none⟩ = some (.bool p1) ∧ W'.cell? ⟨w.heap.size + 1, 3, none⟩ = some (.slice x1 m1 d1)) := Lib.hid (fun W' h => by
    have q0 := (h.block _ (Array.getElem?_eq_some_iff.1 r1).1).trans r1
    exact ⟨by rw [cell_of_row _ _ _ _ _ _ q0]; rfl, by rw [cell_of_row _ _ _ _ _ _ q0]; rfl, by rw [cell_of_row _ _ _ _ _ _ q0]; rfl, by rw [cell_of_row _ _ _ _ _ _ q0]; rfl⟩)
  have HWW := step1 HW HZ hb
  have HW := HWW.1
  have HZ := HWW.2
  have HD : Hid (Below W.heap.size W W) := Lib.hid (Below.refl _ _)
  have HE : Hid (W.heap.size ≤ W.heap.size) := Lib.hid (Nat.le_refl _)
  rw [← hW]
  clear hW hb HWW r0 r1
  go_upto_region 2 with (go_at_call 10; refine (HSA.out _ HW.out).mono ?_; rintro e wz ⟨rfl, hb⟩; have HWW := step1 HW HZ hb; have HW := HWW.1; have HZ := HWW.2; have HDD := step1 HD HE hb; have HD := HDD.1; have HE := HDD.2; clear HWW HDD hb)
  obtain ⟨k0, k1⟩ := HBL.out _ HD.out
  obtain ⟨W1, hW1⟩ : ∃ W1, W1 = wz := ⟨_, rfl⟩
  obtain ⟨T, hT⟩ : ∃ T : Array Value, T = #[.agg #[.slice s0 n0 c0, .slice s1 n1 c1], .int .u8 L, .agg #[.bool p0, .slice x0 m0 d0, .bool p1, .slice x1 m1 d1], .pointer (some ⟨w.heap.size, 0, none⟩), undef, .pointer (some ⟨w.heap.size + 1, 0, none⟩), .bool false, .bool true, undef, undef, undef, undef, undef, undef, undef, undef, undef, undef, undef, undef, undef, undef, undef, undef, undef, .bool true, undef, undef, undef, undef, undef, undef, undef, undef, undef, undef, undef, undef, undef, undef, undef, undef, undef, undef, undef, undef, undef, undef, undef, undef, undef, undef, undef, undef, undef, undef, undef, undef, undef, undef, undef, undef, undef, undef, undef, undef, undef, undef, undef, undef, undef, undef, undef, undef, undef, undef, undef, undef, undef, undef, undef, undef, undef, undef, undef, undef, undef, undef, undef, undef, undef, undef, undef, undef, undef, undef, undef, undef, undef, undef, undef, undef, undef, undef, undef, undef, undef, undef, undef, undef, undef, undef, undef, undef, undef, undef, undef, undef, undef, undef, undef, undef, undef, undef, undef, undef, undef, undef, undef] := ⟨_, rfl⟩
  rw [← hT]
  refine regionP_inv (by kernel_rfl) (fun l a w' => ∃ vs gs, RM wz T 2 26 8 w.heap.size (fun t => if t = 0 then .slice s0 n0 c0 else .slice s1 n1 c1) vs gs l a w') ?h0 ?step ?fin
  case h0 => exact ⟨fun _ => undef, fun _ => 0, RM.start rfl (show Below wz.heap.size wz wz.drew from ⟨rfl, rfl, rfl, Nat.le_refl _, fun _ _ => rfl⟩)⟩
  case step =>
      rintro l a w' i' ⟨vs, gs, hR⟩ hi'
      obtain ⟨hl0, o, ho, hdep⟩ := mem_ready.1 hi'
      have h15 : i' < 10 := by
        have := (Array.getElem?_eq_some_iff.1 ho).1
        simpa using this
      have hbw : Below w.heap.size w w' := HW.out.trans (hR.bl.mono HZ.out)
      obtain ⟨y0, y1⟩ := HBL.out _ (HD.out.trans (hR.bl.mono HE.out))
      rcases (show i' = 0 ∨ i' = 1 ∨ i' = 2 ∨ i' = 3 ∨ i' = 4 ∨ i' = 5 ∨ i' = 6 ∨ i' = 7 ∨ i' = 8 ∨ i' = 9 by omega) with rfl | rfl | rfl | rfl | rfl | rfl | rfl | rfl | rfl | rfl
      · simp at ho
        subst ho
        simp [Region.binds] at hdep
        have k2 : a.tmps.getD 3 undef = .pointer (some ⟨w.heap.size, 0, none⟩) := (hR.fr.kept rfl (by simp [hT])).trans (by rw [hT]; rfl)
        clear hi' hdep hl0
        unfold wpOp
        simp [Region.wanted]
        refine .inl ?_
        unfold Oper.wp
        simp [execOp, go_sem, Act.eval, k2]
        exact ⟨vs, gs, hR.plain (by omega) (by omega) rfl rfl⟩
      · simp at ho
        subst ho
        simp [Region.binds] at hdep
        have k3 : a.tmps.getD 26 undef = .pointer (some ⟨w.heap.size, 0, none⟩) := hR.fr.done (i := 0) rfl (by simp_all) (by simp [hT])
        clear hi' hdep hl0
        unfold wpOp
        simp [Region.wanted]
        refine .inl ?_
        unfold Oper.wp
        simp [execOp, go_sem, Act.eval, k3, y0]
        exact ⟨vs, gs, hR.plain (by omega) (by omega) rfl rfl⟩
      · simp at ho
        subst ho
        simp [Region.binds] at hdep
        have k4 : a.tmps.getD 27 undef = .slice s0 n0 c0 := hR.fr.done (i := 1) rfl (by simp_all) (by simp [hT])
        clear hi' hdep
        unfold wpOp
        simp [Region.wanted]
        refine .inl ?_
        unfold Oper.wp
        simp [execOp, go_sem, Act.eval, k4]
        refine (HM0.out w' hbw).mono ?_
        rintro e w'' ⟨neg, ao, n, cap, z, rfl, hn, hA, hb⟩
        exact ⟨_, gs, hR.call (t := 0) (by omega) hl0 rfl (.inr (by omega)) ⟨neg, ao, n, cap, z, rfl, hn, hA⟩ hb⟩
      · simp at ho
        subst ho
        simp [Region.binds] at hdep
        have k2 : a.tmps.getD 3 undef = .pointer (some ⟨w.heap.size, 0, none⟩) := (hR.fr.kept rfl (by simp [hT])).trans (by rw [hT]; rfl)
        clear hi' hdep hl0
        unfold wpOp
        simp [Region.wanted]
        refine .inl ?_
        unfold Oper.wp
        simp [execOp, go_sem, Act.eval, k2]
        exact ⟨vs, gs, hR.plain (by omega) (by omega) rfl rfl⟩
      · simp at ho
        subst ho
        simp [Region.binds] at hdep
        have k3 : a.tmps.getD 29 undef = .pointer (some ⟨w.heap.size, 1, none⟩) := hR.fr.done (i := 3) rfl (by simp_all) (by simp [hT])
        clear hi' hdep hl0
        unfold wpOp
        simp [Region.wanted]
        refine .inl ?_
        unfold Oper.wp
        simp [execOp, go_sem, Act.eval, k3, y1]
        exact ⟨vs, gs, hR.plain (by omega) (by omega) rfl rfl⟩
      · simp at ho
        subst ho
        simp [Region.binds] at hdep
        have k4 : a.tmps.getD 30 undef = .slice s1 n1 c1 := hR.fr.done (i := 4) rfl (by simp_all) (by simp [hT])
        clear hi' hdep
        unfold wpOp
        simp [Region.wanted]
        refine .inl ?_
        unfold Oper.wp
        simp [execOp, go_sem, Act.eval, k4]
        refine (HM1.out w' hbw).mono ?_
        rintro e w'' ⟨neg, ao, n, cap, z, rfl, hn, hA, hb⟩
        exact ⟨_, gs, hR.call (t := 1) (by omega) hl0 rfl (.inr (by omega)) ⟨neg, ao, n, cap, z, rfl, hn, hA⟩ hb⟩
      · simp at ho
        subst ho
        simp [Region.binds] at hdep
        clear hi' hdep
        unfold wpOp
        simp [Region.wanted]
        refine .inl ?_
        unfold Oper.wp
        simp [execOp, go_sem, Act.eval]
        exact ⟨vs, _, hR.alloc (t := 0) (by omega) hl0 rfl (.inr (by omega))⟩
      · simp at ho
        subst ho
        simp [Region.binds] at hdep
        clear hi' hdep
        unfold wpOp
        simp [Region.wanted]
        refine .inl ?_
        unfold Oper.wp
        simp [execOp, go_sem, Act.eval]
        exact ⟨vs, _, hR.alloc (t := 1) (by omega) hl0 rfl (.inr (by omega))⟩
      · simp at ho
        subst ho
        simp [Region.binds] at hdep
        have j1 : l.getD 6 true = true := getD_true (by simp_all)
        have j2 : l.getD 2 true = true := getD_true (by simp_all)
        have k5 : a.tmps.getD 8 undef = .pointer (some ⟨gs 0, 0, none⟩) := hR.fr.done (i := 6) rfl (by simp_all) (by simp [hT])
        have k6 : a.tmps.getD 28 undef = vs 0 := hR.fr.done (i := 2) rfl (by simp_all) (by simp [hT])
        obtain ⟨neg, ao, n, cap, z, ev, _⟩ := hR.val 0 (by omega) j2
        rw [ev] at k6
        obtain ⟨x0, x1, x2, x3, x4⟩ := hR.ready (t := 0) (by omega) hl0 j1
        clear hi' hdep
        unfold wpOp
        simp [Region.wanted]
        refine .inl ?_
        unfold Oper.wp
        simp [execOp, go_sem, Act.eval, k5, k6, x0, x1, x2, x3, x4]
        exact ⟨vs, gs, hR.store (t := 0) (by omega) hl0 j1 j2 ev undef⟩
      · simp at ho
        subst ho
        simp [Region.binds] at hdep
        have j1 : l.getD 7 true = true := getD_true (by simp_all)
        have j2 : l.getD 5 true = true := getD_true (by simp_all)
        have k5 : a.tmps.getD 9 undef = .pointer (some ⟨gs 1, 0, none⟩) := hR.fr.done (i := 7) rfl (by simp_all) (by simp [hT])
        have k6 : a.tmps.getD 31 undef = vs 1 := hR.fr.done (i := 5) rfl (by simp_all) (by simp [hT])
        obtain ⟨neg, ao, n, cap, z, ev, _⟩ := hR.val 1 (by omega) j2
        rw [ev] at k6
        obtain ⟨x0, x1, x2, x3, x4⟩ := hR.ready (t := 1) (by omega) hl0 j1
        clear hi' hdep
        unfold wpOp
        simp [Region.wanted]
        refine .inl ?_
        unfold Oper.wp
        simp [execOp, go_sem, Act.eval, k5, k6, x0, x1, x2, x3, x4]
        exact ⟨vs, gs, hR.store (t := 1) (by omega) hl0 j1 j2 ev undef⟩
  case' fin =>
      rintro l a W ⟨vs, gs, hR⟩ hz
      have hnot := List.eq_nil_iff_forall_not_mem.1 hz
      have hk : ∀ k, k < 10 → (l.getD k true = false → False) → l.getD k false = true := fun k h12 h => by
        have hs := hR.size
        cases h' : l.getD k true with
        | false => exact (h h').elim
        | true => simp [Array.getD, hs, h12] at h' ⊢; exact h'
      have st0 := hk 0 (by omega) (fun h => hnot 0 (mem_ready.2 ⟨h, _, rfl, by simp [Region.binds]⟩))
      have st1 := hk 1 (by omega) (fun h => hnot 1 (mem_ready.2 ⟨h, _, rfl, by simp [Region.binds]; simp_all⟩))
      have st2 := hk 2 (by omega) (fun h => hnot 2 (mem_ready.2 ⟨h, _, rfl, by simp [Region.binds]; simp_all⟩))
      have st3 := hk 3 (by omega) (fun h => hnot 3 (mem_ready.2 ⟨h, _, rfl, by simp [Region.binds]⟩))
      have st4 := hk 4 (by omega) (fun h => hnot 4 (mem_ready.2 ⟨h, _, rfl, by simp [Region.binds]; simp_all⟩))
      have st5 := hk 5 (by omega) (fun h => hnot 5 (mem_ready.2 ⟨h, _, rfl, by simp [Region.binds]; simp_all⟩))
      have st6 := hk 6 (by omega) (fun h => hnot 6 (mem_ready.2 ⟨h, _, rfl, by simp [Region.binds]⟩))
      have st7 := hk 7 (by omega) (fun h => hnot 7 (mem_ready.2 ⟨h, _, rfl, by simp [Region.binds]⟩))
      have st8 := hk 8 (by omega) (fun h => hnot 8 (mem_ready.2 ⟨h, _, rfl, by simp [Region.binds]; simp_all⟩))
      have st9 := hk 9 (by omega) (fun h => hnot 9 (mem_ready.2 ⟨h, _, rfl, by simp [Region.binds]; simp_all⟩))
      have hall : ∀ i, i < 10 → l.getD i true = true := fun i hi => by
        rcases (show i = 0 ∨ i = 1 ∨ i = 2 ∨ i = 3 ∨ i = 4 ∨ i = 5 ∨ i = 6 ∨ i = 7 ∨ i = 8 ∨ i = 9 by omega) with rfl | rfl | rfl | rfl | rfl | rfl | rfl | rfl | rfl | rfl
        · exact getD_true st0
        · exact getD_true st1
        · exact getD_true st2
        · exact getD_true st3
        · exact getD_true st4
        · exact getD_true st5
        · exact getD_true st6
        · exact getD_true st7
        · exact getD_true st8
        · exact getD_true st9
      clear st0 st1 st2 st3 st4 st5 st6 st7 st8 st9 hk hnot hz
      obtain ⟨n8, a8, l8, c8, A, ev0, B8, HA⟩ := hR.bx (t := 0) (by omega) (hall 8 (by omega))
      obtain ⟨n9, a9, l9, c9, B, ev1, B9, HB⟩ := hR.bx (t := 1) (by omega) (hall 9 (by omega))
      have hTs : T.size = 129 := by rw [hT]; rfl
      have ha : a = ⟨((((((((T.setIfInBounds 26 (.pointer (some ⟨w.heap.size, 0, none⟩))).setIfInBounds 27 (.slice s0 n0 c0)).setIfInBounds 28 (vs 0)).setIfInBounds 29 (.pointer (some ⟨w.heap.size, 1, none⟩))).setIfInBounds 30 (.slice s1 n1 c1)).setIfInBounds 31 (vs 1)).setIfInBounds 8 (.pointer (some ⟨gs 0, 0, none⟩))).setIfInBounds 9 (.pointer (some ⟨gs 1, 0, none⟩))), []⟩ := by
        refine hR.fr.all (fun j i v h => hall i (by have := mOwn_lt h; simp only [] at this; omega)) (by simp) (fun j hj => ?_)
        by_cases h1 : 26 ≤ j ∧ j < 32
        · rcases (show j = 26 ∨ j = 27 ∨ j = 28 ∨ j = 29 ∨ j = 30 ∨ j = 31 by omega) with rfl | rfl | rfl | rfl | rfl | rfl <;> simp [sets_getD, mOwn, hTs]
        · by_cases h2 : 8 ≤ j ∧ j < 10
          · rcases (show j = 8 ∨ j = 9 by omega) with rfl | rfl <;> simp [sets_getD, mOwn, hTs]
          · have e : mOwn 2 26 8 w.heap.size (fun t => if t = 0 then .slice s0 n0 c0 else .slice s1 n1 c1) vs gs j = none := by
              unfold mOwn
              rw [if_neg (by omega), if_neg (by omega)]
            rw [e]
            simp only [sets_getD]
            repeat rw [if_neg (by omega)]
      have hbl := hR.bl
      clear hR hall
      rw [ev0, ev1] at ha
      obtain ⟨g8, hg8⟩ : ∃ g8, g8 = gs 0 := ⟨_, rfl⟩
      obtain ⟨g9, hg9⟩ : ∃ g9, g9 = gs 1 := ⟨_, rfl⟩
      rw [← hg8] at ha B8
      rw [← hg9] at ha B9
      have ha2 : a = ⟨#[.agg #[.slice s0 n0 c0, .slice s1 n1 c1], .int .u8 L, .agg #[.bool p0, .slice x0 m0 d0, .bool p1, .slice x1 m1 d1], .pointer (some ⟨w.heap.size, 0, none⟩), undef, .pointer (some ⟨w.heap.size + 1, 0, none⟩), .bool false, .bool true, .pointer (some ⟨g8, 0, none⟩), .pointer (some ⟨g9, 0, none⟩), undef, undef, undef, undef, undef, undef, undef, undef, undef, undef, undef, undef, undef, undef, undef, .bool true, .pointer (some ⟨w.heap.size, 0, none⟩), .slice s0 n0 c0, .agg #[.bool n8, .slice a8 l8 c8], .pointer (some ⟨w.heap.size, 1, none⟩), .slice s1 n1 c1, .agg #[.bool n9, .slice a9 l9 c9], undef, undef, undef, undef, undef, undef, undef, undef, undef, undef, undef, undef, undef, undef, undef, undef, undef, undef, undef, undef, undef, undef, undef, undef, undef, undef, undef, undef, undef, undef, undef, undef, undef, undef, undef, undef, undef, undef, undef, undef, undef, undef, undef, undef, undef, undef, undef, undef, undef, undef, undef, undef, undef, undef, undef, undef, undef, undef, undef, undef, undef, undef, undef, undef, undef, undef, undef, undef, undef, undef, undef, undef, undef, undef, undef, undef, undef, undef, undef, undef, undef, undef, undef, undef, undef, undef, undef, undef, undef, undef, undef, undef, undef, undef, undef, undef, undef], []⟩ := by
        rw [ha, hT]
        simp only [List.setIfInBounds_toArray, List.set_cons_succ, List.set_cons_zero]
      subst ha2
      have B8 := Lib.hid B8
      have B9 := Lib.hid B9
      have HA := Lib.hid HA
      have HB := Lib.hid HB
      have HWW := step1 HW HZ hbl
      have HDD := step1 HD HE hbl
      have HW := HWW.1
      have HZ := HWW.2
      have HD := HDD.1
      have HE := HDD.2
      clear HWW HDD hbl ha hT hTs ev0 ev1 hg8 hg9 vs gs k0 k1 hW1

      have C8 := Lib.hid B8.out.bxc
      have C9 := Lib.hid B9.out.bxc
      have hsl8 := B8.out.nu.sl
      have HRZ : Hid (∀ V, Below W.heap.size W V → Calls Tryz.prog 12 #[.agg #[.bool n8, .slice a8 l8 c8], .int .i64 (L % 40)] V (fun e w' => ∃ ao n cap xs, e = .returned (.agg #[.bool n8, .slice ao n cap]) ∧ xs.length ≤ 512 ∧ Sl w' (.slice ao n cap) xs ∧ Below V.heap.size V w')) := Lib.hid (fun V hV => by
        have hl := hsl8.1.size
        have hl2 := hsl8.2
        have h := raised12_any (k := (L % 40).toNat) (neg := n8) (hsl8.1.below hV) (by omega) (by omega)
        have e : (((L % 40).toNat : Nat) : Int) = L % 40 := by omega
        rwa [e] at h)
      clear hsl8 B8 B9 HA HB HM0 HM1 HBL HSA
      have y0 := C8.out.c0
      have y1 := C8.out.c1
      go_upto_region 4 with (go_at_call 12; refine (HRZ.out _ (Below.refl _ _)).mono ?_; rintro e wn ⟨a10, l10, c10, X10, rfl, hx10, hs10, hb⟩; have C8 := Lib.hid (C8.out.below hb); have C9 := Lib.hid (C9.out.below hb); have HWW := step1 HW HZ hb; have HW := HWW.1; have HZ := HWW.2; have HDD := step1 HD HE hb; have HD := HDD.1; have HE := HDD.2; clear HWW HDD hb)
      clear y0 y1 HRZ
      have hb : Below wn.heap.size wn (wn.alloc (.cells #[.bool n8, .slice a10 l10 c10] 27)) := alloc_b _ _
      have C10 : Hid (Bxc (wn.alloc (.cells #[.bool n8, .slice a10 l10 c10] 27)) wn.heap.size n8 a10 l10 c10 X10) := Lib.hid ⟨heap_alloc_new _ _, ⟨_, _, rfl, hs10.below hb, hx10⟩⟩
      have C8 := Lib.hid (C8.out.below hb)
      have C9 := Lib.hid (C9.out.below hb)
      have HWW := step1 HW HZ hb
      have HW := HWW.1
      have HZ := HWW.2
      have HDD := step1 HD HE hb
      have HD := HDD.1
      have HE := HDD.2
      clear HWW HDD hb hs10 hx10
      revert HE
      revert HD
      revert HZ
      revert HW
      revert C9
      revert C8
      revert C10
      generalize (wn.alloc (.cells #[.bool n8, .slice a10 l10 c10] 27)) = wz
      generalize wn.heap.size = g10
      intro C10 C8 C9 HW HZ HD HE
      obtain ⟨k0, k1, _, _⟩ := HBR.out _ HD.out
      obtain ⟨W1, hW1⟩ : ∃ W1, W1 = wz := ⟨_, rfl⟩
      obtain ⟨T, hT⟩ : ∃ T : Array Value, T = #[.agg #[.slice s0 n0 c0, .slice s1 n1 c1], .int .u8 L, .agg #[.bool p0, .slice x0 m0 d0, .bool p1, .slice x1 m1 d1], .pointer (some ⟨w.heap.size, 0, none⟩), undef, .pointer (some ⟨w.heap.size + 1, 0, none⟩), .bool false, .bool true, .pointer (some ⟨g8, 0, none⟩), .pointer (some ⟨g9, 0, none⟩), .pointer (some ⟨g10, 0, none⟩), undef, undef, undef, undef, undef, undef, undef, undef, undef, undef, undef, undef, undef, undef, .bool true, .pointer (some ⟨w.heap.size, 0, none⟩), .slice s0 n0 c0, .agg #[.bool n8, .slice a8 l8 c8], .pointer (some ⟨w.heap.size, 1, none⟩), .slice s1 n1 c1, .agg #[.bool n9, .slice a9 l9 c9], .agg #[.bool n8, .slice a8 l8 c8], .int .u8 L, .int .i64 L, .int .i64 (L % 40), .agg #[.bool n8, .slice a10 l10 c10], undef, undef, undef, undef, undef, undef, undef, undef, undef, undef, undef, undef, undef, undef, undef, undef, undef, undef, undef, undef, undef, undef, undef, undef, undef, undef, undef, undef, undef, undef, undef, undef, undef, undef, undef, undef, undef, undef, undef, undef, undef, undef, undef, undef, undef, undef, undef, undef, undef, undef, undef, undef, undef, undef, undef, undef, undef, undef, undef, undef, undef, undef, undef, undef, undef, undef, undef, undef, undef, undef, undef, undef, undef, undef, undef, undef, undef, undef, undef, undef, undef, undef, undef, undef, undef, undef, undef, undef, undef, undef, undef, undef] := ⟨_, rfl⟩
      rw [← hT]
      refine regionP_inv (by kernel_rfl) (fun l a w' => ∃ vs gs, RC wz T 2 37 11 (w.heap.size + 1) (fun t => if t = 0 then .agg #[.bool p0, .slice x0 m0 d0] else .agg #[.bool p1, .slice x1 m1 d1]) vs gs l a w') ?h0c ?stepc ?finc
      case h0c => exact ⟨fun _ => undef, fun _ => 0, RC.start rfl (show Below wz.heap.size wz wz.drew from ⟨rfl, rfl, rfl, Nat.le_refl _, fun _ _ => rfl⟩)⟩
      case stepc =>
          rintro l a w' i' ⟨vs, gs, hR⟩ hi'
          obtain ⟨hl0, o, ho, hdep⟩ := mem_ready.1 hi'
          have h15 : i' < 10 := by
            have := (Array.getElem?_eq_some_iff.1 ho).1
            simpa using this
          have hbw : Below w.heap.size w w' := HW.out.trans (hR.bl.mono HZ.out)
          obtain ⟨Y0, Y1, Y2, Y3⟩ := HBR.out _ (HD.out.trans (hR.bl.mono HE.out))
          rcases (show i' = 0 ∨ i' = 1 ∨ i' = 2 ∨ i' = 3 ∨ i' = 4 ∨ i' = 5 ∨ i' = 6 ∨ i' = 7 ∨ i' = 8 ∨ i' = 9 by omega) with rfl | rfl | rfl | rfl | rfl | rfl | rfl | rfl | rfl | rfl
          · simp at ho
            subst ho
            simp [Region.binds] at hdep
            have k2 : a.tmps.getD 5 undef = .pointer (some ⟨w.heap.size + 1, 0, none⟩) := (hR.fr.kept rfl (by simp [hT])).trans (by rw [hT]; rfl)
            clear hi' hdep hl0
            unfold wpOp
            simp [Region.wanted]
            refine .inl ?_
            unfold Oper.wp
            simp [execOp, go_sem, Act.eval, k2]
            exact ⟨vs, gs, hR.plain (by omega) (by omega) rfl rfl⟩
          · simp at ho
            subst ho
            simp [Region.binds] at hdep
            have k3 : a.tmps.getD 37 undef = .pointer (some ⟨w.heap.size + 1, 0, none⟩) := hR.fr.done (i := 0) rfl (by simp_all) (by simp [hT])
            clear hi' hdep hl0
            unfold wpOp
            simp [Region.wanted]
            refine .inl ?_
            unfold Oper.wp
            simp [execOp, go_sem, Act.eval, k3, Y0, Y1]
            exact ⟨vs, gs, hR.plain (by omega) (by omega) rfl rfl⟩
          · simp at ho
            subst ho
            simp [Region.binds] at hdep
            have k4 : a.tmps.getD 38 undef = .agg #[.bool p0, .slice x0 m0 d0] := hR.fr.done (i := 1) rfl (by simp_all) (by simp [hT])
            clear hi' hdep
            unfold wpOp
            simp [Region.wanted]
            refine .inl ?_
            unfold Oper.wp
            simp [execOp, go_sem, Act.eval, k4]
            refine (HC0.out w' hbw).mono ?_
            rintro e w'' ⟨neg, ao, n, cap, z, rfl, hn, hA, hb⟩
            exact ⟨_, gs, hR.call (t := 0) (by omega) hl0 rfl (.inr (by omega)) ⟨neg, ao, n, cap, z, rfl, hn, hA⟩ hb⟩
          · simp at ho
            subst ho
            simp [Region.binds] at hdep
            have k2 : a.tmps.getD 5 undef = .pointer (some ⟨w.heap.size + 1, 0, none⟩) := (hR.fr.kept rfl (by simp [hT])).trans (by rw [hT]; rfl)
            clear hi' hdep hl0
            unfold wpOp
            simp [Region.wanted]
            refine .inl ?_
            unfold Oper.wp
            simp [execOp, go_sem, Act.eval, k2]
            exact ⟨vs, gs, hR.plain (by omega) (by omega) rfl rfl⟩
          · simp at ho
            subst ho
            simp [Region.binds] at hdep
            have k3 : a.tmps.getD 40 undef = .pointer (some ⟨w.heap.size + 1, 2, none⟩) := hR.fr.done (i := 3) rfl (by simp_all) (by simp [hT])
            clear hi' hdep hl0
            unfold wpOp
            simp [Region.wanted]
            refine .inl ?_
            unfold Oper.wp
            simp [execOp, go_sem, Act.eval, k3, Y2, Y3]
            exact ⟨vs, gs, hR.plain (by omega) (by omega) rfl rfl⟩
          · simp at ho
            subst ho
            simp [Region.binds] at hdep
            have k4 : a.tmps.getD 41 undef = .agg #[.bool p1, .slice x1 m1 d1] := hR.fr.done (i := 4) rfl (by simp_all) (by simp [hT])
            clear hi' hdep
            unfold wpOp
            simp [Region.wanted]
            refine .inl ?_
            unfold Oper.wp
            simp [execOp, go_sem, Act.eval, k4]
            refine (HC1.out w' hbw).mono ?_
            rintro e w'' ⟨neg, ao, n, cap, z, rfl, hn, hA, hb⟩
            exact ⟨_, gs, hR.call (t := 1) (by omega) hl0 rfl (.inr (by omega)) ⟨neg, ao, n, cap, z, rfl, hn, hA⟩ hb⟩
          · simp at ho
            subst ho
            simp [Region.binds] at hdep
            clear hi' hdep
            unfold wpOp
            simp [Region.wanted]
            refine .inl ?_
            unfold Oper.wp
            simp [execOp, go_sem, Act.eval]
            exact ⟨vs, _, hR.alloc (t := 0) (by omega) hl0 rfl (.inr (by omega))⟩
          · simp at ho
            subst ho
            simp [Region.binds] at hdep
            clear hi' hdep
            unfold wpOp
            simp [Region.wanted]
            refine .inl ?_
            unfold Oper.wp
            simp [execOp, go_sem, Act.eval]
            exact ⟨vs, _, hR.alloc (t := 1) (by omega) hl0 rfl (.inr (by omega))⟩
          · simp at ho
            subst ho
            simp [Region.binds] at hdep
            have j1 : l.getD 6 true = true := getD_true (by simp_all)
            have j2 : l.getD 2 true = true := getD_true (by simp_all)
            have k5 : a.tmps.getD 11 undef = .pointer (some ⟨gs 0, 0, none⟩) := hR.fr.done (i := 6) rfl (by simp_all) (by simp [hT])
            have k6 : a.tmps.getD 39 undef = vs 0 := hR.fr.done (i := 2) rfl (by simp_all) (by simp [hT])
            obtain ⟨neg, ao, n, cap, z, ev, _⟩ := hR.val 0 (by omega) j2
            rw [ev] at k6
            obtain ⟨x0, x1, x2, x3, x4⟩ := hR.ready (t := 0) (by omega) hl0 j1
            clear hi' hdep
            unfold wpOp
            simp [Region.wanted]
            refine .inl ?_
            unfold Oper.wp
            simp [execOp, go_sem, Act.eval, k5, k6, x0, x1, x2, x3, x4]
            exact ⟨vs, gs, hR.store (t := 0) (by omega) hl0 j1 j2 ev undef⟩
          · simp at ho
            subst ho
            simp [Region.binds] at hdep
            have j1 : l.getD 7 true = true := getD_true (by simp_all)
            have j2 : l.getD 5 true = true := getD_true (by simp_all)
            have k5 : a.tmps.getD 12 undef = .pointer (some ⟨gs 1, 0, none⟩) := hR.fr.done (i := 7) rfl (by simp_all) (by simp [hT])
            have k6 : a.tmps.getD 42 undef = vs 1 := hR.fr.done (i := 5) rfl (by simp_all) (by simp [hT])
            obtain ⟨neg, ao, n, cap, z, ev, _⟩ := hR.val 1 (by omega) j2
            rw [ev] at k6
            obtain ⟨x0, x1, x2, x3, x4⟩ := hR.ready (t := 1) (by omega) hl0 j1
            clear hi' hdep
            unfold wpOp
            simp [Region.wanted]
            refine .inl ?_
            unfold Oper.wp
            simp [execOp, go_sem, Act.eval, k5, k6, x0, x1, x2, x3, x4]
            exact ⟨vs, gs, hR.store (t := 1) (by omega) hl0 j1 j2 ev undef⟩
      case' finc =>
          rintro l a W ⟨vs, gs, hR⟩ hz
          have hnot := List.eq_nil_iff_forall_not_mem.1 hz
          have hk : ∀ k, k < 10 → (l.getD k true = false → False) → l.getD k false = true := fun k h12 h => by
            have hs := hR.size
            cases h' : l.getD k true with
            | false => exact (h h').elim
            | true => simp [Array.getD, hs, h12] at h' ⊢; exact h'
          have st0 := hk 0 (by omega) (fun h => hnot 0 (mem_ready.2 ⟨h, _, rfl, by simp [Region.binds]⟩))
          have st1 := hk 1 (by omega) (fun h => hnot 1 (mem_ready.2 ⟨h, _, rfl, by simp [Region.binds]; simp_all⟩))
          have st2 := hk 2 (by omega) (fun h => hnot 2 (mem_ready.2 ⟨h, _, rfl, by simp [Region.binds]; simp_all⟩))
          have st3 := hk 3 (by omega) (fun h => hnot 3 (mem_ready.2 ⟨h, _, rfl, by simp [Region.binds]⟩))
          have st4 := hk 4 (by omega) (fun h => hnot 4 (mem_ready.2 ⟨h, _, rfl, by simp [Region.binds]; simp_all⟩))
          have st5 := hk 5 (by omega) (fun h => hnot 5 (mem_ready.2 ⟨h, _, rfl, by simp [Region.binds]; simp_all⟩))
          have st6 := hk 6 (by omega) (fun h => hnot 6 (mem_ready.2 ⟨h, _, rfl, by simp [Region.binds]⟩))
          have st7 := hk 7 (by omega) (fun h => hnot 7 (mem_ready.2 ⟨h, _, rfl, by simp [Region.binds]⟩))
          have st8 := hk 8 (by omega) (fun h => hnot 8 (mem_ready.2 ⟨h, _, rfl, by simp [Region.binds]; simp_all⟩))
          have st9 := hk 9 (by omega) (fun h => hnot 9 (mem_ready.2 ⟨h, _, rfl, by simp [Region.binds]; simp_all⟩))
          have hall : ∀ i, i < 10 → l.getD i true = true := fun i hi => by
            rcases (show i = 0 ∨ i = 1 ∨ i = 2 ∨ i = 3 ∨ i = 4 ∨ i = 5 ∨ i = 6 ∨ i = 7 ∨ i = 8 ∨ i = 9 by omega) with rfl | rfl | rfl | rfl | rfl | rfl | rfl | rfl | rfl | rfl
            · exact getD_true st0
            · exact getD_true st1
            · exact getD_true st2
            · exact getD_true st3
            · exact getD_true st4
            · exact getD_true st5
            · exact getD_true st6
            · exact getD_true st7
            · exact getD_true st8
            · exact getD_true st9
          clear st0 st1 st2 st3 st4 st5 st6 st7 st8 st9 hk hnot hz
          obtain ⟨n11, a11, l11, c11, U, ev0, B11, HU⟩ := hR.bx (t := 0) (by omega) (hall 8 (by omega))
          obtain ⟨n12, a12, l12, c12, V, ev1, B12, HV⟩ := hR.bx (t := 1) (by omega) (hall 9 (by omega))
          have hTs : T.size = 129 := by rw [hT]; rfl
          have ha : a = ⟨((((((((T.setIfInBounds 37 (.pointer (some ⟨w.heap.size + 1, 0, none⟩))).setIfInBounds 38 (.agg #[.bool p0, .slice x0 m0 d0])).setIfInBounds 39 (vs 0)).setIfInBounds 40 (.pointer (some ⟨w.heap.size + 1, 2, none⟩))).setIfInBounds 41 (.agg #[.bool p1, .slice x1 m1 d1])).setIfInBounds 42 (vs 1)).setIfInBounds 11 (.pointer (some ⟨gs 0, 0, none⟩))).setIfInBounds 12 (.pointer (some ⟨gs 1, 0, none⟩))), []⟩ := by
            refine hR.fr.all (fun j i v h => hall i (by have := mOwnC_lt h; simp only [] at this; omega)) (by simp) (fun j hj => ?_)
            by_cases h1 : 37 ≤ j ∧ j < 43
            · rcases (show j = 37 ∨ j = 38 ∨ j = 39 ∨ j = 40 ∨ j = 41 ∨ j = 42 by omega) with rfl | rfl | rfl | rfl | rfl | rfl <;> simp [sets_getD, mOwnC, hTs]
            · by_cases h2 : 11 ≤ j ∧ j < 13
              · rcases (show j = 11 ∨ j = 12 by omega) with rfl | rfl <;> simp [sets_getD, mOwnC, hTs]
              · have e : mOwnC 2 37 11 (w.heap.size + 1) (fun t => if t = 0 then .agg #[.bool p0, .slice x0 m0 d0] else .agg #[.bool p1, .slice x1 m1 d1]) vs gs j = none := by
                  unfold mOwnC
                  rw [if_neg (by omega), if_neg (by omega)]
                rw [e]
                simp only [sets_getD]
                repeat rw [if_neg (by omega)]
          have hbl := hR.bl
          clear hR hall
          rw [ev0, ev1] at ha
          obtain ⟨g11, hg11⟩ : ∃ g11, g11 = gs 0 := ⟨_, rfl⟩
          obtain ⟨g12, hg12⟩ : ∃ g12, g12 = gs 1 := ⟨_, rfl⟩
          rw [← hg11] at ha B11
          rw [← hg12] at ha B12
          have ha2 : a = ⟨#[.agg #[.slice s0 n0 c0, .slice s1 n1 c1], .int .u8 L, .agg #[.bool p0, .slice x0 m0 d0, .bool p1, .slice x1 m1 d1], .pointer (some ⟨w.heap.size, 0, none⟩), undef, .pointer (some ⟨w.heap.size + 1, 0, none⟩), .bool false, .bool true, .pointer (some ⟨g8, 0, none⟩), .pointer (some ⟨g9, 0, none⟩), .pointer (some ⟨g10, 0, none⟩), .pointer (some ⟨g11, 0, none⟩), .pointer (some ⟨g12, 0, none⟩), undef, undef, undef, undef, undef, undef, undef, undef, undef, undef, undef, undef, .bool true, .pointer (some ⟨w.heap.size, 0, none⟩), .slice s0 n0 c0, .agg #[.bool n8, .slice a8 l8 c8], .pointer (some ⟨w.heap.size, 1, none⟩), .slice s1 n1 c1, .agg #[.bool n9, .slice a9 l9 c9], .agg #[.bool n8, .slice a8 l8 c8], .int .u8 L, .int .i64 L, .int .i64 (L % 40), .agg #[.bool n8, .slice a10 l10 c10], .pointer (some ⟨w.heap.size + 1, 0, none⟩), .agg #[.bool p0, .slice x0 m0 d0], .agg #[.bool n11, .slice a11 l11 c11], .pointer (some ⟨w.heap.size + 1, 2, none⟩), .agg #[.bool p1, .slice x1 m1 d1], .agg #[.bool n12, .slice a12 l12 c12], undef, undef, undef, undef, undef, undef, undef, undef, undef, undef, undef, undef, undef, undef, undef, undef, undef, undef, undef, undef, undef, undef, undef, undef, undef, undef, undef, undef, undef, undef, undef, undef, undef, undef, undef, undef, undef, undef, undef, undef, undef, undef, undef, undef, undef, undef, undef, undef, undef, undef, undef, undef, undef, undef, undef, undef, undef, undef, undef, undef, undef, undef, undef, undef, undef, undef, undef, undef, undef, undef, undef, undef, undef, undef, undef, undef, undef, undef, undef, undef, undef, undef, undef, undef, undef, undef], []⟩ := by
            rw [ha, hT]
            simp only [List.setIfInBounds_toArray, List.set_cons_succ, List.set_cons_zero]
          subst ha2
          have B11 := Lib.hid B11
          have B12 := Lib.hid B12
          have HU := Lib.hid HU
          have HV := Lib.hid HV
          have HWW := step1 HW HZ hbl
          have HDD := step1 HD HE hbl
          have HW := HWW.1
          have HZ := HWW.2
          have HD := HDD.1
          have HE := HDD.2
          have C8 := Lib.hid (C8.out.below hbl)
          have C9 := Lib.hid (C9.out.below hbl)
          have C10 := Lib.hid (C10.out.below hbl)
          clear HWW HDD hbl ha hT hTs ev0 ev1 hg11 hg12 vs gs k0 k1 hW1
          have S8 := Lib.hid C8.out.sl
          have e8 := C8.out.c0
          have f8 := C8.out.c1
          have S9 := Lib.hid C9.out.sl
          have e9 := C9.out.c0
          have f9 := C9.out.c1
          have S10 := Lib.hid C10.out.sl
          have e10 := C10.out.c0
          have f10 := C10.out.c1
          have S11 := Lib.hid B11.out.sl
          have e11 := B11.out.c0
          have f11 := B11.out.c1
          have S12 := Lib.hid B12.out.sl
          have e12 := B12.out.c0
          have f12 := B12.out.c1
          clear HC0 HC1 HBR HU HV
          go_wp2
          have hb : Below W.heap.size W (W.alloc (.cells #[.bool n8, .slice a8 l8 c8, .bool n9, .slice a9 l9 c9, .bool n9, .slice a9 l9 c9, .bool n8, .slice a8 l8 c8, .bool n8, .slice a10 l10 c10, .bool n9, .slice a9 l9 c9, .bool n11, .slice a11 l11 c11, .bool n12, .slice a12 l12 c12, .bool n11, .slice a11 l11 c11, .bool n9, .slice a9 l9 c9, .bool n8, .slice a10 l10 c10, .bool n11, .slice a11 l11 c11] 28)) := alloc_b _ _
          have HK : Hid (Blk (W.alloc (.cells #[.bool n8, .slice a8 l8 c8, .bool n9, .slice a9 l9 c9, .bool n9, .slice a9 l9 c9, .bool n8, .slice a8 l8 c8, .bool n8, .slice a10 l10 c10, .bool n9, .slice a9 l9 c9, .bool n11, .slice a11 l11 c11, .bool n12, .slice a12 l12 c12, .bool n11, .slice a11 l11 c11, .bool n9, .slice a9 l9 c9, .bool n8, .slice a10 l10 c10, .bool n11, .slice a11 l11 c11] 28)) W.heap.size #[.bool n8, .slice a8 l8 c8, .bool n9, .slice a9 l9 c9, .bool n9, .slice a9 l9 c9, .bool n8, .slice a8 l8 c8, .bool n8, .slice a10 l10 c10, .bool n9, .slice a9 l9 c9, .bool n11, .slice a11 l11 c11, .bool n12, .slice a12 l12 c12, .bool n11, .slice a11 l11 c11, .bool n9, .slice a9 l9 c9, .bool n8, .slice a10 l10 c10, .bool n11, .slice a11 l11 c11] 28) := Lib.hid (heap_alloc_new _ _)
          have S8 := Lib.hid (show Sl (W.alloc (.cells #[.bool n8, .slice a8 l8 c8, .bool n9, .slice a9 l9 c9, .bool n9, .slice a9 l9 c9, .bool n8, .slice a8 l8 c8, .bool n8, .slice a10 l10 c10, .bool n9, .slice a9 l9 c9, .bool n11, .slice a11 l11 c11, .bool n12, .slice a12 l12 c12, .bool n11, .slice a11 l11 c11, .bool n9, .slice a9 l9 c9, .bool n8, .slice a10 l10 c10, .bool n11, .slice a11 l11 c11] 28)) (.slice a8 l8 c8) _ ∧ _ from ⟨S8.out.1.below hb, S8.out.2⟩)
          have S9 := Lib.hid (show Sl (W.alloc (.cells #[.bool n8, .slice a8 l8 c8, .bool n9, .slice a9 l9 c9, .bool n9, .slice a9 l9 c9, .bool n8, .slice a8 l8 c8, .bool n8, .slice a10 l10 c10, .bool n9, .slice a9 l9 c9, .bool n11, .slice a11 l11 c11, .bool n12, .slice a12 l12 c12, .bool n11, .slice a11 l11 c11, .bool n9, .slice a9 l9 c9, .bool n8, .slice a10 l10 c10, .bool n11, .slice a11 l11 c11] 28)) (.slice a9 l9 c9) _ ∧ _ from ⟨S9.out.1.below hb, S9.out.2⟩)
          have S10 := Lib.hid (show Sl (W.alloc (.cells #[.bool n8, .slice a8 l8 c8, .bool n9, .slice a9 l9 c9, .bool n9, .slice a9 l9 c9, .bool n8, .slice a8 l8 c8, .bool n8, .slice a10 l10 c10, .bool n9, .slice a9 l9 c9, .bool n11, .slice a11 l11 c11, .bool n12, .slice a12 l12 c12, .bool n11, .slice a11 l11 c11, .bool n9, .slice a9 l9 c9, .bool n8, .slice a10 l10 c10, .bool n11, .slice a11 l11 c11] 28)) (.slice a10 l10 c10) _ ∧ _ from ⟨S10.out.1.below hb, S10.out.2⟩)
          have S11 := Lib.hid (show Sl (W.alloc (.cells #[.bool n8, .slice a8 l8 c8, .bool n9, .slice a9 l9 c9, .bool n9, .slice a9 l9 c9, .bool n8, .slice a8 l8 c8, .bool n8, .slice a10 l10 c10, .bool n9, .slice a9 l9 c9, .bool n11, .slice a11 l11 c11, .bool n12, .slice a12 l12 c12, .bool n11, .slice a11 l11 c11, .bool n9, .slice a9 l9 c9, .bool n8, .slice a10 l10 c10, .bool n11, .slice a11 l11 c11] 28)) (.slice a11 l11 c11) _ ∧ _ from ⟨S11.out.1.below hb, S11.out.2⟩)
          have S12 := Lib.hid (show Sl (W.alloc (.cells #[.bool n8, .slice a8 l8 c8, .bool n9, .slice a9 l9 c9, .bool n9, .slice a9 l9 c9, .bool n8, .slice a8 l8 c8, .bool n8, .slice a10 l10 c10, .bool n9, .slice a9 l9 c9, .bool n11, .slice a11 l11 c11, .bool n12, .slice a12 l12 c12, .bool n11, .slice a11 l11 c11, .bool n9, .slice a9 l9 c9, .bool n8, .slice a10 l10 c10, .bool n11, .slice a11 l11 c11] 28)) (.slice a12 l12 c12) _ ∧ _ from ⟨S12.out.1.below hb, S12.out.2⟩)
          have HWW := step1 HW HZ hb
          have HW := HWW.1
          have HZ := HWW.2
          clear HWW hb e8 f8 e9 f9 e10 f10 e11 f11 e12 f12 C8 C9 C10 B11 B12
          revert HW
          revert HZ
          revert HK
          revert S8
          revert S9
          revert S10
          revert S11
          revert S12
          generalize (W.alloc (.cells #[.bool n8, .slice a8 l8 c8, .bool n9, .slice a9 l9 c9, .bool n9, .slice a9 l9 c9, .bool n8, .slice a8 l8 c8, .bool n8, .slice a10 l10 c10, .bool n9, .slice a9 l9 c9, .bool n11, .slice a11 l11 c11, .bool n12, .slice a12 l12 c12, .bool n11, .slice a11 l11 c11, .bool n9, .slice a9 l9 c9, .bool n8, .slice a10 l10 c10, .bool n11, .slice a11 l11 c11] 28)) = W10
          generalize W.heap.size = g51
          intro S12 S11 S10 S9 S8 HK HZ HW
          obtain ⟨q1_8_9, e1_8_9, q2_8_9, e2_8_9, o1_8_9, D8_9⟩ := both_div (na := n8) (nb := n9) S8.out.1.bd S9.out.1.bd (by have := S8.out.2; omega) (by have := S9.out.2; omega)
          obtain ⟨q3_8_9, e3_8_9, o2_8_9, G8_9⟩ := both_gcd (na := n8) (nb := n9) S8.out.1.bd S9.out.1.bd (by have := S8.out.2; omega) (by have := S9.out.2; omega)
          have D8_9 := Lib.hid D8_9
          have G8_9 := Lib.hid G8_9
          obtain ⟨q1_9_8, e1_9_8, q2_9_8, e2_9_8, o1_9_8, D9_8⟩ := both_div (na := n9) (nb := n8) S9.out.1.bd S8.out.1.bd (by have := S9.out.2; omega) (by have := S8.out.2; omega)
          obtain ⟨q3_9_8, e3_9_8, o2_9_8, G9_8⟩ := both_gcd (na := n9) (nb := n8) S9.out.1.bd S8.out.1.bd (by have := S9.out.2; omega) (by have := S8.out.2; omega)
          have D9_8 := Lib.hid D9_8
          have G9_8 := Lib.hid G9_8
          obtain ⟨q1_10_9, e1_10_9, q2_10_9, e2_10_9, o1_10_9, D10_9⟩ := both_div (na := n8) (nb := n9) S10.out.1.bd S9.out.1.bd (by have := S10.out.2; omega) (by have := S9.out.2; omega)
          obtain ⟨q3_10_9, e3_10_9, o2_10_9, G10_9⟩ := both_gcd (na := n8) (nb := n9) S10.out.1.bd S9.out.1.bd (by have := S10.out.2; omega) (by have := S9.out.2; omega)
          have D10_9 := Lib.hid D10_9
          have G10_9 := Lib.hid G10_9
          obtain ⟨q1_11_12, e1_11_12, q2_11_12, e2_11_12, o1_11_12, D11_12⟩ := both_div (na := n11) (nb := n12) S11.out.1.bd S12.out.1.bd (by have := S11.out.2; omega) (by have := S12.out.2; omega)
          obtain ⟨q3_11_12, e3_11_12, o2_11_12, G11_12⟩ := both_gcd (na := n11) (nb := n12) S11.out.1.bd S12.out.1.bd (by have := S11.out.2; omega) (by have := S12.out.2; omega)
          have D11_12 := Lib.hid D11_12
          have G11_12 := Lib.hid G11_12
          obtain ⟨q1_11_9, e1_11_9, q2_11_9, e2_11_9, o1_11_9, D11_9⟩ := both_div (na := n11) (nb := n9) S11.out.1.bd S9.out.1.bd (by have := S11.out.2; omega) (by have := S9.out.2; omega)
          obtain ⟨q3_11_9, e3_11_9, o2_11_9, G11_9⟩ := both_gcd (na := n11) (nb := n9) S11.out.1.bd S9.out.1.bd (by have := S11.out.2; omega) (by have := S9.out.2; omega)
          have D11_9 := Lib.hid D11_9
          have G11_9 := Lib.hid G11_9
          obtain ⟨q1_10_11, e1_10_11, q2_10_11, e2_10_11, o1_10_11, D10_11⟩ := both_div (na := n8) (nb := n11) S10.out.1.bd S11.out.1.bd (by have := S10.out.2; omega) (by have := S11.out.2; omega)
          obtain ⟨q3_10_11, e3_10_11, o2_10_11, G10_11⟩ := both_gcd (na := n8) (nb := n11) S10.out.1.bd S11.out.1.bd (by have := S10.out.2; omega) (by have := S11.out.2; omega)
          have D10_11 := Lib.hid D10_11
          have G10_11 := Lib.hid G10_11
          go_loopw [63] (fun kv wr => ∃ i : Int, (i = 0 ∨ i = 1 ∨ i = 2 ∨ i = 3 ∨ i = 4 ∨ i = 5 ∨ i = 6) ∧ kv = .int .i64 i ∧ Hid (Below W10.heap.size W10 wr)) (fun kv _ => (6 - intOf kv).toNat)
          case atStart => exact ⟨0, by omega, rfl, Lib.hid (Below.refl _ _)⟩
          case round =>
            obtain ⟨i, hi, rfl, HQ⟩ := hrel
            have HK2 := Lib.hid (HK.out.below HQ.out)
            rcases hi with rfl | rfl | rfl | rfl | rfl | rfl | rfl
            · have y0 : wr.cell? ⟨g51, 0, none⟩ = some (.bool n8) := HK2.out.cell 0 rfl
              have y1 : wr.cell? ⟨g51, 1, none⟩ = some (.slice a8 l8 c8) := HK2.out.cell 1 rfl
              have y2 : wr.cell? ⟨g51, 2, none⟩ = some (.bool n9) := HK2.out.cell 2 rfl
              have y3 : wr.cell? ⟨g51, 3, none⟩ = some (.slice a9 l9 c9) := HK2.out.cell 3 rfl
              go_upto_region 8 with fail
              have hb : Below wr.heap.size wr (wr.alloc (.cells #[.bool n8, .slice a8 l8 c8, .bool n9, .slice a9 l9 c9] 28)) := alloc_b _ _
              have HX : Hid (Blk (wr.alloc (.cells #[.bool n8, .slice a8 l8 c8, .bool n9, .slice a9 l9 c9] 28)) wr.heap.size #[.bool n8, .slice a8 l8 c8, .bool n9, .slice a9 l9 c9] 28) := Lib.hid (heap_alloc_new _ _)
              have HQ := Lib.hid (HQ.out.trans (hb.mono HQ.out.size))
              have SA := Lib.hid (S8.out.1.below HQ.out)
              have SB := Lib.hid (S9.out.1.below HQ.out)
              clear hb y0 y1 y2 y3
              revert SB
              revert SA
              revert HQ
              revert HX
              generalize (wr.alloc (.cells #[.bool n8, .slice a8 l8 c8, .bool n9, .slice a9 l9 c9] 28)) = W12
              generalize wr.heap.size = g14
              intro HX HQ SA SB
              have y0 := HX.out.cell 0 (v := .bool n8) rfl
              have y1 := HX.out.cell 1 (v := .slice a8 l8 c8) rfl
              have y2 := HX.out.cell 2 (v := .bool n9) rfl
              have y3 := HX.out.cell 3 (v := .slice a9 l9 c9) rfl
              go_upto_region 9 with (go_at_call 15; (with_reducible refine (D8_9.out _ _ _ SA.out SB.out).1.mono ?_); rintro e wn ⟨ra1, la1, ka1, rb1, lb1, kb1, rfl, hs1, hs2, hb⟩; have PA1 := Lib.hid hs1; have PB1 := Lib.hid hs2; have HX := Lib.hid (HX.out.below hb); have SA := Lib.hid (SA.out.below hb); have SB := Lib.hid (SB.out.below hb); have HQ := Lib.hid (HQ.out.trans (hb.mono HQ.out.size)); clear hb hs1 hs2)
              clear y0 y1 y2 y3
              have hb : Below wn.heap.size wn ((wn.alloc (.cells #[.bool q1_8_9, .slice ra1 la1 ka1] 27)).alloc (.cells #[.bool q2_8_9, .slice rb1 lb1 kb1] 27)) := by go_grown
              have HX := Lib.hid (HX.out.below hb)
              have SA := Lib.hid (SA.out.below hb)
              have SB := Lib.hid (SB.out.below hb)
              have PA1 := Lib.hid (PA1.out.below hb)
              have PB1 := Lib.hid (PB1.out.below hb)
              have HQ := Lib.hid (HQ.out.trans (hb.mono HQ.out.size))
              have RA1 : Hid (Bk ((wn.alloc (.cells #[.bool q1_8_9, .slice ra1 la1 ka1] 27)).alloc (.cells #[.bool q2_8_9, .slice rb1 lb1 kb1] 27)) wn.heap.size (.bool q1_8_9) (.slice ra1 la1 ka1)) := Lib.hid ((Below.heap_alloc _ _ _ (by simp)).trans (heap_alloc_new _ _))
              have RB1 : Hid (Bk ((wn.alloc (.cells #[.bool q1_8_9, .slice ra1 la1 ka1] 27)).alloc (.cells #[.bool q2_8_9, .slice rb1 lb1 kb1] 27)) (wn.heap.size + 1) (.bool q2_8_9) (.slice rb1 lb1 kb1)) := Lib.hid (by
                have := heap_alloc_new (wn.alloc (.cells #[.bool q1_8_9, .slice ra1 la1 ka1] 27)) (.cells #[.bool q2_8_9, .slice rb1 lb1 kb1] 27)
                rw [World.size_alloc] at this
                exact this)
              clear hb
              revert HX
              revert SA
              revert SB
              revert PA1
              revert PB1
              revert RA1
              revert RB1
              revert HQ
              generalize ((wn.alloc (.cells #[.bool q1_8_9, .slice ra1 la1 ka1] 27)).alloc (.cells #[.bool q2_8_9, .slice rb1 lb1 kb1] 27)) = V1
              generalize wn.heap.size = b1
              intro HQ RB1 RA1 PB1 PA1 SB SA HX
              have y0 := HX.out.cell 0 (v := .bool n8) rfl
              have y1 := HX.out.cell 1 (v := .slice a8 l8 c8) rfl
              have y2 := HX.out.cell 2 (v := .bool n9) rfl
              have y3 := HX.out.cell 3 (v := .slice a9 l9 c9) rfl
              go_upto_region 10 with (go_at_call 16; (with_reducible refine (D8_9.out _ _ _ SA.out SB.out).2.mono ?_); rintro e wn ⟨ra2, la2, ka2, rb2, lb2, kb2, rfl, hs1, hs2, hb⟩; have PA2 := Lib.hid hs1; have PB2 := Lib.hid hs2; have HX := Lib.hid (HX.out.below hb); have SA := Lib.hid (SA.out.below hb); have SB := Lib.hid (SB.out.below hb); have PA1 := Lib.hid (PA1.out.below hb); have PB1 := Lib.hid (PB1.out.below hb); have RA1 := Lib.hid (RA1.out.below hb); have RB1 := Lib.hid (RB1.out.below hb); have HQ := Lib.hid (HQ.out.trans (hb.mono HQ.out.size)); clear hb hs1 hs2)
              clear y0 y1 y2 y3
              have hb : Below wn.heap.size wn ((wn.alloc (.cells #[.bool q1_8_9, .slice ra2 la2 ka2] 27)).alloc (.cells #[.bool q2_8_9, .slice rb2 lb2 kb2] 27)) := by go_grown
              have HX := Lib.hid (HX.out.below hb)
              have SA := Lib.hid (SA.out.below hb)
              have SB := Lib.hid (SB.out.below hb)
              have PA1 := Lib.hid (PA1.out.below hb)
              have PB1 := Lib.hid (PB1.out.below hb)
              have RA1 := Lib.hid (RA1.out.below hb)
              have RB1 := Lib.hid (RB1.out.below hb)
              have PA2 := Lib.hid (PA2.out.below hb)
              have PB2 := Lib.hid (PB2.out.below hb)
              have HQ := Lib.hid (HQ.out.trans (hb.mono HQ.out.size))
              have RA2 : Hid (Bk ((wn.alloc (.cells #[.bool q1_8_9, .slice ra2 la2 ka2] 27)).alloc (.cells #[.bool q2_8_9, .slice rb2 lb2 kb2] 27)) wn.heap.size (.bool q1_8_9) (.slice ra2 la2 ka2)) := Lib.hid ((Below.heap_alloc _ _ _ (by simp)).trans (heap_alloc_new _ _))
              have RB2 : Hid (Bk ((wn.alloc (.cells #[.bool q1_8_9, .slice ra2 la2 ka2] 27)).alloc (.cells #[.bool q2_8_9, .slice rb2 lb2 kb2] 27)) (wn.heap.size + 1) (.bool q2_8_9) (.slice rb2 lb2 kb2)) := Lib.hid (by
                have := heap_alloc_new (wn.alloc (.cells #[.bool q1_8_9, .slice ra2 la2 ka2] 27)) (.cells #[.bool q2_8_9, .slice rb2 lb2 kb2] 27)
                rw [World.size_alloc] at this
                exact this)
              clear hb
              revert HX
              revert SA
              revert SB
              revert PA1
              revert PB1
              revert RA1
              revert RB1
              revert PA2
              revert PB2
              revert RA2
              revert RB2
              revert HQ
              generalize ((wn.alloc (.cells #[.bool q1_8_9, .slice ra2 la2 ka2] 27)).alloc (.cells #[.bool q2_8_9, .slice rb2 lb2 kb2] 27)) = V2
              generalize wn.heap.size = b2
              intro HQ RB2 RA2 PB2 PA2 RB1 RA1 PB1 PA1 SB SA HX
              have y0 := HX.out.cell 0 (v := .bool n8) rfl
              have y1 := HX.out.cell 1 (v := .slice a8 l8 c8) rfl
              have y2 := HX.out.cell 2 (v := .bool n9) rfl
              have y3 := HX.out.cell 3 (v := .slice a9 l9 c9) rfl
              go_upto_region 11 with (go_at_call 17; (with_reducible refine (G8_9.out _ _ _ SA.out SB.out).1.mono ?_); rintro e wn ⟨ra3, la3, ka3, rfl, hs1, hb⟩; have PA3 := Lib.hid hs1; have HX := Lib.hid (HX.out.below hb); have SA := Lib.hid (SA.out.below hb); have SB := Lib.hid (SB.out.below hb); have PA1 := Lib.hid (PA1.out.below hb); have PB1 := Lib.hid (PB1.out.below hb); have RA1 := Lib.hid (RA1.out.below hb); have RB1 := Lib.hid (RB1.out.below hb); have PA2 := Lib.hid (PA2.out.below hb); have PB2 := Lib.hid (PB2.out.below hb); have RA2 := Lib.hid (RA2.out.below hb); have RB2 := Lib.hid (RB2.out.below hb); have HQ := Lib.hid (HQ.out.trans (hb.mono HQ.out.size)); clear hb hs1)
              clear y0 y1 y2 y3
              have hb : Below wn.heap.size wn (wn.alloc (.cells #[.bool q3_8_9, .slice ra3 la3 ka3] 27)) := by go_grown
              have HX := Lib.hid (HX.out.below hb)
              have SA := Lib.hid (SA.out.below hb)
              have SB := Lib.hid (SB.out.below hb)
              have PA1 := Lib.hid (PA1.out.below hb)
              have PB1 := Lib.hid (PB1.out.below hb)
              have RA1 := Lib.hid (RA1.out.below hb)
              have RB1 := Lib.hid (RB1.out.below hb)
              have PA2 := Lib.hid (PA2.out.below hb)
              have PB2 := Lib.hid (PB2.out.below hb)
              have RA2 := Lib.hid (RA2.out.below hb)
              have RB2 := Lib.hid (RB2.out.below hb)
              have PA3 := Lib.hid (PA3.out.below hb)
              have HQ := Lib.hid (HQ.out.trans (hb.mono HQ.out.size))
              have RA3 : Hid (Bk (wn.alloc (.cells #[.bool q3_8_9, .slice ra3 la3 ka3] 27)) wn.heap.size (.bool q3_8_9) (.slice ra3 la3 ka3)) := Lib.hid (heap_alloc_new _ _)
              clear hb
              revert HX
              revert SA
              revert SB
              revert PA1
              revert PB1
              revert RA1
              revert RB1
              revert PA2
              revert PB2
              revert RA2
              revert RB2
              revert PA3
              revert RA3
              revert HQ
              generalize (wn.alloc (.cells #[.bool q3_8_9, .slice ra3 la3 ka3] 27)) = V3
              generalize wn.heap.size = b3
              intro HQ RA3 PA3 RB2 RA2 PB2 PA2 RB1 RA1 PB1 PA1 SB SA HX
              have y0 := HX.out.cell 0 (v := .bool n8) rfl
              have y1 := HX.out.cell 1 (v := .slice a8 l8 c8) rfl
              have y2 := HX.out.cell 2 (v := .bool n9) rfl
              have y3 := HX.out.cell 3 (v := .slice a9 l9 c9) rfl
              go_upto_region 12 with (go_at_call 18; (with_reducible refine (G8_9.out _ _ _ SA.out SB.out).2.mono ?_); rintro e wn ⟨ra4, la4, ka4, rfl, hs1, hb⟩; have PA4 := Lib.hid hs1; have HX := Lib.hid (HX.out.below hb); have SA := Lib.hid (SA.out.below hb); have SB := Lib.hid (SB.out.below hb); have PA1 := Lib.hid (PA1.out.below hb); have PB1 := Lib.hid (PB1.out.below hb); have RA1 := Lib.hid (RA1.out.below hb); have RB1 := Lib.hid (RB1.out.below hb); have PA2 := Lib.hid (PA2.out.below hb); have PB2 := Lib.hid (PB2.out.below hb); have RA2 := Lib.hid (RA2.out.below hb); have RB2 := Lib.hid (RB2.out.below hb); have PA3 := Lib.hid (PA3.out.below hb); have RA3 := Lib.hid (RA3.out.below hb); have HQ := Lib.hid (HQ.out.trans (hb.mono HQ.out.size)); clear hb hs1)
              clear y0 y1 y2 y3
              have hb : Below wn.heap.size wn (wn.alloc (.cells #[.bool q3_8_9, .slice ra4 la4 ka4] 27)) := by go_grown
              have HX := Lib.hid (HX.out.below hb)
              have SA := Lib.hid (SA.out.below hb)
              have SB := Lib.hid (SB.out.below hb)
              have PA1 := Lib.hid (PA1.out.below hb)
              have PB1 := Lib.hid (PB1.out.below hb)
              have RA1 := Lib.hid (RA1.out.below hb)
              have RB1 := Lib.hid (RB1.out.below hb)
              have PA2 := Lib.hid (PA2.out.below hb)
              have PB2 := Lib.hid (PB2.out.below hb)
              have RA2 := Lib.hid (RA2.out.below hb)
              have RB2 := Lib.hid (RB2.out.below hb)
              have PA3 := Lib.hid (PA3.out.below hb)
              have RA3 := Lib.hid (RA3.out.below hb)
              have PA4 := Lib.hid (PA4.out.below hb)
              have HQ := Lib.hid (HQ.out.trans (hb.mono HQ.out.size))
              have RA4 : Hid (Bk (wn.alloc (.cells #[.bool q3_8_9, .slice ra4 la4 ka4] 27)) wn.heap.size (.bool q3_8_9) (.slice ra4 la4 ka4)) := Lib.hid (heap_alloc_new _ _)
              clear hb
              revert HX
              revert SA
              revert SB
              revert PA1
              revert PB1
              revert RA1
              revert RB1
              revert PA2
              revert PB2
              revert RA2
              revert RB2
              revert PA3
              revert RA3
              revert PA4
              revert RA4
              revert HQ
              generalize (wn.alloc (.cells #[.bool q3_8_9, .slice ra4 la4 ka4] 27)) = V4
              generalize wn.heap.size = b4
              intro HQ RA4 PA4 RA3 PA3 RB2 RA2 PB2 PA2 RB1 RA1 PB1 PA1 SB SA HX
              obtain ⟨p1, p2⟩ := RA1.out.cells
              obtain ⟨p3, p4⟩ := RB1.out.cells
              obtain ⟨p5, p6⟩ := RA2.out.cells
              obtain ⟨p7, p8⟩ := RB2.out.cells
              obtain ⟨p9, p10⟩ := RA3.out.cells
              obtain ⟨p11, p12⟩ := RA4.out.cells
              go_wp2_with (first | (go_at_call_of 19 (Value.agg #[.bool q1_8_9, .slice ra1 la1 ka1]); (with_reducible refine (same_eq PA1.out PA2.out).mono ?_); rintro e ws ⟨rfl, hb⟩; have HX := Lib.hid (HX.out.below hb); have SA := Lib.hid (SA.out.below hb); have SB := Lib.hid (SB.out.below hb); have PA1 := Lib.hid (PA1.out.below hb); have PB1 := Lib.hid (PB1.out.below hb); have RA1 := Lib.hid (RA1.out.below hb); have RB1 := Lib.hid (RB1.out.below hb); have PA2 := Lib.hid (PA2.out.below hb); have PB2 := Lib.hid (PB2.out.below hb); have RA2 := Lib.hid (RA2.out.below hb); have RB2 := Lib.hid (RB2.out.below hb); have PA3 := Lib.hid (PA3.out.below hb); have RA3 := Lib.hid (RA3.out.below hb); have PA4 := Lib.hid (PA4.out.below hb); have RA4 := Lib.hid (RA4.out.below hb); have HQ := Lib.hid (HQ.out.trans (hb.mono HQ.out.size)); clear hb; obtain ⟨p1, p2⟩ := RA1.out.cells; obtain ⟨p3, p4⟩ := RB1.out.cells; obtain ⟨p5, p6⟩ := RA2.out.cells; obtain ⟨p7, p8⟩ := RB2.out.cells; obtain ⟨p9, p10⟩ := RA3.out.cells; obtain ⟨p11, p12⟩ := RA4.out.cells) | (go_at_call_of 19 (Value.agg #[.bool q2_8_9, .slice rb1 lb1 kb1]); (with_reducible refine (same_eq PB1.out PB2.out).mono ?_); rintro e ws ⟨rfl, hb⟩; have HX := Lib.hid (HX.out.below hb); have SA := Lib.hid (SA.out.below hb); have SB := Lib.hid (SB.out.below hb); have PA1 := Lib.hid (PA1.out.below hb); have PB1 := Lib.hid (PB1.out.below hb); have RA1 := Lib.hid (RA1.out.below hb); have RB1 := Lib.hid (RB1.out.below hb); have PA2 := Lib.hid (PA2.out.below hb); have PB2 := Lib.hid (PB2.out.below hb); have RA2 := Lib.hid (RA2.out.below hb); have RB2 := Lib.hid (RB2.out.below hb); have PA3 := Lib.hid (PA3.out.below hb); have RA3 := Lib.hid (RA3.out.below hb); have PA4 := Lib.hid (PA4.out.below hb); have RA4 := Lib.hid (RA4.out.below hb); have HQ := Lib.hid (HQ.out.trans (hb.mono HQ.out.size)); clear hb; obtain ⟨p1, p2⟩ := RA1.out.cells; obtain ⟨p3, p4⟩ := RB1.out.cells; obtain ⟨p5, p6⟩ := RA2.out.cells; obtain ⟨p7, p8⟩ := RB2.out.cells; obtain ⟨p9, p10⟩ := RA3.out.cells; obtain ⟨p11, p12⟩ := RA4.out.cells) | (go_at_call_of 19 (Value.agg #[.bool q3_8_9, .slice ra3 la3 ka3]); (with_reducible refine (same_eq PA3.out PA4.out).mono ?_); rintro e ws ⟨rfl, hb⟩; have HX := Lib.hid (HX.out.below hb); have SA := Lib.hid (SA.out.below hb); have SB := Lib.hid (SB.out.below hb); have PA1 := Lib.hid (PA1.out.below hb); have PB1 := Lib.hid (PB1.out.below hb); have RA1 := Lib.hid (RA1.out.below hb); have RB1 := Lib.hid (RB1.out.below hb); have PA2 := Lib.hid (PA2.out.below hb); have PB2 := Lib.hid (PB2.out.below hb); have RA2 := Lib.hid (RA2.out.below hb); have RB2 := Lib.hid (RB2.out.below hb); have PA3 := Lib.hid (PA3.out.below hb); have RA3 := Lib.hid (RA3.out.below hb); have PA4 := Lib.hid (PA4.out.below hb); have RA4 := Lib.hid (RA4.out.below hb); have HQ := Lib.hid (HQ.out.trans (hb.mono HQ.out.size)); clear hb; obtain ⟨p1, p2⟩ := RA1.out.cells; obtain ⟨p3, p4⟩ := RB1.out.cells; obtain ⟨p5, p6⟩ := RA2.out.cells; obtain ⟨p7, p8⟩ := RB2.out.cells; obtain ⟨p9, p10⟩ := RA3.out.cells; obtain ⟨p11, p12⟩ := RA4.out.cells))
              go_roundw
              case rel => exact ⟨1, by omega, rfl, HQ⟩
              case measure => simp [intOf]
            · have y0 : wr.cell? ⟨g51, 4, none⟩ = some (.bool n9) := HK2.out.cell 4 rfl
              have y1 : wr.cell? ⟨g51, 5, none⟩ = some (.slice a9 l9 c9) := HK2.out.cell 5 rfl
              have y2 : wr.cell? ⟨g51, 6, none⟩ = some (.bool n8) := HK2.out.cell 6 rfl
              have y3 : wr.cell? ⟨g51, 7, none⟩ = some (.slice a8 l8 c8) := HK2.out.cell 7 rfl
              go_upto_region 8 with fail
              have hb : Below wr.heap.size wr (wr.alloc (.cells #[.bool n9, .slice a9 l9 c9, .bool n8, .slice a8 l8 c8] 28)) := alloc_b _ _
              have HX : Hid (Blk (wr.alloc (.cells #[.bool n9, .slice a9 l9 c9, .bool n8, .slice a8 l8 c8] 28)) wr.heap.size #[.bool n9, .slice a9 l9 c9, .bool n8, .slice a8 l8 c8] 28) := Lib.hid (heap_alloc_new _ _)
              have HQ := Lib.hid (HQ.out.trans (hb.mono HQ.out.size))
              have SA := Lib.hid (S9.out.1.below HQ.out)
              have SB := Lib.hid (S8.out.1.below HQ.out)
              clear hb y0 y1 y2 y3
              revert SB
              revert SA
              revert HQ
              revert HX
              generalize (wr.alloc (.cells #[.bool n9, .slice a9 l9 c9, .bool n8, .slice a8 l8 c8] 28)) = W12
              generalize wr.heap.size = g14
              intro HX HQ SA SB
              have y0 := HX.out.cell 0 (v := .bool n9) rfl
              have y1 := HX.out.cell 1 (v := .slice a9 l9 c9) rfl
              have y2 := HX.out.cell 2 (v := .bool n8) rfl
              have y3 := HX.out.cell 3 (v := .slice a8 l8 c8) rfl
              go_upto_region 9 with (go_at_call 15; (with_reducible refine (D9_8.out _ _ _ SA.out SB.out).1.mono ?_); rintro e wn ⟨ra1, la1, ka1, rb1, lb1, kb1, rfl, hs1, hs2, hb⟩; have PA1 := Lib.hid hs1; have PB1 := Lib.hid hs2; have HX := Lib.hid (HX.out.below hb); have SA := Lib.hid (SA.out.below hb); have SB := Lib.hid (SB.out.below hb); have HQ := Lib.hid (HQ.out.trans (hb.mono HQ.out.size)); clear hb hs1 hs2)
              clear y0 y1 y2 y3
              have hb : Below wn.heap.size wn ((wn.alloc (.cells #[.bool q1_9_8, .slice ra1 la1 ka1] 27)).alloc (.cells #[.bool q2_9_8, .slice rb1 lb1 kb1] 27)) := by go_grown
              have HX := Lib.hid (HX.out.below hb)
              have SA := Lib.hid (SA.out.below hb)
              have SB := Lib.hid (SB.out.below hb)
              have PA1 := Lib.hid (PA1.out.below hb)
              have PB1 := Lib.hid (PB1.out.below hb)
              have HQ := Lib.hid (HQ.out.trans (hb.mono HQ.out.size))
              have RA1 : Hid (Bk ((wn.alloc (.cells #[.bool q1_9_8, .slice ra1 la1 ka1] 27)).alloc (.cells #[.bool q2_9_8, .slice rb1 lb1 kb1] 27)) wn.heap.size (.bool q1_9_8) (.slice ra1 la1 ka1)) := Lib.hid ((Below.heap_alloc _ _ _ (by simp)).trans (heap_alloc_new _ _))
              have RB1 : Hid (Bk ((wn.alloc (.cells #[.bool q1_9_8, .slice ra1 la1 ka1] 27)).alloc (.cells #[.bool q2_9_8, .slice rb1 lb1 kb1] 27)) (wn.heap.size + 1) (.bool q2_9_8) (.slice rb1 lb1 kb1)) := Lib.hid (by
                have := heap_alloc_new (wn.alloc (.cells #[.bool q1_9_8, .slice ra1 la1 ka1] 27)) (.cells #[.bool q2_9_8, .slice rb1 lb1 kb1] 27)
                rw [World.size_alloc] at this
                exact this)
              clear hb
              revert HX
              revert SA
              revert SB
              revert PA1
              revert PB1
              revert RA1
              revert RB1
              revert HQ
              generalize ((wn.alloc (.cells #[.bool q1_9_8, .slice ra1 la1 ka1] 27)).alloc (.cells #[.bool q2_9_8, .slice rb1 lb1 kb1] 27)) = V1
              generalize wn.heap.size = b1
              intro HQ RB1 RA1 PB1 PA1 SB SA HX
              have y0 := HX.out.cell 0 (v := .bool n9) rfl
              have y1 := HX.out.cell 1 (v := .slice a9 l9 c9) rfl
              have y2 := HX.out.cell 2 (v := .bool n8) rfl
              have y3 := HX.out.cell 3 (v := .slice a8 l8 c8) rfl
              go_upto_region 10 with (go_at_call 16; (with_reducible refine (D9_8.out _ _ _ SA.out SB.out).2.mono ?_); rintro e wn ⟨ra2, la2, ka2, rb2, lb2, kb2, rfl, hs1, hs2, hb⟩; have PA2 := Lib.hid hs1; have PB2 := Lib.hid hs2; have HX := Lib.hid (HX.out.below hb); have SA := Lib.hid (SA.out.below hb); have SB := Lib.hid (SB.out.below hb); have PA1 := Lib.hid (PA1.out.below hb); have PB1 := Lib.hid (PB1.out.below hb); have RA1 := Lib.hid (RA1.out.below hb); have RB1 := Lib.hid (RB1.out.below hb); have HQ := Lib.hid (HQ.out.trans (hb.mono HQ.out.size)); clear hb hs1 hs2)
              clear y0 y1 y2 y3
              have hb : Below wn.heap.size wn ((wn.alloc (.cells #[.bool q1_9_8, .slice ra2 la2 ka2] 27)).alloc (.cells #[.bool q2_9_8, .slice rb2 lb2 kb2] 27)) := by go_grown
              have HX := Lib.hid (HX.out.below hb)
              have SA := Lib.hid (SA.out.below hb)
              have SB := Lib.hid (SB.out.below hb)
              have PA1 := Lib.hid (PA1.out.below hb)
              have PB1 := Lib.hid (PB1.out.below hb)
              have RA1 := Lib.hid (RA1.out.below hb)
              have RB1 := Lib.hid (RB1.out.below hb)
              have PA2 := Lib.hid (PA2.out.below hb)
              have PB2 := Lib.hid (PB2.out.below hb)
              have HQ := Lib.hid (HQ.out.trans (hb.mono HQ.out.size))
              have RA2 : Hid (Bk ((wn.alloc (.cells #[.bool q1_9_8, .slice ra2 la2 ka2] 27)).alloc (.cells #[.bool q2_9_8, .slice rb2 lb2 kb2] 27)) wn.heap.size (.bool q1_9_8) (.slice ra2 la2 ka2)) := Lib.hid ((Below.heap_alloc _ _ _ (by simp)).trans (heap_alloc_new _ _))
              have RB2 : Hid (Bk ((wn.alloc (.cells #[.bool q1_9_8, .slice ra2 la2 ka2] 27)).alloc (.cells #[.bool q2_9_8, .slice rb2 lb2 kb2] 27)) (wn.heap.size + 1) (.bool q2_9_8) (.slice rb2 lb2 kb2)) := Lib.hid (by
                have := heap_alloc_new (wn.alloc (.cells #[.bool q1_9_8, .slice ra2 la2 ka2] 27)) (.cells #[.bool q2_9_8, .slice rb2 lb2 kb2] 27)
                rw [World.size_alloc] at this
                exact this)
              clear hb
              revert HX
              revert SA
              revert SB
              revert PA1
              revert PB1
              revert RA1
              revert RB1
              revert PA2
              revert PB2
              revert RA2
              revert RB2
              revert HQ
              generalize ((wn.alloc (.cells #[.bool q1_9_8, .slice ra2 la2 ka2] 27)).alloc (.cells #[.bool q2_9_8, .slice rb2 lb2 kb2] 27)) = V2
              generalize wn.heap.size = b2
              intro HQ RB2 RA2 PB2 PA2 RB1 RA1 PB1 PA1 SB SA HX
              have y0 := HX.out.cell 0 (v := .bool n9) rfl
              have y1 := HX.out.cell 1 (v := .slice a9 l9 c9) rfl
              have y2 := HX.out.cell 2 (v := .bool n8) rfl
              have y3 := HX.out.cell 3 (v := .slice a8 l8 c8) rfl
              go_upto_region 11 with (go_at_call 17; (with_reducible refine (G9_8.out _ _ _ SA.out SB.out).1.mono ?_); rintro e wn ⟨ra3, la3, ka3, rfl, hs1, hb⟩; have PA3 := Lib.hid hs1; have HX := Lib.hid (HX.out.below hb); have SA := Lib.hid (SA.out.below hb); have SB := Lib.hid (SB.out.below hb); have PA1 := Lib.hid (PA1.out.below hb); have PB1 := Lib.hid (PB1.out.below hb); have RA1 := Lib.hid (RA1.out.below hb); have RB1 := Lib.hid (RB1.out.below hb); have PA2 := Lib.hid (PA2.out.below hb); have PB2 := Lib.hid (PB2.out.below hb); have RA2 := Lib.hid (RA2.out.below hb); have RB2 := Lib.hid (RB2.out.below hb); have HQ := Lib.hid (HQ.out.trans (hb.mono HQ.out.size)); clear hb hs1)
              clear y0 y1 y2 y3
              have hb : Below wn.heap.size wn (wn.alloc (.cells #[.bool q3_9_8, .slice ra3 la3 ka3] 27)) := by go_grown
              have HX := Lib.hid (HX.out.below hb)
              have SA := Lib.hid (SA.out.below hb)
              have SB := Lib.hid (SB.out.below hb)
              have PA1 := Lib.hid (PA1.out.below hb)
              have PB1 := Lib.hid (PB1.out.below hb)
              have RA1 := Lib.hid (RA1.out.below hb)
              have RB1 := Lib.hid (RB1.out.below hb)
              have PA2 := Lib.hid (PA2.out.below hb)
              have PB2 := Lib.hid (PB2.out.below hb)
              have RA2 := Lib.hid (RA2.out.below hb)
              have RB2 := Lib.hid (RB2.out.below hb)
              have PA3 := Lib.hid (PA3.out.below hb)
              have HQ := Lib.hid (HQ.out.trans (hb.mono HQ.out.size))
              have RA3 : Hid (Bk (wn.alloc (.cells #[.bool q3_9_8, .slice ra3 la3 ka3] 27)) wn.heap.size (.bool q3_9_8) (.slice ra3 la3 ka3)) := Lib.hid (heap_alloc_new _ _)
              clear hb
              revert HX
              revert SA
              revert SB
              revert PA1
              revert PB1
              revert RA1
              revert RB1
              revert PA2
              revert PB2
              revert RA2
              revert RB2
              revert PA3
              revert RA3
              revert HQ
              generalize (wn.alloc (.cells #[.bool q3_9_8, .slice ra3 la3 ka3] 27)) = V3
              generalize wn.heap.size = b3
              intro HQ RA3 PA3 RB2 RA2 PB2 PA2 RB1 RA1 PB1 PA1 SB SA HX
              have y0 := HX.out.cell 0 (v := .bool n9) rfl
              have y1 := HX.out.cell 1 (v := .slice a9 l9 c9) rfl
              have y2 := HX.out.cell 2 (v := .bool n8) rfl
              have y3 := HX.out.cell 3 (v := .slice a8 l8 c8) rfl
              go_upto_region 12 with (go_at_call 18; (with_reducible refine (G9_8.out _ _ _ SA.out SB.out).2.mono ?_); rintro e wn ⟨ra4, la4, ka4, rfl, hs1, hb⟩; have PA4 := Lib.hid hs1; have HX := Lib.hid (HX.out.below hb); have SA := Lib.hid (SA.out.below hb); have SB := Lib.hid (SB.out.below hb); have PA1 := Lib.hid (PA1.out.below hb); have PB1 := Lib.hid (PB1.out.below hb); have RA1 := Lib.hid (RA1.out.below hb); have RB1 := Lib.hid (RB1.out.below hb); have PA2 := Lib.hid (PA2.out.below hb); have PB2 := Lib.hid (PB2.out.below hb); have RA2 := Lib.hid (RA2.out.below hb); have RB2 := Lib.hid (RB2.out.below hb); have PA3 := Lib.hid (PA3.out.below hb); have RA3 := Lib.hid (RA3.out.below hb); have HQ := Lib.hid (HQ.out.trans (hb.mono HQ.out.size)); clear hb hs1)
              clear y0 y1 y2 y3
              have hb : Below wn.heap.size wn (wn.alloc (.cells #[.bool q3_9_8, .slice ra4 la4 ka4] 27)) := by go_grown
              have HX := Lib.hid (HX.out.below hb)
              have SA := Lib.hid (SA.out.below hb)
              have SB := Lib.hid (SB.out.below hb)
              have PA1 := Lib.hid (PA1.out.below hb)
              have PB1 := Lib.hid (PB1.out.below hb)
              have RA1 := Lib.hid (RA1.out.below hb)
              have RB1 := Lib.hid (RB1.out.below hb)
              have PA2 := Lib.hid (PA2.out.below hb)
              have PB2 := Lib.hid (PB2.out.below hb)
              have RA2 := Lib.hid (RA2.out.below hb)
              have RB2 := Lib.hid (RB2.out.below hb)
              have PA3 := Lib.hid (PA3.out.below hb)
              have RA3 := Lib.hid (RA3.out.below hb)
              have PA4 := Lib.hid (PA4.out.below hb)
              have HQ := Lib.hid (HQ.out.trans (hb.mono HQ.out.size))
              have RA4 : Hid (Bk (wn.alloc (.cells #[.bool q3_9_8, .slice ra4 la4 ka4] 27)) wn.heap.size (.bool q3_9_8) (.slice ra4 la4 ka4)) := Lib.hid (heap_alloc_new _ _)
              clear hb
              revert HX
              revert SA
              revert SB
              revert PA1
              revert PB1
              revert RA1
              revert RB1
              revert PA2
              revert PB2
              revert RA2
              revert RB2
              revert PA3
              revert RA3
              revert PA4
              revert RA4
              revert HQ
              generalize (wn.alloc (.cells #[.bool q3_9_8, .slice ra4 la4 ka4] 27)) = V4
              generalize wn.heap.size = b4
              intro HQ RA4 PA4 RA3 PA3 RB2 RA2 PB2 PA2 RB1 RA1 PB1 PA1 SB SA HX
              obtain ⟨p1, p2⟩ := RA1.out.cells
              obtain ⟨p3, p4⟩ := RB1.out.cells
              obtain ⟨p5, p6⟩ := RA2.out.cells
              obtain ⟨p7, p8⟩ := RB2.out.cells
              obtain ⟨p9, p10⟩ := RA3.out.cells
              obtain ⟨p11, p12⟩ := RA4.out.cells
              go_wp2_with (first | (go_at_call_of 19 (Value.agg #[.bool q1_9_8, .slice ra1 la1 ka1]); (with_reducible refine (same_eq PA1.out PA2.out).mono ?_); rintro e ws ⟨rfl, hb⟩; have HX := Lib.hid (HX.out.below hb); have SA := Lib.hid (SA.out.below hb); have SB := Lib.hid (SB.out.below hb); have PA1 := Lib.hid (PA1.out.below hb); have PB1 := Lib.hid (PB1.out.below hb); have RA1 := Lib.hid (RA1.out.below hb); have RB1 := Lib.hid (RB1.out.below hb); have PA2 := Lib.hid (PA2.out.below hb); have PB2 := Lib.hid (PB2.out.below hb); have RA2 := Lib.hid (RA2.out.below hb); have RB2 := Lib.hid (RB2.out.below hb); have PA3 := Lib.hid (PA3.out.below hb); have RA3 := Lib.hid (RA3.out.below hb); have PA4 := Lib.hid (PA4.out.below hb); have RA4 := Lib.hid (RA4.out.below hb); have HQ := Lib.hid (HQ.out.trans (hb.mono HQ.out.size)); clear hb; obtain ⟨p1, p2⟩ := RA1.out.cells; obtain ⟨p3, p4⟩ := RB1.out.cells; obtain ⟨p5, p6⟩ := RA2.out.cells; obtain ⟨p7, p8⟩ := RB2.out.cells; obtain ⟨p9, p10⟩ := RA3.out.cells; obtain ⟨p11, p12⟩ := RA4.out.cells) | (go_at_call_of 19 (Value.agg #[.bool q2_9_8, .slice rb1 lb1 kb1]); (with_reducible refine (same_eq PB1.out PB2.out).mono ?_); rintro e ws ⟨rfl, hb⟩; have HX := Lib.hid (HX.out.below hb); have SA := Lib.hid (SA.out.below hb); have SB := Lib.hid (SB.out.below hb); have PA1 := Lib.hid (PA1.out.below hb); have PB1 := Lib.hid (PB1.out.below hb); have RA1 := Lib.hid (RA1.out.below hb); have RB1 := Lib.hid (RB1.out.below hb); have PA2 := Lib.hid (PA2.out.below hb); have PB2 := Lib.hid (PB2.out.below hb); have RA2 := Lib.hid (RA2.out.below hb); have RB2 := Lib.hid (RB2.out.below hb); have PA3 := Lib.hid (PA3.out.below hb); have RA3 := Lib.hid (RA3.out.below hb); have PA4 := Lib.hid (PA4.out.below hb); have RA4 := Lib.hid (RA4.out.below hb); have HQ := Lib.hid (HQ.out.trans (hb.mono HQ.out.size)); clear hb; obtain ⟨p1, p2⟩ := RA1.out.cells; obtain ⟨p3, p4⟩ := RB1.out.cells; obtain ⟨p5, p6⟩ := RA2.out.cells; obtain ⟨p7, p8⟩ := RB2.out.cells; obtain ⟨p9, p10⟩ := RA3.out.cells; obtain ⟨p11, p12⟩ := RA4.out.cells) | (go_at_call_of 19 (Value.agg #[.bool q3_9_8, .slice ra3 la3 ka3]); (with_reducible refine (same_eq PA3.out PA4.out).mono ?_); rintro e ws ⟨rfl, hb⟩; have HX := Lib.hid (HX.out.below hb); have SA := Lib.hid (SA.out.below hb); have SB := Lib.hid (SB.out.below hb); have PA1 := Lib.hid (PA1.out.below hb); have PB1 := Lib.hid (PB1.out.below hb); have RA1 := Lib.hid (RA1.out.below hb); have RB1 := Lib.hid (RB1.out.below hb); have PA2 := Lib.hid (PA2.out.below hb); have PB2 := Lib.hid (PB2.out.below hb); have RA2 := Lib.hid (RA2.out.below hb); have RB2 := Lib.hid (RB2.out.below hb); have PA3 := Lib.hid (PA3.out.below hb); have RA3 := Lib.hid (RA3.out.below hb); have PA4 := Lib.hid (PA4.out.below hb); have RA4 := Lib.hid (RA4.out.below hb); have HQ := Lib.hid (HQ.out.trans (hb.mono HQ.out.size)); clear hb; obtain ⟨p1, p2⟩ := RA1.out.cells; obtain ⟨p3, p4⟩ := RB1.out.cells; obtain ⟨p5, p6⟩ := RA2.out.cells; obtain ⟨p7, p8⟩ := RB2.out.cells; obtain ⟨p9, p10⟩ := RA3.out.cells; obtain ⟨p11, p12⟩ := RA4.out.cells))
              go_roundw
              case rel => exact ⟨2, by omega, rfl, HQ⟩
              case measure => simp [intOf]
            · have y0 : wr.cell? ⟨g51, 8, none⟩ = some (.bool n8) := HK2.out.cell 8 rfl
              have y1 : wr.cell? ⟨g51, 9, none⟩ = some (.slice a10 l10 c10) := HK2.out.cell 9 rfl
              have y2 : wr.cell? ⟨g51, 10, none⟩ = some (.bool n9) := HK2.out.cell 10 rfl
              have y3 : wr.cell? ⟨g51, 11, none⟩ = some (.slice a9 l9 c9) := HK2.out.cell 11 rfl
              go_upto_region 8 with fail
              have hb : Below wr.heap.size wr (wr.alloc (.cells #[.bool n8, .slice a10 l10 c10, .bool n9, .slice a9 l9 c9] 28)) := alloc_b _ _
              have HX : Hid (Blk (wr.alloc (.cells #[.bool n8, .slice a10 l10 c10, .bool n9, .slice a9 l9 c9] 28)) wr.heap.size #[.bool n8, .slice a10 l10 c10, .bool n9, .slice a9 l9 c9] 28) := Lib.hid (heap_alloc_new _ _)
              have HQ := Lib.hid (HQ.out.trans (hb.mono HQ.out.size))
              have SA := Lib.hid (S10.out.1.below HQ.out)
              have SB := Lib.hid (S9.out.1.below HQ.out)
              clear hb y0 y1 y2 y3
              revert SB
              revert SA
              revert HQ
              revert HX
              generalize (wr.alloc (.cells #[.bool n8, .slice a10 l10 c10, .bool n9, .slice a9 l9 c9] 28)) = W12
              generalize wr.heap.size = g14
              intro HX HQ SA SB
              have y0 := HX.out.cell 0 (v := .bool n8) rfl
              have y1 := HX.out.cell 1 (v := .slice a10 l10 c10) rfl
              have y2 := HX.out.cell 2 (v := .bool n9) rfl
              have y3 := HX.out.cell 3 (v := .slice a9 l9 c9) rfl
              go_upto_region 9 with (go_at_call 15; (with_reducible refine (D10_9.out _ _ _ SA.out SB.out).1.mono ?_); rintro e wn ⟨ra1, la1, ka1, rb1, lb1, kb1, rfl, hs1, hs2, hb⟩; have PA1 := Lib.hid hs1; have PB1 := Lib.hid hs2; have HX := Lib.hid (HX.out.below hb); have SA := Lib.hid (SA.out.below hb); have SB := Lib.hid (SB.out.below hb); have HQ := Lib.hid (HQ.out.trans (hb.mono HQ.out.size)); clear hb hs1 hs2)
              clear y0 y1 y2 y3
              have hb : Below wn.heap.size wn ((wn.alloc (.cells #[.bool q1_10_9, .slice ra1 la1 ka1] 27)).alloc (.cells #[.bool q2_10_9, .slice rb1 lb1 kb1] 27)) := by go_grown
              have HX := Lib.hid (HX.out.below hb)
              have SA := Lib.hid (SA.out.below hb)
              have SB := Lib.hid (SB.out.below hb)
              have PA1 := Lib.hid (PA1.out.below hb)
              have PB1 := Lib.hid (PB1.out.below hb)
              have HQ := Lib.hid (HQ.out.trans (hb.mono HQ.out.size))
              have RA1 : Hid (Bk ((wn.alloc (.cells #[.bool q1_10_9, .slice ra1 la1 ka1] 27)).alloc (.cells #[.bool q2_10_9, .slice rb1 lb1 kb1] 27)) wn.heap.size (.bool q1_10_9) (.slice ra1 la1 ka1)) := Lib.hid ((Below.heap_alloc _ _ _ (by simp)).trans (heap_alloc_new _ _))
              have RB1 : Hid (Bk ((wn.alloc (.cells #[.bool q1_10_9, .slice ra1 la1 ka1] 27)).alloc (.cells #[.bool q2_10_9, .slice rb1 lb1 kb1] 27)) (wn.heap.size + 1) (.bool q2_10_9) (.slice rb1 lb1 kb1)) := Lib.hid (by
                have := heap_alloc_new (wn.alloc (.cells #[.bool q1_10_9, .slice ra1 la1 ka1] 27)) (.cells #[.bool q2_10_9, .slice rb1 lb1 kb1] 27)
                rw [World.size_alloc] at this
                exact this)
              clear hb
              revert HX
              revert SA
              revert SB
              revert PA1
              revert PB1
              revert RA1
              revert RB1
              revert HQ
              generalize ((wn.alloc (.cells #[.bool q1_10_9, .slice ra1 la1 ka1] 27)).alloc (.cells #[.bool q2_10_9, .slice rb1 lb1 kb1] 27)) = V1
              generalize wn.heap.size = b1
              intro HQ RB1 RA1 PB1 PA1 SB SA HX
              have y0 := HX.out.cell 0 (v := .bool n8) rfl
              have y1 := HX.out.cell 1 (v := .slice a10 l10 c10) rfl
              have y2 := HX.out.cell 2 (v := .bool n9) rfl
              have y3 := HX.out.cell 3 (v := .slice a9 l9 c9) rfl
              go_upto_region 10 with (go_at_call 16; (with_reducible refine (D10_9.out _ _ _ SA.out SB.out).2.mono ?_); rintro e wn ⟨ra2, la2, ka2, rb2, lb2, kb2, rfl, hs1, hs2, hb⟩; have PA2 := Lib.hid hs1; have PB2 := Lib.hid hs2; have HX := Lib.hid (HX.out.below hb); have SA := Lib.hid (SA.out.below hb); have SB := Lib.hid (SB.out.below hb); have PA1 := Lib.hid (PA1.out.below hb); have PB1 := Lib.hid (PB1.out.below hb); have RA1 := Lib.hid (RA1.out.below hb); have RB1 := Lib.hid (RB1.out.below hb); have HQ := Lib.hid (HQ.out.trans (hb.mono HQ.out.size)); clear hb hs1 hs2)
              clear y0 y1 y2 y3
              have hb : Below wn.heap.size wn ((wn.alloc (.cells #[.bool q1_10_9, .slice ra2 la2 ka2] 27)).alloc (.cells #[.bool q2_10_9, .slice rb2 lb2 kb2] 27)) := by go_grown
              have HX := Lib.hid (HX.out.below hb)
              have SA := Lib.hid (SA.out.below hb)
              have SB := Lib.hid (SB.out.below hb)
              have PA1 := Lib.hid (PA1.out.below hb)
              have PB1 := Lib.hid (PB1.out.below hb)
              have RA1 := Lib.hid (RA1.out.below hb)
              have RB1 := Lib.hid (RB1.out.below hb)
              have PA2 := Lib.hid (PA2.out.below hb)
              have PB2 := Lib.hid (PB2.out.below hb)
              have HQ := Lib.hid (HQ.out.trans (hb.mono HQ.out.size))
              have RA2 : Hid (Bk ((wn.alloc (.cells #[.bool q1_10_9, .slice ra2 la2 ka2] 27)).alloc (.cells #[.bool q2_10_9, .slice rb2 lb2 kb2] 27)) wn.heap.size (.bool q1_10_9) (.slice ra2 la2 ka2)) := Lib.hid ((Below.heap_alloc _ _ _ (by simp)).trans (heap_alloc_new _ _))
              have RB2 : Hid (Bk ((wn.alloc (.cells #[.bool q1_10_9, .slice ra2 la2 ka2] 27)).alloc (.cells #[.bool q2_10_9, .slice rb2 lb2 kb2] 27)) (wn.heap.size + 1) (.bool q2_10_9) (.slice rb2 lb2 kb2)) := Lib.hid (by
                have := heap_alloc_new (wn.alloc (.cells #[.bool q1_10_9, .slice ra2 la2 ka2] 27)) (.cells #[.bool q2_10_9, .slice rb2 lb2 kb2] 27)
                rw [World.size_alloc] at this
                exact this)
              clear hb
              revert HX
              revert SA
              revert SB
              revert PA1
              revert PB1
              revert RA1
              revert RB1
              revert PA2
              revert PB2
              revert RA2
              revert RB2
              revert HQ
              generalize ((wn.alloc (.cells #[.bool q1_10_9, .slice ra2 la2 ka2] 27)).alloc (.cells #[.bool q2_10_9, .slice rb2 lb2 kb2] 27)) = V2
              generalize wn.heap.size = b2
              intro HQ RB2 RA2 PB2 PA2 RB1 RA1 PB1 PA1 SB SA HX
              have y0 := HX.out.cell 0 (v := .bool n8) rfl
              have y1 := HX.out.cell 1 (v := .slice a10 l10 c10) rfl
              have y2 := HX.out.cell 2 (v := .bool n9) rfl
              have y3 := HX.out.cell 3 (v := .slice a9 l9 c9) rfl
              go_upto_region 11 with (go_at_call 17; (with_reducible refine (G10_9.out _ _ _ SA.out SB.out).1.mono ?_); rintro e wn ⟨ra3, la3, ka3, rfl, hs1, hb⟩; have PA3 := Lib.hid hs1; have HX := Lib.hid (HX.out.below hb); have SA := Lib.hid (SA.out.below hb); have SB := Lib.hid (SB.out.below hb); have PA1 := Lib.hid (PA1.out.below hb); have PB1 := Lib.hid (PB1.out.below hb); have RA1 := Lib.hid (RA1.out.below hb); have RB1 := Lib.hid (RB1.out.below hb); have PA2 := Lib.hid (PA2.out.below hb); have PB2 := Lib.hid (PB2.out.below hb); have RA2 := Lib.hid (RA2.out.below hb); have RB2 := Lib.hid (RB2.out.below hb); have HQ := Lib.hid (HQ.out.trans (hb.mono HQ.out.size)); clear hb hs1)
              clear y0 y1 y2 y3
              have hb : Below wn.heap.size wn (wn.alloc (.cells #[.bool q3_10_9, .slice ra3 la3 ka3] 27)) := by go_grown
              have HX := Lib.hid (HX.out.below hb)
              have SA := Lib.hid (SA.out.below hb)
              have SB := Lib.hid (SB.out.below hb)
              have PA1 := Lib.hid (PA1.out.below hb)
              have PB1 := Lib.hid (PB1.out.below hb)
              have RA1 := Lib.hid (RA1.out.below hb)
              have RB1 := Lib.hid (RB1.out.below hb)
              have PA2 := Lib.hid (PA2.out.below hb)
              have PB2 := Lib.hid (PB2.out.below hb)
              have RA2 := Lib.hid (RA2.out.below hb)
              have RB2 := Lib.hid (RB2.out.below hb)
              have PA3 := Lib.hid (PA3.out.below hb)
              have HQ := Lib.hid (HQ.out.trans (hb.mono HQ.out.size))
              have RA3 : Hid (Bk (wn.alloc (.cells #[.bool q3_10_9, .slice ra3 la3 ka3] 27)) wn.heap.size (.bool q3_10_9) (.slice ra3 la3 ka3)) := Lib.hid (heap_alloc_new _ _)
              clear hb
              revert HX
              revert SA
              revert SB
              revert PA1
              revert PB1
              revert RA1
              revert RB1
              revert PA2
              revert PB2
              revert RA2
              revert RB2
              revert PA3
              revert RA3
              revert HQ
              generalize (wn.alloc (.cells #[.bool q3_10_9, .slice ra3 la3 ka3] 27)) = V3
              generalize wn.heap.size = b3
              intro HQ RA3 PA3 RB2 RA2 PB2 PA2 RB1 RA1 PB1 PA1 SB SA HX
              have y0 := HX.out.cell 0 (v := .bool n8) rfl
              have y1 := HX.out.cell 1 (v := .slice a10 l10 c10) rfl
              have y2 := HX.out.cell 2 (v := .bool n9) rfl
              have y3 := HX.out.cell 3 (v := .slice a9 l9 c9) rfl
              go_upto_region 12 with (go_at_call 18; (with_reducible refine (G10_9.out _ _ _ SA.out SB.out).2.mono ?_); rintro e wn ⟨ra4, la4, ka4, rfl, hs1, hb⟩; have PA4 := Lib.hid hs1; have HX := Lib.hid (HX.out.below hb); have SA := Lib.hid (SA.out.below hb); have SB := Lib.hid (SB.out.below hb); have PA1 := Lib.hid (PA1.out.below hb); have PB1 := Lib.hid (PB1.out.below hb); have RA1 := Lib.hid (RA1.out.below hb); have RB1 := Lib.hid (RB1.out.below hb); have PA2 := Lib.hid (PA2.out.below hb); have PB2 := Lib.hid (PB2.out.below hb); have RA2 := Lib.hid (RA2.out.below hb); have RB2 := Lib.hid (RB2.out.below hb); have PA3 := Lib.hid (PA3.out.below hb); have RA3 := Lib.hid (RA3.out.below hb); have HQ := Lib.hid (HQ.out.trans (hb.mono HQ.out.size)); clear hb hs1)
              clear y0 y1 y2 y3
              have hb : Below wn.heap.size wn (wn.alloc (.cells #[.bool q3_10_9, .slice ra4 la4 ka4] 27)) := by go_grown
              have HX := Lib.hid (HX.out.below hb)
              have SA := Lib.hid (SA.out.below hb)
              have SB := Lib.hid (SB.out.below hb)
              have PA1 := Lib.hid (PA1.out.below hb)
              have PB1 := Lib.hid (PB1.out.below hb)
              have RA1 := Lib.hid (RA1.out.below hb)
              have RB1 := Lib.hid (RB1.out.below hb)
              have PA2 := Lib.hid (PA2.out.below hb)
              have PB2 := Lib.hid (PB2.out.below hb)
              have RA2 := Lib.hid (RA2.out.below hb)
              have RB2 := Lib.hid (RB2.out.below hb)
              have PA3 := Lib.hid (PA3.out.below hb)
              have RA3 := Lib.hid (RA3.out.below hb)
              have PA4 := Lib.hid (PA4.out.below hb)
              have HQ := Lib.hid (HQ.out.trans (hb.mono HQ.out.size))
              have RA4 : Hid (Bk (wn.alloc (.cells #[.bool q3_10_9, .slice ra4 la4 ka4] 27)) wn.heap.size (.bool q3_10_9) (.slice ra4 la4 ka4)) := Lib.hid (heap_alloc_new _ _)
              clear hb
              revert HX
              revert SA
              revert SB
              revert PA1
              revert PB1
              revert RA1
              revert RB1
              revert PA2
              revert PB2
              revert RA2
              revert RB2
              revert PA3
              revert RA3
              revert PA4
              revert RA4
              revert HQ
              generalize (wn.alloc (.cells #[.bool q3_10_9, .slice ra4 la4 ka4] 27)) = V4
              generalize wn.heap.size = b4
              intro HQ RA4 PA4 RA3 PA3 RB2 RA2 PB2 PA2 RB1 RA1 PB1 PA1 SB SA HX
              obtain ⟨p1, p2⟩ := RA1.out.cells
              obtain ⟨p3, p4⟩ := RB1.out.cells
              obtain ⟨p5, p6⟩ := RA2.out.cells
              obtain ⟨p7, p8⟩ := RB2.out.cells
              obtain ⟨p9, p10⟩ := RA3.out.cells
              obtain ⟨p11, p12⟩ := RA4.out.cells
              go_wp2_with (first | (go_at_call_of 19 (Value.agg #[.bool q1_10_9, .slice ra1 la1 ka1]); (with_reducible refine (same_eq PA1.out PA2.out).mono ?_); rintro e ws ⟨rfl, hb⟩; have HX := Lib.hid (HX.out.below hb); have SA := Lib.hid (SA.out.below hb); have SB := Lib.hid (SB.out.below hb); have PA1 := Lib.hid (PA1.out.below hb); have PB1 := Lib.hid (PB1.out.below hb); have RA1 := Lib.hid (RA1.out.below hb); have RB1 := Lib.hid (RB1.out.below hb); have PA2 := Lib.hid (PA2.out.below hb); have PB2 := Lib.hid (PB2.out.below hb); have RA2 := Lib.hid (RA2.out.below hb); have RB2 := Lib.hid (RB2.out.below hb); have PA3 := Lib.hid (PA3.out.below hb); have RA3 := Lib.hid (RA3.out.below hb); have PA4 := Lib.hid (PA4.out.below hb); have RA4 := Lib.hid (RA4.out.below hb); have HQ := Lib.hid (HQ.out.trans (hb.mono HQ.out.size)); clear hb; obtain ⟨p1, p2⟩ := RA1.out.cells; obtain ⟨p3, p4⟩ := RB1.out.cells; obtain ⟨p5, p6⟩ := RA2.out.cells; obtain ⟨p7, p8⟩ := RB2.out.cells; obtain ⟨p9, p10⟩ := RA3.out.cells; obtain ⟨p11, p12⟩ := RA4.out.cells) | (go_at_call_of 19 (Value.agg #[.bool q2_10_9, .slice rb1 lb1 kb1]); (with_reducible refine (same_eq PB1.out PB2.out).mono ?_); rintro e ws ⟨rfl, hb⟩; have HX := Lib.hid (HX.out.below hb); have SA := Lib.hid (SA.out.below hb); have SB := Lib.hid (SB.out.below hb); have PA1 := Lib.hid (PA1.out.below hb); have PB1 := Lib.hid (PB1.out.below hb); have RA1 := Lib.hid (RA1.out.below hb); have RB1 := Lib.hid (RB1.out.below hb); have PA2 := Lib.hid (PA2.out.below hb); have PB2 := Lib.hid (PB2.out.below hb); have RA2 := Lib.hid (RA2.out.below hb); have RB2 := Lib.hid (RB2.out.below hb); have PA3 := Lib.hid (PA3.out.below hb); have RA3 := Lib.hid (RA3.out.below hb); have PA4 := Lib.hid (PA4.out.below hb); have RA4 := Lib.hid (RA4.out.below hb); have HQ := Lib.hid (HQ.out.trans (hb.mono HQ.out.size)); clear hb; obtain ⟨p1, p2⟩ := RA1.out.cells; obtain ⟨p3, p4⟩ := RB1.out.cells; obtain ⟨p5, p6⟩ := RA2.out.cells; obtain ⟨p7, p8⟩ := RB2.out.cells; obtain ⟨p9, p10⟩ := RA3.out.cells; obtain ⟨p11, p12⟩ := RA4.out.cells) | (go_at_call_of 19 (Value.agg #[.bool q3_10_9, .slice ra3 la3 ka3]); (with_reducible refine (same_eq PA3.out PA4.out).mono ?_); rintro e ws ⟨rfl, hb⟩; have HX := Lib.hid (HX.out.below hb); have SA := Lib.hid (SA.out.below hb); have SB := Lib.hid (SB.out.below hb); have PA1 := Lib.hid (PA1.out.below hb); have PB1 := Lib.hid (PB1.out.below hb); have RA1 := Lib.hid (RA1.out.below hb); have RB1 := Lib.hid (RB1.out.below hb); have PA2 := Lib.hid (PA2.out.below hb); have PB2 := Lib.hid (PB2.out.below hb); have RA2 := Lib.hid (RA2.out.below hb); have RB2 := Lib.hid (RB2.out.below hb); have PA3 := Lib.hid (PA3.out.below hb); have RA3 := Lib.hid (RA3.out.below hb); have PA4 := Lib.hid (PA4.out.below hb); have RA4 := Lib.hid (RA4.out.below hb); have HQ := Lib.hid (HQ.out.trans (hb.mono HQ.out.size)); clear hb; obtain ⟨p1, p2⟩ := RA1.out.cells; obtain ⟨p3, p4⟩ := RB1.out.cells; obtain ⟨p5, p6⟩ := RA2.out.cells; obtain ⟨p7, p8⟩ := RB2.out.cells; obtain ⟨p9, p10⟩ := RA3.out.cells; obtain ⟨p11, p12⟩ := RA4.out.cells))
              go_roundw
              case rel => exact ⟨3, by omega, rfl, HQ⟩
              case measure => simp [intOf]
            · have y0 : wr.cell? ⟨g51, 12, none⟩ = some (.bool n11) := HK2.out.cell 12 rfl
              have y1 : wr.cell? ⟨g51, 13, none⟩ = some (.slice a11 l11 c11) := HK2.out.cell 13 rfl
              have y2 : wr.cell? ⟨g51, 14, none⟩ = some (.bool n12) := HK2.out.cell 14 rfl
              have y3 : wr.cell? ⟨g51, 15, none⟩ = some (.slice a12 l12 c12) := HK2.out.cell 15 rfl
              go_upto_region 8 with fail
              have hb : Below wr.heap.size wr (wr.alloc (.cells #[.bool n11, .slice a11 l11 c11, .bool n12, .slice a12 l12 c12] 28)) := alloc_b _ _
              have HX : Hid (Blk (wr.alloc (.cells #[.bool n11, .slice a11 l11 c11, .bool n12, .slice a12 l12 c12] 28)) wr.heap.size #[.bool n11, .slice a11 l11 c11, .bool n12, .slice a12 l12 c12] 28) := Lib.hid (heap_alloc_new _ _)
              have HQ := Lib.hid (HQ.out.trans (hb.mono HQ.out.size))
              have SA := Lib.hid (S11.out.1.below HQ.out)
              have SB := Lib.hid (S12.out.1.below HQ.out)
              clear hb y0 y1 y2 y3
              revert SB
              revert SA
              revert HQ
              revert HX
              generalize (wr.alloc (.cells #[.bool n11, .slice a11 l11 c11, .bool n12, .slice a12 l12 c12] 28)) = W12
              generalize wr.heap.size = g14
              intro HX HQ SA SB
              have y0 := HX.out.cell 0 (v := .bool n11) rfl
              have y1 := HX.out.cell 1 (v := .slice a11 l11 c11) rfl
              have y2 := HX.out.cell 2 (v := .bool n12) rfl
              have y3 := HX.out.cell 3 (v := .slice a12 l12 c12) rfl
              go_upto_region 9 with (go_at_call 15; (with_reducible refine (D11_12.out _ _ _ SA.out SB.out).1.mono ?_); rintro e wn ⟨ra1, la1, ka1, rb1, lb1, kb1, rfl, hs1, hs2, hb⟩; have PA1 := Lib.hid hs1; have PB1 := Lib.hid hs2; have HX := Lib.hid (HX.out.below hb); have SA := Lib.hid (SA.out.below hb); have SB := Lib.hid (SB.out.below hb); have HQ := Lib.hid (HQ.out.trans (hb.mono HQ.out.size)); clear hb hs1 hs2)
              clear y0 y1 y2 y3
              have hb : Below wn.heap.size wn ((wn.alloc (.cells #[.bool q1_11_12, .slice ra1 la1 ka1] 27)).alloc (.cells #[.bool q2_11_12, .slice rb1 lb1 kb1] 27)) := by go_grown
              have HX := Lib.hid (HX.out.below hb)
              have SA := Lib.hid (SA.out.below hb)
              have SB := Lib.hid (SB.out.below hb)
              have PA1 := Lib.hid (PA1.out.below hb)
              have PB1 := Lib.hid (PB1.out.below hb)
              have HQ := Lib.hid (HQ.out.trans (hb.mono HQ.out.size))
              have RA1 : Hid (Bk ((wn.alloc (.cells #[.bool q1_11_12, .slice ra1 la1 ka1] 27)).alloc (.cells #[.bool q2_11_12, .slice rb1 lb1 kb1] 27)) wn.heap.size (.bool q1_11_12) (.slice ra1 la1 ka1)) := Lib.hid ((Below.heap_alloc _ _ _ (by simp)).trans (heap_alloc_new _ _))
              have RB1 : Hid (Bk ((wn.alloc (.cells #[.bool q1_11_12, .slice ra1 la1 ka1] 27)).alloc (.cells #[.bool q2_11_12, .slice rb1 lb1 kb1] 27)) (wn.heap.size + 1) (.bool q2_11_12) (.slice rb1 lb1 kb1)) := Lib.hid (by
                have := heap_alloc_new (wn.alloc (.cells #[.bool q1_11_12, .slice ra1 la1 ka1] 27)) (.cells #[.bool q2_11_12, .slice rb1 lb1 kb1] 27)
                rw [World.size_alloc] at this
                exact this)
              clear hb
              revert HX
              revert SA
              revert SB
              revert PA1
              revert PB1
              revert RA1
              revert RB1
              revert HQ
              generalize ((wn.alloc (.cells #[.bool q1_11_12, .slice ra1 la1 ka1] 27)).alloc (.cells #[.bool q2_11_12, .slice rb1 lb1 kb1] 27)) = V1
              generalize wn.heap.size = b1
              intro HQ RB1 RA1 PB1 PA1 SB SA HX
              have y0 := HX.out.cell 0 (v := .bool n11) rfl
              have y1 := HX.out.cell 1 (v := .slice a11 l11 c11) rfl
              have y2 := HX.out.cell 2 (v := .bool n12) rfl
              have y3 := HX.out.cell 3 (v := .slice a12 l12 c12) rfl
              go_upto_region 10 with (go_at_call 16; (with_reducible refine (D11_12.out _ _ _ SA.out SB.out).2.mono ?_); rintro e wn ⟨ra2, la2, ka2, rb2, lb2, kb2, rfl, hs1, hs2, hb⟩; have PA2 := Lib.hid hs1; have PB2 := Lib.hid hs2; have HX := Lib.hid (HX.out.below hb); have SA := Lib.hid (SA.out.below hb); have SB := Lib.hid (SB.out.below hb); have PA1 := Lib.hid (PA1.out.below hb); have PB1 := Lib.hid (PB1.out.below hb); have RA1 := Lib.hid (RA1.out.below hb); have RB1 := Lib.hid (RB1.out.below hb); have HQ := Lib.hid (HQ.out.trans (hb.mono HQ.out.size)); clear hb hs1 hs2)
              clear y0 y1 y2 y3
              have hb : Below wn.heap.size wn ((wn.alloc (.cells #[.bool q1_11_12, .slice ra2 la2 ka2] 27)).alloc (.cells #[.bool q2_11_12, .slice rb2 lb2 kb2] 27)) := by go_grown
              have HX := Lib.hid (HX.out.below hb)
              have SA := Lib.hid (SA.out.below hb)
              have SB := Lib.hid (SB.out.below hb)
              have PA1 := Lib.hid (PA1.out.below hb)
              have PB1 := Lib.hid (PB1.out.below hb)
              have RA1 := Lib.hid (RA1.out.below hb)
              have RB1 := Lib.hid (RB1.out.below hb)
              have PA2 := Lib.hid (PA2.out.below hb)
              have PB2 := Lib.hid (PB2.out.below hb)
              have HQ := Lib.hid (HQ.out.trans (hb.mono HQ.out.size))
              have RA2 : Hid (Bk ((wn.alloc (.cells #[.bool q1_11_12, .slice ra2 la2 ka2] 27)).alloc (.cells #[.bool q2_11_12, .slice rb2 lb2 kb2] 27)) wn.heap.size (.bool q1_11_12) (.slice ra2 la2 ka2)) := Lib.hid ((Below.heap_alloc _ _ _ (by simp)).trans (heap_alloc_new _ _))
              have RB2 : Hid (Bk ((wn.alloc (.cells #[.bool q1_11_12, .slice ra2 la2 ka2] 27)).alloc (.cells #[.bool q2_11_12, .slice rb2 lb2 kb2] 27)) (wn.heap.size + 1) (.bool q2_11_12) (.slice rb2 lb2 kb2)) := Lib.hid (by
                have := heap_alloc_new (wn.alloc (.cells #[.bool q1_11_12, .slice ra2 la2 ka2] 27)) (.cells #[.bool q2_11_12, .slice rb2 lb2 kb2] 27)
                rw [World.size_alloc] at this
                exact this)
              clear hb
              revert HX
              revert SA
              revert SB
              revert PA1
              revert PB1
              revert RA1
              revert RB1
              revert PA2
              revert PB2
              revert RA2
              revert RB2
              revert HQ
              generalize ((wn.alloc (.cells #[.bool q1_11_12, .slice ra2 la2 ka2] 27)).alloc (.cells #[.bool q2_11_12, .slice rb2 lb2 kb2] 27)) = V2
              generalize wn.heap.size = b2
              intro HQ RB2 RA2 PB2 PA2 RB1 RA1 PB1 PA1 SB SA HX
              have y0 := HX.out.cell 0 (v := .bool n11) rfl
              have y1 := HX.out.cell 1 (v := .slice a11 l11 c11) rfl
              have y2 := HX.out.cell 2 (v := .bool n12) rfl
              have y3 := HX.out.cell 3 (v := .slice a12 l12 c12) rfl
              go_upto_region 11 with (go_at_call 17; (with_reducible refine (G11_12.out _ _ _ SA.out SB.out).1.mono ?_); rintro e wn ⟨ra3, la3, ka3, rfl, hs1, hb⟩; have PA3 := Lib.hid hs1; have HX := Lib.hid (HX.out.below hb); have SA := Lib.hid (SA.out.below hb); have SB := Lib.hid (SB.out.below hb); have PA1 := Lib.hid (PA1.out.below hb); have PB1 := Lib.hid (PB1.out.below hb); have RA1 := Lib.hid (RA1.out.below hb); have RB1 := Lib.hid (RB1.out.below hb); have PA2 := Lib.hid (PA2.out.below hb); have PB2 := Lib.hid (PB2.out.below hb); have RA2 := Lib.hid (RA2.out.below hb); have RB2 := Lib.hid (RB2.out.below hb); have HQ := Lib.hid (HQ.out.trans (hb.mono HQ.out.size)); clear hb hs1)
              clear y0 y1 y2 y3
              have hb : Below wn.heap.size wn (wn.alloc (.cells #[.bool q3_11_12, .slice ra3 la3 ka3] 27)) := by go_grown
              have HX := Lib.hid (HX.out.below hb)
              have SA := Lib.hid (SA.out.below hb)
              have SB := Lib.hid (SB.out.below hb)
              have PA1 := Lib.hid (PA1.out.below hb)
              have PB1 := Lib.hid (PB1.out.below hb)
              have RA1 := Lib.hid (RA1.out.below hb)
              have RB1 := Lib.hid (RB1.out.below hb)
              have PA2 := Lib.hid (PA2.out.below hb)
              have PB2 := Lib.hid (PB2.out.below hb)
              have RA2 := Lib.hid (RA2.out.below hb)
              have RB2 := Lib.hid (RB2.out.below hb)
              have PA3 := Lib.hid (PA3.out.below hb)
              have HQ := Lib.hid (HQ.out.trans (hb.mono HQ.out.size))
              have RA3 : Hid (Bk (wn.alloc (.cells #[.bool q3_11_12, .slice ra3 la3 ka3] 27)) wn.heap.size (.bool q3_11_12) (.slice ra3 la3 ka3)) := Lib.hid (heap_alloc_new _ _)
              clear hb
              revert HX
              revert SA
              revert SB
              revert PA1
              revert PB1
              revert RA1
              revert RB1
              revert PA2
              revert PB2
              revert RA2
              revert RB2
              revert PA3
              revert RA3
              revert HQ
              generalize (wn.alloc (.cells #[.bool q3_11_12, .slice ra3 la3 ka3] 27)) = V3
              generalize wn.heap.size = b3
              intro HQ RA3 PA3 RB2 RA2 PB2 PA2 RB1 RA1 PB1 PA1 SB SA HX
              have y0 := HX.out.cell 0 (v := .bool n11) rfl
              have y1 := HX.out.cell 1 (v := .slice a11 l11 c11) rfl
              have y2 := HX.out.cell 2 (v := .bool n12) rfl
              have y3 := HX.out.cell 3 (v := .slice a12 l12 c12) rfl
              go_upto_region 12 with (go_at_call 18; (with_reducible refine (G11_12.out _ _ _ SA.out SB.out).2.mono ?_); rintro e wn ⟨ra4, la4, ka4, rfl, hs1, hb⟩; have PA4 := Lib.hid hs1; have HX := Lib.hid (HX.out.below hb); have SA := Lib.hid (SA.out.below hb); have SB := Lib.hid (SB.out.below hb); have PA1 := Lib.hid (PA1.out.below hb); have PB1 := Lib.hid (PB1.out.below hb); have RA1 := Lib.hid (RA1.out.below hb); have RB1 := Lib.hid (RB1.out.below hb); have PA2 := Lib.hid (PA2.out.below hb); have PB2 := Lib.hid (PB2.out.below hb); have RA2 := Lib.hid (RA2.out.below hb); have RB2 := Lib.hid (RB2.out.below hb); have PA3 := Lib.hid (PA3.out.below hb); have RA3 := Lib.hid (RA3.out.below hb); have HQ := Lib.hid (HQ.out.trans (hb.mono HQ.out.size)); clear hb hs1)
              clear y0 y1 y2 y3
              have hb : Below wn.heap.size wn (wn.alloc (.cells #[.bool q3_11_12, .slice ra4 la4 ka4] 27)) := by go_grown
              have HX := Lib.hid (HX.out.below hb)
              have SA := Lib.hid (SA.out.below hb)
              have SB := Lib.hid (SB.out.below hb)
              have PA1 := Lib.hid (PA1.out.below hb)
              have PB1 := Lib.hid (PB1.out.below hb)
              have RA1 := Lib.hid (RA1.out.below hb)
              have RB1 := Lib.hid (RB1.out.below hb)
              have PA2 := Lib.hid (PA2.out.below hb)
              have PB2 := Lib.hid (PB2.out.below hb)
              have RA2 := Lib.hid (RA2.out.below hb)
              have RB2 := Lib.hid (RB2.out.below hb)
              have PA3 := Lib.hid (PA3.out.below hb)
              have RA3 := Lib.hid (RA3.out.below hb)
              have PA4 := Lib.hid (PA4.out.below hb)
              have HQ := Lib.hid (HQ.out.trans (hb.mono HQ.out.size))
              have RA4 : Hid (Bk (wn.alloc (.cells #[.bool q3_11_12, .slice ra4 la4 ka4] 27)) wn.heap.size (.bool q3_11_12) (.slice ra4 la4 ka4)) := Lib.hid (heap_alloc_new _ _)
              clear hb
              revert HX
              revert SA
              revert SB
              revert PA1
              revert PB1
              revert RA1
              revert RB1
              revert PA2
              revert PB2
              revert RA2
              revert RB2
              revert PA3
              revert RA3
              revert PA4
              revert RA4
              revert HQ
              generalize (wn.alloc (.cells #[.bool q3_11_12, .slice ra4 la4 ka4] 27)) = V4
              generalize wn.heap.size = b4
              intro HQ RA4 PA4 RA3 PA3 RB2 RA2 PB2 PA2 RB1 RA1 PB1 PA1 SB SA HX
              obtain ⟨p1, p2⟩ := RA1.out.cells
              obtain ⟨p3, p4⟩ := RB1.out.cells
              obtain ⟨p5, p6⟩ := RA2.out.cells
              obtain ⟨p7, p8⟩ := RB2.out.cells
              obtain ⟨p9, p10⟩ := RA3.out.cells
              obtain ⟨p11, p12⟩ := RA4.out.cells
              go_wp2_with (first | (go_at_call_of 19 (Value.agg #[.bool q1_11_12, .slice ra1 la1 ka1]); (with_reducible refine (same_eq PA1.out PA2.out).mono ?_); rintro e ws ⟨rfl, hb⟩; have HX := Lib.hid (HX.out.below hb); have SA := Lib.hid (SA.out.below hb); have SB := Lib.hid (SB.out.below hb); have PA1 := Lib.hid (PA1.out.below hb); have PB1 := Lib.hid (PB1.out.below hb); have RA1 := Lib.hid (RA1.out.below hb); have RB1 := Lib.hid (RB1.out.below hb); have PA2 := Lib.hid (PA2.out.below hb); have PB2 := Lib.hid (PB2.out.below hb); have RA2 := Lib.hid (RA2.out.below hb); have RB2 := Lib.hid (RB2.out.below hb); have PA3 := Lib.hid (PA3.out.below hb); have RA3 := Lib.hid (RA3.out.below hb); have PA4 := Lib.hid (PA4.out.below hb); have RA4 := Lib.hid (RA4.out.below hb); have HQ := Lib.hid (HQ.out.trans (hb.mono HQ.out.size)); clear hb; obtain ⟨p1, p2⟩ := RA1.out.cells; obtain ⟨p3, p4⟩ := RB1.out.cells; obtain ⟨p5, p6⟩ := RA2.out.cells; obtain ⟨p7, p8⟩ := RB2.out.cells; obtain ⟨p9, p10⟩ := RA3.out.cells; obtain ⟨p11, p12⟩ := RA4.out.cells) | (go_at_call_of 19 (Value.agg #[.bool q2_11_12, .slice rb1 lb1 kb1]); (with_reducible refine (same_eq PB1.out PB2.out).mono ?_); rintro e ws ⟨rfl, hb⟩; have HX := Lib.hid (HX.out.below hb); have SA := Lib.hid (SA.out.below hb); have SB := Lib.hid (SB.out.below hb); have PA1 := Lib.hid (PA1.out.below hb); have PB1 := Lib.hid (PB1.out.below hb); have RA1 := Lib.hid (RA1.out.below hb); have RB1 := Lib.hid (RB1.out.below hb); have PA2 := Lib.hid (PA2.out.below hb); have PB2 := Lib.hid (PB2.out.below hb); have RA2 := Lib.hid (RA2.out.below hb); have RB2 := Lib.hid (RB2.out.below hb); have PA3 := Lib.hid (PA3.out.below hb); have RA3 := Lib.hid (RA3.out.below hb); have PA4 := Lib.hid (PA4.out.below hb); have RA4 := Lib.hid (RA4.out.below hb); have HQ := Lib.hid (HQ.out.trans (hb.mono HQ.out.size)); clear hb; obtain ⟨p1, p2⟩ := RA1.out.cells; obtain ⟨p3, p4⟩ := RB1.out.cells; obtain ⟨p5, p6⟩ := RA2.out.cells; obtain ⟨p7, p8⟩ := RB2.out.cells; obtain ⟨p9, p10⟩ := RA3.out.cells; obtain ⟨p11, p12⟩ := RA4.out.cells) | (go_at_call_of 19 (Value.agg #[.bool q3_11_12, .slice ra3 la3 ka3]); (with_reducible refine (same_eq PA3.out PA4.out).mono ?_); rintro e ws ⟨rfl, hb⟩; have HX := Lib.hid (HX.out.below hb); have SA := Lib.hid (SA.out.below hb); have SB := Lib.hid (SB.out.below hb); have PA1 := Lib.hid (PA1.out.below hb); have PB1 := Lib.hid (PB1.out.below hb); have RA1 := Lib.hid (RA1.out.below hb); have RB1 := Lib.hid (RB1.out.below hb); have PA2 := Lib.hid (PA2.out.below hb); have PB2 := Lib.hid (PB2.out.below hb); have RA2 := Lib.hid (RA2.out.below hb); have RB2 := Lib.hid (RB2.out.below hb); have PA3 := Lib.hid (PA3.out.below hb); have RA3 := Lib.hid (RA3.out.below hb); have PA4 := Lib.hid (PA4.out.below hb); have RA4 := Lib.hid (RA4.out.below hb); have HQ := Lib.hid (HQ.out.trans (hb.mono HQ.out.size)); clear hb; obtain ⟨p1, p2⟩ := RA1.out.cells; obtain ⟨p3, p4⟩ := RB1.out.cells; obtain ⟨p5, p6⟩ := RA2.out.cells; obtain ⟨p7, p8⟩ := RB2.out.cells; obtain ⟨p9, p10⟩ := RA3.out.cells; obtain ⟨p11, p12⟩ := RA4.out.cells))
              go_roundw
              case rel => exact ⟨4, by omega, rfl, HQ⟩
              case measure => simp [intOf]
            · have y0 : wr.cell? ⟨g51, 16, none⟩ = some (.bool n11) := HK2.out.cell 16 rfl
              have y1 : wr.cell? ⟨g51, 17, none⟩ = some (.slice a11 l11 c11) := HK2.out.cell 17 rfl
              have y2 : wr.cell? ⟨g51, 18, none⟩ = some (.bool n9) := HK2.out.cell 18 rfl
              have y3 : wr.cell? ⟨g51, 19, none⟩ = some (.slice a9 l9 c9) := HK2.out.cell 19 rfl
              go_upto_region 8 with fail
              have hb : Below wr.heap.size wr (wr.alloc (.cells #[.bool n11, .slice a11 l11 c11, .bool n9, .slice a9 l9 c9] 28)) := alloc_b _ _
              have HX : Hid (Blk (wr.alloc (.cells #[.bool n11, .slice a11 l11 c11, .bool n9, .slice a9 l9 c9] 28)) wr.heap.size #[.bool n11, .slice a11 l11 c11, .bool n9, .slice a9 l9 c9] 28) := Lib.hid (heap_alloc_new _ _)
              have HQ := Lib.hid (HQ.out.trans (hb.mono HQ.out.size))
              have SA := Lib.hid (S11.out.1.below HQ.out)
              have SB := Lib.hid (S9.out.1.below HQ.out)
              clear hb y0 y1 y2 y3
              revert SB
              revert SA
              revert HQ
              revert HX
              generalize (wr.alloc (.cells #[.bool n11, .slice a11 l11 c11, .bool n9, .slice a9 l9 c9] 28)) = W12
              generalize wr.heap.size = g14
              intro HX HQ SA SB
              have y0 := HX.out.cell 0 (v := .bool n11) rfl
              have y1 := HX.out.cell 1 (v := .slice a11 l11 c11) rfl
              have y2 := HX.out.cell 2 (v := .bool n9) rfl
              have y3 := HX.out.cell 3 (v := .slice a9 l9 c9) rfl
              go_upto_region 9 with (go_at_call 15; (with_reducible refine (D11_9.out _ _ _ SA.out SB.out).1.mono ?_); rintro e wn ⟨ra1, la1, ka1, rb1, lb1, kb1, rfl, hs1, hs2, hb⟩; have PA1 := Lib.hid hs1; have PB1 := Lib.hid hs2; have HX := Lib.hid (HX.out.below hb); have SA := Lib.hid (SA.out.below hb); have SB := Lib.hid (SB.out.below hb); have HQ := Lib.hid (HQ.out.trans (hb.mono HQ.out.size)); clear hb hs1 hs2)
              clear y0 y1 y2 y3
              have hb : Below wn.heap.size wn ((wn.alloc (.cells #[.bool q1_11_9, .slice ra1 la1 ka1] 27)).alloc (.cells #[.bool q2_11_9, .slice rb1 lb1 kb1] 27)) := by go_grown
              have HX := Lib.hid (HX.out.below hb)
              have SA := Lib.hid (SA.out.below hb)
              have SB := Lib.hid (SB.out.below hb)
              have PA1 := Lib.hid (PA1.out.below hb)
              have PB1 := Lib.hid (PB1.out.below hb)
              have HQ := Lib.hid (HQ.out.trans (hb.mono HQ.out.size))
              have RA1 : Hid (Bk ((wn.alloc (.cells #[.bool q1_11_9, .slice ra1 la1 ka1] 27)).alloc (.cells #[.bool q2_11_9, .slice rb1 lb1 kb1] 27)) wn.heap.size (.bool q1_11_9) (.slice ra1 la1 ka1)) := Lib.hid ((Below.heap_alloc _ _ _ (by simp)).trans (heap_alloc_new _ _))
              have RB1 : Hid (Bk ((wn.alloc (.cells #[.bool q1_11_9, .slice ra1 la1 ka1] 27)).alloc (.cells #[.bool q2_11_9, .slice rb1 lb1 kb1] 27)) (wn.heap.size + 1) (.bool q2_11_9) (.slice rb1 lb1 kb1)) := Lib.hid (by
                have := heap_alloc_new (wn.alloc (.cells #[.bool q1_11_9, .slice ra1 la1 ka1] 27)) (.cells #[.bool q2_11_9, .slice rb1 lb1 kb1] 27)
                rw [World.size_alloc] at this
                exact this)
              clear hb
              revert HX
              revert SA
              revert SB
              revert PA1
              revert PB1
              revert RA1
              revert RB1
              revert HQ
              generalize ((wn.alloc (.cells #[.bool q1_11_9, .slice ra1 la1 ka1] 27)).alloc (.cells #[.bool q2_11_9, .slice rb1 lb1 kb1] 27)) = V1
              generalize wn.heap.size = b1
              intro HQ RB1 RA1 PB1 PA1 SB SA HX
              have y0 := HX.out.cell 0 (v := .bool n11) rfl
              have y1 := HX.out.cell 1 (v := .slice a11 l11 c11) rfl
              have y2 := HX.out.cell 2 (v := .bool n9) rfl
              have y3 := HX.out.cell 3 (v := .slice a9 l9 c9) rfl
              go_upto_region 10 with (go_at_call 16; (with_reducible refine (D11_9.out _ _ _ SA.out SB.out).2.mono ?_); rintro e wn ⟨ra2, la2, ka2, rb2, lb2, kb2, rfl, hs1, hs2, hb⟩; have PA2 := Lib.hid hs1; have PB2 := Lib.hid hs2; have HX := Lib.hid (HX.out.below hb); have SA := Lib.hid (SA.out.below hb); have SB := Lib.hid (SB.out.below hb); have PA1 := Lib.hid (PA1.out.below hb); have PB1 := Lib.hid (PB1.out.below hb); have RA1 := Lib.hid (RA1.out.below hb); have RB1 := Lib.hid (RB1.out.below hb); have HQ := Lib.hid (HQ.out.trans (hb.mono HQ.out.size)); clear hb hs1 hs2)
              clear y0 y1 y2 y3
              have hb : Below wn.heap.size wn ((wn.alloc (.cells #[.bool q1_11_9, .slice ra2 la2 ka2] 27)).alloc (.cells #[.bool q2_11_9, .slice rb2 lb2 kb2] 27)) := by go_grown
              have HX := Lib.hid (HX.out.below hb)
              have SA := Lib.hid (SA.out.below hb)
              have SB := Lib.hid (SB.out.below hb)
              have PA1 := Lib.hid (PA1.out.below hb)
              have PB1 := Lib.hid (PB1.out.below hb)
              have RA1 := Lib.hid (RA1.out.below hb)
              have RB1 := Lib.hid (RB1.out.below hb)
              have PA2 := Lib.hid (PA2.out.below hb)
              have PB2 := Lib.hid (PB2.out.below hb)
              have HQ := Lib.hid (HQ.out.trans (hb.mono HQ.out.size))
              have RA2 : Hid (Bk ((wn.alloc (.cells #[.bool q1_11_9, .slice ra2 la2 ka2] 27)).alloc (.cells #[.bool q2_11_9, .slice rb2 lb2 kb2] 27)) wn.heap.size (.bool q1_11_9) (.slice ra2 la2 ka2)) := Lib.hid ((Below.heap_alloc _ _ _ (by simp)).trans (heap_alloc_new _ _))
              have RB2 : Hid (Bk ((wn.alloc (.cells #[.bool q1_11_9, .slice ra2 la2 ka2] 27)).alloc (.cells #[.bool q2_11_9, .slice rb2 lb2 kb2] 27)) (wn.heap.size + 1) (.bool q2_11_9) (.slice rb2 lb2 kb2)) := Lib.hid (by
                have := heap_alloc_new (wn.alloc (.cells #[.bool q1_11_9, .slice ra2 la2 ka2] 27)) (.cells #[.bool q2_11_9, .slice rb2 lb2 kb2] 27)
                rw [World.size_alloc] at this
                exact this)
              clear hb
              revert HX
              revert SA
              revert SB
              revert PA1
              revert PB1
              revert RA1
              revert RB1
              revert PA2
              revert PB2
              revert RA2
              revert RB2
              revert HQ
              generalize ((wn.alloc (.cells #[.bool q1_11_9, .slice ra2 la2 ka2] 27)).alloc (.cells #[.bool q2_11_9, .slice rb2 lb2 kb2] 27)) = V2
              generalize wn.heap.size = b2
              intro HQ RB2 RA2 PB2 PA2 RB1 RA1 PB1 PA1 SB SA HX
              have y0 := HX.out.cell 0 (v := .bool n11) rfl
              have y1 := HX.out.cell 1 (v := .slice a11 l11 c11) rfl
              have y2 := HX.out.cell 2 (v := .bool n9) rfl
              have y3 := HX.out.cell 3 (v := .slice a9 l9 c9) rfl
              go_upto_region 11 with (go_at_call 17; (with_reducible refine (G11_9.out _ _ _ SA.out SB.out).1.mono ?_); rintro e wn ⟨ra3, la3, ka3, rfl, hs1, hb⟩; have PA3 := Lib.hid hs1; have HX := Lib.hid (HX.out.below hb); have SA := Lib.hid (SA.out.below hb); have SB := Lib.hid (SB.out.below hb); have PA1 := Lib.hid (PA1.out.below hb); have PB1 := Lib.hid (PB1.out.below hb); have RA1 := Lib.hid (RA1.out.below hb); have RB1 := Lib.hid (RB1.out.below hb); have PA2 := Lib.hid (PA2.out.below hb); have PB2 := Lib.hid (PB2.out.below hb); have RA2 := Lib.hid (RA2.out.below hb); have RB2 := Lib.hid (RB2.out.below hb); have HQ := Lib.hid (HQ.out.trans (hb.mono HQ.out.size)); clear hb hs1)
              clear y0 y1 y2 y3
              have hb : Below wn.heap.size wn (wn.alloc (.cells #[.bool q3_11_9, .slice ra3 la3 ka3] 27)) := by go_grown
              have HX := Lib.hid (HX.out.below hb)
              have SA := Lib.hid (SA.out.below hb)
              have SB := Lib.hid (SB.out.below hb)
              have PA1 := Lib.hid (PA1.out.below hb)
              have PB1 := Lib.hid (PB1.out.below hb)
              have RA1 := Lib.hid (RA1.out.below hb)
              have RB1 := Lib.hid (RB1.out.below hb)
              have PA2 := Lib.hid (PA2.out.below hb)
              have PB2 := Lib.hid (PB2.out.below hb)
              have RA2 := Lib.hid (RA2.out.below hb)
              have RB2 := Lib.hid (RB2.out.below hb)
              have PA3 := Lib.hid (PA3.out.below hb)
              have HQ := Lib.hid (HQ.out.trans (hb.mono HQ.out.size))
              have RA3 : Hid (Bk (wn.alloc (.cells #[.bool q3_11_9, .slice ra3 la3 ka3] 27)) wn.heap.size (.bool q3_11_9) (.slice ra3 la3 ka3)) := Lib.hid (heap_alloc_new _ _)
              clear hb
              revert HX
              revert SA
              revert SB
              revert PA1
              revert PB1
              revert RA1
              revert RB1
              revert PA2
              revert PB2
              revert RA2
              revert RB2
              revert PA3
              revert RA3
              revert HQ
              generalize (wn.alloc (.cells #[.bool q3_11_9, .slice ra3 la3 ka3] 27)) = V3
              generalize wn.heap.size = b3
              intro HQ RA3 PA3 RB2 RA2 PB2 PA2 RB1 RA1 PB1 PA1 SB SA HX
              have y0 := HX.out.cell 0 (v := .bool n11) rfl
              have y1 := HX.out.cell 1 (v := .slice a11 l11 c11) rfl
              have y2 := HX.out.cell 2 (v := .bool n9) rfl
              have y3 := HX.out.cell 3 (v := .slice a9 l9 c9) rfl
              go_upto_region 12 with (go_at_call 18; (with_reducible refine (G11_9.out _ _ _ SA.out SB.out).2.mono ?_); rintro e wn ⟨ra4, la4, ka4, rfl, hs1, hb⟩; have PA4 := Lib.hid hs1; have HX := Lib.hid (HX.out.below hb); have SA := Lib.hid (SA.out.below hb); have SB := Lib.hid (SB.out.below hb); have PA1 := Lib.hid (PA1.out.below hb); have PB1 := Lib.hid (PB1.out.below hb); have RA1 := Lib.hid (RA1.out.below hb); have RB1 := Lib.hid (RB1.out.below hb); have PA2 := Lib.hid (PA2.out.below hb); have PB2 := Lib.hid (PB2.out.below hb); have RA2 := Lib.hid (RA2.out.below hb); have RB2 := Lib.hid (RB2.out.below hb); have PA3 := Lib.hid (PA3.out.below hb); have RA3 := Lib.hid (RA3.out.below hb); have HQ := Lib.hid (HQ.out.trans (hb.mono HQ.out.size)); clear hb hs1)
              clear y0 y1 y2 y3
              have hb : Below wn.heap.size wn (wn.alloc (.cells #[.bool q3_11_9, .slice ra4 la4 ka4] 27)) := by go_grown
              have HX := Lib.hid (HX.out.below hb)
              have SA := Lib.hid (SA.out.below hb)
              have SB := Lib.hid (SB.out.below hb)
              have PA1 := Lib.hid (PA1.out.below hb)
              have PB1 := Lib.hid (PB1.out.below hb)
              have RA1 := Lib.hid (RA1.out.below hb)
              have RB1 := Lib.hid (RB1.out.below hb)
              have PA2 := Lib.hid (PA2.out.below hb)
              have PB2 := Lib.hid (PB2.out.below hb)
              have RA2 := Lib.hid (RA2.out.below hb)
              have RB2 := Lib.hid (RB2.out.below hb)
              have PA3 := Lib.hid (PA3.out.below hb)
              have RA3 := Lib.hid (RA3.out.below hb)
              have PA4 := Lib.hid (PA4.out.below hb)
              have HQ := Lib.hid (HQ.out.trans (hb.mono HQ.out.size))
              have RA4 : Hid (Bk (wn.alloc (.cells #[.bool q3_11_9, .slice ra4 la4 ka4] 27)) wn.heap.size (.bool q3_11_9) (.slice ra4 la4 ka4)) := Lib.hid (heap_alloc_new _ _)
              clear hb
              revert HX
              revert SA
              revert SB
              revert PA1
              revert PB1
              revert RA1
              revert RB1
              revert PA2
              revert PB2
              revert RA2
              revert RB2
              revert PA3
              revert RA3
              revert PA4
              revert RA4
              revert HQ
              generalize (wn.alloc (.cells #[.bool q3_11_9, .slice ra4 la4 ka4] 27)) = V4
              generalize wn.heap.size = b4
              intro HQ RA4 PA4 RA3 PA3 RB2 RA2 PB2 PA2 RB1 RA1 PB1 PA1 SB SA HX
              obtain ⟨p1, p2⟩ := RA1.out.cells
              obtain ⟨p3, p4⟩ := RB1.out.cells
              obtain ⟨p5, p6⟩ := RA2.out.cells
              obtain ⟨p7, p8⟩ := RB2.out.cells
              obtain ⟨p9, p10⟩ := RA3.out.cells
              obtain ⟨p11, p12⟩ := RA4.out.cells
              go_wp2_with (first | (go_at_call_of 19 (Value.agg #[.bool q1_11_9, .slice ra1 la1 ka1]); (with_reducible refine (same_eq PA1.out PA2.out).mono ?_); rintro e ws ⟨rfl, hb⟩; have HX := Lib.hid (HX.out.below hb); have SA := Lib.hid (SA.out.below hb); have SB := Lib.hid (SB.out.below hb); have PA1 := Lib.hid (PA1.out.below hb); have PB1 := Lib.hid (PB1.out.below hb); have RA1 := Lib.hid (RA1.out.below hb); have RB1 := Lib.hid (RB1.out.below hb); have PA2 := Lib.hid (PA2.out.below hb); have PB2 := Lib.hid (PB2.out.below hb); have RA2 := Lib.hid (RA2.out.below hb); have RB2 := Lib.hid (RB2.out.below hb); have PA3 := Lib.hid (PA3.out.below hb); have RA3 := Lib.hid (RA3.out.below hb); have PA4 := Lib.hid (PA4.out.below hb); have RA4 := Lib.hid (RA4.out.below hb); have HQ := Lib.hid (HQ.out.trans (hb.mono HQ.out.size)); clear hb; obtain ⟨p1, p2⟩ := RA1.out.cells; obtain ⟨p3, p4⟩ := RB1.out.cells; obtain ⟨p5, p6⟩ := RA2.out.cells; obtain ⟨p7, p8⟩ := RB2.out.cells; obtain ⟨p9, p10⟩ := RA3.out.cells; obtain ⟨p11, p12⟩ := RA4.out.cells) | (go_at_call_of 19 (Value.agg #[.bool q2_11_9, .slice rb1 lb1 kb1]); (with_reducible refine (same_eq PB1.out PB2.out).mono ?_); rintro e ws ⟨rfl, hb⟩; have HX := Lib.hid (HX.out.below hb); have SA := Lib.hid (SA.out.below hb); have SB := Lib.hid (SB.out.below hb); have PA1 := Lib.hid (PA1.out.below hb); have PB1 := Lib.hid (PB1.out.below hb); have RA1 := Lib.hid (RA1.out.below hb); have RB1 := Lib.hid (RB1.out.below hb); have PA2 := Lib.hid (PA2.out.below hb); have PB2 := Lib.hid (PB2.out.below hb); have RA2 := Lib.hid (RA2.out.below hb); have RB2 := Lib.hid (RB2.out.below hb); have PA3 := Lib.hid (PA3.out.below hb); have RA3 := Lib.hid (RA3.out.below hb); have PA4 := Lib.hid (PA4.out.below hb); have RA4 := Lib.hid (RA4.out.below hb); have HQ := Lib.hid (HQ.out.trans (hb.mono HQ.out.size)); clear hb; obtain ⟨p1, p2⟩ := RA1.out.cells; obtain ⟨p3, p4⟩ := RB1.out.cells; obtain ⟨p5, p6⟩ := RA2.out.cells; obtain ⟨p7, p8⟩ := RB2.out.cells; obtain ⟨p9, p10⟩ := RA3.out.cells; obtain ⟨p11, p12⟩ := RA4.out.cells) | (go_at_call_of 19 (Value.agg #[.bool q3_11_9, .slice ra3 la3 ka3]); (with_reducible refine (same_eq PA3.out PA4.out).mono ?_); rintro e ws ⟨rfl, hb⟩; have HX := Lib.hid (HX.out.below hb); have SA := Lib.hid (SA.out.below hb); have SB := Lib.hid (SB.out.below hb); have PA1 := Lib.hid (PA1.out.below hb); have PB1 := Lib.hid (PB1.out.below hb); have RA1 := Lib.hid (RA1.out.below hb); have RB1 := Lib.hid (RB1.out.below hb); have PA2 := Lib.hid (PA2.out.below hb); have PB2 := Lib.hid (PB2.out.below hb); have RA2 := Lib.hid (RA2.out.below hb); have RB2 := Lib.hid (RB2.out.below hb); have PA3 := Lib.hid (PA3.out.below hb); have RA3 := Lib.hid (RA3.out.below hb); have PA4 := Lib.hid (PA4.out.below hb); have RA4 := Lib.hid (RA4.out.below hb); have HQ := Lib.hid (HQ.out.trans (hb.mono HQ.out.size)); clear hb; obtain ⟨p1, p2⟩ := RA1.out.cells; obtain ⟨p3, p4⟩ := RB1.out.cells; obtain ⟨p5, p6⟩ := RA2.out.cells; obtain ⟨p7, p8⟩ := RB2.out.cells; obtain ⟨p9, p10⟩ := RA3.out.cells; obtain ⟨p11, p12⟩ := RA4.out.cells))
              go_roundw
              case rel => exact ⟨5, by omega, rfl, HQ⟩
              case measure => simp [intOf]
            · have y0 : wr.cell? ⟨g51, 20, none⟩ = some (.bool n8) := HK2.out.cell 20 rfl
              have y1 : wr.cell? ⟨g51, 21, none⟩ = some (.slice a10 l10 c10) := HK2.out.cell 21 rfl
              have y2 : wr.cell? ⟨g51, 22, none⟩ = some (.bool n11) := HK2.out.cell 22 rfl
              have y3 : wr.cell? ⟨g51, 23, none⟩ = some (.slice a11 l11 c11) := HK2.out.cell 23 rfl
              go_upto_region 8 with fail
              have hb : Below wr.heap.size wr (wr.alloc (.cells #[.bool n8, .slice a10 l10 c10, .bool n11, .slice a11 l11 c11] 28)) := alloc_b _ _
              have HX : Hid (Blk (wr.alloc (.cells #[.bool n8, .slice a10 l10 c10, .bool n11, .slice a11 l11 c11] 28)) wr.heap.size #[.bool n8, .slice a10 l10 c10, .bool n11, .slice a11 l11 c11] 28) := Lib.hid (heap_alloc_new _ _)
              have HQ := Lib.hid (HQ.out.trans (hb.mono HQ.out.size))
              have SA := Lib.hid (S10.out.1.below HQ.out)
              have SB := Lib.hid (S11.out.1.below HQ.out)
              clear hb y0 y1 y2 y3
              revert SB
              revert SA
              revert HQ
              revert HX
              generalize (wr.alloc (.cells #[.bool n8, .slice a10 l10 c10, .bool n11, .slice a11 l11 c11] 28)) = W12
              generalize wr.heap.size = g14
              intro HX HQ SA SB
              have y0 := HX.out.cell 0 (v := .bool n8) rfl
              have y1 := HX.out.cell 1 (v := .slice a10 l10 c10) rfl
              have y2 := HX.out.cell 2 (v := .bool n11) rfl
              have y3 := HX.out.cell 3 (v := .slice a11 l11 c11) rfl
              go_upto_region 9 with (go_at_call 15; (with_reducible refine (D10_11.out _ _ _ SA.out SB.out).1.mono ?_); rintro e wn ⟨ra1, la1, ka1, rb1, lb1, kb1, rfl, hs1, hs2, hb⟩; have PA1 := Lib.hid hs1; have PB1 := Lib.hid hs2; have HX := Lib.hid (HX.out.below hb); have SA := Lib.hid (SA.out.below hb); have SB := Lib.hid (SB.out.below hb); have HQ := Lib.hid (HQ.out.trans (hb.mono HQ.out.size)); clear hb hs1 hs2)
              clear y0 y1 y2 y3
              have hb : Below wn.heap.size wn ((wn.alloc (.cells #[.bool q1_10_11, .slice ra1 la1 ka1] 27)).alloc (.cells #[.bool q2_10_11, .slice rb1 lb1 kb1] 27)) := by go_grown
              have HX := Lib.hid (HX.out.below hb)
              have SA := Lib.hid (SA.out.below hb)
              have SB := Lib.hid (SB.out.below hb)
              have PA1 := Lib.hid (PA1.out.below hb)
              have PB1 := Lib.hid (PB1.out.below hb)
              have HQ := Lib.hid (HQ.out.trans (hb.mono HQ.out.size))
              have RA1 : Hid (Bk ((wn.alloc (.cells #[.bool q1_10_11, .slice ra1 la1 ka1] 27)).alloc (.cells #[.bool q2_10_11, .slice rb1 lb1 kb1] 27)) wn.heap.size (.bool q1_10_11) (.slice ra1 la1 ka1)) := Lib.hid ((Below.heap_alloc _ _ _ (by simp)).trans (heap_alloc_new _ _))
              have RB1 : Hid (Bk ((wn.alloc (.cells #[.bool q1_10_11, .slice ra1 la1 ka1] 27)).alloc (.cells #[.bool q2_10_11, .slice rb1 lb1 kb1] 27)) (wn.heap.size + 1) (.bool q2_10_11) (.slice rb1 lb1 kb1)) := Lib.hid (by
                have := heap_alloc_new (wn.alloc (.cells #[.bool q1_10_11, .slice ra1 la1 ka1] 27)) (.cells #[.bool q2_10_11, .slice rb1 lb1 kb1] 27)
                rw [World.size_alloc] at this
                exact this)
              clear hb
              revert HX
              revert SA
              revert SB
              revert PA1
              revert PB1
              revert RA1
              revert RB1
              revert HQ
              generalize ((wn.alloc (.cells #[.bool q1_10_11, .slice ra1 la1 ka1] 27)).alloc (.cells #[.bool q2_10_11, .slice rb1 lb1 kb1] 27)) = V1
              generalize wn.heap.size = b1
              intro HQ RB1 RA1 PB1 PA1 SB SA HX
              have y0 := HX.out.cell 0 (v := .bool n8) rfl
              have y1 := HX.out.cell 1 (v := .slice a10 l10 c10) rfl
              have y2 := HX.out.cell 2 (v := .bool n11) rfl
              have y3 := HX.out.cell 3 (v := .slice a11 l11 c11) rfl
              go_upto_region 10 with (go_at_call 16; (with_reducible refine (D10_11.out _ _ _ SA.out SB.out).2.mono ?_); rintro e wn ⟨ra2, la2, ka2, rb2, lb2, kb2, rfl, hs1, hs2, hb⟩; have PA2 := Lib.hid hs1; have PB2 := Lib.hid hs2; have HX := Lib.hid (HX.out.below hb); have SA := Lib.hid (SA.out.below hb); have SB := Lib.hid (SB.out.below hb); have PA1 := Lib.hid (PA1.out.below hb); have PB1 := Lib.hid (PB1.out.below hb); have RA1 := Lib.hid (RA1.out.below hb); have RB1 := Lib.hid (RB1.out.below hb); have HQ := Lib.hid (HQ.out.trans (hb.mono HQ.out.size)); clear hb hs1 hs2)
              clear y0 y1 y2 y3
              have hb : Below wn.heap.size wn ((wn.alloc (.cells #[.bool q1_10_11, .slice ra2 la2 ka2] 27)).alloc (.cells #[.bool q2_10_11, .slice rb2 lb2 kb2] 27)) := by go_grown
              have HX := Lib.hid (HX.out.below hb)
              have SA := Lib.hid (SA.out.below hb)
              have SB := Lib.hid (SB.out.below hb)
              have PA1 := Lib.hid (PA1.out.below hb)
              have PB1 := Lib.hid (PB1.out.below hb)
              have RA1 := Lib.hid (RA1.out.below hb)
              have RB1 := Lib.hid (RB1.out.below hb)
              have PA2 := Lib.hid (PA2.out.below hb)
              have PB2 := Lib.hid (PB2.out.below hb)
              have HQ := Lib.hid (HQ.out.trans (hb.mono HQ.out.size))
              have RA2 : Hid (Bk ((wn.alloc (.cells #[.bool q1_10_11, .slice ra2 la2 ka2] 27)).alloc (.cells #[.bool q2_10_11, .slice rb2 lb2 kb2] 27)) wn.heap.size (.bool q1_10_11) (.slice ra2 la2 ka2)) := Lib.hid ((Below.heap_alloc _ _ _ (by simp)).trans (heap_alloc_new _ _))
              have RB2 : Hid (Bk ((wn.alloc (.cells #[.bool q1_10_11, .slice ra2 la2 ka2] 27)).alloc (.cells #[.bool q2_10_11, .slice rb2 lb2 kb2] 27)) (wn.heap.size + 1) (.bool q2_10_11) (.slice rb2 lb2 kb2)) := Lib.hid (by
                have := heap_alloc_new (wn.alloc (.cells #[.bool q1_10_11, .slice ra2 la2 ka2] 27)) (.cells #[.bool q2_10_11, .slice rb2 lb2 kb2] 27)
                rw [World.size_alloc] at this
                exact this)
              clear hb
              revert HX
              revert SA
              revert SB
              revert PA1
              revert PB1
              revert RA1
              revert RB1
              revert PA2
              revert PB2
              revert RA2
              revert RB2
              revert HQ
              generalize ((wn.alloc (.cells #[.bool q1_10_11, .slice ra2 la2 ka2] 27)).alloc (.cells #[.bool q2_10_11, .slice rb2 lb2 kb2] 27)) = V2
              generalize wn.heap.size = b2
              intro HQ RB2 RA2 PB2 PA2 RB1 RA1 PB1 PA1 SB SA HX
              have y0 := HX.out.cell 0 (v := .bool n8) rfl
              have y1 := HX.out.cell 1 (v := .slice a10 l10 c10) rfl
              have y2 := HX.out.cell 2 (v := .bool n11) rfl
              have y3 := HX.out.cell 3 (v := .slice a11 l11 c11) rfl
              go_upto_region 11 with (go_at_call 17; (with_reducible refine (G10_11.out _ _ _ SA.out SB.out).1.mono ?_); rintro e wn ⟨ra3, la3, ka3, rfl, hs1, hb⟩; have PA3 := Lib.hid hs1; have HX := Lib.hid (HX.out.below hb); have SA := Lib.hid (SA.out.below hb); have SB := Lib.hid (SB.out.below hb); have PA1 := Lib.hid (PA1.out.below hb); have PB1 := Lib.hid (PB1.out.below hb); have RA1 := Lib.hid (RA1.out.below hb); have RB1 := Lib.hid (RB1.out.below hb); have PA2 := Lib.hid (PA2.out.below hb); have PB2 := Lib.hid (PB2.out.below hb); have RA2 := Lib.hid (RA2.out.below hb); have RB2 := Lib.hid (RB2.out.below hb); have HQ := Lib.hid (HQ.out.trans (hb.mono HQ.out.size)); clear hb hs1)
              clear y0 y1 y2 y3
              have hb : Below wn.heap.size wn (wn.alloc (.cells #[.bool q3_10_11, .slice ra3 la3 ka3] 27)) := by go_grown
              have HX := Lib.hid (HX.out.below hb)
              have SA := Lib.hid (SA.out.below hb)
              have SB := Lib.hid (SB.out.below hb)
              have PA1 := Lib.hid (PA1.out.below hb)
              have PB1 := Lib.hid (PB1.out.below hb)
              have RA1 := Lib.hid (RA1.out.below hb)
              have RB1 := Lib.hid (RB1.out.below hb)
              have PA2 := Lib.hid (PA2.out.below hb)
              have PB2 := Lib.hid (PB2.out.below hb)
              have RA2 := Lib.hid (RA2.out.below hb)
              have RB2 := Lib.hid (RB2.out.below hb)
              have PA3 := Lib.hid (PA3.out.below hb)
              have HQ := Lib.hid (HQ.out.trans (hb.mono HQ.out.size))
              have RA3 : Hid (Bk (wn.alloc (.cells #[.bool q3_10_11, .slice ra3 la3 ka3] 27)) wn.heap.size (.bool q3_10_11) (.slice ra3 la3 ka3)) := Lib.hid (heap_alloc_new _ _)
              clear hb
              revert HX
              revert SA
              revert SB
              revert PA1
              revert PB1
              revert RA1
              revert RB1
              revert PA2
              revert PB2
              revert RA2
              revert RB2
              revert PA3
              revert RA3
              revert HQ
              generalize (wn.alloc (.cells #[.bool q3_10_11, .slice ra3 la3 ka3] 27)) = V3
              generalize wn.heap.size = b3
              intro HQ RA3 PA3 RB2 RA2 PB2 PA2 RB1 RA1 PB1 PA1 SB SA HX
              have y0 := HX.out.cell 0 (v := .bool n8) rfl
              have y1 := HX.out.cell 1 (v := .slice a10 l10 c10) rfl
              have y2 := HX.out.cell 2 (v := .bool n11) rfl
              have y3 := HX.out.cell 3 (v := .slice a11 l11 c11) rfl
              go_upto_region 12 with (go_at_call 18; (with_reducible refine (G10_11.out _ _ _ SA.out SB.out).2.mono ?_); rintro e wn ⟨ra4, la4, ka4, rfl, hs1, hb⟩; have PA4 := Lib.hid hs1; have HX := Lib.hid (HX.out.below hb); have SA := Lib.hid (SA.out.below hb); have SB := Lib.hid (SB.out.below hb); have PA1 := Lib.hid (PA1.out.below hb); have PB1 := Lib.hid (PB1.out.below hb); have RA1 := Lib.hid (RA1.out.below hb); have RB1 := Lib.hid (RB1.out.below hb); have PA2 := Lib.hid (PA2.out.below hb); have PB2 := Lib.hid (PB2.out.below hb); have RA2 := Lib.hid (RA2.out.below hb); have RB2 := Lib.hid (RB2.out.below hb); have PA3 := Lib.hid (PA3.out.below hb); have RA3 := Lib.hid (RA3.out.below hb); have HQ := Lib.hid (HQ.out.trans (hb.mono HQ.out.size)); clear hb hs1)
              clear y0 y1 y2 y3
              have hb : Below wn.heap.size wn (wn.alloc (.cells #[.bool q3_10_11, .slice ra4 la4 ka4] 27)) := by go_grown
              have HX := Lib.hid (HX.out.below hb)
              have SA := Lib.hid (SA.out.below hb)
              have SB := Lib.hid (SB.out.below hb)
              have PA1 := Lib.hid (PA1.out.below hb)
              have PB1 := Lib.hid (PB1.out.below hb)
              have RA1 := Lib.hid (RA1.out.below hb)
              have RB1 := Lib.hid (RB1.out.below hb)
              have PA2 := Lib.hid (PA2.out.below hb)
              have PB2 := Lib.hid (PB2.out.below hb)
              have RA2 := Lib.hid (RA2.out.below hb)
              have RB2 := Lib.hid (RB2.out.below hb)
              have PA3 := Lib.hid (PA3.out.below hb)
              have RA3 := Lib.hid (RA3.out.below hb)
              have PA4 := Lib.hid (PA4.out.below hb)
              have HQ := Lib.hid (HQ.out.trans (hb.mono HQ.out.size))
              have RA4 : Hid (Bk (wn.alloc (.cells #[.bool q3_10_11, .slice ra4 la4 ka4] 27)) wn.heap.size (.bool q3_10_11) (.slice ra4 la4 ka4)) := Lib.hid (heap_alloc_new _ _)
              clear hb
              revert HX
              revert SA
              revert SB
              revert PA1
              revert PB1
              revert RA1
              revert RB1
              revert PA2
              revert PB2
              revert RA2
              revert RB2
              revert PA3
              revert RA3
              revert PA4
              revert RA4
              revert HQ
              generalize (wn.alloc (.cells #[.bool q3_10_11, .slice ra4 la4 ka4] 27)) = V4
              generalize wn.heap.size = b4
              intro HQ RA4 PA4 RA3 PA3 RB2 RA2 PB2 PA2 RB1 RA1 PB1 PA1 SB SA HX
              obtain ⟨p1, p2⟩ := RA1.out.cells
              obtain ⟨p3, p4⟩ := RB1.out.cells
              obtain ⟨p5, p6⟩ := RA2.out.cells
              obtain ⟨p7, p8⟩ := RB2.out.cells
              obtain ⟨p9, p10⟩ := RA3.out.cells
              obtain ⟨p11, p12⟩ := RA4.out.cells
              go_wp2_with (first | (go_at_call_of 19 (Value.agg #[.bool q1_10_11, .slice ra1 la1 ka1]); (with_reducible refine (same_eq PA1.out PA2.out).mono ?_); rintro e ws ⟨rfl, hb⟩; have HX := Lib.hid (HX.out.below hb); have SA := Lib.hid (SA.out.below hb); have SB := Lib.hid (SB.out.below hb); have PA1 := Lib.hid (PA1.out.below hb); have PB1 := Lib.hid (PB1.out.below hb); have RA1 := Lib.hid (RA1.out.below hb); have RB1 := Lib.hid (RB1.out.below hb); have PA2 := Lib.hid (PA2.out.below hb); have PB2 := Lib.hid (PB2.out.below hb); have RA2 := Lib.hid (RA2.out.below hb); have RB2 := Lib.hid (RB2.out.below hb); have PA3 := Lib.hid (PA3.out.below hb); have RA3 := Lib.hid (RA3.out.below hb); have PA4 := Lib.hid (PA4.out.below hb); have RA4 := Lib.hid (RA4.out.below hb); have HQ := Lib.hid (HQ.out.trans (hb.mono HQ.out.size)); clear hb; obtain ⟨p1, p2⟩ := RA1.out.cells; obtain ⟨p3, p4⟩ := RB1.out.cells; obtain ⟨p5, p6⟩ := RA2.out.cells; obtain ⟨p7, p8⟩ := RB2.out.cells; obtain ⟨p9, p10⟩ := RA3.out.cells; obtain ⟨p11, p12⟩ := RA4.out.cells) | (go_at_call_of 19 (Value.agg #[.bool q2_10_11, .slice rb1 lb1 kb1]); (with_reducible refine (same_eq PB1.out PB2.out).mono ?_); rintro e ws ⟨rfl, hb⟩; have HX := Lib.hid (HX.out.below hb); have SA := Lib.hid (SA.out.below hb); have SB := Lib.hid (SB.out.below hb); have PA1 := Lib.hid (PA1.out.below hb); have PB1 := Lib.hid (PB1.out.below hb); have RA1 := Lib.hid (RA1.out.below hb); have RB1 := Lib.hid (RB1.out.below hb); have PA2 := Lib.hid (PA2.out.below hb); have PB2 := Lib.hid (PB2.out.below hb); have RA2 := Lib.hid (RA2.out.below hb); have RB2 := Lib.hid (RB2.out.below hb); have PA3 := Lib.hid (PA3.out.below hb); have RA3 := Lib.hid (RA3.out.below hb); have PA4 := Lib.hid (PA4.out.below hb); have RA4 := Lib.hid (RA4.out.below hb); have HQ := Lib.hid (HQ.out.trans (hb.mono HQ.out.size)); clear hb; obtain ⟨p1, p2⟩ := RA1.out.cells; obtain ⟨p3, p4⟩ := RB1.out.cells; obtain ⟨p5, p6⟩ := RA2.out.cells; obtain ⟨p7, p8⟩ := RB2.out.cells; obtain ⟨p9, p10⟩ := RA3.out.cells; obtain ⟨p11, p12⟩ := RA4.out.cells) | (go_at_call_of 19 (Value.agg #[.bool q3_10_11, .slice ra3 la3 ka3]); (with_reducible refine (same_eq PA3.out PA4.out).mono ?_); rintro e ws ⟨rfl, hb⟩; have HX := Lib.hid (HX.out.below hb); have SA := Lib.hid (SA.out.below hb); have SB := Lib.hid (SB.out.below hb); have PA1 := Lib.hid (PA1.out.below hb); have PB1 := Lib.hid (PB1.out.below hb); have RA1 := Lib.hid (RA1.out.below hb); have RB1 := Lib.hid (RB1.out.below hb); have PA2 := Lib.hid (PA2.out.below hb); have PB2 := Lib.hid (PB2.out.below hb); have RA2 := Lib.hid (RA2.out.below hb); have RB2 := Lib.hid (RB2.out.below hb); have PA3 := Lib.hid (PA3.out.below hb); have RA3 := Lib.hid (RA3.out.below hb); have PA4 := Lib.hid (PA4.out.below hb); have RA4 := Lib.hid (RA4.out.below hb); have HQ := Lib.hid (HQ.out.trans (hb.mono HQ.out.size)); clear hb; obtain ⟨p1, p2⟩ := RA1.out.cells; obtain ⟨p3, p4⟩ := RB1.out.cells; obtain ⟨p5, p6⟩ := RA2.out.cells; obtain ⟨p7, p8⟩ := RB2.out.cells; obtain ⟨p9, p10⟩ := RA3.out.cells; obtain ⟨p11, p12⟩ := RA4.out.cells))
              go_roundw
              case rel => exact ⟨6, by omega, rfl, HQ⟩
              case measure => simp [intOf]
            · go_wp2
              go_ret
              exact ⟨rfl, HW.out.trans (HQ.out.mono HZ.out)⟩

end Go.Proofs.YtdgmjmckeeeljaaGreatDoor
