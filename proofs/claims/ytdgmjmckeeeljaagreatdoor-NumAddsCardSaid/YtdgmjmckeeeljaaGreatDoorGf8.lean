/- The law NumAdds, walked. Condition: the table of powers of ten is laid. Numbers that came in. Two numbers that came in. The given statement NumAdds: whatever the input, the law returns true and leaves its arguments as they were. Condition: the listed variables hold what the program's text lays in them (the given tie). -/
import Derived.BigRegion
import Derived.Deep.RegionHeld3
import Derived.Deep.CutRange
import Derived.Test.YtdgmjmckeeeljaaGreatDoorGf5
import Derived.Test.YtdgmjmckeeeljaaGreatDoorGf7
import Derived.Test.YtdgmjmckeeeljaaGreatDoorGf6
import Derived.ChangeSame
namespace Go.Proofs.YtdgmjmckeeeljaaGreatDoor
open Go.RowKit

/-- A block of cells of any type. -/
def Blk (W : World) (g : Nat) (cs : Array Value) (t : TypeId) : Prop := W.heap[g]? = some (.cells cs t (0, 0))
theorem Blk.below {W W1 : World} {g : Nat} {cs : Array Value} {t : TypeId} (h : Blk W g cs t) (hb : Below W.heap.size W W1) : Blk W1 g cs t := (hb.block g (Array.getElem?_eq_some_iff.1 h).1).trans h
theorem Blk.cell {W : World} {g : Nat} {cs : Array Value} {t : TypeId} (h : Blk W g cs t) (j : Nat) {v : Value} (hv : cs[j]? = some v) : W.cell? ⟨g, j, none⟩ = some v := by rw [cell_of_row W _ _ _ _ _ h]; exact hv
theorem Nu.sl {W : World} {b : Bool} {s : Value} {z : Int} (h : Nu W (.agg #[.bool b, s]) z) : Sl W s (digs z.natAbs) ∧ (digs z.natAbs).length ≤ 256 := by
  obtain ⟨s', e, hs, hl⟩ := h
  simp only [Value.agg.injEq, Array.mk.injEq, List.cons.injEq, and_true] at e
  rw [e.2]
  exact ⟨hs, hl⟩
theorem Bx.bxc {W : World} {g : Nat} {neg : Bool} {ao : Option Addr} {n cap : Nat} {z : Int} (h : Bx W g neg ao n cap z) : Bxc W g neg ao n cap (digs z.natAbs) := ⟨h.row, ⟨_, _, rfl, h.nu.sl.1, by have := h.nu.sl.2; omega⟩⟩
theorem Bxc.c0 {W : World} {g : Nat} {neg : Bool} {ao : Option Addr} {n cap : Nat} {xs : List Nat} (h : Bxc W g neg ao n cap xs) : W.cell? ⟨g, 0, none⟩ = some (.bool neg) := by rw [cell_of_row _ _ _ _ _ _ h.row]; rfl
theorem Bxc.c1 {W : World} {g : Nat} {neg : Bool} {ao : Option Addr} {n cap : Nat} {xs : List Nat} (h : Bxc W g neg ao n cap xs) : W.cell? ⟨g, 1, none⟩ = some (.slice ao n cap) := by rw [cell_of_row _ _ _ _ _ _ h.row]; rfl
theorem Bxc.sl {W : World} {g : Nat} {neg : Bool} {ao : Option Addr} {n cap : Nat} {xs : List Nat} (h : Bxc W g neg ao n cap xs) : Sl W (.slice ao n cap) xs ∧ xs.length ≤ 512 := by
  obtain ⟨ng, s, e, hs, hl⟩ := h.nc
  simp only [Value.agg.injEq, Array.mk.injEq, List.cons.injEq, and_true] at e
  rw [e.2]
  exact ⟨hs, hl⟩

theorem cut_parts {w : World} {neg : Bool} {ao : Option Addr} {n cap : Nat} {ds : List Nat} (h : Sl w (.slice ao n cap) ds) :
    Calls Tryz.prog 13 #[.agg #[.bool neg, .slice ao n cap], .int .i64 260] w fun e w' => ∃ neg ao n cap xs, e = .returned (.agg #[.bool neg, .slice ao n cap]) ∧ Nc w' (.agg #[.bool neg, .slice ao n cap]) xs ∧ xs.length ≤ 512 ∧ Below w.heap.size w w' :=
  (cut13_any h).mono fun e w' ⟨h1, h2, h3⟩ => ⟨_, _, _, _, ds.take (min n 260), h1, ⟨_, _, rfl, h2, by rw [List.length_take]; omega⟩, by rw [List.length_take]; omega, h3⟩

set_option maxRecDepth 100000 in
set_option maxHeartbeats 8000000 in
theorem nadds_any {w : World} {s0 s1 : Option Addr} {n0 n1 c0 c1 : Nat} {z0 z1 : List Int} (h0 : Li w (.slice s0 n0 c0) z0) (h1 : Li w (.slice s1 n1 c1) z1) (L : Int) (L0 : 0 ≤ L) (L1 : L ≤ 65535)
    (p0 p1 : Bool) {x0 x1 : Option Addr} {m0 m1 d0 d1 : Nat} {r0 r1 : List Nat} (q0 : Sl w (.slice x0 m0 d0) r0) (q1 : Sl w (.slice x1 m1 d1) r1) (htab : ∀ W, Below w.heap.size w W → Tab W) :
    Calls Tryz.prog 3 #[.agg #[.slice s0 n0 c0, .slice s1 n1 c1], .int .u16 L, .agg #[.bool p0, .slice x0 m0 d0, .bool p1, .slice x1 m1 d1]] w fun e w' => e = .returned (.bool true) ∧ Below w.heap.size w w' := by
  have HM0 := Lib.hid (fun W (hb : Below w.heap.size w W) => made_parts (h0.below hb))
  have HM1 := Lib.hid (fun W (hb : Below w.heap.size w W) => made_parts (h1.below hb))
  have HC0 := Lib.hid (fun W (hb : Below w.heap.size w W) => cut_parts (neg := p0) (q0.below hb))
  have HC1 := Lib.hid (fun W (hb : Below w.heap.size w W) => cut_parts (neg := p1) (q1.below hb))
  have HSA : Hid (∀ W, Below w.heap.size w W → Calls Tryz.prog 10 #[] W fun e w' => e = .returned (.bool true) ∧ Below W.heap.size W w') := Lib.hid (fun W hb => sanity_any W (fun W' hb' => htab W' (hb.trans (hb'.mono hb.size))))
  have HW : Hid (Below w.heap.size w w) := Lib.hid (Below.refl _ _)
  have HZ : Hid (w.heap.size ≤ w.heap.size) := Lib.hid (Nat.le_refl _)
  clear h0 h1 q0 q1 htab
  go_enter Tryz.func3, Tryz.ntmps3
  go_upto_region 1 with fail
  obtain ⟨W, hW⟩ : ∃ W, W = (w.alloc (.cells #[.slice s0 n0 c0, .slice s1 n1 c1] 23)).alloc (.cells #[.bool p0, .slice x0 m0 d0, .bool p1, .slice x1 m1 d1] 28) := ⟨_, rfl⟩
  have hb : Below w.heap.size w W := by rw [hW]; go_grown
  have r0 : W.heap[w.heap.size]? = some (.cells #[.slice s0 n0 c0, .slice s1 n1 c1] 23 (0, 0)) := by rw [hW]; exact (Below.heap_alloc _ _ _ (by simp)).trans (heap_alloc_new _ _)
  have r1 : W.heap[w.heap.size + 1]? = some (.cells #[.bool p0, .slice x0 m0 d0, .bool p1, .slice x1 m1 d1] 28 (0, 0)) := by
    rw [hW]
    have := heap_alloc_new (w.alloc (.cells #[.slice s0 n0 c0, .slice s1 n1 c1] 23)) (.cells #[.bool p0, .slice x0 m0 d0, .bool p1, .slice x1 m1 d1] 28)
    rw [World.size_alloc] at this
    exact this
  have HBL : Hid (∀ W', Below W.heap.size W W' → W'.cell? ⟨w.heap.size, 0, none⟩ = some (.slice s0 n0 c0) ∧ W'.cell? ⟨w.heap.size, 1, none⟩ = some (.slice s1 n1 c1)) := Lib.hid (fun W' h => by
    have q0 := (h.block _ (Array.getElem?_eq_some_iff.1 r0).1).trans r0
    exact ⟨by rw [cell_of_row _ _ _ _ _ _ q0]; rfl, by rw [cell_of_row _ _ _ _ _ _ q0]; rfl⟩)
  have HBR : Hid (∀ W', Below W.heap.size W W' → W'.cell? ⟨w.heap.size + 1, 0, none⟩ = some (.bool p0) ∧ W'.cell? ⟨w.heap.size + 1, 1, none⟩ = some (.slice x0 m0 d0) ∧ W'.cell? ⟨w.heap.size + 1, 2, none⟩ = some (.bool p1) ∧ W'.cell? ⟨w.heap.size + 1, 3, none⟩ = some (.slice x1 m1 d1)) := Lib.hid (fun W' h => by
    have q0 := (h.block _ (Array.getElem?_eq_some_iff.1 r1).1).trans r1
    exact ⟨by rw [cell_of_row _ _ _ _ _ _ q0]; rfl, by rw [cell_of_row _ _ _ _ _ _ q0]; rfl, by rw [cell_of_row _ _ _ _ _ _ q0]; rfl, by rw [cell_of_row _ _ _ _ _ _ q0]; rfl⟩)
  have HWW := step1 HW HZ hb
  have HW := HWW.1
  have HZ := HWW.2
  have HD : Hid (Below W.heap.size W W) := Lib.hid (Below.refl _ _)
  have HE : Hid (W.heap.size ≤ W.heap.size) := Lib.hid (Nat.le_refl _)
  rw [← hW]
  clear hW hb HWW r0 r1
  go_upto_region 2 with (go_at_call 10; refine (HSA.out _ HW.out).mono ?_; rintro e wz ⟨rfl, hb⟩; have HWW := step1 HW HZ hb; have HW := HWW.1; have HZ := HWW.2; have HDD := step1 HD HE hb; have HD := HDD.1; have HE := HDD.2; clear HWW HDD hb)
  obtain ⟨k0, k1⟩ := HBL.out _ HD.out
  obtain ⟨W1, hW1⟩ : ∃ W1, W1 = wz := ⟨_, rfl⟩
  obtain ⟨T, hT⟩ : ∃ T : Array Value, T = #[.agg #[.slice s0 n0 c0, .slice s1 n1 c1], .int .u16 L, .agg #[.bool p0, .slice x0 m0 d0, .bool p1, .slice x1 m1 d1], .pointer (some ⟨w.heap.size, 0, none⟩), undef, .pointer (some ⟨w.heap.size + 1, 0, none⟩), .bool false, .bool true, undef, undef, undef, undef, undef, undef, undef, .bool true, undef, undef, undef, undef, undef, undef, undef, undef, undef, undef, undef, undef, undef, undef, undef, undef, undef, undef, undef, undef, undef, undef, undef, undef, undef, undef, undef, undef, undef, undef, undef, undef, undef, undef, undef, undef, undef, undef, undef, undef, undef, undef, undef, undef, undef, undef, undef, undef, undef, undef, undef, undef, undef, undef, undef, undef, undef] := ⟨_, rfl⟩
  rw [← hT]
  refine regionP_inv (by kernel_rfl) (fun l a w' => ∃ vs gs, RM wz T 2 16 8 w.heap.size (fun t => if t = 0 then .slice s0 n0 c0 else .slice s1 n1 c1) vs gs l a w') ?h0 ?step ?fin
  case h0 => exact ⟨fun _ => undef, fun _ => 0, RM.start rfl (show Below wz.heap.size wz wz.drew from ⟨rfl, rfl, rfl, Nat.le_refl _, fun _ _ => rfl⟩)⟩
  case step =>
      rintro l a w' i' ⟨vs, gs, hR⟩ hi'
      obtain ⟨hl0, o, ho, hdep⟩ := mem_ready.1 hi'
      have h15 : i' < 10 := by
        have := (Array.getElem?_eq_some_iff.1 ho).1
        simpa using this
      have hbw : Below w.heap.size w w' := HW.out.trans (hR.bl.mono HZ.out)
      obtain ⟨y0, y1⟩ := HBL.out _ (HD.out.trans (hR.bl.mono HE.out))
      rcases (show i' = 0 ∨ i' = 1 ∨ i' = 2 ∨ i' = 3 ∨ i' = 4 ∨ i' = 5 ∨ i' = 6 ∨ i' = 7 ∨ i' = 8 ∨ i' = 9 by omega) with rfl | rfl | rfl | rfl | rfl | rfl | rfl | rfl | rfl | rfl
      · simp at ho
        subst ho
        simp [Region.binds] at hdep
        have k2 : a.tmps.getD 3 undef = .pointer (some ⟨w.heap.size, 0, none⟩) := (hR.fr.kept rfl (by simp [hT])).trans (by rw [hT]; rfl)
        clear hi' hdep hl0
        unfold wpOp
        simp [Region.wanted]
        refine .inl ?_
        unfold Oper.wp
        simp [execOp, go_sem, Act.eval, k2]
        exact ⟨vs, gs, hR.plain (by omega) (by omega) rfl rfl⟩
      · simp at ho
        subst ho
        simp [Region.binds] at hdep
        have k3 : a.tmps.getD 16 undef = .pointer (some ⟨w.heap.size, 0, none⟩) := hR.fr.done (i := 0) rfl (by simp_all) (by simp [hT])
        clear hi' hdep hl0
        unfold wpOp
        simp [Region.wanted]
        refine .inl ?_
        unfold Oper.wp
        simp [execOp, go_sem, Act.eval, k3, y0]
        exact ⟨vs, gs, hR.plain (by omega) (by omega) rfl rfl⟩
      · simp at ho
        subst ho
        simp [Region.binds] at hdep
        have k4 : a.tmps.getD 17 undef = .slice s0 n0 c0 := hR.fr.done (i := 1) rfl (by simp_all) (by simp [hT])
        clear hi' hdep
        unfold wpOp
        simp [Region.wanted]
        refine .inl ?_
        unfold Oper.wp
        simp [execOp, go_sem, Act.eval, k4]
        refine (HM0.out w' hbw).mono ?_
        rintro e w'' ⟨neg, ao, n, cap, z, rfl, hn, hA, hb⟩
        exact ⟨_, gs, hR.call (t := 0) (by omega) hl0 rfl (.inr (by omega)) ⟨neg, ao, n, cap, z, rfl, hn, hA⟩ hb⟩
      · simp at ho
        subst ho
        simp [Region.binds] at hdep
        have k2 : a.tmps.getD 3 undef = .pointer (some ⟨w.heap.size, 0, none⟩) := (hR.fr.kept rfl (by simp [hT])).trans (by rw [hT]; rfl)
        clear hi' hdep hl0
        unfold wpOp
        simp [Region.wanted]
        refine .inl ?_
        unfold Oper.wp
        simp [execOp, go_sem, Act.eval, k2]
        exact ⟨vs, gs, hR.plain (by omega) (by omega) rfl rfl⟩
      · simp at ho
        subst ho
        simp [Region.binds] at hdep
        have k3 : a.tmps.getD 19 undef = .pointer (some ⟨w.heap.size, 1, none⟩) := hR.fr.done (i := 3) rfl (by simp_all) (by simp [hT])
        clear hi' hdep hl0
        unfold wpOp
        simp [Region.wanted]
        refine .inl ?_
        unfold Oper.wp
        simp [execOp, go_sem, Act.eval, k3, y1]
        exact ⟨vs, gs, hR.plain (by omega) (by omega) rfl rfl⟩
      · simp at ho
        subst ho
        simp [Region.binds] at hdep
        have k4 : a.tmps.getD 20 undef = .slice s1 n1 c1 := hR.fr.done (i := 4) rfl (by simp_all) (by simp [hT])
        clear hi' hdep
        unfold wpOp
        simp [Region.wanted]
        refine .inl ?_
        unfold Oper.wp
        simp [execOp, go_sem, Act.eval, k4]
        refine (HM1.out w' hbw).mono ?_
        rintro e w'' ⟨neg, ao, n, cap, z, rfl, hn, hA, hb⟩
        exact ⟨_, gs, hR.call (t := 1) (by omega) hl0 rfl (.inr (by omega)) ⟨neg, ao, n, cap, z, rfl, hn, hA⟩ hb⟩
      · simp at ho
        subst ho
        simp [Region.binds] at hdep
        clear hi' hdep
        unfold wpOp
        simp [Region.wanted]
        refine .inl ?_
        unfold Oper.wp
        simp [execOp, go_sem, Act.eval]
        exact ⟨vs, _, hR.alloc (t := 0) (by omega) hl0 rfl (.inr (by omega))⟩
      · simp at ho
        subst ho
        simp [Region.binds] at hdep
        clear hi' hdep
        unfold wpOp
        simp [Region.wanted]
        refine .inl ?_
        unfold Oper.wp
        simp [execOp, go_sem, Act.eval]
        exact ⟨vs, _, hR.alloc (t := 1) (by omega) hl0 rfl (.inr (by omega))⟩
      · simp at ho
        subst ho
        simp [Region.binds] at hdep
        have j1 : l.getD 6 true = true := getD_true (by simp_all)
        have j2 : l.getD 2 true = true := getD_true (by simp_all)
        have k5 : a.tmps.getD 8 undef = .pointer (some ⟨gs 0, 0, none⟩) := hR.fr.done (i := 6) rfl (by simp_all) (by simp [hT])
        have k6 : a.tmps.getD 18 undef = vs 0 := hR.fr.done (i := 2) rfl (by simp_all) (by simp [hT])
        obtain ⟨neg, ao, n, cap, z, ev, _⟩ := hR.val 0 (by omega) j2
        rw [ev] at k6
        obtain ⟨x0, x1, x2, x3, x4⟩ := hR.ready (t := 0) (by omega) hl0 j1
        clear hi' hdep
        unfold wpOp
        simp [Region.wanted]
        refine .inl ?_
        unfold Oper.wp
        simp [execOp, go_sem, Act.eval, k5, k6, x0, x1, x2, x3, x4]
        exact ⟨vs, gs, hR.store (t := 0) (by omega) hl0 j1 j2 ev undef⟩
      · simp at ho
        subst ho
        simp [Region.binds] at hdep
        have j1 : l.getD 7 true = true := getD_true (by simp_all)
        have j2 : l.getD 5 true = true := getD_true (by simp_all)
        have k5 : a.tmps.getD 9 undef = .pointer (some ⟨gs 1, 0, none⟩) := hR.fr.done (i := 7) rfl (by simp_all) (by simp [hT])
        have k6 : a.tmps.getD 21 undef = vs 1 := hR.fr.done (i := 5) rfl (by simp_all) (by simp [hT])
        obtain ⟨neg, ao, n, cap, z, ev, _⟩ := hR.val 1 (by omega) j2
        rw [ev] at k6
        obtain ⟨x0, x1, x2, x3, x4⟩ := hR.ready (t := 1) (by omega) hl0 j1
        clear hi' hdep
        unfold wpOp
        simp [Region.wanted]
        refine .inl ?_
        unfold Oper.wp
        simp [execOp, go_sem, Act.eval, k5, k6, x0, x1, x2, x3, x4]
        exact ⟨vs, gs, hR.store (t := 1) (by omega) hl0 j1 j2 ev undef⟩
  case' fin =>
      rintro l a W ⟨vs, gs, hR⟩ hz
      have hnot := List.eq_nil_iff_forall_not_mem.1 hz
      have hk : ∀ k, k < 10 → (l.getD k true = false → False) → l.getD k false = true := fun k h12 h => by
        have hs := hR.size
        cases h' : l.getD k true with
        | false => exact (h h').elim
        | true => simp [Array.getD, hs, h12] at h' ⊢; exact h'
      have st0 := hk 0 (by omega) (fun h => hnot 0 (mem_ready.2 ⟨h, _, rfl, by simp [Region.binds]⟩))
      have st1 := hk 1 (by omega) (fun h => hnot 1 (mem_ready.2 ⟨h, _, rfl, by simp [Region.binds]; simp_all⟩))
      have st2 := hk 2 (by omega) (fun h => hnot 2 (mem_ready.2 ⟨h, _, rfl, by simp [Region.binds]; simp_all⟩))
      have st3 := hk 3 (by omega) (fun h => hnot 3 (mem_ready.2 ⟨h, _, rfl, by simp [Region.binds]⟩))
      have st4 := hk 4 (by omega) (fun h => hnot 4 (mem_ready.2 ⟨h, _, rfl, by simp [Region.binds]; simp_all⟩))
      have st5 := hk 5 (by omega) (fun h => hnot 5 (mem_ready.2 ⟨h, _, rfl, by simp [Region.binds]; simp_all⟩))
      have st6 := hk 6 (by omega) (fun h => hnot 6 (mem_ready.2 ⟨h, _, rfl, by simp [Region.binds]⟩))
      have st7 := hk 7 (by omega) (fun h => hnot 7 (mem_ready.2 ⟨h, _, rfl, by simp [Region.binds]⟩))
      have st8 := hk 8 (by omega) (fun h => hnot 8 (mem_ready.2 ⟨h, _, rfl, by simp [Region.binds]; simp_all⟩))
      have st9 := hk 9 (by omega) (fun h => hnot 9 (mem_ready.2 ⟨h, _, rfl, by simp [Region.binds]; simp_all⟩))
      have hall : ∀ i, i < 10 → l.getD i true = true := fun i hi => by
        rcases (show i = 0 ∨ i = 1 ∨ i = 2 ∨ i = 3 ∨ i = 4 ∨ i = 5 ∨ i = 6 ∨ i = 7 ∨ i = 8 ∨ i = 9 by omega) with rfl | rfl | rfl | rfl | rfl | rfl | rfl | rfl | rfl | rfl
        · exact getD_true st0
        · exact getD_true st1
        · exact getD_true st2
        · exact getD_true st3
        · exact getD_true st4
        · exact getD_true st5
        · exact getD_true st6
        · exact getD_true st7
        · exact getD_true st8
        · exact getD_true st9
      clear st0 st1 st2 st3 st4 st5 st6 st7 st8 st9 hk hnot hz
      obtain ⟨n8, a8, l8, c8, A, ev0, B8, HA⟩ := hR.bx (t := 0) (by omega) (hall 8 (by omega))
      obtain ⟨n9, a9, l9, c9, B, ev1, B9, HB⟩ := hR.bx (t := 1) (by omega) (hall 9 (by omega))
      have hTs : T.size = 73 := by rw [hT]; rfl
      have ha : a = ⟨((((((((T.setIfInBounds 16 (.pointer (some ⟨w.heap.size, 0, none⟩))).setIfInBounds 17 (.slice s0 n0 c0)).setIfInBounds 18 (vs 0)).setIfInBounds 19 (.pointer (some ⟨w.heap.size, 1, none⟩))).setIfInBounds 20 (.slice s1 n1 c1)).setIfInBounds 21 (vs 1)).setIfInBounds 8 (.pointer (some ⟨gs 0, 0, none⟩))).setIfInBounds 9 (.pointer (some ⟨gs 1, 0, none⟩))), []⟩ := by
        refine hR.fr.all (fun j i v h => hall i (by have := mOwn_lt h; simp only [] at this; omega)) (by simp) (fun j hj => ?_)
        by_cases h1 : 16 ≤ j ∧ j < 22
        · rcases (show j = 16 ∨ j = 17 ∨ j = 18 ∨ j = 19 ∨ j = 20 ∨ j = 21 by omega) with rfl | rfl | rfl | rfl | rfl | rfl <;> simp [sets_getD, mOwn, hTs]
        · by_cases h2 : 8 ≤ j ∧ j < 10
          · rcases (show j = 8 ∨ j = 9 by omega) with rfl | rfl <;> simp [sets_getD, mOwn, hTs]
          · have e : mOwn 2 16 8 w.heap.size (fun t => if t = 0 then .slice s0 n0 c0 else .slice s1 n1 c1) vs gs j = none := by
              unfold mOwn
              rw [if_neg (by omega), if_neg (by omega)]
            rw [e]
            simp only [sets_getD]
            repeat rw [if_neg (by omega)]
      have hbl := hR.bl
      clear hR hall
      rw [ev0, ev1] at ha
      obtain ⟨g8, hg8⟩ : ∃ g8, g8 = gs 0 := ⟨_, rfl⟩
      obtain ⟨g9, hg9⟩ : ∃ g9, g9 = gs 1 := ⟨_, rfl⟩
      rw [← hg8] at ha B8
      rw [← hg9] at ha B9
      have ha2 : a = ⟨#[.agg #[.slice s0 n0 c0, .slice s1 n1 c1], .int .u16 L, .agg #[.bool p0, .slice x0 m0 d0, .bool p1, .slice x1 m1 d1], .pointer (some ⟨w.heap.size, 0, none⟩), undef, .pointer (some ⟨w.heap.size + 1, 0, none⟩), .bool false, .bool true, .pointer (some ⟨g8, 0, none⟩), .pointer (some ⟨g9, 0, none⟩), undef, undef, undef, undef, undef, .bool true, .pointer (some ⟨w.heap.size, 0, none⟩), .slice s0 n0 c0, .agg #[.bool n8, .slice a8 l8 c8], .pointer (some ⟨w.heap.size, 1, none⟩), .slice s1 n1 c1, .agg #[.bool n9, .slice a9 l9 c9], undef, undef, undef, undef, undef, undef, undef, undef, undef, undef, undef, undef, undef, undef, undef, undef, undef, undef, undef, undef, undef, undef, undef, undef, undef, undef, undef, undef, undef, undef, undef, undef, undef, undef, undef, undef, undef, undef, undef, undef, undef, undef, undef, undef, undef, undef, undef, undef, undef, undef, undef], []⟩ := by
        rw [ha, hT]
        simp only [List.setIfInBounds_toArray, List.set_cons_succ, List.set_cons_zero]
      subst ha2
      have B8 := Lib.hid B8
      have B9 := Lib.hid B9
      have HA := Lib.hid HA
      have HB := Lib.hid HB
      have HWW := step1 HW HZ hbl
      have HDD := step1 HD HE hbl
      have HW := HWW.1
      have HZ := HWW.2
      have HD := HDD.1
      have HE := HDD.2
      clear HWW HDD hbl ha hT hTs ev0 ev1 hg8 hg9 vs gs k0 k1 hW1

      have C8 := Lib.hid B8.out.bxc
      have C9 := Lib.hid B9.out.bxc
      have hsl8 := B8.out.nu.sl
      have HRZ : Hid (∀ V, Below W.heap.size W V → Calls Tryz.prog 12 #[.agg #[.bool n8, .slice a8 l8 c8], .int .i64 (L % 257)] V (fun e w' => ∃ ao n cap xs, e = .returned (.agg #[.bool n8, .slice ao n cap]) ∧ xs.length ≤ 512 ∧ Sl w' (.slice ao n cap) xs ∧ Below V.heap.size V w')) := Lib.hid (fun V hV => by
        have hl := hsl8.1.size
        have hl2 := hsl8.2
        have h := raised_any (k := (L % 257).toNat) (neg := n8) (hsl8.1.below hV) (by omega) (by omega)
        have e : (((L % 257).toNat : Nat) : Int) = L % 257 := by omega
        rwa [e] at h)
      clear hsl8 B8 B9 HA HB HM0 HM1 HBL HSA
      have y0 := C8.out.c0
      have y1 := C8.out.c1
      go_upto_region 4 with (go_at_call 12; refine (HRZ.out _ (Below.refl _ _)).mono ?_; rintro e wn ⟨a10, l10, c10, X10, rfl, hx10, hs10, hb⟩; have C8 := Lib.hid (C8.out.below hb); have C9 := Lib.hid (C9.out.below hb); have HWW := step1 HW HZ hb; have HW := HWW.1; have HZ := HWW.2; have HDD := step1 HD HE hb; have HD := HDD.1; have HE := HDD.2; clear HWW HDD hb)
      clear y0 y1 HRZ
      have hb : Below wn.heap.size wn (wn.alloc (.cells #[.bool n8, .slice a10 l10 c10] 27)) := alloc_b _ _
      have C10 : Hid (Bxc (wn.alloc (.cells #[.bool n8, .slice a10 l10 c10] 27)) wn.heap.size n8 a10 l10 c10 X10) := Lib.hid ⟨heap_alloc_new _ _, ⟨_, _, rfl, hs10.below hb, hx10⟩⟩
      have C8 := Lib.hid (C8.out.below hb)
      have C9 := Lib.hid (C9.out.below hb)
      have HWW := step1 HW HZ hb
      have HW := HWW.1
      have HZ := HWW.2
      have HDD := step1 HD HE hb
      have HD := HDD.1
      have HE := HDD.2
      clear HWW HDD hb hs10 hx10
      revert HE
      revert HD
      revert HZ
      revert HW
      revert C9
      revert C8
      revert C10
      generalize (wn.alloc (.cells #[.bool n8, .slice a10 l10 c10] 27)) = wz
      generalize wn.heap.size = g10
      intro C10 C8 C9 HW HZ HD HE
      obtain ⟨k0, k1, _, _⟩ := HBR.out _ HD.out
      obtain ⟨W1, hW1⟩ : ∃ W1, W1 = wz := ⟨_, rfl⟩
      obtain ⟨T, hT⟩ : ∃ T : Array Value, T = #[.agg #[.slice s0 n0 c0, .slice s1 n1 c1], .int .u16 L, .agg #[.bool p0, .slice x0 m0 d0, .bool p1, .slice x1 m1 d1], .pointer (some ⟨w.heap.size, 0, none⟩), undef, .pointer (some ⟨w.heap.size + 1, 0, none⟩), .bool false, .bool true, .pointer (some ⟨g8, 0, none⟩), .pointer (some ⟨g9, 0, none⟩), .pointer (some ⟨g10, 0, none⟩), undef, undef, undef, undef, .bool true, .pointer (some ⟨w.heap.size, 0, none⟩), .slice s0 n0 c0, .agg #[.bool n8, .slice a8 l8 c8], .pointer (some ⟨w.heap.size, 1, none⟩), .slice s1 n1 c1, .agg #[.bool n9, .slice a9 l9 c9], .agg #[.bool n8, .slice a8 l8 c8], .int .u16 L, .int .i64 L, .int .i64 (L % 257), .agg #[.bool n8, .slice a10 l10 c10], undef, undef, undef, undef, undef, undef, undef, undef, undef, undef, undef, undef, undef, undef, undef, undef, undef, undef, undef, undef, undef, undef, undef, undef, undef, undef, undef, undef, undef, undef, undef, undef, undef, undef, undef, undef, undef, undef, undef, undef, undef, undef, undef, undef, undef, undef] := ⟨_, rfl⟩
      rw [← hT]
      refine regionP_inv (by kernel_rfl) (fun l a w' => ∃ vs gs, RC wz T 2 27 11 (w.heap.size + 1) (fun t => if t = 0 then .agg #[.bool p0, .slice x0 m0 d0] else .agg #[.bool p1, .slice x1 m1 d1]) vs gs l a w') ?h0c ?stepc ?finc
      case h0c => exact ⟨fun _ => undef, fun _ => 0, RC.start rfl (show Below wz.heap.size wz wz.drew from ⟨rfl, rfl, rfl, Nat.le_refl _, fun _ _ => rfl⟩)⟩
      case stepc =>
          rintro l a w' i' ⟨vs, gs, hR⟩ hi'
          obtain ⟨hl0, o, ho, hdep⟩ := mem_ready.1 hi'
          have h15 : i' < 10 := by
            have := (Array.getElem?_eq_some_iff.1 ho).1
            simpa using this
          have hbw : Below w.heap.size w w' := HW.out.trans (hR.bl.mono HZ.out)
          obtain ⟨Y0, Y1, Y2, Y3⟩ := HBR.out _ (HD.out.trans (hR.bl.mono HE.out))
          rcases (show i' = 0 ∨ i' = 1 ∨ i' = 2 ∨ i' = 3 ∨ i' = 4 ∨ i' = 5 ∨ i' = 6 ∨ i' = 7 ∨ i' = 8 ∨ i' = 9 by omega) with rfl | rfl | rfl | rfl | rfl | rfl | rfl | rfl | rfl | rfl
          · simp at ho
            subst ho
            simp [Region.binds] at hdep
            have k2 : a.tmps.getD 5 undef = .pointer (some ⟨w.heap.size + 1, 0, none⟩) := (hR.fr.kept rfl (by simp [hT])).trans (by rw [hT]; rfl)
            clear hi' hdep hl0
            unfold wpOp
            simp [Region.wanted]
            refine .inl ?_
            unfold Oper.wp
            simp [execOp, go_sem, Act.eval, k2]
            exact ⟨vs, gs, hR.plain (by omega) (by omega) rfl rfl⟩
          · simp at ho
            subst ho
            simp [Region.binds] at hdep
            have k3 : a.tmps.getD 27 undef = .pointer (some ⟨w.heap.size + 1, 0, none⟩) := hR.fr.done (i := 0) rfl (by simp_all) (by simp [hT])
            clear hi' hdep hl0
            unfold wpOp
            simp [Region.wanted]
            refine .inl ?_
            unfold Oper.wp
            simp [execOp, go_sem, Act.eval, k3, Y0, Y1]
            exact ⟨vs, gs, hR.plain (by omega) (by omega) rfl rfl⟩
          · simp at ho
            subst ho
            simp [Region.binds] at hdep
            have k4 : a.tmps.getD 28 undef = .agg #[.bool p0, .slice x0 m0 d0] := hR.fr.done (i := 1) rfl (by simp_all) (by simp [hT])
            clear hi' hdep
            unfold wpOp
            simp [Region.wanted]
            refine .inl ?_
            unfold Oper.wp
            simp [execOp, go_sem, Act.eval, k4]
            refine (HC0.out w' hbw).mono ?_
            rintro e w'' ⟨neg, ao, n, cap, z, rfl, hn, hA, hb⟩
            exact ⟨_, gs, hR.call (t := 0) (by omega) hl0 rfl (.inr (by omega)) ⟨neg, ao, n, cap, z, rfl, hn, hA⟩ hb⟩
          · simp at ho
            subst ho
            simp [Region.binds] at hdep
            have k2 : a.tmps.getD 5 undef = .pointer (some ⟨w.heap.size + 1, 0, none⟩) := (hR.fr.kept rfl (by simp [hT])).trans (by rw [hT]; rfl)
            clear hi' hdep hl0
            unfold wpOp
            simp [Region.wanted]
            refine .inl ?_
            unfold Oper.wp
            simp [execOp, go_sem, Act.eval, k2]
            exact ⟨vs, gs, hR.plain (by omega) (by omega) rfl rfl⟩
          · simp at ho
            subst ho
            simp [Region.binds] at hdep
            have k3 : a.tmps.getD 30 undef = .pointer (some ⟨w.heap.size + 1, 2, none⟩) := hR.fr.done (i := 3) rfl (by simp_all) (by simp [hT])
            clear hi' hdep hl0
            unfold wpOp
            simp [Region.wanted]
            refine .inl ?_
            unfold Oper.wp
            simp [execOp, go_sem, Act.eval, k3, Y2, Y3]
            exact ⟨vs, gs, hR.plain (by omega) (by omega) rfl rfl⟩
          · simp at ho
            subst ho
            simp [Region.binds] at hdep
            have k4 : a.tmps.getD 31 undef = .agg #[.bool p1, .slice x1 m1 d1] := hR.fr.done (i := 4) rfl (by simp_all) (by simp [hT])
            clear hi' hdep
            unfold wpOp
            simp [Region.wanted]
            refine .inl ?_
            unfold Oper.wp
            simp [execOp, go_sem, Act.eval, k4]
            refine (HC1.out w' hbw).mono ?_
            rintro e w'' ⟨neg, ao, n, cap, z, rfl, hn, hA, hb⟩
            exact ⟨_, gs, hR.call (t := 1) (by omega) hl0 rfl (.inr (by omega)) ⟨neg, ao, n, cap, z, rfl, hn, hA⟩ hb⟩
          · simp at ho
            subst ho
            simp [Region.binds] at hdep
            clear hi' hdep
            unfold wpOp
            simp [Region.wanted]
            refine .inl ?_
            unfold Oper.wp
            simp [execOp, go_sem, Act.eval]
            exact ⟨vs, _, hR.alloc (t := 0) (by omega) hl0 rfl (.inr (by omega))⟩
          · simp at ho
            subst ho
            simp [Region.binds] at hdep
            clear hi' hdep
            unfold wpOp
            simp [Region.wanted]
            refine .inl ?_
            unfold Oper.wp
            simp [execOp, go_sem, Act.eval]
            exact ⟨vs, _, hR.alloc (t := 1) (by omega) hl0 rfl (.inr (by omega))⟩
          · simp at ho
            subst ho
            simp [Region.binds] at hdep
            have j1 : l.getD 6 true = true := getD_true (by simp_all)
            have j2 : l.getD 2 true = true := getD_true (by simp_all)
            have k5 : a.tmps.getD 11 undef = .pointer (some ⟨gs 0, 0, none⟩) := hR.fr.done (i := 6) rfl (by simp_all) (by simp [hT])
            have k6 : a.tmps.getD 29 undef = vs 0 := hR.fr.done (i := 2) rfl (by simp_all) (by simp [hT])
            obtain ⟨neg, ao, n, cap, z, ev, _⟩ := hR.val 0 (by omega) j2
            rw [ev] at k6
            obtain ⟨x0, x1, x2, x3, x4⟩ := hR.ready (t := 0) (by omega) hl0 j1
            clear hi' hdep
            unfold wpOp
            simp [Region.wanted]
            refine .inl ?_
            unfold Oper.wp
            simp [execOp, go_sem, Act.eval, k5, k6, x0, x1, x2, x3, x4]
            exact ⟨vs, gs, hR.store (t := 0) (by omega) hl0 j1 j2 ev undef⟩
          · simp at ho
            subst ho
            simp [Region.binds] at hdep
            have j1 : l.getD 7 true = true := getD_true (by simp_all)
            have j2 : l.getD 5 true = true := getD_true (by simp_all)
            have k5 : a.tmps.getD 12 undef = .pointer (some ⟨gs 1, 0, none⟩) := hR.fr.done (i := 7) rfl (by simp_all) (by simp [hT])
            have k6 : a.tmps.getD 32 undef = vs 1 := hR.fr.done (i := 5) rfl (by simp_all) (by simp [hT])
            obtain ⟨neg, ao, n, cap, z, ev, _⟩ := hR.val 1 (by omega) j2
            rw [ev] at k6
            obtain ⟨x0, x1, x2, x3, x4⟩ := hR.ready (t := 1) (by omega) hl0 j1
            clear hi' hdep
            unfold wpOp
            simp [Region.wanted]
            refine .inl ?_
            unfold Oper.wp
            simp [execOp, go_sem, Act.eval, k5, k6, x0, x1, x2, x3, x4]
            exact ⟨vs, gs, hR.store (t := 1) (by omega) hl0 j1 j2 ev undef⟩
      case' finc =>
          rintro l a W ⟨vs, gs, hR⟩ hz
          have hnot := List.eq_nil_iff_forall_not_mem.1 hz
          have hk : ∀ k, k < 10 → (l.getD k true = false → False) → l.getD k false = true := fun k h12 h => by
            have hs := hR.size
            cases h' : l.getD k true with
            | false => exact (h h').elim
            | true => simp [Array.getD, hs, h12] at h' ⊢; exact h'
          have st0 := hk 0 (by omega) (fun h => hnot 0 (mem_ready.2 ⟨h, _, rfl, by simp [Region.binds]⟩))
          have st1 := hk 1 (by omega) (fun h => hnot 1 (mem_ready.2 ⟨h, _, rfl, by simp [Region.binds]; simp_all⟩))
          have st2 := hk 2 (by omega) (fun h => hnot 2 (mem_ready.2 ⟨h, _, rfl, by simp [Region.binds]; simp_all⟩))
          have st3 := hk 3 (by omega) (fun h => hnot 3 (mem_ready.2 ⟨h, _, rfl, by simp [Region.binds]⟩))
          have st4 := hk 4 (by omega) (fun h => hnot 4 (mem_ready.2 ⟨h, _, rfl, by simp [Region.binds]; simp_all⟩))
          have st5 := hk 5 (by omega) (fun h => hnot 5 (mem_ready.2 ⟨h, _, rfl, by simp [Region.binds]; simp_all⟩))
          have st6 := hk 6 (by omega) (fun h => hnot 6 (mem_ready.2 ⟨h, _, rfl, by simp [Region.binds]⟩))
          have st7 := hk 7 (by omega) (fun h => hnot 7 (mem_ready.2 ⟨h, _, rfl, by simp [Region.binds]⟩))
          have st8 := hk 8 (by omega) (fun h => hnot 8 (mem_ready.2 ⟨h, _, rfl, by simp [Region.binds]; simp_all⟩))
          have st9 := hk 9 (by omega) (fun h => hnot 9 (mem_ready.2 ⟨h, _, rfl, by simp [Region.binds]; simp_all⟩))
          have hall : ∀ i, i < 10 → l.getD i true = true := fun i hi => by
            rcases (show i = 0 ∨ i = 1 ∨ i = 2 ∨ i = 3 ∨ i = 4 ∨ i = 5 ∨ i = 6 ∨ i = 7 ∨ i = 8 ∨ i = 9 by omega) with rfl | rfl | rfl | rfl | rfl | rfl | rfl | rfl | rfl | rfl
            · exact getD_true st0
            · exact getD_true st1
            · exact getD_true st2
            · exact getD_true st3
            · exact getD_true st4
            · exact getD_true st5
            · exact getD_true st6
            · exact getD_true st7
            · exact getD_true st8
            · exact getD_true st9
          clear st0 st1 st2 st3 st4 st5 st6 st7 st8 st9 hk hnot hz
          obtain ⟨n11, a11, l11, c11, U, ev0, B11, HU⟩ := hR.bx (t := 0) (by omega) (hall 8 (by omega))
          obtain ⟨n12, a12, l12, c12, V, ev1, B12, HV⟩ := hR.bx (t := 1) (by omega) (hall 9 (by omega))
          have hTs : T.size = 73 := by rw [hT]; rfl
          have ha : a = ⟨((((((((T.setIfInBounds 27 (.pointer (some ⟨w.heap.size + 1, 0, none⟩))).setIfInBounds 28 (.agg #[.bool p0, .slice x0 m0 d0])).setIfInBounds 29 (vs 0)).setIfInBounds 30 (.pointer (some ⟨w.heap.size + 1, 2, none⟩))).setIfInBounds 31 (.agg #[.bool p1, .slice x1 m1 d1])).setIfInBounds 32 (vs 1)).setIfInBounds 11 (.pointer (some ⟨gs 0, 0, none⟩))).setIfInBounds 12 (.pointer (some ⟨gs 1, 0, none⟩))), []⟩ := by
            refine hR.fr.all (fun j i v h => hall i (by have := mOwnC_lt h; simp only [] at this; omega)) (by simp) (fun j hj => ?_)
            by_cases h1 : 27 ≤ j ∧ j < 33
            · rcases (show j = 27 ∨ j = 28 ∨ j = 29 ∨ j = 30 ∨ j = 31 ∨ j = 32 by omega) with rfl | rfl | rfl | rfl | rfl | rfl <;> simp [sets_getD, mOwnC, hTs]
            · by_cases h2 : 11 ≤ j ∧ j < 13
              · rcases (show j = 11 ∨ j = 12 by omega) with rfl | rfl <;> simp [sets_getD, mOwnC, hTs]
              · have e : mOwnC 2 27 11 (w.heap.size + 1) (fun t => if t = 0 then .agg #[.bool p0, .slice x0 m0 d0] else .agg #[.bool p1, .slice x1 m1 d1]) vs gs j = none := by
                  unfold mOwnC
                  rw [if_neg (by omega), if_neg (by omega)]
                rw [e]
                simp only [sets_getD]
                repeat rw [if_neg (by omega)]
          have hbl := hR.bl
          clear hR hall
          rw [ev0, ev1] at ha
          obtain ⟨g11, hg11⟩ : ∃ g11, g11 = gs 0 := ⟨_, rfl⟩
          obtain ⟨g12, hg12⟩ : ∃ g12, g12 = gs 1 := ⟨_, rfl⟩
          rw [← hg11] at ha B11
          rw [← hg12] at ha B12
          have ha2 : a = ⟨#[.agg #[.slice s0 n0 c0, .slice s1 n1 c1], .int .u16 L, .agg #[.bool p0, .slice x0 m0 d0, .bool p1, .slice x1 m1 d1], .pointer (some ⟨w.heap.size, 0, none⟩), undef, .pointer (some ⟨w.heap.size + 1, 0, none⟩), .bool false, .bool true, .pointer (some ⟨g8, 0, none⟩), .pointer (some ⟨g9, 0, none⟩), .pointer (some ⟨g10, 0, none⟩), .pointer (some ⟨g11, 0, none⟩), .pointer (some ⟨g12, 0, none⟩), undef, undef, .bool true, .pointer (some ⟨w.heap.size, 0, none⟩), .slice s0 n0 c0, .agg #[.bool n8, .slice a8 l8 c8], .pointer (some ⟨w.heap.size, 1, none⟩), .slice s1 n1 c1, .agg #[.bool n9, .slice a9 l9 c9], .agg #[.bool n8, .slice a8 l8 c8], .int .u16 L, .int .i64 L, .int .i64 (L % 257), .agg #[.bool n8, .slice a10 l10 c10], .pointer (some ⟨w.heap.size + 1, 0, none⟩), .agg #[.bool p0, .slice x0 m0 d0], .agg #[.bool n11, .slice a11 l11 c11], .pointer (some ⟨w.heap.size + 1, 2, none⟩), .agg #[.bool p1, .slice x1 m1 d1], .agg #[.bool n12, .slice a12 l12 c12], undef, undef, undef, undef, undef, undef, undef, undef, undef, undef, undef, undef, undef, undef, undef, undef, undef, undef, undef, undef, undef, undef, undef, undef, undef, undef, undef, undef, undef, undef, undef, undef, undef, undef, undef, undef, undef, undef, undef, undef], []⟩ := by
            rw [ha, hT]
            simp only [List.setIfInBounds_toArray, List.set_cons_succ, List.set_cons_zero]
          subst ha2
          have B11 := Lib.hid B11
          have B12 := Lib.hid B12
          have HU := Lib.hid HU
          have HV := Lib.hid HV
          have HWW := step1 HW HZ hbl
          have HDD := step1 HD HE hbl
          have HW := HWW.1
          have HZ := HWW.2
          have HD := HDD.1
          have HE := HDD.2
          have C8 := Lib.hid (C8.out.below hbl)
          have C9 := Lib.hid (C9.out.below hbl)
          have C10 := Lib.hid (C10.out.below hbl)
          clear HWW HDD hbl ha hT hTs ev0 ev1 hg11 hg12 vs gs k0 k1 hW1
          have S8 := Lib.hid C8.out.sl
          have e8 := C8.out.c0
          have f8 := C8.out.c1
          have S9 := Lib.hid C9.out.sl
          have e9 := C9.out.c0
          have f9 := C9.out.c1
          have S10 := Lib.hid C10.out.sl
          have e10 := C10.out.c0
          have f10 := C10.out.c1
          have S11 := Lib.hid B11.out.sl
          have e11 := B11.out.c0
          have f11 := B11.out.c1
          have S12 := Lib.hid B12.out.sl
          have e12 := B12.out.c0
          have f12 := B12.out.c1
          clear HC0 HC1 HBR HU HV
          go_wp2
          have hb : Below W.heap.size W (W.alloc (.cells #[.bool n8, .slice a8 l8 c8, .bool n9, .slice a9 l9 c9, .bool n8, .slice a10 l10 c10, .bool n9, .slice a9 l9 c9, .bool n8, .slice a10 l10 c10, .bool n8, .slice a10 l10 c10, .bool n11, .slice a11 l11 c11, .bool n12, .slice a12 l12 c12, .bool n11, .slice a11 l11 c11, .bool n8, .slice a8 l8 c8, .bool n9, .slice a9 l9 c9, .bool n11, .slice a11 l11 c11] 28)) := alloc_b _ _
          have HK : Hid (Blk (W.alloc (.cells #[.bool n8, .slice a8 l8 c8, .bool n9, .slice a9 l9 c9, .bool n8, .slice a10 l10 c10, .bool n9, .slice a9 l9 c9, .bool n8, .slice a10 l10 c10, .bool n8, .slice a10 l10 c10, .bool n11, .slice a11 l11 c11, .bool n12, .slice a12 l12 c12, .bool n11, .slice a11 l11 c11, .bool n8, .slice a8 l8 c8, .bool n9, .slice a9 l9 c9, .bool n11, .slice a11 l11 c11] 28)) W.heap.size #[.bool n8, .slice a8 l8 c8, .bool n9, .slice a9 l9 c9, .bool n8, .slice a10 l10 c10, .bool n9, .slice a9 l9 c9, .bool n8, .slice a10 l10 c10, .bool n8, .slice a10 l10 c10, .bool n11, .slice a11 l11 c11, .bool n12, .slice a12 l12 c12, .bool n11, .slice a11 l11 c11, .bool n8, .slice a8 l8 c8, .bool n9, .slice a9 l9 c9, .bool n11, .slice a11 l11 c11] 28) := Lib.hid (heap_alloc_new _ _)
          have S8 := Lib.hid (show Sl (W.alloc (.cells #[.bool n8, .slice a8 l8 c8, .bool n9, .slice a9 l9 c9, .bool n8, .slice a10 l10 c10, .bool n9, .slice a9 l9 c9, .bool n8, .slice a10 l10 c10, .bool n8, .slice a10 l10 c10, .bool n11, .slice a11 l11 c11, .bool n12, .slice a12 l12 c12, .bool n11, .slice a11 l11 c11, .bool n8, .slice a8 l8 c8, .bool n9, .slice a9 l9 c9, .bool n11, .slice a11 l11 c11] 28)) (.slice a8 l8 c8) _ ∧ _ from ⟨S8.out.1.below hb, S8.out.2⟩)
          have S9 := Lib.hid (show Sl (W.alloc (.cells #[.bool n8, .slice a8 l8 c8, .bool n9, .slice a9 l9 c9, .bool n8, .slice a10 l10 c10, .bool n9, .slice a9 l9 c9, .bool n8, .slice a10 l10 c10, .bool n8, .slice a10 l10 c10, .bool n11, .slice a11 l11 c11, .bool n12, .slice a12 l12 c12, .bool n11, .slice a11 l11 c11, .bool n8, .slice a8 l8 c8, .bool n9, .slice a9 l9 c9, .bool n11, .slice a11 l11 c11] 28)) (.slice a9 l9 c9) _ ∧ _ from ⟨S9.out.1.below hb, S9.out.2⟩)
          have S10 := Lib.hid (show Sl (W.alloc (.cells #[.bool n8, .slice a8 l8 c8, .bool n9, .slice a9 l9 c9, .bool n8, .slice a10 l10 c10, .bool n9, .slice a9 l9 c9, .bool n8, .slice a10 l10 c10, .bool n8, .slice a10 l10 c10, .bool n11, .slice a11 l11 c11, .bool n12, .slice a12 l12 c12, .bool n11, .slice a11 l11 c11, .bool n8, .slice a8 l8 c8, .bool n9, .slice a9 l9 c9, .bool n11, .slice a11 l11 c11] 28)) (.slice a10 l10 c10) _ ∧ _ from ⟨S10.out.1.below hb, S10.out.2⟩)
          have S11 := Lib.hid (show Sl (W.alloc (.cells #[.bool n8, .slice a8 l8 c8, .bool n9, .slice a9 l9 c9, .bool n8, .slice a10 l10 c10, .bool n9, .slice a9 l9 c9, .bool n8, .slice a10 l10 c10, .bool n8, .slice a10 l10 c10, .bool n11, .slice a11 l11 c11, .bool n12, .slice a12 l12 c12, .bool n11, .slice a11 l11 c11, .bool n8, .slice a8 l8 c8, .bool n9, .slice a9 l9 c9, .bool n11, .slice a11 l11 c11] 28)) (.slice a11 l11 c11) _ ∧ _ from ⟨S11.out.1.below hb, S11.out.2⟩)
          have S12 := Lib.hid (show Sl (W.alloc (.cells #[.bool n8, .slice a8 l8 c8, .bool n9, .slice a9 l9 c9, .bool n8, .slice a10 l10 c10, .bool n9, .slice a9 l9 c9, .bool n8, .slice a10 l10 c10, .bool n8, .slice a10 l10 c10, .bool n11, .slice a11 l11 c11, .bool n12, .slice a12 l12 c12, .bool n11, .slice a11 l11 c11, .bool n8, .slice a8 l8 c8, .bool n9, .slice a9 l9 c9, .bool n11, .slice a11 l11 c11] 28)) (.slice a12 l12 c12) _ ∧ _ from ⟨S12.out.1.below hb, S12.out.2⟩)
          have HWW := step1 HW HZ hb
          have HW := HWW.1
          have HZ := HWW.2
          clear HWW hb e8 f8 e9 f9 e10 f10 e11 f11 e12 f12 C8 C9 C10 B11 B12
          revert HW
          revert HZ
          revert HK
          revert S8
          revert S9
          revert S10
          revert S11
          revert S12
          generalize (W.alloc (.cells #[.bool n8, .slice a8 l8 c8, .bool n9, .slice a9 l9 c9, .bool n8, .slice a10 l10 c10, .bool n9, .slice a9 l9 c9, .bool n8, .slice a10 l10 c10, .bool n8, .slice a10 l10 c10, .bool n11, .slice a11 l11 c11, .bool n12, .slice a12 l12 c12, .bool n11, .slice a11 l11 c11, .bool n8, .slice a8 l8 c8, .bool n9, .slice a9 l9 c9, .bool n11, .slice a11 l11 c11] 28)) = W10
          generalize W.heap.size = g51
          intro S12 S11 S10 S9 S8 HK HZ HW
          have A8_9 : Hid (∀ V, Below W10.heap.size W10 V → Calls Tryz.prog 14 #[.agg #[.bool n8, .slice a8 l8 c8], .agg #[.bool n9, .slice a9 l9 c9]] V (fun e w' => e = .returned (.bool true) ∧ Below V.heap.size V w')) := Lib.hid (fun V hV => adds_any (S8.out.1.below hV) (S9.out.1.below hV) (by have := S8.out.2; omega) (by have := S9.out.2; omega))
          have A9_8 : Hid (∀ V, Below W10.heap.size W10 V → Calls Tryz.prog 14 #[.agg #[.bool n9, .slice a9 l9 c9], .agg #[.bool n8, .slice a8 l8 c8]] V (fun e w' => e = .returned (.bool true) ∧ Below V.heap.size V w')) := Lib.hid (fun V hV => adds_any (S9.out.1.below hV) (S8.out.1.below hV) (by have := S9.out.2; omega) (by have := S8.out.2; omega))
          have A10_9 : Hid (∀ V, Below W10.heap.size W10 V → Calls Tryz.prog 14 #[.agg #[.bool n8, .slice a10 l10 c10], .agg #[.bool n9, .slice a9 l9 c9]] V (fun e w' => e = .returned (.bool true) ∧ Below V.heap.size V w')) := Lib.hid (fun V hV => adds_any (S10.out.1.below hV) (S9.out.1.below hV) (by have := S10.out.2; omega) (by have := S9.out.2; omega))
          have A9_10 : Hid (∀ V, Below W10.heap.size W10 V → Calls Tryz.prog 14 #[.agg #[.bool n9, .slice a9 l9 c9], .agg #[.bool n8, .slice a10 l10 c10]] V (fun e w' => e = .returned (.bool true) ∧ Below V.heap.size V w')) := Lib.hid (fun V hV => adds_any (S9.out.1.below hV) (S10.out.1.below hV) (by have := S9.out.2; omega) (by have := S10.out.2; omega))
          have A10_10 : Hid (∀ V, Below W10.heap.size W10 V → Calls Tryz.prog 14 #[.agg #[.bool n8, .slice a10 l10 c10], .agg #[.bool n8, .slice a10 l10 c10]] V (fun e w' => e = .returned (.bool true) ∧ Below V.heap.size V w')) := Lib.hid (fun V hV => adds_any (S10.out.1.below hV) (S10.out.1.below hV) (by have := S10.out.2; omega) (by have := S10.out.2; omega))
          have A11_12 : Hid (∀ V, Below W10.heap.size W10 V → Calls Tryz.prog 14 #[.agg #[.bool n11, .slice a11 l11 c11], .agg #[.bool n12, .slice a12 l12 c12]] V (fun e w' => e = .returned (.bool true) ∧ Below V.heap.size V w')) := Lib.hid (fun V hV => adds_any (S11.out.1.below hV) (S12.out.1.below hV) (by have := S11.out.2; omega) (by have := S12.out.2; omega))
          have A12_11 : Hid (∀ V, Below W10.heap.size W10 V → Calls Tryz.prog 14 #[.agg #[.bool n12, .slice a12 l12 c12], .agg #[.bool n11, .slice a11 l11 c11]] V (fun e w' => e = .returned (.bool true) ∧ Below V.heap.size V w')) := Lib.hid (fun V hV => adds_any (S12.out.1.below hV) (S11.out.1.below hV) (by have := S12.out.2; omega) (by have := S11.out.2; omega))
          have A11_8 : Hid (∀ V, Below W10.heap.size W10 V → Calls Tryz.prog 14 #[.agg #[.bool n11, .slice a11 l11 c11], .agg #[.bool n8, .slice a8 l8 c8]] V (fun e w' => e = .returned (.bool true) ∧ Below V.heap.size V w')) := Lib.hid (fun V hV => adds_any (S11.out.1.below hV) (S8.out.1.below hV) (by have := S11.out.2; omega) (by have := S8.out.2; omega))
          have A8_11 : Hid (∀ V, Below W10.heap.size W10 V → Calls Tryz.prog 14 #[.agg #[.bool n8, .slice a8 l8 c8], .agg #[.bool n11, .slice a11 l11 c11]] V (fun e w' => e = .returned (.bool true) ∧ Below V.heap.size V w')) := Lib.hid (fun V hV => adds_any (S8.out.1.below hV) (S11.out.1.below hV) (by have := S8.out.2; omega) (by have := S11.out.2; omega))
          have A9_11 : Hid (∀ V, Below W10.heap.size W10 V → Calls Tryz.prog 14 #[.agg #[.bool n9, .slice a9 l9 c9], .agg #[.bool n11, .slice a11 l11 c11]] V (fun e w' => e = .returned (.bool true) ∧ Below V.heap.size V w')) := Lib.hid (fun V hV => adds_any (S9.out.1.below hV) (S11.out.1.below hV) (by have := S9.out.2; omega) (by have := S11.out.2; omega))
          have A11_9 : Hid (∀ V, Below W10.heap.size W10 V → Calls Tryz.prog 14 #[.agg #[.bool n11, .slice a11 l11 c11], .agg #[.bool n9, .slice a9 l9 c9]] V (fun e w' => e = .returned (.bool true) ∧ Below V.heap.size V w')) := Lib.hid (fun V hV => adds_any (S11.out.1.below hV) (S9.out.1.below hV) (by have := S11.out.2; omega) (by have := S9.out.2; omega))
          clear S8 S9 S10 S11 S12
          go_loopw [53] (fun kv wr => ∃ i : Int, (i = 0 ∨ i = 1 ∨ i = 2 ∨ i = 3 ∨ i = 4 ∨ i = 5 ∨ i = 6) ∧ kv = .int .i64 i ∧ Hid (Below W10.heap.size W10 wr)) (fun kv _ => (6 - intOf kv).toNat)
          case atStart => exact ⟨0, by omega, rfl, Lib.hid (Below.refl _ _)⟩
          case round =>
            obtain ⟨i, hi, rfl, HQ⟩ := hrel
            have HK2 := Lib.hid (HK.out.below HQ.out)
            rcases hi with rfl | rfl | rfl | rfl | rfl | rfl | rfl
            · have y0 : wr.cell? ⟨g51, 0, none⟩ = some (.bool n8) := HK2.out.cell 0 rfl
              have y1 : wr.cell? ⟨g51, 1, none⟩ = some (.slice a8 l8 c8) := HK2.out.cell 1 rfl
              have y2 : wr.cell? ⟨g51, 2, none⟩ = some (.bool n9) := HK2.out.cell 2 rfl
              have y3 : wr.cell? ⟨g51, 3, none⟩ = some (.slice a9 l9 c9) := HK2.out.cell 3 rfl
              go_upto_region 8 with fail
              have hb : Below wr.heap.size wr (wr.alloc (.cells #[.bool n8, .slice a8 l8 c8, .bool n9, .slice a9 l9 c9] 28)) := alloc_b _ _
              have HX : Hid (Blk (wr.alloc (.cells #[.bool n8, .slice a8 l8 c8, .bool n9, .slice a9 l9 c9] 28)) wr.heap.size #[.bool n8, .slice a8 l8 c8, .bool n9, .slice a9 l9 c9] 28) := Lib.hid (heap_alloc_new _ _)
              have HQ := Lib.hid (HQ.out.trans (hb.mono HQ.out.size))
              clear hb y0 y1 y2 y3
              revert HQ
              revert HX
              generalize (wr.alloc (.cells #[.bool n8, .slice a8 l8 c8, .bool n9, .slice a9 l9 c9] 28)) = W12
              generalize wr.heap.size = g14
              intro HX HQ
              have y0 := HX.out.cell 0 (v := .bool n8) rfl
              have y1 := HX.out.cell 1 (v := .slice a8 l8 c8) rfl
              have y2 := HX.out.cell 2 (v := .bool n9) rfl
              have y3 := HX.out.cell 3 (v := .slice a9 l9 c9) rfl
              go_wp2_with (first | (go_at_call 14; (with_reducible refine (A8_9.out _ HQ.out).mono ?_); rintro e wn ⟨rfl, hb⟩; have HX := Lib.hid (HX.out.below hb); have HQ := Lib.hid (HQ.out.trans (hb.mono HQ.out.size)); clear hb; have y0 := HX.out.cell 0 (v := .bool n8) rfl; have y1 := HX.out.cell 1 (v := .slice a8 l8 c8) rfl; have y2 := HX.out.cell 2 (v := .bool n9) rfl; have y3 := HX.out.cell 3 (v := .slice a9 l9 c9) rfl) | (go_at_call 14; (with_reducible refine (A9_8.out _ HQ.out).mono ?_); rintro e wn ⟨rfl, hb⟩; have HX := Lib.hid (HX.out.below hb); have HQ := Lib.hid (HQ.out.trans (hb.mono HQ.out.size)); clear hb; have y0 := HX.out.cell 0 (v := .bool n8) rfl; have y1 := HX.out.cell 1 (v := .slice a8 l8 c8) rfl; have y2 := HX.out.cell 2 (v := .bool n9) rfl; have y3 := HX.out.cell 3 (v := .slice a9 l9 c9) rfl))
              go_roundw
              case rel => exact ⟨1, by omega, rfl, HQ⟩
              case measure => simp [intOf]
            · have y0 : wr.cell? ⟨g51, 4, none⟩ = some (.bool n8) := HK2.out.cell 4 rfl
              have y1 : wr.cell? ⟨g51, 5, none⟩ = some (.slice a10 l10 c10) := HK2.out.cell 5 rfl
              have y2 : wr.cell? ⟨g51, 6, none⟩ = some (.bool n9) := HK2.out.cell 6 rfl
              have y3 : wr.cell? ⟨g51, 7, none⟩ = some (.slice a9 l9 c9) := HK2.out.cell 7 rfl
              go_upto_region 8 with fail
              have hb : Below wr.heap.size wr (wr.alloc (.cells #[.bool n8, .slice a10 l10 c10, .bool n9, .slice a9 l9 c9] 28)) := alloc_b _ _
              have HX : Hid (Blk (wr.alloc (.cells #[.bool n8, .slice a10 l10 c10, .bool n9, .slice a9 l9 c9] 28)) wr.heap.size #[.bool n8, .slice a10 l10 c10, .bool n9, .slice a9 l9 c9] 28) := Lib.hid (heap_alloc_new _ _)
              have HQ := Lib.hid (HQ.out.trans (hb.mono HQ.out.size))
              clear hb y0 y1 y2 y3
              revert HQ
              revert HX
              generalize (wr.alloc (.cells #[.bool n8, .slice a10 l10 c10, .bool n9, .slice a9 l9 c9] 28)) = W12
              generalize wr.heap.size = g14
              intro HX HQ
              have y0 := HX.out.cell 0 (v := .bool n8) rfl
              have y1 := HX.out.cell 1 (v := .slice a10 l10 c10) rfl
              have y2 := HX.out.cell 2 (v := .bool n9) rfl
              have y3 := HX.out.cell 3 (v := .slice a9 l9 c9) rfl
              go_wp2_with (first | (go_at_call 14; (with_reducible refine (A10_9.out _ HQ.out).mono ?_); rintro e wn ⟨rfl, hb⟩; have HX := Lib.hid (HX.out.below hb); have HQ := Lib.hid (HQ.out.trans (hb.mono HQ.out.size)); clear hb; have y0 := HX.out.cell 0 (v := .bool n8) rfl; have y1 := HX.out.cell 1 (v := .slice a10 l10 c10) rfl; have y2 := HX.out.cell 2 (v := .bool n9) rfl; have y3 := HX.out.cell 3 (v := .slice a9 l9 c9) rfl) | (go_at_call 14; (with_reducible refine (A9_10.out _ HQ.out).mono ?_); rintro e wn ⟨rfl, hb⟩; have HX := Lib.hid (HX.out.below hb); have HQ := Lib.hid (HQ.out.trans (hb.mono HQ.out.size)); clear hb; have y0 := HX.out.cell 0 (v := .bool n8) rfl; have y1 := HX.out.cell 1 (v := .slice a10 l10 c10) rfl; have y2 := HX.out.cell 2 (v := .bool n9) rfl; have y3 := HX.out.cell 3 (v := .slice a9 l9 c9) rfl))
              go_roundw
              case rel => exact ⟨2, by omega, rfl, HQ⟩
              case measure => simp [intOf]
            · have y0 : wr.cell? ⟨g51, 8, none⟩ = some (.bool n8) := HK2.out.cell 8 rfl
              have y1 : wr.cell? ⟨g51, 9, none⟩ = some (.slice a10 l10 c10) := HK2.out.cell 9 rfl
              have y2 : wr.cell? ⟨g51, 10, none⟩ = some (.bool n8) := HK2.out.cell 10 rfl
              have y3 : wr.cell? ⟨g51, 11, none⟩ = some (.slice a10 l10 c10) := HK2.out.cell 11 rfl
              go_upto_region 8 with fail
              have hb : Below wr.heap.size wr (wr.alloc (.cells #[.bool n8, .slice a10 l10 c10, .bool n8, .slice a10 l10 c10] 28)) := alloc_b _ _
              have HX : Hid (Blk (wr.alloc (.cells #[.bool n8, .slice a10 l10 c10, .bool n8, .slice a10 l10 c10] 28)) wr.heap.size #[.bool n8, .slice a10 l10 c10, .bool n8, .slice a10 l10 c10] 28) := Lib.hid (heap_alloc_new _ _)
              have HQ := Lib.hid (HQ.out.trans (hb.mono HQ.out.size))
              clear hb y0 y1 y2 y3
              revert HQ
              revert HX
              generalize (wr.alloc (.cells #[.bool n8, .slice a10 l10 c10, .bool n8, .slice a10 l10 c10] 28)) = W12
              generalize wr.heap.size = g14
              intro HX HQ
              have y0 := HX.out.cell 0 (v := .bool n8) rfl
              have y1 := HX.out.cell 1 (v := .slice a10 l10 c10) rfl
              have y2 := HX.out.cell 2 (v := .bool n8) rfl
              have y3 := HX.out.cell 3 (v := .slice a10 l10 c10) rfl
              go_wp2_with (go_at_call 14; (with_reducible refine (A10_10.out _ HQ.out).mono ?_); rintro e wn ⟨rfl, hb⟩; have HX := Lib.hid (HX.out.below hb); have HQ := Lib.hid (HQ.out.trans (hb.mono HQ.out.size)); clear hb; have y0 := HX.out.cell 0 (v := .bool n8) rfl; have y1 := HX.out.cell 1 (v := .slice a10 l10 c10) rfl; have y2 := HX.out.cell 2 (v := .bool n8) rfl; have y3 := HX.out.cell 3 (v := .slice a10 l10 c10) rfl)
              go_roundw
              case rel => exact ⟨3, by omega, rfl, HQ⟩
              case measure => simp [intOf]
            · have y0 : wr.cell? ⟨g51, 12, none⟩ = some (.bool n11) := HK2.out.cell 12 rfl
              have y1 : wr.cell? ⟨g51, 13, none⟩ = some (.slice a11 l11 c11) := HK2.out.cell 13 rfl
              have y2 : wr.cell? ⟨g51, 14, none⟩ = some (.bool n12) := HK2.out.cell 14 rfl
              have y3 : wr.cell? ⟨g51, 15, none⟩ = some (.slice a12 l12 c12) := HK2.out.cell 15 rfl
              go_upto_region 8 with fail
              have hb : Below wr.heap.size wr (wr.alloc (.cells #[.bool n11, .slice a11 l11 c11, .bool n12, .slice a12 l12 c12] 28)) := alloc_b _ _
              have HX : Hid (Blk (wr.alloc (.cells #[.bool n11, .slice a11 l11 c11, .bool n12, .slice a12 l12 c12] 28)) wr.heap.size #[.bool n11, .slice a11 l11 c11, .bool n12, .slice a12 l12 c12] 28) := Lib.hid (heap_alloc_new _ _)
              have HQ := Lib.hid (HQ.out.trans (hb.mono HQ.out.size))
              clear hb y0 y1 y2 y3
              revert HQ
              revert HX
              generalize (wr.alloc (.cells #[.bool n11, .slice a11 l11 c11, .bool n12, .slice a12 l12 c12] 28)) = W12
              generalize wr.heap.size = g14
              intro HX HQ
              have y0 := HX.out.cell 0 (v := .bool n11) rfl
              have y1 := HX.out.cell 1 (v := .slice a11 l11 c11) rfl
              have y2 := HX.out.cell 2 (v := .bool n12) rfl
              have y3 := HX.out.cell 3 (v := .slice a12 l12 c12) rfl
              go_wp2_with (first | (go_at_call 14; (with_reducible refine (A11_12.out _ HQ.out).mono ?_); rintro e wn ⟨rfl, hb⟩; have HX := Lib.hid (HX.out.below hb); have HQ := Lib.hid (HQ.out.trans (hb.mono HQ.out.size)); clear hb; have y0 := HX.out.cell 0 (v := .bool n11) rfl; have y1 := HX.out.cell 1 (v := .slice a11 l11 c11) rfl; have y2 := HX.out.cell 2 (v := .bool n12) rfl; have y3 := HX.out.cell 3 (v := .slice a12 l12 c12) rfl) | (go_at_call 14; (with_reducible refine (A12_11.out _ HQ.out).mono ?_); rintro e wn ⟨rfl, hb⟩; have HX := Lib.hid (HX.out.below hb); have HQ := Lib.hid (HQ.out.trans (hb.mono HQ.out.size)); clear hb; have y0 := HX.out.cell 0 (v := .bool n11) rfl; have y1 := HX.out.cell 1 (v := .slice a11 l11 c11) rfl; have y2 := HX.out.cell 2 (v := .bool n12) rfl; have y3 := HX.out.cell 3 (v := .slice a12 l12 c12) rfl))
              go_roundw
              case rel => exact ⟨4, by omega, rfl, HQ⟩
              case measure => simp [intOf]
            · have y0 : wr.cell? ⟨g51, 16, none⟩ = some (.bool n11) := HK2.out.cell 16 rfl
              have y1 : wr.cell? ⟨g51, 17, none⟩ = some (.slice a11 l11 c11) := HK2.out.cell 17 rfl
              have y2 : wr.cell? ⟨g51, 18, none⟩ = some (.bool n8) := HK2.out.cell 18 rfl
              have y3 : wr.cell? ⟨g51, 19, none⟩ = some (.slice a8 l8 c8) := HK2.out.cell 19 rfl
              go_upto_region 8 with fail
              have hb : Below wr.heap.size wr (wr.alloc (.cells #[.bool n11, .slice a11 l11 c11, .bool n8, .slice a8 l8 c8] 28)) := alloc_b _ _
              have HX : Hid (Blk (wr.alloc (.cells #[.bool n11, .slice a11 l11 c11, .bool n8, .slice a8 l8 c8] 28)) wr.heap.size #[.bool n11, .slice a11 l11 c11, .bool n8, .slice a8 l8 c8] 28) := Lib.hid (heap_alloc_new _ _)
              have HQ := Lib.hid (HQ.out.trans (hb.mono HQ.out.size))
              clear hb y0 y1 y2 y3
              revert HQ
              revert HX
              generalize (wr.alloc (.cells #[.bool n11, .slice a11 l11 c11, .bool n8, .slice a8 l8 c8] 28)) = W12
              generalize wr.heap.size = g14
              intro HX HQ
              have y0 := HX.out.cell 0 (v := .bool n11) rfl
              have y1 := HX.out.cell 1 (v := .slice a11 l11 c11) rfl
              have y2 := HX.out.cell 2 (v := .bool n8) rfl
              have y3 := HX.out.cell 3 (v := .slice a8 l8 c8) rfl
              go_wp2_with (first | (go_at_call 14; (with_reducible refine (A11_8.out _ HQ.out).mono ?_); rintro e wn ⟨rfl, hb⟩; have HX := Lib.hid (HX.out.below hb); have HQ := Lib.hid (HQ.out.trans (hb.mono HQ.out.size)); clear hb; have y0 := HX.out.cell 0 (v := .bool n11) rfl; have y1 := HX.out.cell 1 (v := .slice a11 l11 c11) rfl; have y2 := HX.out.cell 2 (v := .bool n8) rfl; have y3 := HX.out.cell 3 (v := .slice a8 l8 c8) rfl) | (go_at_call 14; (with_reducible refine (A8_11.out _ HQ.out).mono ?_); rintro e wn ⟨rfl, hb⟩; have HX := Lib.hid (HX.out.below hb); have HQ := Lib.hid (HQ.out.trans (hb.mono HQ.out.size)); clear hb; have y0 := HX.out.cell 0 (v := .bool n11) rfl; have y1 := HX.out.cell 1 (v := .slice a11 l11 c11) rfl; have y2 := HX.out.cell 2 (v := .bool n8) rfl; have y3 := HX.out.cell 3 (v := .slice a8 l8 c8) rfl))
              go_roundw
              case rel => exact ⟨5, by omega, rfl, HQ⟩
              case measure => simp [intOf]
            · have y0 : wr.cell? ⟨g51, 20, none⟩ = some (.bool n9) := HK2.out.cell 20 rfl
              have y1 : wr.cell? ⟨g51, 21, none⟩ = some (.slice a9 l9 c9) := HK2.out.cell 21 rfl
              have y2 : wr.cell? ⟨g51, 22, none⟩ = some (.bool n11) := HK2.out.cell 22 rfl
              have y3 : wr.cell? ⟨g51, 23, none⟩ = some (.slice a11 l11 c11) := HK2.out.cell 23 rfl
              go_upto_region 8 with fail
              have hb : Below wr.heap.size wr (wr.alloc (.cells #[.bool n9, .slice a9 l9 c9, .bool n11, .slice a11 l11 c11] 28)) := alloc_b _ _
              have HX : Hid (Blk (wr.alloc (.cells #[.bool n9, .slice a9 l9 c9, .bool n11, .slice a11 l11 c11] 28)) wr.heap.size #[.bool n9, .slice a9 l9 c9, .bool n11, .slice a11 l11 c11] 28) := Lib.hid (heap_alloc_new _ _)
              have HQ := Lib.hid (HQ.out.trans (hb.mono HQ.out.size))
              clear hb y0 y1 y2 y3
              revert HQ
              revert HX
              generalize (wr.alloc (.cells #[.bool n9, .slice a9 l9 c9, .bool n11, .slice a11 l11 c11] 28)) = W12
              generalize wr.heap.size = g14
              intro HX HQ
              have y0 := HX.out.cell 0 (v := .bool n9) rfl
              have y1 := HX.out.cell 1 (v := .slice a9 l9 c9) rfl
              have y2 := HX.out.cell 2 (v := .bool n11) rfl
              have y3 := HX.out.cell 3 (v := .slice a11 l11 c11) rfl
              go_wp2_with (first | (go_at_call 14; (with_reducible refine (A9_11.out _ HQ.out).mono ?_); rintro e wn ⟨rfl, hb⟩; have HX := Lib.hid (HX.out.below hb); have HQ := Lib.hid (HQ.out.trans (hb.mono HQ.out.size)); clear hb; have y0 := HX.out.cell 0 (v := .bool n9) rfl; have y1 := HX.out.cell 1 (v := .slice a9 l9 c9) rfl; have y2 := HX.out.cell 2 (v := .bool n11) rfl; have y3 := HX.out.cell 3 (v := .slice a11 l11 c11) rfl) | (go_at_call 14; (with_reducible refine (A11_9.out _ HQ.out).mono ?_); rintro e wn ⟨rfl, hb⟩; have HX := Lib.hid (HX.out.below hb); have HQ := Lib.hid (HQ.out.trans (hb.mono HQ.out.size)); clear hb; have y0 := HX.out.cell 0 (v := .bool n9) rfl; have y1 := HX.out.cell 1 (v := .slice a9 l9 c9) rfl; have y2 := HX.out.cell 2 (v := .bool n11) rfl; have y3 := HX.out.cell 3 (v := .slice a11 l11 c11) rfl))
              go_roundw
              case rel => exact ⟨6, by omega, rfl, HQ⟩
              case measure => simp [intOf]
            · go_wp2
              go_ret
              exact ⟨rfl, HW.out.trans (HQ.out.mono HZ.out)⟩

end Go.Proofs.YtdgmjmckeeeljaaGreatDoor

namespace Go.Proofs.YtdgmjmckeeeljaaGreatDoor
open Go.ChangeShapes Go.WideShapes Go.ChangeAt Go.RowKit

theorem cells59 : Tryz.prog.cellsOf 59 = 1 := by kernel_rfl

/-- A number that fits a digit. -/
theorem u32_wf {a : Int} (h : (Lit.int .u32 a).wf = true) : 0 ≤ a ∧ a < 4294967296 := by
  simp only [Lit.wf, IntKind.min, IntKind.max, IntKind.signed, IntKind.bits, Bool.and_eq_true, decide_eq_true_eq] at h
  have h2 : 0 ≤ a ∧ a ≤ 4294967295 := by simpa using h
  omega

/-- A slice of digits that came in. -/
theorem open_sl {H : Type} {enc : TypeId × Value → H} {W : World} {fuel : Nat} {c : Value} {y : DataW H × List MemPlace} (h : DataW.trod enc Tryz.prog W 0 (fun _ => true) true fuel 25 [c] = some y) : ∃ ao n cap ds, c = .slice ao n cap ∧ Sl W (.slice ao n cap) ds := by
  rcases open_ints Tryz.underlying25 Tryz.underlying59 cells59 h with ⟨hcs, _⟩ | ⟨a, len, cap, zs, hcs, _, hl, hm, hz, _, hcell, hwf⟩
  · simp only [List.cons.injEq, and_true] at hcs
    subst hcs
    exact ⟨none, 0, 0, [], rfl, Sl.nil _ _ _⟩
  · simp only [List.cons.injEq, and_true] at hcs
    subst hcs
    simp only [if_true] at hz
    have hlen : ((zs.take len).map Int.toNat).length = len := by rw [List.length_map, List.length_take]; omega
    refine ⟨some a, len, cap, (zs.take len).map Int.toNat, rfl, ⟨fun x hx => ?_, by rw [hlen]; omega, ?_⟩⟩
    · simp only [List.mem_map] at hx
      obtain ⟨z, hz1, rfl⟩ := hx
      have := u32_wf (hwf z (List.mem_of_mem_take hz1))
      omega
    · by_cases h0 : len = 0
      · subst h0
        exact .inl ⟨by simp, _, _, rfl⟩
      · have hs0 := spotless (hcell 0 (by omega))
        obtain ⟨b, off, spot⟩ := a
        have hs1 : spot = none := hs0
        subst hs1
        refine .inr ⟨b, off, cap, by rw [hlen], by rw [hlen]; exact hl, fun j hj => ?_⟩
        rw [hlen] at hj
        have hc := hcell j (by omega)
        have e : (Addr.mk b off none).add j = ⟨b, off + j, none⟩ := by
          unfold Addr.add
          by_cases hj0 : j = 0
          · subst hj0; rfl
          · rw [if_neg hj0]
        rw [e] at hc
        rw [hc]
        have hw := u32_wf (hwf (zs.getD j 0) (by
          rw [List.getD_eq_getElem?_getD, List.getElem?_eq_getElem (show j < zs.length by omega)]
          exact List.getElem_mem _))
        have e2 : ((zs.take len).map Int.toNat).getD j 0 = (zs.getD j 0).toNat := by
          simp [List.getD, List.getElem?_take, hj]
          rw [List.getElem?_eq_getElem (show j < zs.length by omega)]
          rfl
        rw [e2]
        congr 2
        omega

end Go.Proofs.YtdgmjmckeeeljaaGreatDoor

namespace Go.Proofs.YtdgmjmckeeeljaaGreatDoor
open Go.ChangeShapes Go.WideShapes Go.ChangeAt Go.RowKit

theorem cells28 : Tryz.prog.cellsOf 28 = 4 := by kernel_rfl
theorem cells27 : Tryz.prog.cellsOf 27 = 2 := by kernel_rfl

theorem array_four {cs : Array Value} (h : cs.size = 4) : ∃ a b c d, cs = #[a, b, c, d] := by
  obtain ⟨l⟩ := cs
  match l, h with
  | [a, b, c, d], _ => exact ⟨a, b, c, d, rfl⟩

theorem trod_arr22 {H : Type} {enc : TypeId × Value → H} {P : Program} {w : World} {base : Nat} {spare : Nat → Bool} {held : Bool} {t e : TypeId} {fuel : Nat} {c0 c1 c2 c3 : Value} {x : DataW H × List MemPlace} (ht : P.underlying t = some (.array 2 e)) (hce : P.cellsOf e = 2)
    (h : DataW.trod enc P w base spare held fuel t [c0, c1, c2, c3] = some x) :
    ∃ y0 y1 n, DataW.trod enc P w base spare held n e [c0, c1] = some y0 ∧ DataW.trod enc P w base spare held n e [c2, c3] = some y1 := by
  cases fuel with
  | zero => simp [DataW.trod] at h
  | succ n =>
    unfold DataW.trod at h
    rw [ht] at h
    have r2 : List.range 2 = [0, 1] := rfl
    simp [r2, hce] at h
    obtain ⟨_, h⟩ := h
    cases h0 : DataW.trod enc P w base spare held n e [c0, c1] with
    | none => simp [h0] at h
    | some y0 =>
      cases h1 : DataW.trod enc P w base spare held n e [c2, c3] with
      | none => simp [h0, h1] at h
      | some y1 => exact ⟨y0, y1, n, h0, h1⟩

/-- A number that came in. -/
theorem open_num {H : Type} {enc : TypeId × Value → H} {W : World} {fuel : Nat} {c0 c1 : Value} {y : DataW H × List MemPlace} (h : DataW.trod enc Tryz.prog W 0 (fun _ => true) true fuel 27 [c0, c1] = some y) : ∃ p ao n cap ds, c0 = .bool p ∧ c1 = .slice ao n cap ∧ Sl W (.slice ao n cap) ds := by
  obtain ⟨y0, y1, n, _, _, h0, h1⟩ := trod_struct2 Tryz.underlying27 h
  have e4 : Tryz.prog.cellsOf 4 = 1 := by kernel_rfl
  have e25 : Tryz.prog.cellsOf 25 = 1 := by kernel_rfl
  have h0' : DataW.trod enc Tryz.prog W 0 (fun _ => true) true n 4 (([c0, c1].drop 0).take (Tryz.prog.cellsOf 4)) = some y0 := h0
  have h1' : DataW.trod enc Tryz.prog W 0 (fun _ => true) true n 25 (([c0, c1].drop 1).take (Tryz.prog.cellsOf 25)) = some y1 := h1
  rw [e4] at h0'
  rw [e25] at h1'
  obtain ⟨b, q0, _⟩ := DataW.trod_bool Tryz.underlying4 h0'
  obtain ⟨ao, m, cap, ds, q1, hs⟩ := open_sl h1'
  have e0 : c0 = .bool b := by
    have : [c0] = [Value.bool b] := q0
    simpa using this
  exact ⟨b, ao, m, cap, ds, e0, q1, hs⟩

end Go.Proofs.YtdgmjmckeeeljaaGreatDoor

namespace Go.Proofs.YtdgmjmckeeeljaaGreatDoor
open Go.ChangeShapes Go.WideShapes Go.ChangeAt Go.RowKit

/-- A number that fits two bytes. -/
theorem u16_wf {a : Int} (h : (Lit.int .u16 a).wf = true) : 0 ≤ a ∧ a ≤ 65535 := by
  simp only [Lit.wf, IntKind.min, IntKind.max, IntKind.signed, IntKind.bits, Bool.and_eq_true, decide_eq_true_eq] at h
  simpa using h

theorem cells23 : Tryz.prog.cellsOf 23 = 2 := by kernel_rfl

set_option maxRecDepth 100000 in
theorem nadds_lifted (os : Os) (started : os.Started) (H : Type) (enc : TypeId × Value → H) :
    ReturnsInHanded {} Tryz.checked os 3 .any (fun w args => (Rows.numAddsSpec.pre enc Tryz.prog Tryz.f3 [] false w args ∧ laidMetH Tryz.prog laidL w) ∧ sizedMet enc Tryz.prog Tryz.f3 (OpenSpec.ofChange Rows.numAddsSpec) false w args)
      (Rows.numAddsSpec.post enc Tryz.prog Tryz.f3 false true false false) := by
  refine returnsInHanded_of_change_and (C := Tryz.checked) (X := fun w _ => laidMetH Tryz.prog laidL w) (fun _ _ _ hh h => h.of_heap hh) ownR started (by kernel_rfl) Tryz.func3
    (ChangeSpec.witness_at (enc := enc) (C := Tryz.checked) (os := os) (X := fun w _ => laidMetH Tryz.prog laidL w) false (laidWorld os) #[.agg #[.slice none 0 0, .slice none 0 0], .int .u16 0, .agg #[.bool false, .slice none 0 0, .bool false, .slice none 0 0]] 8 rfl (by kernel_rfl) (by kernel_rfl) (by kernel_rfl) (by kernel_rfl) (by kernel_rfl) (laidWorld_met os _)) ?_
  intro W base args ds gs before hval0 hW _ _ hL _
  have hval : ∀ (j : Nat) t v, Tryz.f3.params[j]? = some t → args[j]? = some v → Value.okWide Tryz.prog W .any base t v := hval0
  have hW' := hW
  obtain ⟨p, q, hA0, hV, rfl, hfz, hnd⟩ := hW
  have hA : DataW.TrodAll enc Tryz.prog W 0 (fun _ => true) true Tryz.f3.params.toList args.toList ds p := hA0
  rw [Tryz.params3] at hA hval
  obtain ⟨v0, vs0, d0, ds0, p0, q0, hargs, rfl, rfl, h0, r0⟩ := trodAll_cons hA
  obtain ⟨v1, vs1, d1, ds1, p1, q1, rfl, rfl, rfl, h1, r1⟩ := trodAll_cons r0
  obtain ⟨v2, vs2, d2, ds2, p2, q2, rfl, rfl, rfl, h2, r2⟩ := trodAll_cons r1
  obtain ⟨rfl, rfl, rfl⟩ := trodAll_nil r2
  obtain rfl : args = #[v0, v1, v2] := by cases args; simp_all
  obtain ⟨rfl, rfl⟩ := trodVars_none hV
  have k0 := h0
  have k2 := h2
  have lt2 : ∀ x ∈ p2, x.block < W.heap.size := by obtain ⟨m, hm⟩ := k2; exact DataW.trod_lt m _ _ _ hm
  have lt0 : ∀ x ∈ p0, x.block < W.heap.size := by obtain ⟨m, hm⟩ := k0; exact DataW.trod_lt m _ _ _ hm
  obtain ⟨cs0, rfl, hs0⟩ := okWide_arr Tryz.underlying23 (hval 0 23 v0 rfl rfl)
  obtain ⟨u0, u1, rfl⟩ := array_two (hs0.trans cells23)
  obtain ⟨f0, hf0⟩ := h0
  obtain ⟨y0, y1, n, t0, t1⟩ := trod_arr2 Tryz.underlying23 cells22 hf0
  obtain ⟨ao0, n0, c0, z0, rfl, L0⟩ := open_li t0
  obtain ⟨ao1, n1, c1, z1, rfl, L1⟩ := open_li t1
  obtain ⟨a1, rfl, rfl, rfl, w1⟩ := open_int Tryz.underlying24 (hval 1 24 v1 rfl rfl) h1
  have hu := u16_wf w1
  obtain ⟨cs2, rfl, hs2⟩ := okWide_arr Tryz.underlying28 (hval 2 28 v2 rfl rfl)
  obtain ⟨b0, b1, b2, b3, rfl⟩ := array_four (hs2.trans cells28)
  obtain ⟨f2, hf2⟩ := h2
  obtain ⟨x0, x1, n', t2, t3⟩ := trod_arr22 Tryz.underlying28 cells27 hf2
  obtain ⟨e0, ao2, n2, c2, r0, rfl, rfl, S0⟩ := open_num t2
  obtain ⟨e1, ao3, n3, c3, r1, rfl, rfl, S1⟩ := open_num t3
  clear hA0 hval0
  try simp only [List.append_nil] at hW'
  have htab := tab_of_laid hL
  refine (nadds_any L0 L1 a1 hu.1 hu.2 e0 e1 S0 S1 (fun W' hb => tab_below htab hb)).mono fun e W' ⟨he, bel⟩ => ?_
  subst he
  exact ⟨_, rfl, _, _, _, [], _, [], hW', trodAll_mk1 (shut_bool Tryz.underlying4 _), (trodAll_cons_mk (Below.trod laidOut (by kernel_rfl) (of_decide_eq_true (by kernel_rfl)) k0 bel lt0) (trodAll_cons_mk (shut_int Tryz.underlying24 w1) (trodAll_cons_mk (Below.trod laidOut (by kernel_rfl) (of_decide_eq_true (by kernel_rfl)) k2 bel lt2) trodAll_mk0))), rfl, bel.frame _, fun h => by cases h⟩

theorem nadds_over : Rows.NumAddsSaid :=
  OpenClaim.holds_of_wide 3 Tryz.f3 rfl rfl rfl rfl rfl rfl rfl ⟨rfl, rfl, rfl, rfl, rfl⟩ rfl rfl rfl rfl rfl (by kernel_rfl) Tryz.func3 (by kernel_rfl)
    (of_decide_eq_true (by kernel_rfl)) (by unfold Func.isWrapper; first | (rw [if_pos (by decide +kernel)]; kernel_rfl) | (rw [if_neg (by decide +kernel)]; exact ⟨rfl, rfl⟩))
    (fun os started H enc _ => nadds_lifted os started H enc)

/-- The statement. -/
theorem numAdds_holds : Rows.NumAddsCardSaid :=
  Claim7.holds_tied_plain_at .later [] [.data, .data, .data, .sentinel, .sentinel] true (true, "958520932160259f8438aa7be4506227f44fa7fbd0be64069e22fe8a588b6fcf") true
    nadds_over (fun _ h => by cases h) (by kernel_rfl) (fun _ h => by cases h) numAdds_row_tie rfl ⟨rfl, rfl⟩ (by kernel_rfl) rfl
    (fun f fn hf hfn => by
      obtain rfl : f = 3 := Option.some.inj ((show Tryz.prog.funcNamed "equipoise/equipoiselaw01.NumAdds" = some 3 by kernel_rfl).symm.trans hf) |>.symm
      obtain rfl : fn = Tryz.f3 := (Option.some.inj (Tryz.func3.symm.trans hfn)).symm
      exact ⟨by kernel_rfl, fun j t ht => by
        rw [Tryz.params3] at ht
        have h3 : t = 23 ∨ t = 24 ∨ t = 28 := by
          rcases j with _ | _ | _ | j
          · exact .inl (by simpa using ht.symm)
          · exact .inr (.inl (by simpa using ht.symm))
          · exact .inr (.inr (by simpa using ht.symm))
          · simp at ht
        rcases h3 with rfl | rfl | rfl
        · exact (show Tryz.prog.wantsStandIn 23 = false by kernel_rfl)
        · exact (show Tryz.prog.wantsStandIn 24 = false by kernel_rfl)
        · exact (show Tryz.prog.wantsStandIn 28 = false by kernel_rfl)⟩)
    (by kernel_rfl)

end Go.Proofs.YtdgmjmckeeeljaaGreatDoor
