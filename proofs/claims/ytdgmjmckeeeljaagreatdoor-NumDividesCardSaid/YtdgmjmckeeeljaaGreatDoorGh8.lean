/- The law NumAdds, walked. Condition: the table of powers of ten is laid. Arithmetic of the reference's long division in binary. No condition beyond those that each states. Contracts of the reference: divide, for at most two digits each. Contracts of the reference: divide, where the first number has fewer binary digits. A region that draws its order, of which each operation's result is known by its kind, and which lays at most one number into a box of its own. No condition. A region that draws its order, of which each operation's result is known beforehand, and which stores once into a cell that it may load. No condition. Contracts of the reference: divide, long. -/
import Derived.BigRegion
import Derived.Deep.RegionHeld3
import Derived.Deep.CutRange
import Derived.Test.YtdgmjmckeeeljaaGreatDoorGh5
import Derived.Test.YtdgmjmckeeeljaaGreatDoorGh7
namespace Go.Proofs.YtdgmjmckeeeljaaGreatDoor
open Go.RowKit

/-- A block of cells of any type. -/
def Blk (W : World) (g : Nat) (cs : Array Value) (t : TypeId) : Prop := W.heap[g]? = some (.cells cs t (0, 0))
theorem Blk.below {W W1 : World} {g : Nat} {cs : Array Value} {t : TypeId} (h : Blk W g cs t) (hb : Below W.heap.size W W1) : Blk W1 g cs t := (hb.block g (Array.getElem?_eq_some_iff.1 h).1).trans h
theorem Blk.cell {W : World} {g : Nat} {cs : Array Value} {t : TypeId} (h : Blk W g cs t) (j : Nat) {v : Value} (hv : cs[j]? = some v) : W.cell? ⟨g, j, none⟩ = some v := by rw [cell_of_row W _ _ _ _ _ h]; exact hv
theorem Nu.sl {W : World} {b : Bool} {s : Value} {z : Int} (h : Nu W (.agg #[.bool b, s]) z) : Sl W s (digs z.natAbs) ∧ (digs z.natAbs).length ≤ 256 := by
  obtain ⟨s', e, hs, hl⟩ := h
  simp only [Value.agg.injEq, Array.mk.injEq, List.cons.injEq, and_true] at e
  rw [e.2]
  exact ⟨hs, hl⟩
theorem Bx.bxc {W : World} {g : Nat} {neg : Bool} {ao : Option Addr} {n cap : Nat} {z : Int} (h : Bx W g neg ao n cap z) : Bxc W g neg ao n cap (digs z.natAbs) := ⟨h.row, ⟨_, _, rfl, h.nu.sl.1, by have := h.nu.sl.2; omega⟩⟩
theorem Bxc.c0 {W : World} {g : Nat} {neg : Bool} {ao : Option Addr} {n cap : Nat} {xs : List Nat} (h : Bxc W g neg ao n cap xs) : W.cell? ⟨g, 0, none⟩ = some (.bool neg) := by rw [cell_of_row _ _ _ _ _ _ h.row]; rfl
theorem Bxc.c1 {W : World} {g : Nat} {neg : Bool} {ao : Option Addr} {n cap : Nat} {xs : List Nat} (h : Bxc W g neg ao n cap xs) : W.cell? ⟨g, 1, none⟩ = some (.slice ao n cap) := by rw [cell_of_row _ _ _ _ _ _ h.row]; rfl
theorem Bxc.sl {W : World} {g : Nat} {neg : Bool} {ao : Option Addr} {n cap : Nat} {xs : List Nat} (h : Bxc W g neg ao n cap xs) : Sl W (.slice ao n cap) xs ∧ xs.length ≤ 512 := by
  obtain ⟨ng, s, e, hs, hl⟩ := h.nc
  simp only [Value.agg.injEq, Array.mk.injEq, List.cons.injEq, and_true] at e
  rw [e.2]
  exact ⟨hs, hl⟩

theorem cut_parts {w : World} {neg : Bool} {ao : Option Addr} {n cap : Nat} {ds : List Nat} (h : Sl w (.slice ao n cap) ds) :
    Calls Tryz.prog 13 #[.agg #[.bool neg, .slice ao n cap], .int .i64 260] w fun e w' => ∃ neg ao n cap xs, e = .returned (.agg #[.bool neg, .slice ao n cap]) ∧ Nc w' (.agg #[.bool neg, .slice ao n cap]) xs ∧ xs.length ≤ 512 ∧ Below w.heap.size w w' :=
  (cut13_any h).mono fun e w' ⟨h1, h2, h3⟩ => ⟨_, _, _, _, ds.take (min n 260), h1, ⟨_, _, rfl, h2, by rw [List.length_take]; omega⟩, by rw [List.length_take]; omega, h3⟩

set_option maxRecDepth 100000 in
set_option maxHeartbeats 8000000 in
theorem nadds_any {w : World} {s0 s1 : Option Addr} {n0 n1 c0 c1 : Nat} {z0 z1 : List Int} (h0 : Li w (.slice s0 n0 c0) z0) (h1 : Li w (.slice s1 n1 c1) z1) (L : Int) (L0 : 0 ≤ L) (L1 : L ≤ 65535)
    (p0 p1 : Bool) {x0 x1 : Option Addr} {m0 m1 d0 d1 : Nat} {r0 r1 : List Nat} (q0 : Sl w (.slice x0 m0 d0) r0) (q1 : Sl w (.slice x1 m1 d1) r1) (htab : ∀ W, Below w.heap.size w W → Tab W) :
    Calls Tryz.prog 3 #[.agg #[.slice s0 n0 c0, .slice s1 n1 c1], .int .u16 L, .agg #[.bool p0, .slice x0 m0 d0, .bool p1, .slice x1 m1 d1]] w fun e w' => e = .returned (.bool true) ∧ Below w.heap.size w w' := by
  have HM0 := Lib.hid (fun W (hb : Below w.heap.size w W) => made_parts (h0.below hb))
  have HM1 := Lib.hid (fun W (hb : Below w.heap.size w W) => made_parts (h1.below hb))
  have HC0 := Lib.hid (fun W (hb : Below w.heap.size w W) => cut_parts (neg := p0) (q0.below hb))
  have HC1 := Lib.hid (fun W (hb : Below w.heap.size w W) => cut_parts (neg := p1) (q1.below hb))
  have HSA : Hid (∀ W, Below w.heap.size w W → Calls Tryz.prog 10 #[] W fun e w' => e = .returned (.bool true) ∧ Below W.heap.size W w') := Lib.hid (fun W hb => sanity_any W (fun W' hb' => htab W' (hb.trans (hb'.mono hb.size))))
  have HW : Hid (Below w.heap.size w w) := Lib.hid (Below.refl _ _)
  have HZ : Hid (w.heap.size ≤ w.heap.size) := Lib.hid (Nat.le_refl _)
  clear h0 h1 q0 q1 htab
  go_enter Tryz.func3, Tryz.ntmps3
  go_upto_region 1 with fail
  obtain ⟨W, hW⟩ : ∃ W, W = (w.alloc (.cells #[.slice s0 n0 c0, .slice s1 n1 c1] 23)).alloc (.cells #[.bool p0, .slice x0 m0 d0, .bool p1, .slice x1 m1 d1] 28) := ⟨_, rfl⟩
  have hb : Below w.heap.size w W := by rw [hW]; go_grown
  have r0 : W.heap[w.heap.size]? = some (.cells #[.slice s0 n0 c0, .slice s1 n1 c1] 23 (0, 0)) := by rw [hW]; exact (Below.heap_alloc _ _ _ (by simp)).trans (heap_alloc_new _ _)
  have r1 : W.heap[w.heap.size + 1]? = some (.cells #[.bool p0, .slice x0 m0 d0, .bool p1, .slice x1 m1 d1] 28 (0, 0)) := by
    rw [hW]
    have := heap_alloc_new (w.alloc (.cells #[.slice s0 n0 c0, .slice s1 n1 c1] 23)) (.cells #[.bool p0, .slice x0 m0 d0, .bool p1, .slice x1 m1 d1] 28)
    rw [World.size_alloc] at this
    exact this
  have HBL : Hid (∀ W', Below W.heap.size W W' → W'.cell? ⟨w.heap.size, 0, none⟩ = some (.slice s0 n0 c0) ∧ W'.cell? ⟨w.heap.size, 1, none⟩ = some (.slice s1 n1 c1)) := Lib.hid (fun W' h => by
    have q0 := (h.block _ (Array.getElem?_eq_some_iff.1 r0).1).trans r0
    exact ⟨by rw [cell_of_row _ _ _ _ _ _ q0]; rfl, by rw [cell_of_row _ _ _ _ _ _ q0]; rfl⟩)
  have HBR : Hid (∀ W', Below W.heap.size W W' → W'.cell? ⟨w.heap.size + 1, 0, none⟩ = some (.bool p0) ∧ W'.cell? ⟨w.heap.size + 1, 1, none⟩ = some (.slice x0 m0 d0) ∧ W'.cell? ⟨w.heap.size + 1, 2, none⟩ = some (.bool p1) ∧ W'.cell? ⟨w.heap.size + 1, 3, none⟩ = some (.slice x1 m1 d1)) := Lib.hid (fun W' h => by
    have q0 := (h.block _ (Array.getElem?_eq_some_iff.1 r1).1).trans r1
    exact ⟨by rw [cell_of_row _ _ _ _ _ _ q0]; rfl, by rw [cell_of_row _ _ _ _ _ _ q0]; rfl, by rw [cell_of_row _ _ _ _ _ _ q0]; rfl, by rw [cell_of_row _ _ _ _ _ _ q0]; rfl⟩)
  have HWW := step1 HW HZ hb
  have HW := HWW.1
  have HZ := HWW.2
  have HD : Hid (Below W.heap.size W W) := Lib.hid (Below.refl _ _)
  have HE : Hid (W.heap.size ≤ W.heap.size) := Lib.hid (Nat.le_refl _)
  rw [← hW]
  clear hW hb HWW r0 r1
  go_upto_region 2 with (go_at_call 10; refine (HSA.out _ HW.out).mono ?_; rintro e wz ⟨rfl, hb⟩; have HWW := step1 HW HZ hb; have HW := HWW.1; have HZ := HWW.2; have HDD := step1 HD HE hb; have HD := HDD.1; have HE := HDD.2; clear HWW HDD hb)
  obtain ⟨k0, k1⟩ := HBL.out _ HD.out
  obtain ⟨W1, hW1⟩ : ∃ W1, W1 = wz := ⟨_, rfl⟩
  obtain ⟨T, hT⟩ : ∃ T : Array Value, T = #[.agg #[.slice s0 n0 c0, .slice s1 n1 c1], .int .u16 L, .agg #[.bool p0, .slice x0 m0 d0, .bool p1, .slice x1 m1 d1], .pointer (some ⟨w.heap.size, 0, none⟩), undef, .pointer (some ⟨w.heap.size + 1, 0, none⟩), .bool false, .bool true, undef, undef, undef, undef, undef, undef, undef, .bool true, undef, undef, undef, undef, undef, undef, undef, undef, undef, undef, undef, undef, undef, undef, undef, undef, undef, undef, undef, undef, undef, undef, undef, undef, undef, undef, undef, undef, undef, undef, undef, undef, undef, undef, undef, undef, undef, undef, undef, undef, undef, undef, undef, undef, undef, undef, undef, undef, undef, undef, undef, undef, undef, undef, undef, undef, undef] := ⟨_, rfl⟩
  rw [← hT]
  refine regionP_inv (by kernel_rfl) (fun l a w' => ∃ vs gs, RM wz T 2 16 8 w.heap.size (fun t => if t = 0 then .slice s0 n0 c0 else .slice s1 n1 c1) vs gs l a w') ?h0 ?step ?fin
  case h0 => exact ⟨fun _ => undef, fun _ => 0, RM.start rfl (show Below wz.heap.size wz wz.drew from ⟨rfl, rfl, rfl, Nat.le_refl _, fun _ _ => rfl⟩)⟩
  case step =>
      rintro l a w' i' ⟨vs, gs, hR⟩ hi'
      obtain ⟨hl0, o, ho, hdep⟩ := mem_ready.1 hi'
      have h15 : i' < 10 := by
        have := (Array.getElem?_eq_some_iff.1 ho).1
        simpa using this
      have hbw : Below w.heap.size w w' := HW.out.trans (hR.bl.mono HZ.out)
      obtain ⟨y0, y1⟩ := HBL.out _ (HD.out.trans (hR.bl.mono HE.out))
      rcases (show i' = 0 ∨ i' = 1 ∨ i' = 2 ∨ i' = 3 ∨ i' = 4 ∨ i' = 5 ∨ i' = 6 ∨ i' = 7 ∨ i' = 8 ∨ i' = 9 by omega) with rfl | rfl | rfl | rfl | rfl | rfl | rfl | rfl | rfl | rfl
      · simp at ho
        subst ho
        simp [Region.binds] at hdep
        have k2 : a.tmps.getD 3 undef = .pointer (some ⟨w.heap.size, 0, none⟩) := (hR.fr.kept rfl (by simp [hT])).trans (by rw [hT]; rfl)
        clear hi' hdep hl0
        unfold wpOp
        simp [Region.wanted]
        refine .inl ?_
        unfold Oper.wp
        simp [execOp, go_sem, Act.eval, k2]
        exact ⟨vs, gs, hR.plain (by omega) (by omega) rfl rfl⟩
      · simp at ho
        subst ho
        simp [Region.binds] at hdep
        have k3 : a.tmps.getD 16 undef = .pointer (some ⟨w.heap.size, 0, none⟩) := hR.fr.done (i := 0) rfl (by simp_all) (by simp [hT])
        clear hi' hdep hl0
        unfold wpOp
        simp [Region.wanted]
        refine .inl ?_
        unfold Oper.wp
        simp [execOp, go_sem, Act.eval, k3, y0]
        exact ⟨vs, gs, hR.plain (by omega) (by omega) rfl rfl⟩
      · simp at ho
        subst ho
        simp [Region.binds] at hdep
        have k4 : a.tmps.getD 17 undef = .slice s0 n0 c0 := hR.fr.done (i := 1) rfl (by simp_all) (by simp [hT])
        clear hi' hdep
        unfold wpOp
        simp [Region.wanted]
        refine .inl ?_
        unfold Oper.wp
        simp [execOp, go_sem, Act.eval, k4]
        refine (HM0.out w' hbw).mono ?_
        rintro e w'' ⟨neg, ao, n, cap, z, rfl, hn, hA, hb⟩
        exact ⟨_, gs, hR.call (t := 0) (by omega) hl0 rfl (.inr (by omega)) ⟨neg, ao, n, cap, z, rfl, hn, hA⟩ hb⟩
      · simp at ho
        subst ho
        simp [Region.binds] at hdep
        have k2 : a.tmps.getD 3 undef = .pointer (some ⟨w.heap.size, 0, none⟩) := (hR.fr.kept rfl (by simp [hT])).trans (by rw [hT]; rfl)
        clear hi' hdep hl0
        unfold wpOp
        simp [Region.wanted]
        refine .inl ?_
        unfold Oper.wp
        simp [execOp, go_sem, Act.eval, k2]
        exact ⟨vs, gs, hR.plain (by omega) (by omega) rfl rfl⟩
      · simp at ho
        subst ho
        simp [Region.binds] at hdep
        have k3 : a.tmps.getD 19 undef = .pointer (some ⟨w.heap.size, 1, none⟩) := hR.fr.done (i := 3) rfl (by simp_all) (by simp [hT])
        clear hi' hdep hl0
        unfold wpOp
        simp [Region.wanted]
        refine .inl ?_
        unfold Oper.wp
        simp [execOp, go_sem, Act.eval, k3, y1]
        exact ⟨vs, gs, hR.plain (by omega) (by omega) rfl rfl⟩
      · simp at ho
        subst ho
        simp [Region.binds] at hdep
        have k4 : a.tmps.getD 20 undef = .slice s1 n1 c1 := hR.fr.done (i := 4) rfl (by simp_all) (by simp [hT])
        clear hi' hdep
        unfold wpOp
        simp [Region.wanted]
        refine .inl ?_
        unfold Oper.wp
        simp [execOp, go_sem, Act.eval, k4]
        refine (HM1.out w' hbw).mono ?_
        rintro e w'' ⟨neg, ao, n, cap, z, rfl, hn, hA, hb⟩
        exact ⟨_, gs, hR.call (t := 1) (by omega) hl0 rfl (.inr (by omega)) ⟨neg, ao, n, cap, z, rfl, hn, hA⟩ hb⟩
      · simp at ho
        subst ho
        simp [Region.binds] at hdep
        clear hi' hdep
        unfold wpOp
        simp [Region.wanted]
        refine .inl ?_
        unfold Oper.wp
        simp [execOp, go_sem, Act.eval]
        exact ⟨vs, _, hR.alloc (t := 0) (by omega) hl0 rfl (.inr (by omega))⟩
      · simp at ho
        subst ho
        simp [Region.binds] at hdep
        clear hi' hdep
        unfold wpOp
        simp [Region.wanted]
        refine .inl ?_
        unfold Oper.wp
        simp [execOp, go_sem, Act.eval]
        exact ⟨vs, _, hR.alloc (t := 1) (by omega) hl0 rfl (.inr (by omega))⟩
      · simp at ho
        subst ho
        simp [Region.binds] at hdep
        have j1 : l.getD 6 true = true := getD_true (by simp_all)
        have j2 : l.getD 2 true = true := getD_true (by simp_all)
        have k5 : a.tmps.getD 8 undef = .pointer (some ⟨gs 0, 0, none⟩) := hR.fr.done (i := 6) rfl (by simp_all) (by simp [hT])
        have k6 : a.tmps.getD 18 undef = vs 0 := hR.fr.done (i := 2) rfl (by simp_all) (by simp [hT])
        obtain ⟨neg, ao, n, cap, z, ev, _⟩ := hR.val 0 (by omega) j2
        rw [ev] at k6
        obtain ⟨x0, x1, x2, x3, x4⟩ := hR.ready (t := 0) (by omega) hl0 j1
        clear hi' hdep
        unfold wpOp
        simp [Region.wanted]
        refine .inl ?_
        unfold Oper.wp
        simp [execOp, go_sem, Act.eval, k5, k6, x0, x1, x2, x3, x4]
        exact ⟨vs, gs, hR.store (t := 0) (by omega) hl0 j1 j2 ev undef⟩
      · simp at ho
        subst ho
        simp [Region.binds] at hdep
        have j1 : l.getD 7 true = true := getD_true (by simp_all)
        have j2 : l.getD 5 true = true := getD_true (by simp_all)
        have k5 : a.tmps.getD 9 undef = .pointer (some ⟨gs 1, 0, none⟩) := hR.fr.done (i := 7) rfl (by simp_all) (by simp [hT])
        have k6 : a.tmps.getD 21 undef = vs 1 := hR.fr.done (i := 5) rfl (by simp_all) (by simp [hT])
        obtain ⟨neg, ao, n, cap, z, ev, _⟩ := hR.val 1 (by omega) j2
        rw [ev] at k6
        obtain ⟨x0, x1, x2, x3, x4⟩ := hR.ready (t := 1) (by omega) hl0 j1
        clear hi' hdep
        unfold wpOp
        simp [Region.wanted]
        refine .inl ?_
        unfold Oper.wp
        simp [execOp, go_sem, Act.eval, k5, k6, x0, x1, x2, x3, x4]
        exact ⟨vs, gs, hR.store (t := 1) (by omega) hl0 j1 j2 ev undef⟩
  case' fin =>
      rintro l a W ⟨vs, gs, hR⟩ hz
      have hnot := List.eq_nil_iff_forall_not_mem.1 hz
      have hk : ∀ k, k < 10 → (l.getD k true = false → False) → l.getD k false = true := fun k h12 h => by
        have hs := hR.size
        cases h' : l.getD k true with
        | false => exact (h h').elim
        | true => simp [Array.getD, hs, h12] at h' ⊢; exact h'
      have st0 := hk 0 (by omega) (fun h => hnot 0 (mem_ready.2 ⟨h, _, rfl, by simp [Region.binds]⟩))
      have st1 := hk 1 (by omega) (fun h => hnot 1 (mem_ready.2 ⟨h, _, rfl, by simp [Region.binds]; simp_all⟩))
      have st2 := hk 2 (by omega) (fun h => hnot 2 (mem_ready.2 ⟨h, _, rfl, by simp [Region.binds]; simp_all⟩))
      have st3 := hk 3 (by omega) (fun h => hnot 3 (mem_ready.2 ⟨h, _, rfl, by simp [Region.binds]⟩))
      have st4 := hk 4 (by omega) (fun h => hnot 4 (mem_ready.2 ⟨h, _, rfl, by simp [Region.binds]; simp_all⟩))
      have st5 := hk 5 (by omega) (fun h => hnot 5 (mem_ready.2 ⟨h, _, rfl, by simp [Region.binds]; simp_all⟩))
      have st6 := hk 6 (by omega) (fun h => hnot 6 (mem_ready.2 ⟨h, _, rfl, by simp [Region.binds]⟩))
      have st7 := hk 7 (by omega) (fun h => hnot 7 (mem_ready.2 ⟨h, _, rfl, by simp [Region.binds]⟩))
      have st8 := hk 8 (by omega) (fun h => hnot 8 (mem_ready.2 ⟨h, _, rfl, by simp [Region.binds]; simp_all⟩))
      have st9 := hk 9 (by omega) (fun h => hnot 9 (mem_ready.2 ⟨h, _, rfl, by simp [Region.binds]; simp_all⟩))
      have hall : ∀ i, i < 10 → l.getD i true = true := fun i hi => by
        rcases (show i = 0 ∨ i = 1 ∨ i = 2 ∨ i = 3 ∨ i = 4 ∨ i = 5 ∨ i = 6 ∨ i = 7 ∨ i = 8 ∨ i = 9 by omega) with rfl | rfl | rfl | rfl | rfl | rfl | rfl | rfl | rfl | rfl
        · exact getD_true st0
        · exact getD_true st1
        · exact getD_true st2
        · exact getD_true st3
        · exact getD_true st4
        · exact getD_true st5
        · exact getD_true st6
        · exact getD_true st7
        · exact getD_true st8
        · exact getD_true st9
      clear st0 st1 st2 st3 st4 st5 st6 st7 st8 st9 hk hnot hz
      obtain ⟨n8, a8, l8, c8, A, ev0, B8, HA⟩ := hR.bx (t := 0) (by omega) (hall 8 (by omega))
      obtain ⟨n9, a9, l9, c9, B, ev1, B9, HB⟩ := hR.bx (t := 1) (by omega) (hall 9 (by omega))
      have hTs : T.size = 73 := by rw [hT]; rfl
      have ha : a = ⟨((((((((T.setIfInBounds 16 (.pointer (some ⟨w.heap.size, 0, none⟩))).setIfInBounds 17 (.slice s0 n0 c0)).setIfInBounds 18 (vs 0)).setIfInBounds 19 (.pointer (some ⟨w.heap.size, 1, none⟩))).setIfInBounds 20 (.slice s1 n1 c1)).setIfInBounds 21 (vs 1)).setIfInBounds 8 (.pointer (some ⟨gs 0, 0, none⟩))).setIfInBounds 9 (.pointer (some ⟨gs 1, 0, none⟩))), []⟩ := by
        refine hR.fr.all (fun j i v h => hall i (by have := mOwn_lt h; simp only [] at this; omega)) (by simp) (fun j hj => ?_)
        by_cases h1 : 16 ≤ j ∧ j < 22
        · rcases (show j = 16 ∨ j = 17 ∨ j = 18 ∨ j = 19 ∨ j = 20 ∨ j = 21 by omega) with rfl | rfl | rfl | rfl | rfl | rfl <;> simp [sets_getD, mOwn, hTs]
        · by_cases h2 : 8 ≤ j ∧ j < 10
          · rcases (show j = 8 ∨ j = 9 by omega) with rfl | rfl <;> simp [sets_getD, mOwn, hTs]
          · have e : mOwn 2 16 8 w.heap.size (fun t => if t = 0 then .slice s0 n0 c0 else .slice s1 n1 c1) vs gs j = none := by
              unfold mOwn
              rw [if_neg (by omega), if_neg (by omega)]
            rw [e]
            simp only [sets_getD]
            repeat rw [if_neg (by omega)]
      have hbl := hR.bl
      clear hR hall
      rw [ev0, ev1] at ha
      obtain ⟨g8, hg8⟩ : ∃ g8, g8 = gs 0 := ⟨_, rfl⟩
      obtain ⟨g9, hg9⟩ : ∃ g9, g9 = gs 1 := ⟨_, rfl⟩
      rw [← hg8] at ha B8
      rw [← hg9] at ha B9
      have ha2 : a = ⟨#[.agg #[.slice s0 n0 c0, .slice s1 n1 c1], .int .u16 L, .agg #[.bool p0, .slice x0 m0 d0, .bool p1, .slice x1 m1 d1], .pointer (some ⟨w.heap.size, 0, none⟩), undef, .pointer (some ⟨w.heap.size + 1, 0, none⟩), .bool false, .bool true, .pointer (some ⟨g8, 0, none⟩), .pointer (some ⟨g9, 0, none⟩), undef, undef, undef, undef, undef, .bool true, .pointer (some ⟨w.heap.size, 0, none⟩), .slice s0 n0 c0, .agg #[.bool n8, .slice a8 l8 c8], .pointer (some ⟨w.heap.size, 1, none⟩), .slice s1 n1 c1, .agg #[.bool n9, .slice a9 l9 c9], undef, undef, undef, undef, undef, undef, undef, undef, undef, undef, undef, undef, undef, undef, undef, undef, undef, undef, undef, undef, undef, undef, undef, undef, undef, undef, undef, undef, undef, undef, undef, undef, undef, undef, undef, undef, undef, undef, undef, undef, undef, undef, undef, undef, undef, undef, undef, undef, undef, undef, undef], []⟩ := by
        rw [ha, hT]
        simp only [List.setIfInBounds_toArray, List.set_cons_succ, List.set_cons_zero]
      subst ha2
      have B8 := Lib.hid B8
      have B9 := Lib.hid B9
      have HA := Lib.hid HA
      have HB := Lib.hid HB
      have HWW := step1 HW HZ hbl
      have HDD := step1 HD HE hbl
      have HW := HWW.1
      have HZ := HWW.2
      have HD := HDD.1
      have HE := HDD.2
      clear HWW HDD hbl ha hT hTs ev0 ev1 hg8 hg9 vs gs k0 k1 hW1

      have C8 := Lib.hid B8.out.bxc
      have C9 := Lib.hid B9.out.bxc
      have hsl8 := B8.out.nu.sl
      have HRZ : Hid (∀ V, Below W.heap.size W V → Calls Tryz.prog 12 #[.agg #[.bool n8, .slice a8 l8 c8], .int .i64 (L % 257)] V (fun e w' => ∃ ao n cap xs, e = .returned (.agg #[.bool n8, .slice ao n cap]) ∧ xs.length ≤ 512 ∧ Sl w' (.slice ao n cap) xs ∧ Below V.heap.size V w')) := Lib.hid (fun V hV => by
        have hl := hsl8.1.size
        have hl2 := hsl8.2
        have h := raised12_any (k := (L % 257).toNat) (neg := n8) (hsl8.1.below hV) (by omega) (by omega)
        have e : (((L % 257).toNat : Nat) : Int) = L % 257 := by omega
        rwa [e] at h)
      clear hsl8 B8 B9 HA HB HM0 HM1 HBL HSA
      have y0 := C8.out.c0
      have y1 := C8.out.c1
      go_upto_region 4 with (go_at_call 12; refine (HRZ.out _ (Below.refl _ _)).mono ?_; rintro e wn ⟨a10, l10, c10, X10, rfl, hx10, hs10, hb⟩; have C8 := Lib.hid (C8.out.below hb); have C9 := Lib.hid (C9.out.below hb); have HWW := step1 HW HZ hb; have HW := HWW.1; have HZ := HWW.2; have HDD := step1 HD HE hb; have HD := HDD.1; have HE := HDD.2; clear HWW HDD hb)
      clear y0 y1 HRZ
      have hb : Below wn.heap.size wn (wn.alloc (.cells #[.bool n8, .slice a10 l10 c10] 27)) := alloc_b _ _
      have C10 : Hid (Bxc (wn.alloc (.cells #[.bool n8, .slice a10 l10 c10] 27)) wn.heap.size n8 a10 l10 c10 X10) := Lib.hid ⟨heap_alloc_new _ _, ⟨_, _, rfl, hs10.below hb, hx10⟩⟩
      have C8 := Lib.hid (C8.out.below hb)
      have C9 := Lib.hid (C9.out.below hb)
      have HWW := step1 HW HZ hb
      have HW := HWW.1
      have HZ := HWW.2
      have HDD := step1 HD HE hb
      have HD := HDD.1
      have HE := HDD.2
      clear HWW HDD hb hs10 hx10
      revert HE
      revert HD
      revert HZ
      revert HW
      revert C9
      revert C8
      revert C10
      generalize (wn.alloc (.cells #[.bool n8, .slice a10 l10 c10] 27)) = wz
      generalize wn.heap.size = g10
      intro C10 C8 C9 HW HZ HD HE
      obtain ⟨k0, k1, _, _⟩ := HBR.out _ HD.out
      obtain ⟨W1, hW1⟩ : ∃ W1, W1 = wz := ⟨_, rfl⟩
      obtain ⟨T, hT⟩ : ∃ T : Array Value, T = #[.agg #[.slice s0 n0 c0, .slice s1 n1 c1], .int .u16 L, .agg #[.bool p0, .slice x0 m0 d0, .bool p1, .slice x1 m1 d1], .pointer (some ⟨w.heap.size, 0, none⟩), undef, .pointer (some ⟨w.heap.size + 1, 0, none⟩), .bool false, .bool true, .pointer (some ⟨g8, 0, none⟩), .pointer (some ⟨g9, 0, none⟩), .pointer (some ⟨g10, 0, none⟩), undef, undef, undef, undef, .bool true, .pointer (some ⟨w.heap.size, 0, none⟩), .slice s0 n0 c0, .agg #[.bool n8, .slice a8 l8 c8], .pointer (some ⟨w.heap.size, 1, none⟩), .slice s1 n1 c1, .agg #[.bool n9, .slice a9 l9 c9], .agg #[.bool n8, .slice a8 l8 c8], .int .u16 L, .int .i64 L, .int .i64 (L % 257), .agg #[.bool n8, .slice a10 l10 c10], undef, undef, undef, undef, undef, undef, undef, undef, undef, undef, undef, undef, undef, undef, undef, undef, undef, undef, undef, undef, undef, undef, undef, undef, undef, undef, undef, undef, undef, undef, undef, undef, undef, undef, undef, undef, undef, undef, undef, undef, undef, undef, undef, undef, undef, undef] := ⟨_, rfl⟩
      rw [← hT]
      refine regionP_inv (by kernel_rfl) (fun l a w' => ∃ vs gs, RC wz T 2 27 11 (w.heap.size + 1) (fun t => if t = 0 then .agg #[.bool p0, .slice x0 m0 d0] else .agg #[.bool p1, .slice x1 m1 d1]) vs gs l a w') ?h0c ?stepc ?finc
      case h0c => exact ⟨fun _ => undef, fun _ => 0, RC.start rfl (show Below wz.heap.size wz wz.drew from ⟨rfl, rfl, rfl, Nat.le_refl _, fun _ _ => rfl⟩)⟩
      case stepc =>
          rintro l a w' i' ⟨vs, gs, hR⟩ hi'
          obtain ⟨hl0, o, ho, hdep⟩ := mem_ready.1 hi'
          have h15 : i' < 10 := by
            have := (Array.getElem?_eq_some_iff.1 ho).1
            simpa using this
          have hbw : Below w.heap.size w w' := HW.out.trans (hR.bl.mono HZ.out)
          obtain ⟨Y0, Y1, Y2, Y3⟩ := HBR.out _ (HD.out.trans (hR.bl.mono HE.out))
          rcases (show i' = 0 ∨ i' = 1 ∨ i' = 2 ∨ i' = 3 ∨ i' = 4 ∨ i' = 5 ∨ i' = 6 ∨ i' = 7 ∨ i' = 8 ∨ i' = 9 by omega) with rfl | rfl | rfl | rfl | rfl | rfl | rfl | rfl | rfl | rfl
          · simp at ho
            subst ho
            simp [Region.binds] at hdep
            have k2 : a.tmps.getD 5 undef = .pointer (some ⟨w.heap.size + 1, 0, none⟩) := (hR.fr.kept rfl (by simp [hT])).trans (by rw [hT]; rfl)
            clear hi' hdep hl0
            unfold wpOp
            simp [Region.wanted]
            refine .inl ?_
            unfold Oper.wp
            simp [execOp, go_sem, Act.eval, k2]
            exact ⟨vs, gs, hR.plain (by omega) (by omega) rfl rfl⟩
          · simp at ho
            subst ho
            simp [Region.binds] at hdep
            have k3 : a.tmps.getD 27 undef = .pointer (some ⟨w.heap.size + 1, 0, none⟩) := hR.fr.done (i := 0) rfl (by simp_all) (by simp [hT])
            clear hi' hdep hl0
            unfold wpOp
            simp [Region.wanted]
            refine .inl ?_
            unfold Oper.wp
            simp [execOp, go_sem, Act.eval, k3, Y0, Y1]
            exact ⟨vs, gs, hR.plain (by omega) (by omega) rfl rfl⟩
          · simp at ho
            subst ho
            simp [Region.binds] at hdep
            have k4 : a.tmps.getD 28 undef = .agg #[.bool p0, .slice x0 m0 d0] := hR.fr.done (i := 1) rfl (by simp_all) (by simp [hT])
            clear hi' hdep
            unfold wpOp
            simp [Region.wanted]
            refine .inl ?_
            unfold Oper.wp
            simp [execOp, go_sem, Act.eval, k4]
            refine (HC0.out w' hbw).mono ?_
            rintro e w'' ⟨neg, ao, n, cap, z, rfl, hn, hA, hb⟩
            exact ⟨_, gs, hR.call (t := 0) (by omega) hl0 rfl (.inr (by omega)) ⟨neg, ao, n, cap, z, rfl, hn, hA⟩ hb⟩
          · simp at ho
            subst ho
            simp [Region.binds] at hdep
            have k2 : a.tmps.getD 5 undef = .pointer (some ⟨w.heap.size + 1, 0, none⟩) := (hR.fr.kept rfl (by simp [hT])).trans (by rw [hT]; rfl)
            clear hi' hdep hl0
            unfold wpOp
            simp [Region.wanted]
            refine .inl ?_
            unfold Oper.wp
            simp [execOp, go_sem, Act.eval, k2]
            exact ⟨vs, gs, hR.plain (by omega) (by omega) rfl rfl⟩
          · simp at ho
            subst ho
            simp [Region.binds] at hdep
            have k3 : a.tmps.getD 30 undef = .pointer (some ⟨w.heap.size + 1, 2, none⟩) := hR.fr.done (i := 3) rfl (by simp_all) (by simp [hT])
            clear hi' hdep hl0
            unfold wpOp
            simp [Region.wanted]
            refine .inl ?_
            unfold Oper.wp
            simp [execOp, go_sem, Act.eval, k3, Y2, Y3]
            exact ⟨vs, gs, hR.plain (by omega) (by omega) rfl rfl⟩
          · simp at ho
            subst ho
            simp [Region.binds] at hdep
            have k4 : a.tmps.getD 31 undef = .agg #[.bool p1, .slice x1 m1 d1] := hR.fr.done (i := 4) rfl (by simp_all) (by simp [hT])
            clear hi' hdep
            unfold wpOp
            simp [Region.wanted]
            refine .inl ?_
            unfold Oper.wp
            simp [execOp, go_sem, Act.eval, k4]
            refine (HC1.out w' hbw).mono ?_
            rintro e w'' ⟨neg, ao, n, cap, z, rfl, hn, hA, hb⟩
            exact ⟨_, gs, hR.call (t := 1) (by omega) hl0 rfl (.inr (by omega)) ⟨neg, ao, n, cap, z, rfl, hn, hA⟩ hb⟩
          · simp at ho
            subst ho
            simp [Region.binds] at hdep
            clear hi' hdep
            unfold wpOp
            simp [Region.wanted]
            refine .inl ?_
            unfold Oper.wp
            simp [execOp, go_sem, Act.eval]
            exact ⟨vs, _, hR.alloc (t := 0) (by omega) hl0 rfl (.inr (by omega))⟩
          · simp at ho
            subst ho
            simp [Region.binds] at hdep
            clear hi' hdep
            unfold wpOp
            simp [Region.wanted]
            refine .inl ?_
            unfold Oper.wp
            simp [execOp, go_sem, Act.eval]
            exact ⟨vs, _, hR.alloc (t := 1) (by omega) hl0 rfl (.inr (by omega))⟩
          · simp at ho
            subst ho
            simp [Region.binds] at hdep
            have j1 : l.getD 6 true = true := getD_true (by simp_all)
            have j2 : l.getD 2 true = true := getD_true (by simp_all)
            have k5 : a.tmps.getD 11 undef = .pointer (some ⟨gs 0, 0, none⟩) := hR.fr.done (i := 6) rfl (by simp_all) (by simp [hT])
            have k6 : a.tmps.getD 29 undef = vs 0 := hR.fr.done (i := 2) rfl (by simp_all) (by simp [hT])
            obtain ⟨neg, ao, n, cap, z, ev, _⟩ := hR.val 0 (by omega) j2
            rw [ev] at k6
            obtain ⟨x0, x1, x2, x3, x4⟩ := hR.ready (t := 0) (by omega) hl0 j1
            clear hi' hdep
            unfold wpOp
            simp [Region.wanted]
            refine .inl ?_
            unfold Oper.wp
            simp [execOp, go_sem, Act.eval, k5, k6, x0, x1, x2, x3, x4]
            exact ⟨vs, gs, hR.store (t := 0) (by omega) hl0 j1 j2 ev undef⟩
          · simp at ho
            subst ho
            simp [Region.binds] at hdep
            have j1 : l.getD 7 true = true := getD_true (by simp_all)
            have j2 : l.getD 5 true = true := getD_true (by simp_all)
            have k5 : a.tmps.getD 12 undef = .pointer (some ⟨gs 1, 0, none⟩) := hR.fr.done (i := 7) rfl (by simp_all) (by simp [hT])
            have k6 : a.tmps.getD 32 undef = vs 1 := hR.fr.done (i := 5) rfl (by simp_all) (by simp [hT])
            obtain ⟨neg, ao, n, cap, z, ev, _⟩ := hR.val 1 (by omega) j2
            rw [ev] at k6
            obtain ⟨x0, x1, x2, x3, x4⟩ := hR.ready (t := 1) (by omega) hl0 j1
            clear hi' hdep
            unfold wpOp
            simp [Region.wanted]
            refine .inl ?_
            unfold Oper.wp
            simp [execOp, go_sem, Act.eval, k5, k6, x0, x1, x2, x3, x4]
            exact ⟨vs, gs, hR.store (t := 1) (by omega) hl0 j1 j2 ev undef⟩
      case' finc =>
          rintro l a W ⟨vs, gs, hR⟩ hz
          have hnot := List.eq_nil_iff_forall_not_mem.1 hz
          have hk : ∀ k, k < 10 → (l.getD k true = false → False) → l.getD k false = true := fun k h12 h => by
            have hs := hR.size
            cases h' : l.getD k true with
            | false => exact (h h').elim
            | true => simp [Array.getD, hs, h12] at h' ⊢; exact h'
          have st0 := hk 0 (by omega) (fun h => hnot 0 (mem_ready.2 ⟨h, _, rfl, by simp [Region.binds]⟩))
          have st1 := hk 1 (by omega) (fun h => hnot 1 (mem_ready.2 ⟨h, _, rfl, by simp [Region.binds]; simp_all⟩))
          have st2 := hk 2 (by omega) (fun h => hnot 2 (mem_ready.2 ⟨h, _, rfl, by simp [Region.binds]; simp_all⟩))
          have st3 := hk 3 (by omega) (fun h => hnot 3 (mem_ready.2 ⟨h, _, rfl, by simp [Region.binds]⟩))
          have st4 := hk 4 (by omega) (fun h => hnot 4 (mem_ready.2 ⟨h, _, rfl, by simp [Region.binds]; simp_all⟩))
          have st5 := hk 5 (by omega) (fun h => hnot 5 (mem_ready.2 ⟨h, _, rfl, by simp [Region.binds]; simp_all⟩))
          have st6 := hk 6 (by omega) (fun h => hnot 6 (mem_ready.2 ⟨h, _, rfl, by simp [Region.binds]⟩))
          have st7 := hk 7 (by omega) (fun h => hnot 7 (mem_ready.2 ⟨h, _, rfl, by simp [Region.binds]⟩))
          have st8 := hk 8 (by omega) (fun h => hnot 8 (mem_ready.2 ⟨h, _, rfl, by simp [Region.binds]; simp_all⟩))
          have st9 := hk 9 (by omega) (fun h => hnot 9 (mem_ready.2 ⟨h, _, rfl, by simp [Region.binds]; simp_all⟩))
          have hall : ∀ i, i < 10 → l.getD i true = true := fun i hi => by
            rcases (show i = 0 ∨ i = 1 ∨ i = 2 ∨ i = 3 ∨ i = 4 ∨ i = 5 ∨ i = 6 ∨ i = 7 ∨ i = 8 ∨ i = 9 by omega) with rfl | rfl | rfl | rfl | rfl | rfl | rfl | rfl | rfl | rfl
            · exact getD_true st0
            · exact getD_true st1
            · exact getD_true st2
            · exact getD_true st3
            · exact getD_true st4
            · exact getD_true st5
            · exact getD_true st6
            · exact getD_true st7
            · exact getD_true st8
            · exact getD_true st9
          clear st0 st1 st2 st3 st4 st5 st6 st7 st8 st9 hk hnot hz
          obtain ⟨n11, a11, l11, c11, U, ev0, B11, HU⟩ := hR.bx (t := 0) (by omega) (hall 8 (by omega))
          obtain ⟨n12, a12, l12, c12, V, ev1, B12, HV⟩ := hR.bx (t := 1) (by omega) (hall 9 (by omega))
          have hTs : T.size = 73 := by rw [hT]; rfl
          have ha : a = ⟨((((((((T.setIfInBounds 27 (.pointer (some ⟨w.heap.size + 1, 0, none⟩))).setIfInBounds 28 (.agg #[.bool p0, .slice x0 m0 d0])).setIfInBounds 29 (vs 0)).setIfInBounds 30 (.pointer (some ⟨w.heap.size + 1, 2, none⟩))).setIfInBounds 31 (.agg #[.bool p1, .slice x1 m1 d1])).setIfInBounds 32 (vs 1)).setIfInBounds 11 (.pointer (some ⟨gs 0, 0, none⟩))).setIfInBounds 12 (.pointer (some ⟨gs 1, 0, none⟩))), []⟩ := by
            refine hR.fr.all (fun j i v h => hall i (by have := mOwnC_lt h; simp only [] at this; omega)) (by simp) (fun j hj => ?_)
            by_cases h1 : 27 ≤ j ∧ j < 33
            · rcases (show j = 27 ∨ j = 28 ∨ j = 29 ∨ j = 30 ∨ j = 31 ∨ j = 32 by omega) with rfl | rfl | rfl | rfl | rfl | rfl <;> simp [sets_getD, mOwnC, hTs]
            · by_cases h2 : 11 ≤ j ∧ j < 13
              · rcases (show j = 11 ∨ j = 12 by omega) with rfl | rfl <;> simp [sets_getD, mOwnC, hTs]
              · have e : mOwnC 2 27 11 (w.heap.size + 1) (fun t => if t = 0 then .agg #[.bool p0, .slice x0 m0 d0] else .agg #[.bool p1, .slice x1 m1 d1]) vs gs j = none := by
                  unfold mOwnC
                  rw [if_neg (by omega), if_neg (by omega)]
                rw [e]
                simp only [sets_getD]
                repeat rw [if_neg (by omega)]
          have hbl := hR.bl
          clear hR hall
          rw [ev0, ev1] at ha
          obtain ⟨g11, hg11⟩ : ∃ g11, g11 = gs 0 := ⟨_, rfl⟩
          obtain ⟨g12, hg12⟩ : ∃ g12, g12 = gs 1 := ⟨_, rfl⟩
          rw [← hg11] at ha B11
          rw [← hg12] at ha B12
          have ha2 : a = ⟨#[.agg #[.slice s0 n0 c0, .slice s1 n1 c1], .int .u16 L, .agg #[.bool p0, .slice x0 m0 d0, .bool p1, .slice x1 m1 d1], .pointer (some ⟨w.heap.size, 0, none⟩), undef, .pointer (some ⟨w.heap.size + 1, 0, none⟩), .bool false, .bool true, .pointer (some ⟨g8, 0, none⟩), .pointer (some ⟨g9, 0, none⟩), .pointer (some ⟨g10, 0, none⟩), .pointer (some ⟨g11, 0, none⟩), .pointer (some ⟨g12, 0, none⟩), undef, undef, .bool true, .pointer (some ⟨w.heap.size, 0, none⟩), .slice s0 n0 c0, .agg #[.bool n8, .slice a8 l8 c8], .pointer (some ⟨w.heap.size, 1, none⟩), .slice s1 n1 c1, .agg #[.bool n9, .slice a9 l9 c9], .agg #[.bool n8, .slice a8 l8 c8], .int .u16 L, .int .i64 L, .int .i64 (L % 257), .agg #[.bool n8, .slice a10 l10 c10], .pointer (some ⟨w.heap.size + 1, 0, none⟩), .agg #[.bool p0, .slice x0 m0 d0], .agg #[.bool n11, .slice a11 l11 c11], .pointer (some ⟨w.heap.size + 1, 2, none⟩), .agg #[.bool p1, .slice x1 m1 d1], .agg #[.bool n12, .slice a12 l12 c12], undef, undef, undef, undef, undef, undef, undef, undef, undef, undef, undef, undef, undef, undef, undef, undef, undef, undef, undef, undef, undef, undef, undef, undef, undef, undef, undef, undef, undef, undef, undef, undef, undef, undef, undef, undef, undef, undef, undef, undef], []⟩ := by
            rw [ha, hT]
            simp only [List.setIfInBounds_toArray, List.set_cons_succ, List.set_cons_zero]
          subst ha2
          have B11 := Lib.hid B11
          have B12 := Lib.hid B12
          have HU := Lib.hid HU
          have HV := Lib.hid HV
          have HWW := step1 HW HZ hbl
          have HDD := step1 HD HE hbl
          have HW := HWW.1
          have HZ := HWW.2
          have HD := HDD.1
          have HE := HDD.2
          have C8 := Lib.hid (C8.out.below hbl)
          have C9 := Lib.hid (C9.out.below hbl)
          have C10 := Lib.hid (C10.out.below hbl)
          clear HWW HDD hbl ha hT hTs ev0 ev1 hg11 hg12 vs gs k0 k1 hW1
          have S8 := Lib.hid C8.out.sl
          have e8 := C8.out.c0
          have f8 := C8.out.c1
          have S9 := Lib.hid C9.out.sl
          have e9 := C9.out.c0
          have f9 := C9.out.c1
          have S10 := Lib.hid C10.out.sl
          have e10 := C10.out.c0
          have f10 := C10.out.c1
          have S11 := Lib.hid B11.out.sl
          have e11 := B11.out.c0
          have f11 := B11.out.c1
          have S12 := Lib.hid B12.out.sl
          have e12 := B12.out.c0
          have f12 := B12.out.c1
          clear HC0 HC1 HBR HU HV
          go_wp2
          have hb : Below W.heap.size W (W.alloc (.cells #[.bool n8, .slice a8 l8 c8, .bool n9, .slice a9 l9 c9, .bool n8, .slice a10 l10 c10, .bool n9, .slice a9 l9 c9, .bool n8, .slice a10 l10 c10, .bool n8, .slice a10 l10 c10, .bool n11, .slice a11 l11 c11, .bool n12, .slice a12 l12 c12, .bool n11, .slice a11 l11 c11, .bool n8, .slice a8 l8 c8, .bool n9, .slice a9 l9 c9, .bool n11, .slice a11 l11 c11] 28)) := alloc_b _ _
          have HK : Hid (Blk (W.alloc (.cells #[.bool n8, .slice a8 l8 c8, .bool n9, .slice a9 l9 c9, .bool n8, .slice a10 l10 c10, .bool n9, .slice a9 l9 c9, .bool n8, .slice a10 l10 c10, .bool n8, .slice a10 l10 c10, .bool n11, .slice a11 l11 c11, .bool n12, .slice a12 l12 c12, .bool n11, .slice a11 l11 c11, .bool n8, .slice a8 l8 c8, .bool n9, .slice a9 l9 c9, .bool n11, .slice a11 l11 c11] 28)) W.heap.size #[.bool n8, .slice a8 l8 c8, .bool n9, .slice a9 l9 c9, .bool n8, .slice a10 l10 c10, .bool n9, .slice a9 l9 c9, .bool n8, .slice a10 l10 c10, .bool n8, .slice a10 l10 c10, .bool n11, .slice a11 l11 c11, .bool n12, .slice a12 l12 c12, .bool n11, .slice a11 l11 c11, .bool n8, .slice a8 l8 c8, .bool n9, .slice a9 l9 c9, .bool n11, .slice a11 l11 c11] 28) := Lib.hid (heap_alloc_new _ _)
          have S8 := Lib.hid (show Sl (W.alloc (.cells #[.bool n8, .slice a8 l8 c8, .bool n9, .slice a9 l9 c9, .bool n8, .slice a10 l10 c10, .bool n9, .slice a9 l9 c9, .bool n8, .slice a10 l10 c10, .bool n8, .slice a10 l10 c10, .bool n11, .slice a11 l11 c11, .bool n12, .slice a12 l12 c12, .bool n11, .slice a11 l11 c11, .bool n8, .slice a8 l8 c8, .bool n9, .slice a9 l9 c9, .bool n11, .slice a11 l11 c11] 28)) (.slice a8 l8 c8) _ ∧ _ from ⟨S8.out.1.below hb, S8.out.2⟩)
          have S9 := Lib.hid (show Sl (W.alloc (.cells #[.bool n8, .slice a8 l8 c8, .bool n9, .slice a9 l9 c9, .bool n8, .slice a10 l10 c10, .bool n9, .slice a9 l9 c9, .bool n8, .slice a10 l10 c10, .bool n8, .slice a10 l10 c10, .bool n11, .slice a11 l11 c11, .bool n12, .slice a12 l12 c12, .bool n11, .slice a11 l11 c11, .bool n8, .slice a8 l8 c8, .bool n9, .slice a9 l9 c9, .bool n11, .slice a11 l11 c11] 28)) (.slice a9 l9 c9) _ ∧ _ from ⟨S9.out.1.below hb, S9.out.2⟩)
          have S10 := Lib.hid (show Sl (W.alloc (.cells #[.bool n8, .slice a8 l8 c8, .bool n9, .slice a9 l9 c9, .bool n8, .slice a10 l10 c10, .bool n9, .slice a9 l9 c9, .bool n8, .slice a10 l10 c10, .bool n8, .slice a10 l10 c10, .bool n11, .slice a11 l11 c11, .bool n12, .slice a12 l12 c12, .bool n11, .slice a11 l11 c11, .bool n8, .slice a8 l8 c8, .bool n9, .slice a9 l9 c9, .bool n11, .slice a11 l11 c11] 28)) (.slice a10 l10 c10) _ ∧ _ from ⟨S10.out.1.below hb, S10.out.2⟩)
          have S11 := Lib.hid (show Sl (W.alloc (.cells #[.bool n8, .slice a8 l8 c8, .bool n9, .slice a9 l9 c9, .bool n8, .slice a10 l10 c10, .bool n9, .slice a9 l9 c9, .bool n8, .slice a10 l10 c10, .bool n8, .slice a10 l10 c10, .bool n11, .slice a11 l11 c11, .bool n12, .slice a12 l12 c12, .bool n11, .slice a11 l11 c11, .bool n8, .slice a8 l8 c8, .bool n9, .slice a9 l9 c9, .bool n11, .slice a11 l11 c11] 28)) (.slice a11 l11 c11) _ ∧ _ from ⟨S11.out.1.below hb, S11.out.2⟩)
          have S12 := Lib.hid (show Sl (W.alloc (.cells #[.bool n8, .slice a8 l8 c8, .bool n9, .slice a9 l9 c9, .bool n8, .slice a10 l10 c10, .bool n9, .slice a9 l9 c9, .bool n8, .slice a10 l10 c10, .bool n8, .slice a10 l10 c10, .bool n11, .slice a11 l11 c11, .bool n12, .slice a12 l12 c12, .bool n11, .slice a11 l11 c11, .bool n8, .slice a8 l8 c8, .bool n9, .slice a9 l9 c9, .bool n11, .slice a11 l11 c11] 28)) (.slice a12 l12 c12) _ ∧ _ from ⟨S12.out.1.below hb, S12.out.2⟩)
          have HWW := step1 HW HZ hb
          have HW := HWW.1
          have HZ := HWW.2
          clear HWW hb e8 f8 e9 f9 e10 f10 e11 f11 e12 f12 C8 C9 C10 B11 B12
          revert HW
          revert HZ
          revert HK
          revert S8
          revert S9
          revert S10
          revert S11
          revert S12
          generalize (W.alloc (.cells #[.bool n8, .slice a8 l8 c8, .bool n9, .slice a9 l9 c9, .bool n8, .slice a10 l10 c10, .bool n9, .slice a9 l9 c9, .bool n8, .slice a10 l10 c10, .bool n8, .slice a10 l10 c10, .bool n11, .slice a11 l11 c11, .bool n12, .slice a12 l12 c12, .bool n11, .slice a11 l11 c11, .bool n8, .slice a8 l8 c8, .bool n9, .slice a9 l9 c9, .bool n11, .slice a11 l11 c11] 28)) = W10
          generalize W.heap.size = g51
          intro S12 S11 S10 S9 S8 HK HZ HW
          have A8_9 : Hid (∀ V, Below W10.heap.size W10 V → Calls Tryz.prog 14 #[.agg #[.bool n8, .slice a8 l8 c8], .agg #[.bool n9, .slice a9 l9 c9]] V (fun e w' => e = .returned (.bool true) ∧ Below V.heap.size V w')) := Lib.hid (fun V hV => adds_any (S8.out.1.below hV) (S9.out.1.below hV) (by have := S8.out.2; omega) (by have := S9.out.2; omega))
          have A9_8 : Hid (∀ V, Below W10.heap.size W10 V → Calls Tryz.prog 14 #[.agg #[.bool n9, .slice a9 l9 c9], .agg #[.bool n8, .slice a8 l8 c8]] V (fun e w' => e = .returned (.bool true) ∧ Below V.heap.size V w')) := Lib.hid (fun V hV => adds_any (S9.out.1.below hV) (S8.out.1.below hV) (by have := S9.out.2; omega) (by have := S8.out.2; omega))
          have A10_9 : Hid (∀ V, Below W10.heap.size W10 V → Calls Tryz.prog 14 #[.agg #[.bool n8, .slice a10 l10 c10], .agg #[.bool n9, .slice a9 l9 c9]] V (fun e w' => e = .returned (.bool true) ∧ Below V.heap.size V w')) := Lib.hid (fun V hV => adds_any (S10.out.1.below hV) (S9.out.1.below hV) (by have := S10.out.2; omega) (by have := S9.out.2; omega))
          have A9_10 : Hid (∀ V, Below W10.heap.size W10 V → Calls Tryz.prog 14 #[.agg #[.bool n9, .slice a9 l9 c9], .agg #[.bool n8, .slice a10 l10 c10]] V (fun e w' => e = .returned (.bool true) ∧ Below V.heap.size V w')) := Lib.hid (fun V hV => adds_any (S9.out.1.below hV) (S10.out.1.below hV) (by have := S9.out.2; omega) (by have := S10.out.2; omega))
          have A10_10 : Hid (∀ V, Below W10.heap.size W10 V → Calls Tryz.prog 14 #[.agg #[.bool n8, .slice a10 l10 c10], .agg #[.bool n8, .slice a10 l10 c10]] V (fun e w' => e = .returned (.bool true) ∧ Below V.heap.size V w')) := Lib.hid (fun V hV => adds_any (S10.out.1.below hV) (S10.out.1.below hV) (by have := S10.out.2; omega) (by have := S10.out.2; omega))
          have A11_12 : Hid (∀ V, Below W10.heap.size W10 V → Calls Tryz.prog 14 #[.agg #[.bool n11, .slice a11 l11 c11], .agg #[.bool n12, .slice a12 l12 c12]] V (fun e w' => e = .returned (.bool true) ∧ Below V.heap.size V w')) := Lib.hid (fun V hV => adds_any (S11.out.1.below hV) (S12.out.1.below hV) (by have := S11.out.2; omega) (by have := S12.out.2; omega))
          have A12_11 : Hid (∀ V, Below W10.heap.size W10 V → Calls Tryz.prog 14 #[.agg #[.bool n12, .slice a12 l12 c12], .agg #[.bool n11, .slice a11 l11 c11]] V (fun e w' => e = .returned (.bool true) ∧ Below V.heap.size V w')) := Lib.hid (fun V hV => adds_any (S12.out.1.below hV) (S11.out.1.below hV) (by have := S12.out.2; omega) (by have := S11.out.2; omega))
          have A11_8 : Hid (∀ V, Below W10.heap.size W10 V → Calls Tryz.prog 14 #[.agg #[.bool n11, .slice a11 l11 c11], .agg #[.bool n8, .slice a8 l8 c8]] V (fun e w' => e = .returned (.bool true) ∧ Below V.heap.size V w')) := Lib.hid (fun V hV => adds_any (S11.out.1.below hV) (S8.out.1.below hV) (by have := S11.out.2; omega) (by have := S8.out.2; omega))
          have A8_11 : Hid (∀ V, Below W10.heap.size W10 V → Calls Tryz.prog 14 #[.agg #[.bool n8, .slice a8 l8 c8], .agg #[.bool n11, .slice a11 l11 c11]] V (fun e w' => e = .returned (.bool true) ∧ Below V.heap.size V w')) := Lib.hid (fun V hV => adds_any (S8.out.1.below hV) (S11.out.1.below hV) (by have := S8.out.2; omega) (by have := S11.out.2; omega))
          have A9_11 : Hid (∀ V, Below W10.heap.size W10 V → Calls Tryz.prog 14 #[.agg #[.bool n9, .slice a9 l9 c9], .agg #[.bool n11, .slice a11 l11 c11]] V (fun e w' => e = .returned (.bool true) ∧ Below V.heap.size V w')) := Lib.hid (fun V hV => adds_any (S9.out.1.below hV) (S11.out.1.below hV) (by have := S9.out.2; omega) (by have := S11.out.2; omega))
          have A11_9 : Hid (∀ V, Below W10.heap.size W10 V → Calls Tryz.prog 14 #[.agg #[.bool n11, .slice a11 l11 c11], .agg #[.bool n9, .slice a9 l9 c9]] V (fun e w' => e = .returned (.bool true) ∧ Below V.heap.size V w')) := Lib.hid (fun V hV => adds_any (S11.out.1.below hV) (S9.out.1.below hV) (by have := S11.out.2; omega) (by have := S9.out.2; omega))
          clear S8 S9 S10 S11 S12
          go_loopw [53] (fun kv wr => ∃ i : Int, (i = 0 ∨ i = 1 ∨ i = 2 ∨ i = 3 ∨ i = 4 ∨ i = 5 ∨ i = 6) ∧ kv = .int .i64 i ∧ Hid (Below W10.heap.size W10 wr)) (fun kv _ => (6 - intOf kv).toNat)
          case atStart => exact ⟨0, by omega, rfl, Lib.hid (Below.refl _ _)⟩
          case round =>
            obtain ⟨i, hi, rfl, HQ⟩ := hrel
            have HK2 := Lib.hid (HK.out.below HQ.out)
            rcases hi with rfl | rfl | rfl | rfl | rfl | rfl | rfl
            · have y0 : wr.cell? ⟨g51, 0, none⟩ = some (.bool n8) := HK2.out.cell 0 rfl
              have y1 : wr.cell? ⟨g51, 1, none⟩ = some (.slice a8 l8 c8) := HK2.out.cell 1 rfl
              have y2 : wr.cell? ⟨g51, 2, none⟩ = some (.bool n9) := HK2.out.cell 2 rfl
              have y3 : wr.cell? ⟨g51, 3, none⟩ = some (.slice a9 l9 c9) := HK2.out.cell 3 rfl
              go_upto_region 8 with fail
              have hb : Below wr.heap.size wr (wr.alloc (.cells #[.bool n8, .slice a8 l8 c8, .bool n9, .slice a9 l9 c9] 28)) := alloc_b _ _
              have HX : Hid (Blk (wr.alloc (.cells #[.bool n8, .slice a8 l8 c8, .bool n9, .slice a9 l9 c9] 28)) wr.heap.size #[.bool n8, .slice a8 l8 c8, .bool n9, .slice a9 l9 c9] 28) := Lib.hid (heap_alloc_new _ _)
              have HQ := Lib.hid (HQ.out.trans (hb.mono HQ.out.size))
              clear hb y0 y1 y2 y3
              revert HQ
              revert HX
              generalize (wr.alloc (.cells #[.bool n8, .slice a8 l8 c8, .bool n9, .slice a9 l9 c9] 28)) = W12
              generalize wr.heap.size = g14
              intro HX HQ
              have y0 := HX.out.cell 0 (v := .bool n8) rfl
              have y1 := HX.out.cell 1 (v := .slice a8 l8 c8) rfl
              have y2 := HX.out.cell 2 (v := .bool n9) rfl
              have y3 := HX.out.cell 3 (v := .slice a9 l9 c9) rfl
              go_wp2_with (first | (go_at_call 14; (with_reducible refine (A8_9.out _ HQ.out).mono ?_); rintro e wn ⟨rfl, hb⟩; have HX := Lib.hid (HX.out.below hb); have HQ := Lib.hid (HQ.out.trans (hb.mono HQ.out.size)); clear hb; have y0 := HX.out.cell 0 (v := .bool n8) rfl; have y1 := HX.out.cell 1 (v := .slice a8 l8 c8) rfl; have y2 := HX.out.cell 2 (v := .bool n9) rfl; have y3 := HX.out.cell 3 (v := .slice a9 l9 c9) rfl) | (go_at_call 14; (with_reducible refine (A9_8.out _ HQ.out).mono ?_); rintro e wn ⟨rfl, hb⟩; have HX := Lib.hid (HX.out.below hb); have HQ := Lib.hid (HQ.out.trans (hb.mono HQ.out.size)); clear hb; have y0 := HX.out.cell 0 (v := .bool n8) rfl; have y1 := HX.out.cell 1 (v := .slice a8 l8 c8) rfl; have y2 := HX.out.cell 2 (v := .bool n9) rfl; have y3 := HX.out.cell 3 (v := .slice a9 l9 c9) rfl))
              go_roundw
              case rel => exact ⟨1, by omega, rfl, HQ⟩
              case measure => simp [intOf]
            · have y0 : wr.cell? ⟨g51, 4, none⟩ = some (.bool n8) := HK2.out.cell 4 rfl
              have y1 : wr.cell? ⟨g51, 5, none⟩ = some (.slice a10 l10 c10) := HK2.out.cell 5 rfl
              have y2 : wr.cell? ⟨g51, 6, none⟩ = some (.bool n9) := HK2.out.cell 6 rfl
              have y3 : wr.cell? ⟨g51, 7, none⟩ = some (.slice a9 l9 c9) := HK2.out.cell 7 rfl
              go_upto_region 8 with fail
              have hb : Below wr.heap.size wr (wr.alloc (.cells #[.bool n8, .slice a10 l10 c10, .bool n9, .slice a9 l9 c9] 28)) := alloc_b _ _
              have HX : Hid (Blk (wr.alloc (.cells #[.bool n8, .slice a10 l10 c10, .bool n9, .slice a9 l9 c9] 28)) wr.heap.size #[.bool n8, .slice a10 l10 c10, .bool n9, .slice a9 l9 c9] 28) := Lib.hid (heap_alloc_new _ _)
              have HQ := Lib.hid (HQ.out.trans (hb.mono HQ.out.size))
              clear hb y0 y1 y2 y3
              revert HQ
              revert HX
              generalize (wr.alloc (.cells #[.bool n8, .slice a10 l10 c10, .bool n9, .slice a9 l9 c9] 28)) = W12
              generalize wr.heap.size = g14
              intro HX HQ
              have y0 := HX.out.cell 0 (v := .bool n8) rfl
              have y1 := HX.out.cell 1 (v := .slice a10 l10 c10) rfl
              have y2 := HX.out.cell 2 (v := .bool n9) rfl
              have y3 := HX.out.cell 3 (v := .slice a9 l9 c9) rfl
              go_wp2_with (first | (go_at_call 14; (with_reducible refine (A10_9.out _ HQ.out).mono ?_); rintro e wn ⟨rfl, hb⟩; have HX := Lib.hid (HX.out.below hb); have HQ := Lib.hid (HQ.out.trans (hb.mono HQ.out.size)); clear hb; have y0 := HX.out.cell 0 (v := .bool n8) rfl; have y1 := HX.out.cell 1 (v := .slice a10 l10 c10) rfl; have y2 := HX.out.cell 2 (v := .bool n9) rfl; have y3 := HX.out.cell 3 (v := .slice a9 l9 c9) rfl) | (go_at_call 14; (with_reducible refine (A9_10.out _ HQ.out).mono ?_); rintro e wn ⟨rfl, hb⟩; have HX := Lib.hid (HX.out.below hb); have HQ := Lib.hid (HQ.out.trans (hb.mono HQ.out.size)); clear hb; have y0 := HX.out.cell 0 (v := .bool n8) rfl; have y1 := HX.out.cell 1 (v := .slice a10 l10 c10) rfl; have y2 := HX.out.cell 2 (v := .bool n9) rfl; have y3 := HX.out.cell 3 (v := .slice a9 l9 c9) rfl))
              go_roundw
              case rel => exact ⟨2, by omega, rfl, HQ⟩
              case measure => simp [intOf]
            · have y0 : wr.cell? ⟨g51, 8, none⟩ = some (.bool n8) := HK2.out.cell 8 rfl
              have y1 : wr.cell? ⟨g51, 9, none⟩ = some (.slice a10 l10 c10) := HK2.out.cell 9 rfl
              have y2 : wr.cell? ⟨g51, 10, none⟩ = some (.bool n8) := HK2.out.cell 10 rfl
              have y3 : wr.cell? ⟨g51, 11, none⟩ = some (.slice a10 l10 c10) := HK2.out.cell 11 rfl
              go_upto_region 8 with fail
              have hb : Below wr.heap.size wr (wr.alloc (.cells #[.bool n8, .slice a10 l10 c10, .bool n8, .slice a10 l10 c10] 28)) := alloc_b _ _
              have HX : Hid (Blk (wr.alloc (.cells #[.bool n8, .slice a10 l10 c10, .bool n8, .slice a10 l10 c10] 28)) wr.heap.size #[.bool n8, .slice a10 l10 c10, .bool n8, .slice a10 l10 c10] 28) := Lib.hid (heap_alloc_new _ _)
              have HQ := Lib.hid (HQ.out.trans (hb.mono HQ.out.size))
              clear hb y0 y1 y2 y3
              revert HQ
              revert HX
              generalize (wr.alloc (.cells #[.bool n8, .slice a10 l10 c10, .bool n8, .slice a10 l10 c10] 28)) = W12
              generalize wr.heap.size = g14
              intro HX HQ
              have y0 := HX.out.cell 0 (v := .bool n8) rfl
              have y1 := HX.out.cell 1 (v := .slice a10 l10 c10) rfl
              have y2 := HX.out.cell 2 (v := .bool n8) rfl
              have y3 := HX.out.cell 3 (v := .slice a10 l10 c10) rfl
              go_wp2_with (go_at_call 14; (with_reducible refine (A10_10.out _ HQ.out).mono ?_); rintro e wn ⟨rfl, hb⟩; have HX := Lib.hid (HX.out.below hb); have HQ := Lib.hid (HQ.out.trans (hb.mono HQ.out.size)); clear hb; have y0 := HX.out.cell 0 (v := .bool n8) rfl; have y1 := HX.out.cell 1 (v := .slice a10 l10 c10) rfl; have y2 := HX.out.cell 2 (v := .bool n8) rfl; have y3 := HX.out.cell 3 (v := .slice a10 l10 c10) rfl)
              go_roundw
              case rel => exact ⟨3, by omega, rfl, HQ⟩
              case measure => simp [intOf]
            · have y0 : wr.cell? ⟨g51, 12, none⟩ = some (.bool n11) := HK2.out.cell 12 rfl
              have y1 : wr.cell? ⟨g51, 13, none⟩ = some (.slice a11 l11 c11) := HK2.out.cell 13 rfl
              have y2 : wr.cell? ⟨g51, 14, none⟩ = some (.bool n12) := HK2.out.cell 14 rfl
              have y3 : wr.cell? ⟨g51, 15, none⟩ = some (.slice a12 l12 c12) := HK2.out.cell 15 rfl
              go_upto_region 8 with fail
              have hb : Below wr.heap.size wr (wr.alloc (.cells #[.bool n11, .slice a11 l11 c11, .bool n12, .slice a12 l12 c12] 28)) := alloc_b _ _
              have HX : Hid (Blk (wr.alloc (.cells #[.bool n11, .slice a11 l11 c11, .bool n12, .slice a12 l12 c12] 28)) wr.heap.size #[.bool n11, .slice a11 l11 c11, .bool n12, .slice a12 l12 c12] 28) := Lib.hid (heap_alloc_new _ _)
              have HQ := Lib.hid (HQ.out.trans (hb.mono HQ.out.size))
              clear hb y0 y1 y2 y3
              revert HQ
              revert HX
              generalize (wr.alloc (.cells #[.bool n11, .slice a11 l11 c11, .bool n12, .slice a12 l12 c12] 28)) = W12
              generalize wr.heap.size = g14
              intro HX HQ
              have y0 := HX.out.cell 0 (v := .bool n11) rfl
              have y1 := HX.out.cell 1 (v := .slice a11 l11 c11) rfl
              have y2 := HX.out.cell 2 (v := .bool n12) rfl
              have y3 := HX.out.cell 3 (v := .slice a12 l12 c12) rfl
              go_wp2_with (first | (go_at_call 14; (with_reducible refine (A11_12.out _ HQ.out).mono ?_); rintro e wn ⟨rfl, hb⟩; have HX := Lib.hid (HX.out.below hb); have HQ := Lib.hid (HQ.out.trans (hb.mono HQ.out.size)); clear hb; have y0 := HX.out.cell 0 (v := .bool n11) rfl; have y1 := HX.out.cell 1 (v := .slice a11 l11 c11) rfl; have y2 := HX.out.cell 2 (v := .bool n12) rfl; have y3 := HX.out.cell 3 (v := .slice a12 l12 c12) rfl) | (go_at_call 14; (with_reducible refine (A12_11.out _ HQ.out).mono ?_); rintro e wn ⟨rfl, hb⟩; have HX := Lib.hid (HX.out.below hb); have HQ := Lib.hid (HQ.out.trans (hb.mono HQ.out.size)); clear hb; have y0 := HX.out.cell 0 (v := .bool n11) rfl; have y1 := HX.out.cell 1 (v := .slice a11 l11 c11) rfl; have y2 := HX.out.cell 2 (v := .bool n12) rfl; have y3 := HX.out.cell 3 (v := .slice a12 l12 c12) rfl))
              go_roundw
              case rel => exact ⟨4, by omega, rfl, HQ⟩
              case measure => simp [intOf]
            · have y0 : wr.cell? ⟨g51, 16, none⟩ = some (.bool n11) := HK2.out.cell 16 rfl
              have y1 : wr.cell? ⟨g51, 17, none⟩ = some (.slice a11 l11 c11) := HK2.out.cell 17 rfl
              have y2 : wr.cell? ⟨g51, 18, none⟩ = some (.bool n8) := HK2.out.cell 18 rfl
              have y3 : wr.cell? ⟨g51, 19, none⟩ = some (.slice a8 l8 c8) := HK2.out.cell 19 rfl
              go_upto_region 8 with fail
              have hb : Below wr.heap.size wr (wr.alloc (.cells #[.bool n11, .slice a11 l11 c11, .bool n8, .slice a8 l8 c8] 28)) := alloc_b _ _
              have HX : Hid (Blk (wr.alloc (.cells #[.bool n11, .slice a11 l11 c11, .bool n8, .slice a8 l8 c8] 28)) wr.heap.size #[.bool n11, .slice a11 l11 c11, .bool n8, .slice a8 l8 c8] 28) := Lib.hid (heap_alloc_new _ _)
              have HQ := Lib.hid (HQ.out.trans (hb.mono HQ.out.size))
              clear hb y0 y1 y2 y3
              revert HQ
              revert HX
              generalize (wr.alloc (.cells #[.bool n11, .slice a11 l11 c11, .bool n8, .slice a8 l8 c8] 28)) = W12
              generalize wr.heap.size = g14
              intro HX HQ
              have y0 := HX.out.cell 0 (v := .bool n11) rfl
              have y1 := HX.out.cell 1 (v := .slice a11 l11 c11) rfl
              have y2 := HX.out.cell 2 (v := .bool n8) rfl
              have y3 := HX.out.cell 3 (v := .slice a8 l8 c8) rfl
              go_wp2_with (first | (go_at_call 14; (with_reducible refine (A11_8.out _ HQ.out).mono ?_); rintro e wn ⟨rfl, hb⟩; have HX := Lib.hid (HX.out.below hb); have HQ := Lib.hid (HQ.out.trans (hb.mono HQ.out.size)); clear hb; have y0 := HX.out.cell 0 (v := .bool n11) rfl; have y1 := HX.out.cell 1 (v := .slice a11 l11 c11) rfl; have y2 := HX.out.cell 2 (v := .bool n8) rfl; have y3 := HX.out.cell 3 (v := .slice a8 l8 c8) rfl) | (go_at_call 14; (with_reducible refine (A8_11.out _ HQ.out).mono ?_); rintro e wn ⟨rfl, hb⟩; have HX := Lib.hid (HX.out.below hb); have HQ := Lib.hid (HQ.out.trans (hb.mono HQ.out.size)); clear hb; have y0 := HX.out.cell 0 (v := .bool n11) rfl; have y1 := HX.out.cell 1 (v := .slice a11 l11 c11) rfl; have y2 := HX.out.cell 2 (v := .bool n8) rfl; have y3 := HX.out.cell 3 (v := .slice a8 l8 c8) rfl))
              go_roundw
              case rel => exact ⟨5, by omega, rfl, HQ⟩
              case measure => simp [intOf]
            · have y0 : wr.cell? ⟨g51, 20, none⟩ = some (.bool n9) := HK2.out.cell 20 rfl
              have y1 : wr.cell? ⟨g51, 21, none⟩ = some (.slice a9 l9 c9) := HK2.out.cell 21 rfl
              have y2 : wr.cell? ⟨g51, 22, none⟩ = some (.bool n11) := HK2.out.cell 22 rfl
              have y3 : wr.cell? ⟨g51, 23, none⟩ = some (.slice a11 l11 c11) := HK2.out.cell 23 rfl
              go_upto_region 8 with fail
              have hb : Below wr.heap.size wr (wr.alloc (.cells #[.bool n9, .slice a9 l9 c9, .bool n11, .slice a11 l11 c11] 28)) := alloc_b _ _
              have HX : Hid (Blk (wr.alloc (.cells #[.bool n9, .slice a9 l9 c9, .bool n11, .slice a11 l11 c11] 28)) wr.heap.size #[.bool n9, .slice a9 l9 c9, .bool n11, .slice a11 l11 c11] 28) := Lib.hid (heap_alloc_new _ _)
              have HQ := Lib.hid (HQ.out.trans (hb.mono HQ.out.size))
              clear hb y0 y1 y2 y3
              revert HQ
              revert HX
              generalize (wr.alloc (.cells #[.bool n9, .slice a9 l9 c9, .bool n11, .slice a11 l11 c11] 28)) = W12
              generalize wr.heap.size = g14
              intro HX HQ
              have y0 := HX.out.cell 0 (v := .bool n9) rfl
              have y1 := HX.out.cell 1 (v := .slice a9 l9 c9) rfl
              have y2 := HX.out.cell 2 (v := .bool n11) rfl
              have y3 := HX.out.cell 3 (v := .slice a11 l11 c11) rfl
              go_wp2_with (first | (go_at_call 14; (with_reducible refine (A9_11.out _ HQ.out).mono ?_); rintro e wn ⟨rfl, hb⟩; have HX := Lib.hid (HX.out.below hb); have HQ := Lib.hid (HQ.out.trans (hb.mono HQ.out.size)); clear hb; have y0 := HX.out.cell 0 (v := .bool n9) rfl; have y1 := HX.out.cell 1 (v := .slice a9 l9 c9) rfl; have y2 := HX.out.cell 2 (v := .bool n11) rfl; have y3 := HX.out.cell 3 (v := .slice a11 l11 c11) rfl) | (go_at_call 14; (with_reducible refine (A11_9.out _ HQ.out).mono ?_); rintro e wn ⟨rfl, hb⟩; have HX := Lib.hid (HX.out.below hb); have HQ := Lib.hid (HQ.out.trans (hb.mono HQ.out.size)); clear hb; have y0 := HX.out.cell 0 (v := .bool n9) rfl; have y1 := HX.out.cell 1 (v := .slice a9 l9 c9) rfl; have y2 := HX.out.cell 2 (v := .bool n11) rfl; have y3 := HX.out.cell 3 (v := .slice a11 l11 c11) rfl))
              go_roundw
              case rel => exact ⟨6, by omega, rfl, HQ⟩
              case measure => simp [intOf]
            · go_wp2
              go_ret
              exact ⟨rfl, HW.out.trans (HQ.out.mono HZ.out)⟩

end Go.Proofs.YtdgmjmckeeeljaaGreatDoor

namespace Go.Proofs.YtdgmjmckeeeljaaGreatDoor
open Go.RowKit Go.Lib

theorem lenB_bounds {n : Nat} (h0 : n ≠ 0) (hl : (digs n).length ≤ 256) : 1 ≤ lenB (digs n) ∧ 2 ^ (lenB (digs n) - 1) ≤ n ∧ n < 2 ^ lenB (digs n) := by
  have e : rightB false (digs n) = true := rightB_of _ _ (fun h => by cases h) hl
  have hb := lenB_bits false (digs n)
  rw [if_pos e] at hb
  exact bits_bounds h0 hl false _ hb

theorem lenB_zero : lenB [] = 0 := by unfold lenB; rw [if_pos rfl]

theorem lenB_le (ds : List Nat) (hl : ds.length ≤ 256) : lenB ds ≤ 32 * ds.length ∨ lenB ds ≤ 100000 := by
  by_cases h : ds = []
  · subst h; rw [lenB_zero]; omega
  · right
    unfold lenB
    rw [if_neg h]
    have : ∀ k n, bitLenAux k n ≤ k := by
      intro k
      induction k with
      | zero => intro n; simp [bitLenAux]
      | succ k ih => intro n; unfold bitLenAux; split <;> first | omega | (have := ih (n / 2); omega)
    have := this 64 (ds.getD (ds.length - 1) 0)
    show 32 * (ds.length - 1) + bitLenAux 64 (ds.getD (ds.length - 1) 0) ≤ 100000
    omega

/-- One binary digit more of the number. -/
theorem next_bit (X k : Nat) : X / 2 ^ k = 2 * (X / 2 ^ (k + 1)) + X / 2 ^ k % 2 := by
  rw [Nat.pow_succ, ← Nat.div_div_eq_div_mul]
  omega

theorem bin_small {P Y B : Nat} (hB : B ≤ 1) (h : 2 * (P % Y) + B < Y) : (2 * P + B) % Y = 2 * (P % Y) + B ∧ (2 * P + B) / Y = 2 * (P / Y) := by
  have hY : 0 < Y := by omega
  have e : 2 * P + B = 2 * (P % Y) + B + Y * (2 * (P / Y)) := by
    have := Nat.mod_add_div P Y
    have e2 : Y * (2 * (P / Y)) = 2 * (Y * (P / Y)) := by grind
    omega
  rw [e, Nat.add_mul_mod_self_left, Nat.mod_eq_of_lt h, Nat.add_mul_div_left _ _ hY, Nat.div_eq_of_lt h]
  omega

theorem bin_great {P Y B : Nat} (hY : 0 < Y) (hB : B ≤ 1) (h : Y ≤ 2 * (P % Y) + B) : (2 * P + B) % Y = 2 * (P % Y) + B - Y ∧ (2 * P + B) / Y = 2 * (P / Y) + 1 := by
  have hl := Nat.mod_lt P hY
  have hlt : 2 * (P % Y) + B - Y < Y := by omega
  have e : 2 * P + B = 2 * (P % Y) + B - Y + Y * (2 * (P / Y) + 1) := by
    have := Nat.mod_add_div P Y
    have e2 : Y * (2 * (P / Y) + 1) = 2 * (Y * (P / Y)) + Y := by grind
    omega
  rw [e, Nat.add_mul_mod_self_left, Nat.mod_eq_of_lt hlt, Nat.add_mul_div_left _ _ hY, Nat.div_eq_of_lt hlt]
  omega

/-- Before the first round the quotient is 0 and the rest is what the number is without its last digits. -/
theorem bin_start {X Y la lb : Nat} (hX : X < 2 ^ la) (hY : 2 ^ (lb - 1) ≤ Y) (h1 : 1 ≤ lb) (hle : lb ≤ la) : X / 2 ^ (la - lb + 1) < Y := by
  refine Nat.lt_of_lt_of_le ?_ hY
  rw [Nat.div_lt_iff_lt_mul (Nat.pow_pos (by omega)), ← Nat.pow_add, show lb - 1 + (la - lb + 1) = la by omega]
  exact hX

/-- The digit into which a binary digit is set. -/
theorem bin_digit (Q q r k d : Nat) (hr : r < 32) (hk : k = 32 * q + r) (hd : d = Q * 2 ^ (k + 1) / 4294967296 ^ q % 4294967296) : d % 2 ^ (r + 1) = 0 := by
  have e1 : Q * 2 ^ (k + 1) / 4294967296 ^ q = Q * 2 ^ (r + 1) := by
    rw [pow_bits, hk, show 32 * q + r + 1 = r + 1 + 32 * q by omega, Nat.pow_add, ← Nat.mul_assoc, Nat.mul_div_cancel _ (Nat.pow_pos (by omega))]
  have e2 : (4294967296 : Nat) = 2 ^ (r + 1) * 2 ^ (32 - (r + 1)) := by rw [← Nat.pow_add, show r + 1 + (32 - (r + 1)) = 32 by omega]
  rw [hd, e1, Nat.mod_mod_of_dvd _ ⟨_, e2⟩, Nat.mul_mod_left]

theorem bin_or (d r : Nat) (hr : r < 32) (hd4 : d < 4294967296) (hd : d % 2 ^ (r + 1) = 0) : bits .or .u32 (d : Int) ((2 ^ r : Nat) : Int) = ((d + 2 ^ r : Nat) : Int) ∧ d + 2 ^ r < 4294967296 := by
  have hp : 2 ^ r < 4294967296 := by
    rw [show (4294967296 : Nat) = 2 ^ 32 from rfl]
    exact Nat.pow_lt_pow_right (by omega) hr
  refine ⟨?_, ?_⟩
  · rw [u32_or_nat _ _ hd4 hp, nat_join (r + 1) _ _ hd (Nat.pow_lt_pow_right (by omega) (by omega))]
  · have e2 : (4294967296 : Nat) = 2 ^ (r + 1) * 2 ^ (32 - (r + 1)) := by rw [← Nat.pow_add, show r + 1 + (32 - (r + 1)) = 32 by omega]
    have e3 : d = 2 ^ (r + 1) * (d / 2 ^ (r + 1)) := by have := Nat.mod_add_div d (2 ^ (r + 1)); omega
    obtain ⟨u, hu⟩ : ∃ u, u = d / 2 ^ (r + 1) := ⟨_, rfl⟩
    obtain ⟨M, hM⟩ : ∃ M, M = 2 ^ (32 - (r + 1)) := ⟨_, rfl⟩
    rw [← hu] at e3
    rw [← hM] at e2
    have hlt : u < M := by
      refine Nat.lt_of_mul_lt_mul_left (a := 2 ^ (r + 1)) ?_
      rw [← e3, ← e2]; exact hd4
    have hle : 2 ^ (r + 1) * (u + 1) ≤ 2 ^ (r + 1) * M := Nat.mul_le_mul_left _ hlt
    rw [← e2, Nat.mul_add, ← e3] at hle
    have : 2 ^ (r + 1) = 2 ^ r * 2 := Nat.pow_succ 2 r
    have hp0 : 0 < 2 ^ r := Nat.pow_pos (by omega)
    omega

theorem bin_set {zs : List Nat} {Q q r k d : Nat} (hv : val zs = Q * 2 ^ (k + 1)) (hk : k = 32 * q + r) (hq : q < zs.length) (hd : d = zs.getD q 0) : val (zs.set q (d + 2 ^ r)) = (2 * Q + 1) * 2 ^ k := by
  have h := val_set hq (d + 2 ^ r)
  rw [← hd, Nat.mul_add] at h
  have e : 4294967296 ^ q * 2 ^ r = 2 ^ k := by rw [pow_bits, ← Nat.pow_add, hk]
  rw [e] at h
  rw [Nat.pow_succ] at hv
  have e2 : (2 * Q + 1) * 2 ^ k = Q * (2 ^ k * 2) + 2 ^ k := by grind
  omega

end Go.Proofs.YtdgmjmckeeeljaaGreatDoor

namespace Go.Proofs.YtdgmjmckeeeljaaGreatDoor
open Go.RowKit Go.Lib

/-- A quotient and a rest. -/
def DivR (w : World) (x y : Nat) (e : Ending) (w' : World) : Prop :=
  ∃ aq cq ar cr, e = .returned (.tuple #[.slice aq (digs (x / y)).length cq, .slice ar (digs (x % y)).length cr]) ∧
    Sl w' (.slice aq (digs (x / y)).length cq) (digs (x / y)) ∧ Sl w' (.slice ar (digs (x % y)).length cr) (digs (x % y)) ∧ Below w.heap.size w w'

theorem digs2_lt {x : Nat} (h : (digs x).length ≤ 2) : x < 18446744073709551616 := by
  have := digs_length_le.1 h
  simpa using this

set_option maxRecDepth 10000 in
set_option maxHeartbeats 2000000 in
theorem divide48_small {w : World} {va vb : Value} {x y : Nat} (ha : Sl w va (digs x)) (hb : Sl w vb (digs y)) (h0 : y ≠ 0) (hla : (digs x).length ≤ 2) (hlb : (digs y).length ≤ 2) :
    Calls Tryz.prog 48 #[va, vb] w (DivR w x y) := by
  obtain ⟨aa, ca, rfl⟩ := ha.mk'
  obtain ⟨ab, cb, rfl⟩ := hb.mk'
  have WA : Hid (∀ W, Below w.heap.size w W → Calls Tryz.prog 73 #[.slice aa (digs x).length ca] W fun e w' => e = .returned (.int .u64 (x : Nat)) ∧ w' = W) := Lib.hid fun W h => by
    have := word73_any (ha.below h) hla
    rwa [val_digs] at this
  have WB : Hid (∀ W, Below w.heap.size w W → Calls Tryz.prog 73 #[.slice ab (digs y).length cb] W fun e w' => e = .returned (.int .u64 (y : Nat)) ∧ w' = W) := Lib.hid fun W h => by
    have := word73_any (hb.below h) hlb
    rwa [val_digs] at this
  have hx := digs2_lt hla
  have hy := digs2_lt hlb
  obtain ⟨n, hn⟩ : ∃ n, n = (digs x).length := ⟨_, rfl⟩
  obtain ⟨m, hm⟩ : ∃ m, m = (digs y).length := ⟨_, rfl⟩
  rw [← hn] at hla WA ⊢
  rw [← hm] at hlb WB ⊢
  obtain ⟨Q, hQ⟩ : ∃ Q, Q = x / y := ⟨_, rfl⟩
  obtain ⟨R, hR⟩ : ∃ R, R = x % y := ⟨_, rfl⟩
  have fQ : (x : Int).tdiv (y : Int) = (Q : Int) := by rw [hQ]; rfl
  have fR : (x : Int).tmod (y : Int) = (R : Int) := by rw [hR]; rfl
  have fQ2 : (x : Int) / (y : Int) = (Q : Int) := by rw [hQ]; rfl
  have fR2 : (x : Int) % (y : Int) = (R : Int) := by rw [hR]; rfl
  have hy0 : (y : Int) ≠ 0 := by omega
  have hQl : Q ≤ x := by rw [hQ]; exact Nat.div_le_self _ _
  have hRl : R ≤ x := by rw [hR]; exact Nat.mod_le _ _
  have DQ : Hid (∀ W, Calls Tryz.prog 80 #[.int .u64 (Q : Nat)] W (NewDigs W Q)) := Lib.hid fun W => digits80_any Q W (by omega)
  have DR : Hid (∀ W, Calls Tryz.prog 80 #[.int .u64 (R : Nat)] W (NewDigs W R)) := Lib.hid fun W => digits80_any R W (by omega)
  have wQ : IntKind.u64.wrap (Q : Int) = (Q : Int) := by rw [IntKind.wrap_u64]; omega
  have wR : IntKind.u64.wrap (R : Int) = (R : Int) := by rw [IntKind.wrap_u64]; omega
  have HX := Lib.hid hx
  have HY := Lib.hid hy
  unfold DivR
  rw [← hQ, ← hR]
  clear hx hy hQ hR ha hb hn hm h0 hQl hRl
  go_enter Tryz.func48, Tryz.ntmps48
  go_wp2_with (first | (go_at_call_of 73 (Value.slice aa n ca); (with_reducible refine (WA.out _ (by first | exact Below.refl _ _ | exact HBQ.out)).mono ?_); rintro e w' ⟨rfl, hw'⟩; subst w') | (go_at_call_of 73 (Value.slice ab m cb); (with_reducible refine (WB.out _ (by first | exact Below.refl _ _ | exact HBQ.out)).mono ?_); rintro e w' ⟨rfl, hw'⟩; subst w') | (go_at_call_of 80 (Value.int IntKind.u64 (Q : Int)); (with_reducible refine (DQ.out _).mono ?_); rintro e w1 ⟨v, rfl, hq, hbq⟩; obtain ⟨aq, cq, rfl⟩ := hq.sl.mk'; have HSQ := Lib.hid hq.sl; have HBQ := Lib.hid hbq; have HKQ := Lib.hid hbq.size; clear hq hbq) | (go_at_call_of 80 (Value.int IntKind.u64 (R : Int)); (with_reducible refine (DR.out _).mono ?_); rintro e w2 ⟨v, rfl, hq, hbq⟩; obtain ⟨ar, cr, rfl⟩ := hq.sl.mk'; have HSR := Lib.hid hq.sl; have HBR := Lib.hid hbq; clear hq hbq))
  go_returns
  exact ⟨aq, cq, ar, cr, rfl, HSQ.out.below HBR.out, HSR.out, HBQ.out.trans (HBR.out.mono (by exact HBQ.out.size))⟩

end Go.Proofs.YtdgmjmckeeeljaaGreatDoor

namespace Go.Proofs.YtdgmjmckeeeljaaGreatDoor
open Go.RowKit Go.Lib

theorem lenB_lt {x y : Nat} (hy0 : y ≠ 0) (hlx : (digs x).length ≤ 256) (hly : (digs y).length ≤ 256) (h : lenB (digs x) < lenB (digs y)) : x < y := by
  obtain ⟨h1, h2, h3⟩ := lenB_bounds hy0 hly
  by_cases hx : x = 0
  · omega
  · obtain ⟨g1, g2, g3⟩ := lenB_bounds hx hlx
    exact Nat.lt_of_lt_of_le g3 (Nat.le_trans (Nat.pow_le_pow_right (by omega) (by omega)) h2)

theorem lenB_two {x y : Nat} (hlx : (digs x).length ≤ 2) (hly : (digs y).length ≤ 256) (h2 : 2 < (digs y).length) : lenB (digs x) < lenB (digs y) := by
  have hy : 18446744073709551616 ≤ y := by
    refine Nat.le_of_not_lt fun h => ?_
    have := digs_length_le (n := y) (k := 2) |>.2 (by simpa using h)
    omega
  have hx := digs2_lt hlx
  obtain ⟨h1, hh2, h3⟩ := lenB_bounds (n := y) (by omega) hly
  have hb : 64 < lenB (digs y) := by
    refine Nat.lt_of_not_le fun h => ?_
    have := Nat.pow_le_pow_right (n := 2) (by omega) h
    have e : (2 : Nat) ^ 64 = 18446744073709551616 := by decide
    omega
  by_cases hx0 : x = 0
  · subst hx0
    rw [show digs 0 = [] from digs_zero, lenB_zero]; omega
  · obtain ⟨g1, g2, g3⟩ := lenB_bounds hx0 (by omega)
    have ha : lenB (digs x) - 1 < 64 := by
      refine Nat.lt_of_not_le fun h => ?_
      have := Nat.pow_le_pow_right (n := 2) (by omega) h
      have e : (2 : Nat) ^ 64 = 18446744073709551616 := by decide
      omega
    omega

theorem lenB_max (x : Nat) (hl : (digs x).length ≤ 256) : lenB (digs x) ≤ 100000 := by
  rcases lenB_le (digs x) hl with h | h <;> omega

set_option maxRecDepth 10000 in
set_option maxHeartbeats 2000000 in
theorem divide48_far {w : World} {va vb : Value} {x y : Nat} (ha : Sl w va (digs x)) (hb : Sl w vb (digs y)) (h0 : y ≠ 0) (hla : (digs x).length ≤ 256) (hlb : (digs y).length ≤ 256) (hs : 2 < (digs x).length ∨ (digs x).length ≤ 2 ∧ 2 < (digs y).length) (hlt : lenB (digs x) < lenB (digs y)) :
    Calls Tryz.prog 48 #[va, vb] w (DivR w x y) := by
  have hxy := lenB_lt h0 hla hlb hlt
  have hma := lenB_max x hla
  have hmb := lenB_max y hlb
  obtain ⟨aa, ca, rfl⟩ := ha.mk'
  obtain ⟨ab, cb, rfl⟩ := hb.mk'
  have WA : Hid (∀ W, Below w.heap.size w W → Calls Tryz.prog 53 #[.slice aa (digs x).length ca] W fun e w' => e = .returned (.int .i64 (lenB (digs x) : Nat)) ∧ w' = W) := Lib.hid fun W h => length53_any (ha.below h) (by omega)
  have WB : Hid (∀ W, Below w.heap.size w W → Calls Tryz.prog 53 #[.slice ab (digs y).length cb] W fun e w' => e = .returned (.int .i64 (lenB (digs y) : Nat)) ∧ w' = W) := Lib.hid fun W h => length53_any (hb.below h) (by omega)
  unfold DivR
  rw [Nat.div_eq_of_lt hxy, Nat.mod_eq_of_lt hxy, show digs 0 = [] from digs_zero]
  have HA := Lib.hid ha
  obtain ⟨n, hn⟩ : ∃ n, n = (digs x).length := ⟨_, rfl⟩
  obtain ⟨m, hm⟩ : ∃ m, m = (digs y).length := ⟨_, rfl⟩
  rw [← hn] at hla hs WA HA ⊢
  rw [← hm] at hlb hs WB ⊢
  obtain ⟨A, hA⟩ : ∃ A, A = lenB (digs x) := ⟨_, rfl⟩
  obtain ⟨B, hB⟩ : ∃ B, B = lenB (digs y) := ⟨_, rfl⟩
  rw [← hA] at WA hlt hma
  rw [← hB] at WB hlt hmb
  have wAB : IntKind.i64.wrap ((A : Int) - (B : Int)) = (A : Int) - (B : Int) := by rw [IntKind.wrap_i64]; omega
  have hneg : (A : Int) - (B : Int) < 0 := by omega
  clear ha hb hn hm hA hB hxy h0 hma hmb hlt
  rcases hs with hs | ⟨hs, hs2⟩
  · go_enter Tryz.func48, Tryz.ntmps48
    go_wp2_with (first | (go_at_call_of 53 (Value.slice aa n ca); (with_reducible refine (WA.out _ (Below.refl _ _)).mono ?_); rintro e w' ⟨rfl, hw'⟩; subst w') | (go_at_call_of 53 (Value.slice ab m cb); (with_reducible refine (WB.out _ (Below.refl _ _)).mono ?_); rintro e w' ⟨rfl, hw'⟩; subst w'))
    go_returns
    exact ⟨none, 0, aa, ca, rfl, Sl.nil _ _ _, HA.out, Below.refl _ _⟩
  · go_enter Tryz.func48, Tryz.ntmps48
    go_wp2_with (first | (go_at_call_of 53 (Value.slice aa n ca); (with_reducible refine (WA.out _ (Below.refl _ _)).mono ?_); rintro e w' ⟨rfl, hw'⟩; subst w') | (go_at_call_of 53 (Value.slice ab m cb); (with_reducible refine (WB.out _ (Below.refl _ _)).mono ?_); rintro e w' ⟨rfl, hw'⟩; subst w'))
    go_returns
    exact ⟨none, 0, aa, ca, rfl, Sl.nil _ _ _, HA.out, Below.refl _ _⟩

end Go.Proofs.YtdgmjmckeeeljaaGreatDoor

namespace Go.Proofs.YtdgmjmckeeeljaaGreatDoor
open Go Go.RowKit

/-- What an operation's result is known to be. -/
inductive Kd where
  | val (v : Value)
  | nu (z : Int)
  | pair (z : Int)
  | any
  | byte (b : Int)

def Kd.ok : Kd → Value → World → Prop
  | .val v, x, _ => x = v
  | .nu z, x, w => ∃ neg ao n cap, x = .agg #[.bool neg, .slice ao n cap] ∧ Nu w (.agg #[.bool neg, .slice ao n cap]) z
  | .pair z, x, w => ∃ neg ao n cap, x = .tuple #[.agg #[.bool neg, .slice ao n cap], .bool true] ∧ Nu w (.agg #[.bool neg, .slice ao n cap]) z
  | .any, _, _ => True
  | .byte b, x, w => ∃ g, x = .slice (some ⟨g, 0, none⟩) 1 1 ∧ w.heap[g]? = some (.cells #[.int .u8 b] 5 (0, 0))

theorem Kd.ok.below {k : Kd} {v : Value} {w w' : World} (h : k.ok v w) (hb : Below w.heap.size w w') : k.ok v w' := by
  cases k with
  | val u => exact h
  | nu z => obtain ⟨neg, ao, n, cap, e, hn⟩ := h; exact ⟨neg, ao, n, cap, e, hn.below hb⟩
  | pair z => obtain ⟨neg, ao, n, cap, e, hn⟩ := h; exact ⟨neg, ao, n, cap, e, hn.below hb⟩
  | any => exact trivial
  | byte b => obtain ⟨g, e, hg⟩ := h; exact ⟨g, e, (hb.block _ (Array.getElem?_eq_some_iff.1 hg).1).trans hg⟩

theorem Kd.ok.stored {k : Kd} {v : Value} {w : World} (h : k.ok v w) {g m c : Nat} {b : Bool} {so : Option Addr} (hg : w.heap[g]? = some (.cells #[.bool b, .slice so m c] 27 (0, 0))) (nb : Bool) (u : Value) :
    k.ok v ((w.setCell ⟨g, 0, none⟩ (.bool nb)).setCell ⟨g, 1, none⟩ u) := by
  have hr1 : (w.setCell ⟨g, 0, none⟩ (.bool nb)).heap[g]? = some (.cells #[.bool nb, .slice so m c] 27 (0, 0)) := by
    have := heap_setCell_same w g 0 _ 27 (.bool nb) hg
    simpa using this
  cases k with
  | val u => exact h
  | nu z => obtain ⟨neg, ao, n, cap, e, hn⟩ := h; exact ⟨neg, ao, n, cap, e, nu_setBox (nu_setBox hn hg 0 _) hr1 1 _⟩
  | pair z => obtain ⟨neg, ao, n, cap, e, hn⟩ := h; exact ⟨neg, ao, n, cap, e, nu_setBox (nu_setBox hn hg 0 _) hr1 1 _⟩
  | any => exact trivial
  | byte b =>
    obtain ⟨g', e, hg'⟩ := h
    have hne : g' ≠ g := fun e => by
      subst e
      rw [hg] at hg'
      cases hg'
    exact ⟨g', e, by rw [heap_setCell_other _ _ _ _ hne, heap_setCell_other _ _ _ _ hne]; exact hg'⟩

/-- The slot that each operation writes, and what it holds. -/
def tOwn (ds : List (Option Nat)) (vals : Nat → Value) (j : Nat) : Option (Nat × Value) :=
  match ds.findIdx? (fun x => x == some j) with
  | some i => some (i, vals i)
  | none => none

theorem tOwn_some {ds : List (Option Nat)} {vals : Nat → Value} {j i : Nat} (h : ds.findIdx? (fun x => x == some j) = some i) : tOwn ds vals j = some (i, vals i) := by
  unfold tOwn
  rw [h]
theorem tOwn_inv {ds : List (Option Nat)} {vals : Nat → Value} {j : Nat} {p : Nat × Value} (h : tOwn ds vals j = some p) : ds[p.1]? = some (some j) ∧ p.2 = vals p.1 := by
  unfold tOwn at h
  split at h
  · rename_i i hi
    cases h
    rw [List.findIdx?_eq_some_iff_getElem] at hi
    obtain ⟨h1, h2, _⟩ := hi
    exact ⟨by rw [List.getElem?_eq_getElem h1]; rw [beq_iff_eq] at h2; rw [h2], rfl⟩
  · cases h

structure RG (W0 : World) (T : Array Value) (ds : List (Option Nat)) (ks : List Kd) (bx : Option (Nat × Nat × Int)) (vals : Nat → Value) (l : Array Bool) (a : Act) (w : World) : Prop where
  size : l.size = ds.length
  fr : Fr (tOwn ds vals) T l a
  bl : Below W0.heap.size W0 w
  val : ∀ i, i < ds.length → l.getD i true = true → (ks.getD i .any).ok (vals i) w
  dep : ∀ ai si z, bx = some (ai, si, z) → l.getD si true = true → l.getD ai true = true
  box : ∀ ai si z, bx = some (ai, si, z) → l.getD ai true = true → ∃ g, vals ai = .pointer (some ⟨g, 0, none⟩) ∧ W0.heap.size ≤ g ∧ g < w.heap.size ∧
    (l.getD si true = false → w.heap[g]? = some (.cells #[.bool false, .slice none 0 0] 27 (0, 0))) ∧ (l.getD si true = true → ∃ neg ao n cap, Bx w g neg ao n cap z)

section
variable {W0 : World} {T : Array Value} {ds : List (Option Nat)} {ks : List Kd} {bx : Option (Nat × Nat × Int)} {vals : Nat → Value} {l : Array Bool} {a : Act} {w : World}

theorem Fr.stepT (h : Fr (tOwn ds vals) T l a) {i d : Nat} (hd : ds.findIdx? (fun x => x == some d) = some i) (hi : i < l.size) (hl : l.getD i true = false) (v : Value) :
    Fr (tOwn ds (fun u => if u = i then v else vals u)) T (l.setIfInBounds i true) (a.put (some d) v) := by
  have hf : Fr (tOwn ds (fun u => if u = i then v else vals u)) T l a := h.swap
    (fun j p hp hq => by
      obtain ⟨h1, h2⟩ := tOwn_inv hp
      have hne : p.1 ≠ i := fun e => by rw [e, hl] at hq; cases hq
      simp only [hne, if_false] at h2
      unfold tOwn at hp ⊢
      split at hp
      · cases hp; simp only [] at h2 ⊢; rw [h2]
      · cases hp)
    (fun j p hp hq => by
      obtain ⟨h1, h2⟩ := tOwn_inv hp
      have hne : p.1 ≠ i := fun e => by rw [e, hl] at hq; cases hq
      unfold tOwn at hp ⊢
      split at hp
      · cases hp; simp only [hne, if_false]
      · cases hp)
  refine hf.put (by rw [tOwn_some hd, if_pos rfl]) hi (fun j p hp e => ?_)
  obtain ⟨h1, _⟩ := tOwn_inv hp
  rw [List.findIdx?_eq_some_iff_getElem] at hd
  obtain ⟨h2, h3, _⟩ := hd
  rw [beq_iff_eq] at h3
  rw [e, List.getElem?_eq_getElem h2, h3] at h1
  cases h1
  rfl

/-- An operation that writes a slot. -/
theorem RG.op (h : RG W0 T ds ks bx vals l a w) (i d : Nat) (hd : ds.findIdx? (fun x => x == some d) = some i) (hi : i < ds.length) (hl : l.getD i true = false) {v : Value} {w' : World} (hb : Below w.heap.size w w') (hv : (ks.getD i .any).ok v w')
    (hnb : ∀ ai si z, bx = some (ai, si, z) → i ≠ ai ∧ i ≠ si) :
    RG W0 T ds ks bx (fun u => if u = i then v else vals u) (l.setIfInBounds i true) (a.put (some d) v) w' := by
  refine ⟨by rw [Array.size_setIfInBounds]; exact h.size, h.fr.stepT hd (by rw [h.size]; exact hi) hl v, h.bl.trans (hb.mono h.bl.size), fun k hk h1 => ?_, fun ai si z e h1 => ?_, fun ai si z e h1 => ?_⟩
  · by_cases e : k = i
    · subst e
      simp only [if_true]
      exact hv
    · simp only [e, if_false]
      rcases gset_true h1 with e2 | h1
      · exact absurd e2 e
      · exact (h.val k hk h1).below hb
  · obtain ⟨n1, n2⟩ := hnb _ _ _ e
    rcases gset_true h1 with e2 | h1
    · exact absurd e2.symm n2
    · exact gset_old (h.dep _ _ _ e h1)
  · obtain ⟨n1, n2⟩ := hnb _ _ _ e
    rcases gset_true h1 with e2 | h1
    · exact absurd e2.symm n1
    · obtain ⟨g, q1, q2, q3, q4, q5⟩ := h.box _ _ _ e h1
      refine ⟨g, ?_, q2, Nat.lt_of_lt_of_le q3 hb.size, fun h2 => ?_, fun h2 => ?_⟩
      · simp only [Ne.symm n1, if_false]; exact q1
      · exact (hb.block _ q3).trans (q4 (gset_false h2).2)
      · rcases gset_true h2 with e2 | h2
        · exact absurd e2.symm n2
        · obtain ⟨neg, ao, n, cap, hx⟩ := q5 h2
          exact ⟨neg, ao, n, cap, hx.below hb⟩

/-- The box made. -/
theorem RG.alloc {ai si : Nat} {z : Int} (h : RG W0 T ds ks (some (ai, si, z)) vals l a w) {d : Nat} (hd : ds.findIdx? (fun x => x == some d) = some ai) (hi : ai < ds.length) (hl : l.getD ai true = false) (hk : ks.getD ai .any = .any) (hne : ai ≠ si) :
    RG W0 T ds ks (some (ai, si, z)) (fun u => if u = ai then .pointer (some ⟨w.heap.size, 0, none⟩) else vals u) (l.setIfInBounds ai true) (a.put (some d) (.pointer (some ⟨w.heap.size, 0, none⟩))) (w.alloc (.cells #[.bool false, .slice none 0 0] 27)) := by
  have hb := alloc_b w (.cells #[.bool false, .slice none 0 0] 27)
  have hsf : l.getD si true = false := by
    cases hs : l.getD si true with
    | false => rfl
    | true => rw [h.dep _ _ _ rfl hs] at hl; cases hl
  refine ⟨by rw [Array.size_setIfInBounds]; exact h.size, h.fr.stepT hd (by rw [h.size]; exact hi) hl _, h.bl.trans (hb.mono h.bl.size), fun k hk2 h1 => ?_, fun ai' si' z' e h1 => ?_, fun ai' si' z' e h1 => ?_⟩
  · by_cases e : k = ai
    · subst e
      rw [hk]
      exact trivial
    · simp only [e, if_false]
      rcases gset_true h1 with e2 | h1
      · exact absurd e2 e
      · exact (h.val k hk2 h1).below hb
  · cases e
    rcases gset_true h1 with e2 | h1
    · exact absurd e2.symm hne
    · rw [hsf] at h1; cases h1
  · cases e
    refine ⟨w.heap.size, by simp only [if_true], h.bl.size, by simp, fun _ => heap_alloc_new _ _, fun h2 => ?_⟩
    rcases gset_true h2 with e2 | h2
    · exact absurd e2.symm hne
    · rw [hsf] at h2; cases h2

/-- The store. -/
theorem RG.store {ai si : Nat} {z : Int} (h : RG W0 T ds ks (some (ai, si, z)) vals l a w) (hds : ds[si]? = some none) (hl : l.getD si true = false) (h1 : l.getD ai true = true) (hk : ks.getD si .any = .any) {g : Nat} (hg : vals ai = .pointer (some ⟨g, 0, none⟩)) {neg : Bool} {ao : Option Addr} {n cap : Nat} (hn : Nu w (.agg #[.bool neg, .slice ao n cap]) z) (u : Value) :
    RG W0 T ds ks (some (ai, si, z)) vals (l.setIfInBounds si true) (a.put none u) ((w.setCell ⟨g, 0, none⟩ (.bool neg)).setCell ⟨g, 1, none⟩ (.slice ao n cap)) := by
  obtain ⟨g', q1, q2, q3, q4, q5⟩ := h.box _ _ _ rfl h1
  rw [hg] at q1
  cases q1
  have hz := q4 hl
  have hr1 : (w.setCell ⟨g, 0, none⟩ (.bool neg)).heap[g]? = some (.cells #[.bool neg, .slice none 0 0] 27 (0, 0)) := by
    have := heap_setCell_same w g 0 _ 27 (.bool neg) hz
    simpa using this
  have hr2 : ((w.setCell ⟨g, 0, none⟩ (.bool neg)).setCell ⟨g, 1, none⟩ (.slice ao n cap)).heap[g]? = some (.cells #[.bool neg, .slice ao n cap] 27 (0, 0)) := by
    have := heap_setCell_same _ g 1 _ 27 (.slice ao n cap) hr1
    simpa using this
  have hb : Below W0.heap.size W0 ((w.setCell ⟨g, 0, none⟩ (.bool neg)).setCell ⟨g, 1, none⟩ (.slice ao n cap)) := (h.bl.setCell q2 _).setCell q2 _
  refine ⟨by rw [Array.size_setIfInBounds]; exact h.size, h.fr.bare u (fun j p hp e => ?_), hb, fun k hk2 h3 => ?_, fun ai' si' z' e h3 => ?_, fun ai' si' z' e h3 => ?_⟩
  · obtain ⟨e1, _⟩ := tOwn_inv hp
    rw [e, hds] at e1
    cases e1
  · by_cases e : k = si
    · subst e
      rw [hk]
      exact trivial
    · rcases gset_true h3 with e2 | h3
      · exact absurd e2 e
      · exact (h.val k hk2 h3).stored hz _ _
  · cases e
    exact gset_old h1
  · cases e
    exact ⟨g, hg, q2, by simpa using q3, fun h4 => absurd rfl (gset_false h4).1, fun _ => ⟨neg, ao, n, cap, hr2, nu_setBox (nu_setBox hn hz 0 _) hr1 1 _⟩⟩

/-- What the store needs. -/
theorem RG.ready {ai si : Nat} {z : Int} (h : RG W0 T ds ks (some (ai, si, z)) vals l a w) (hl : l.getD si true = false) (h1 : l.getD ai true = true) :
    ∃ g, vals ai = .pointer (some ⟨g, 0, none⟩) ∧ w.cell? ⟨g, 0, none⟩ = some (.bool false) ∧ w.cell? ⟨g, 1, none⟩ = some (.slice none 0 0) ∧ w.frozen? ⟨g, 0, none⟩ = false ∧ w.frozen? ⟨g, 1, none⟩ = false ∧ g < w.heap.size := by
  obtain ⟨g, q1, q2, q3, q4, q5⟩ := h.box _ _ _ rfl h1
  have hz := q4 hl
  refine ⟨g, q1, ?_, ?_, frozen_of_row _ _ _ _ _ hz, frozen_of_row _ _ _ _ _ hz, q3⟩
  · rw [cell_of_row _ _ _ _ _ _ hz]; rfl
  · rw [cell_of_row _ _ _ _ _ _ hz]; rfl

/-- The beginning. -/
theorem RG.start (hT : l = Array.replicate ds.length false) (hb : Below W0.heap.size W0 w) (hbx : ∀ ai si z, bx = some (ai, si, z) → ai < ds.length ∧ si < ds.length) : RG W0 T ds ks bx vals l ⟨T, []⟩ w := by
  have hf : ∀ j, j < ds.length → l.getD j true = false := fun j hj => by rw [hT]; simp [Array.getD, hj]
  refine ⟨by rw [hT]; simp, Fr.start _ _ _ (fun j i v h => hf i ?_), hb, fun i hi h => ?_, fun ai si z e h => ?_, fun ai si z e h => ?_⟩
  · obtain ⟨h1, _⟩ := tOwn_inv h
    exact (List.getElem?_eq_some_iff.1 h1).1
  · rw [hf _ hi] at h; cases h
  · rw [hf _ (hbx _ _ _ e).2] at h; cases h
  · rw [hf _ (hbx _ _ _ e).1] at h; cases h

/-- The end. -/
theorem RG.all (h : RG W0 T ds ks bx vals l a w) (hl : ∀ i, i < ds.length → l.getD i true = true) {T' : Array Value} (hs : T'.size = T.size)
    (ht : ∀ j, j < T.size → T'.getD j undef = match tOwn ds vals j with | some (_, v) => v | none => T.getD j undef) : a = ⟨T', []⟩ :=
  h.fr.all (fun j i v hj => hl i (List.getElem?_eq_some_iff.1 (tOwn_inv hj).1).1) hs ht
theorem RG.boxed {ai si : Nat} {z : Int} (h : RG W0 T ds ks (some (ai, si, z)) vals l a w) (h1 : l.getD ai true = true) (h2 : l.getD si true = true) : ∃ g neg ao n cap, vals ai = .pointer (some ⟨g, 0, none⟩) ∧ Bx w g neg ao n cap z := by
  obtain ⟨g, q1, _, _, _, q5⟩ := h.box _ _ _ rfl h1
  obtain ⟨neg, ao, n, cap, hx⟩ := q5 h2
  exact ⟨g, neg, ao, n, cap, q1, hx⟩
end

theorem nu_parts {w : World} {x : Value} {z : Int} (h : Nu w x z) : ∃ neg ao n cap, x = .agg #[.bool neg, .slice ao n cap] ∧ Nu w (.agg #[.bool neg, .slice ao n cap]) z := by
  obtain ⟨s, rfl, hs, hl⟩ := h
  obtain ⟨ao, cap, rfl⟩ := hs.mk'
  exact ⟨_, ao, _, cap, rfl, _, rfl, hs, hl⟩
theorem nu_abs {w : World} {neg : Bool} {s : Value} {z : Int} {u : Nat} (h : Nu w (.agg #[.bool neg, s]) z) (hu : u = z.natAbs) : Nu w (.agg #[.bool false, s]) (u : Int) := by
  obtain ⟨s', e, hs, hl⟩ := h
  injection e with e
  simp only [Array.mk.injEq, List.cons.injEq, and_true] at e
  obtain ⟨_, rfl⟩ := e
  subst hu
  refine ⟨s, ?_, hs, hl⟩
  rw [show decide (((z.natAbs : Nat) : Int) < 0) = false from decide_eq_false (by omega)]

end Go.Proofs.YtdgmjmckeeeljaaGreatDoor

namespace Go.Proofs.YtdgmjmckeeeljaaGreatDoor
open Go Go.RowKit

structure RV (W : World) (c : Addr) (u : Value) (si : Nat) (ch : List (Nat × Nat)) (T : Array Value) (ds : List (Option Nat)) (vals : Nat → Value) (l : Array Bool) (a : Act) (w : World) : Prop where
  size : l.size = ds.length
  fr : Fr (tOwn ds vals) T l a
  wld : w = if l.getD si true = true then W.setCell c u else W
  dep : ∀ i j, (i, j) ∈ ch → l.getD i true = true → l.getD j true = true

section
variable {W : World} {c : Addr} {u : Value} {si : Nat} {ch : List (Nat × Nat)} {T : Array Value} {ds : List (Option Nat)} {vals : Nat → Value} {l : Array Bool} {a : Act} {w : World}

theorem dep_set {i : Nat} (h : ∀ i j, (i, j) ∈ ch → l.getD i true = true → l.getD j true = true) (hc : ∀ j, (i, j) ∈ ch → l.getD j true = true) : ∀ k j, (k, j) ∈ ch → (l.setIfInBounds i true).getD k true = true → (l.setIfInBounds i true).getD j true = true := by
  intro k j hm hk
  rcases gset_true hk with e | hk
  · subst e; exact gset_old (hc j hm)
  · exact gset_old (h k j hm hk)

/-- An operation that writes a slot. -/
theorem RV.op (h : RV W c u si ch T ds vals l a w) (i d : Nat) {v : Value} (hv : vals i = v) (hd : ds.findIdx? (fun x => x == some d) = some i) (hi : i < ds.length) (hl : l.getD i true = false) (hne : i ≠ si) (hc : ∀ j, (i, j) ∈ ch → l.getD j true = true) :
    RV W c u si ch T ds vals (l.setIfInBounds i true) (a.put (some d) v) w := by
  subst hv
  refine ⟨by rw [Array.size_setIfInBounds]; exact h.size, ?_, ?_, dep_set h.dep hc⟩
  · have := h.fr.stepT hd (by rw [h.size]; exact hi) hl (vals i)
    rwa [show (fun t => if t = i then vals i else vals t) = vals from funext fun t => by by_cases e : t = i <;> simp [e]] at this
  · rw [h.wld, getD_set_ne true (by omega)]

/-- The store. -/
theorem RV.store (h : RV W c u si ch T ds vals l a w) (hds : ds[si]? = some none) (hl : l.getD si true = false) (hc : ∀ j, (si, j) ∈ ch → l.getD j true = true) (v : Value) :
    RV W c u si ch T ds vals (l.setIfInBounds si true) (a.put none v) (w.setCell c u) := by
  have hs : si < l.size := by
    by_cases hi : si < l.size
    · exact hi
    · simp [Array.getD, hi] at hl
  refine ⟨by rw [Array.size_setIfInBounds]; exact h.size, h.fr.bare v (fun j p hp e => ?_), ?_, dep_set h.dep hc⟩
  · obtain ⟨e1, _⟩ := tOwn_inv hp
    rw [e, hds] at e1
    cases e1
  · have e := h.wld
    rw [if_neg (by rw [hl]; exact Bool.false_ne_true)] at e
    rw [if_pos (by simp [Array.getD, hs]), e]

/-- Before the store the world is as it was. -/
theorem RV.before (h : RV W c u si ch T ds vals l a w) {i : Nat} (hl : l.getD i true = false) (hr : l.getD si true = true → l.getD i true = true) : w = W := by
  rw [h.wld, if_neg]
  intro hs
  rw [hr hs] at hl
  cases hl

theorem RV.start (hT : l = Array.replicate ds.length false) (hch : ∀ i j, (i, j) ∈ ch → i < ds.length) (hs : si < ds.length) : RV W c u si ch T ds vals l ⟨T, []⟩ W := by
  have hf : ∀ j, j < ds.length → l.getD j true = false := fun j hj => by rw [hT]; simp [Array.getD, hj]
  refine ⟨by rw [hT]; simp, Fr.start _ _ _ (fun j i v h => hf i ?_), ?_, fun i j hm h => ?_⟩
  · obtain ⟨h1, _⟩ := tOwn_inv h
    exact (List.getElem?_eq_some_iff.1 h1).1
  · rw [if_neg (by rw [hf si hs]; exact Bool.false_ne_true)]
  · rw [hf _ (hch _ _ hm)] at h
    cases h

theorem RV.all (h : RV W c u si ch T ds vals l a w) (hl : ∀ i, i < ds.length → l.getD i true = true) (hs : si < ds.length) {T' : Array Value} (hT : T'.size = T.size)
    (ht : ∀ j, j < T.size → T'.getD j undef = match tOwn ds vals j with | some (_, v) => v | none => T.getD j undef) : a = ⟨T', []⟩ ∧ w = W.setCell c u := by
  refine ⟨h.fr.all (fun j i v hj => hl i (List.getElem?_eq_some_iff.1 (tOwn_inv hj).1).1) hT ht, ?_⟩
  rw [h.wld, if_pos (hl si hs)]
end

theorem rv_sets (T : Array Value) (i j : Nat) (v : Value) : (T.setIfInBounds i v).getD j undef = if i = j ∧ i < T.size then v else T.getD j undef := by
  by_cases h : i = j
  · subst h
    by_cases h2 : i < T.size
    · simp [Array.getD, h2]
    · simp [Array.getD, h2]
  · rw [if_neg (fun e => h e.1)]
    simp only [Array.getD_eq_getD_getElem?]
    rw [Array.getElem?_setIfInBounds_ne h]

/-- What a slot holds whose operation is not done. -/
theorem Fr.undone {own : Nat → Option (Nat × Value)} {T : Array Value} {l : Array Bool} {a : Act} (h : Fr own T l a) {i j : Nat} {v : Value} (hd : own j = some (i, v)) (hl : l.getD i true = false) (hj : j < T.size) : a.tmps.getD j undef = T.getD j undef := by
  rw [h.slot j hj, hd]
  simp only []
  rw [if_neg (by rw [hl]; exact Bool.false_ne_true)]

theorem false_of {l : Array Bool} {i k : Nat} (hl : l.getD i true = false) (h : l.getD k true = true → l.getD i true = true) : l.getD k true = false := by
  cases hk : l.getD k true with
  | false => rfl
  | true => rw [h hk] at hl; cases hl

theorem frame_named {P : Program} {c : Code} {Q : Exit → Act → World → Prop} {T0 : Array Value} {w : World} (h : ∀ T, T = T0 → c.wp P Q ⟨T, []⟩ w) : c.wp P Q ⟨T0, []⟩ w := h T0 rfl
theorem frame_namedIn {F : Fence} {n : Nat} {P : Program} {c : Code} {Q : Exit → Act → World → Prop} {T0 : Array Value} {w : World} (h : ∀ T, T = T0 → c.wpIn F n P Q ⟨T, []⟩ w) : c.wpIn F n P Q ⟨T0, []⟩ w := h T0 rfl

end Go.Proofs.YtdgmjmckeeeljaaGreatDoor

namespace Go.Proofs.YtdgmjmckeeeljaaGreatDoor
open Go.RowKit Go.Lib

theorem make_row0 (w : World) (n : Nat) (h : n ≤ 1000001) : (Instr.makeSlice 25 (.int .i64 (n : Int)) (.int .i64 (n : Int))).run Tryz.prog w = .ok (.slice (some ⟨w.heap.size, 0, none⟩) n n) (w.alloc (.cells ((List.replicate n 0).map u32v).toArray 59)) := by
  obtain ⟨i, hi, hz0, hz1, hz2⟩ := info_parts Tryz.info59
  have hr := run_make (P := Tryz.prog) w 25 59 i _ Tryz.underlying25 hi hz0 .i64 .i64 n n (by omega) (Int.le_refl _) (by rw [hz2]; omega) (by omega)
  simp only [Int.toNat_natCast, hz1] at hr
  rw [zeros_cells] at hr
  exact hr

def dvCh : List (Nat × Nat) := [(13, 12), (13, 11), (12, 2), (12, 0), (11, 10), (11, 7), (10, 9), (9, 8), (7, 6), (6, 5), (6, 3), (5, 4), (2, 1)]

def DivL (w : World) (x y F n g : Nat) (rv kv : Value) (wr : World) : Prop :=
  ∃ (j : Nat) (kz : Int) (zs : List Nat) (R : Nat) (ao : Option Addr) (cap : Nat), rv = .slice ao (digs R).length cap ∧ kv = .int .i64 kz ∧ kz + 1 = (j : Int) ∧ j ≤ F + 1 ∧ R = x / 2 ^ j % y ∧ val zs = x / 2 ^ j / y * 2 ^ j ∧ zs.length = n ∧ Bd zs ∧ Row wr g zs ∧ Sw (g + 1) wr (.slice ao (digs R).length cap) (digs R) ∧ Below g w wr

theorem digs_len_le {a b : Nat} (h : a ≤ b) : (digs a).length ≤ (digs b).length := digs_length_le.2 (Nat.lt_of_le_of_lt h (digs_length_le.1 (Nat.le_refl _)))

theorem digs_len_twice {a : Nat} {l : Nat} (h : (digs a).length ≤ l) (B : Nat) (hB : B ≤ 1) : (digs (2 * a + B)).length ≤ l + 1 := by
  refine digs_length_le.2 ?_
  have := digs_length_le.1 h
  rw [Nat.pow_succ]
  omega

theorem cmpN_ge {T y : Nat} (h : y ≤ T) : 0 ≤ cmpN T y := by
  unfold cmpN
  rw [if_neg (by omega)]
  split <;> omega

set_option maxRecDepth 10000 in
set_option maxHeartbeats 4000000 in
theorem divide48_long {w : World} {va vb : Value} {x y : Nat} (ha : Sl w va (digs x)) (hb : Sl w vb (digs y)) (h0 : y ≠ 0) (hla : (digs x).length ≤ 256) (hlb : (digs y).length ≤ 256) (hs : 2 < (digs x).length) (hge : lenB (digs y) ≤ lenB (digs x)) :
    Calls Tryz.prog 48 #[va, vb] w (DivR w x y) := by
  have hx0 : x ≠ 0 := fun e => by subst e; rw [show digs 0 = [] from digs_zero] at hs; simp at hs
  have hma := lenB_max x hla
  have hmb := lenB_max y hlb
  obtain ⟨b1, b2, b3⟩ := lenB_bounds h0 hlb
  obtain ⟨a1, a2, a3⟩ := lenB_bounds hx0 hla
  have hst := bin_start a3 b2 b1 hge
  obtain ⟨aa, ca, rfl⟩ := ha.mk'
  obtain ⟨ab, cb, rfl⟩ := hb.mk'
  have WA : Hid (∀ W, Below w.heap.size w W → Calls Tryz.prog 53 #[.slice aa (digs x).length ca] W fun e w' => e = .returned (.int .i64 (lenB (digs x) : Nat)) ∧ w' = W) := Lib.hid fun W h => length53_any (ha.below h) (by omega)
  have WB : Hid (∀ W, Below w.heap.size w W → Calls Tryz.prog 53 #[.slice ab (digs y).length cb] W fun e w' => e = .returned (.int .i64 (lenB (digs y) : Nat)) ∧ w' = W) := Lib.hid fun W h => length53_any (hb.below h) (by omega)
  have WO : Hid (∀ W (s : Nat), Below w.heap.size w W → s ≤ 1000000 → Calls Tryz.prog 81 #[.slice aa (digs x).length ca, .int .i64 (s : Nat)] W (NewDigs W (x / 2 ^ s))) := Lib.hid fun W s h h2 => by
    have := without81_any (ha.below h) (by omega) s h2
    rwa [val_digs] at this
  have BT : Hid (∀ W (k : Nat), Below w.heap.size w W → k < 32 * (digs x).length → Calls Tryz.prog 83 #[.slice aa (digs x).length ca, .int .i64 (k : Nat)] W fun e w' => e = .returned (.int .u32 (x / 2 ^ k % 2 : Nat)) ∧ w' = W) := Lib.hid fun W k h h2 => by
    have := bit83_any (ha.below h) k h2 (by omega)
    rwa [val_digs] at this
  have HB := Lib.hid hb
  have HA := Lib.hid ha
  have hkl : lenB (digs x) ≤ 32 * (digs x).length := by
    refine Nat.le_of_not_lt fun h => ?_
    have := digs_length_le.1 (Nat.le_refl (digs x).length)
    rw [pow_bits] at this
    have h5 := Nat.lt_of_le_of_lt a2 this
    have h6 := (Nat.pow_lt_pow_iff_right (a := 2) (by omega)).1 h5
    omega
  obtain ⟨n0, hn⟩ : ∃ n, n = (digs x).length := ⟨_, rfl⟩
  obtain ⟨m0, hm⟩ : ∃ m, m = (digs y).length := ⟨_, rfl⟩
  obtain ⟨A, hA⟩ : ∃ A, A = lenB (digs x) := ⟨_, rfl⟩
  obtain ⟨B, hB⟩ : ∃ B, B = lenB (digs y) := ⟨_, rfl⟩
  rw [← hn] at hla hs WA HA WO BT hkl ⊢
  rw [← hm] at hlb WB HB ⊢
  rw [← hA] at WA hge hma hst hkl
  rw [← hB] at WB hge hmb hst b1
  obtain ⟨F, hF⟩ : ∃ F, F = A - B := ⟨_, rfl⟩
  rw [← hF] at hst
  obtain ⟨q0, hq0⟩ : ∃ q, q = F / 32 := ⟨_, rfl⟩
  obtain ⟨n, hn2⟩ : ∃ n, n = F / 32 + 1 := ⟨_, rfl⟩
  have wAB : IntKind.i64.wrap ((A : Int) - (B : Int)) = (F : Int) := by rw [IntKind.wrap_i64]; omega
  obtain ⟨F1, hF1⟩ : ∃ F1, F1 = F + 1 := ⟨_, rfl⟩
  have fF : (F : Int).tdiv 32 = (q0 : Int) := by rw [hq0]; rfl
  have fF1 : IntKind.i64.wrap (q0 : Int) = (q0 : Int) := by rw [IntKind.wrap_i64]; omega
  have fF2 : IntKind.i64.wrap ((q0 : Int) + 1) = (n : Int) := by rw [IntKind.wrap_i64]; omega
  have fF3 : IntKind.i64.wrap ((F : Int) + 1) = (F1 : Int) := by rw [IntKind.wrap_i64]; omega
  have HF1 := Lib.hid hF1
  have hmk := fun W => make_row0 W n (by omega)
  have HNN := Lib.hid hn2
  have HKL : Hid (F < 32 * n0) := Lib.hid (by omega)
  have hwo := WO.out
  have HST := Lib.hid hst
  have HNX := Lib.hid hn
  have HMY := Lib.hid hm
  have HFX : Hid (F ≤ 100000) := Lib.hid (by omega)
  have HN1 : Hid (1 ≤ n ∧ n ≤ 10000) := Lib.hid (by omega)
  have HY0 := Lib.hid h0
  have hnn1 : 1 ≤ n := by omega
  clear ha hb hn hm hA hB hF hn2 hq0 hF1 hst h0 hx0 a1 a2 a3 b1 b2 b3 hma hmb hge hkl hwo
  go_enter Tryz.func48, Tryz.ntmps48
  go_wp2_with (first | (go_at_call_of 53 (Value.slice aa n0 ca); (with_reducible refine (WA.out _ (Below.refl _ _)).mono ?_); rintro e w' ⟨rfl, hw'⟩; subst w') | (go_at_call_of 53 (Value.slice ab m0 cb); (with_reducible refine (WB.out _ (Below.refl _ _)).mono ?_); rintro e w' ⟨rfl, hw'⟩; subst w') | (go_at_call 81; (with_reducible refine (WO.out _ F1 (alloc_b _ _) (by have := HFX.out; have := HF1.out; omega)).mono ?_); rintro e w1 ⟨v, rfl, hq, hbq⟩))
  obtain ⟨ao, cap, rfl⟩ := hq.sl.mk'
  have hR0 : Row (w.alloc (.cells (Array.replicate n (u32v 0)) 59)) w.heap.size (List.replicate n 0) := by
    have := row_new w (List.replicate n 0)
    rwa [List.map_replicate, List.toArray_replicate] at this
  have hR1 : Row w1 w.heap.size (List.replicate n 0) := hR0.below hbq
  have hb1 : Below w.heap.size w w1 := (alloc_b w _).trans (hbq.mono (by simp))
  have hq1 : Sw (w.heap.size + 1) w1 (.slice ao (digs (x / 2 ^ F1)).length cap) (digs (x / 2 ^ F1)) := by simpa using hq
  clear hq hbq hmk fF fF1 fF2 fF3 wAB WA WB WO
  have hg0 : ∃ g, g = w.heap.size := ⟨_, rfl⟩
  obtain ⟨g, hg⟩ := hg0
  rw [← hg] at hR1 hb1 hq1 BT ⊢
  have HG := Lib.hid hg
  have HR1 := Lib.hid hR1
  have HB1 := Lib.hid hb1
  have HQ1 := Lib.hid hq1
  clear hg hR1 hb1 hq1
  go_loopw [8, 9] (fun rv kv wr => DivL w x y F n g rv kv wr) (fun _ kv _ => (RowKit.intOf kv + 1).toNat)
  case atStart =>
    refine ⟨F + 1, F, List.replicate n 0, x / 2 ^ F1, ao, cap, rfl, rfl, by omega, by omega, ?_, ?_, by simp, ?_, HR1.out, HQ1.out, HB1.out⟩
    · rw [HF1.out, Nat.mod_eq_of_lt HST.out]
    · rw [Nat.div_eq_of_lt HST.out, Nat.zero_mul]; exact val_zeros n
    · exact fun d hd => by rw [(List.mem_replicate.1 hd).2]; omega
  case round =>
    obtain ⟨j, kz, zs, R, ao, cap, rfl, rfl, hkz, hj, hR, hv, hzl, hbz, hrow, hsw, hbl⟩ := hrel
    have HROW := Lib.hid hrow
    have HSW := Lib.hid hsw
    have HBL := Lib.hid hbl
    have HBZ := Lib.hid hbz
    have HZL := Lib.hid hzl
    rcases Nat.eq_zero_or_pos j with rfl | hpos
    · obtain rfl : kz = -1 := by omega
      rw [Nat.pow_zero, Nat.div_one] at hR hv
      rw [Nat.mul_one] at hv
      have hss := (hrow.sw' (B := 0) (Nat.zero_le _) hbz hzl (by have := HN1.out; unfold maxLen; omega)).sl
      have ht := rtrim_any _ _ _ hss
      have hu := hss.trim
      rw [hv] at ht hu
      have HU := Lib.hid hu
      have HRR := Lib.hid hR
      clear hrow hsw hbl hbz hzl hv hss hu hR
      go_wp2_with (go_at_call 55; (with_reducible refine ht.mono ?_); rintro e w' ⟨rfl, hw'⟩; subst w'; clear ht)
      go_returns
      refine ⟨some ⟨g, 0, none⟩, n, ao, cap, ?_, HU.out, ?_, by rw [← HG.out]; exact HBL.out⟩
      · rw [← HRR.out]; rfl
      · rw [← HRR.out]; exact HSW.out.sl
    · obtain ⟨k, rfl⟩ : ∃ k, j = k + 1 := ⟨j - 1, by omega⟩
      obtain rfl : kz = (k : Int) := by omega
      have hkF : k ≤ F := by omega
      obtain ⟨B, hB⟩ : ∃ B, B = x / 2 ^ k % 2 := ⟨_, rfl⟩
      have hB1 : B ≤ 1 := by omega
      have hnb := next_bit x k
      rw [← hB] at hnb
      obtain ⟨T, hT⟩ : ∃ T, T = 2 * R + B := ⟨_, rfl⟩
      have hbt := BT.out wr k hbl (by have := HKL.out; omega)
      rw [← hB] at hbt
      have hRy : R < y := by rw [hR]; exact Nat.mod_lt _ (Nat.pos_of_ne_zero HY0.out)
      have hRl : (digs R).length ≤ m0 := by rw [HMY.out]; exact digs_len_le (Nat.le_of_lt hRy)
      have hTl : (digs T).length ≤ m0 + 1 := by rw [hT]; exact digs_len_twice hRl B hB1
      have htw := twice82_any hsw.sl (by omega) B hB1
      rw [val_digs, ← hT] at htw
      have HTW := Lib.hid htw
      have HBT := Lib.hid hbt
      have HTT := Lib.hid hT
      have HNB := Lib.hid hnb
      have HRX := Lib.hid hR
      have HV := Lib.hid hv
      have HKF := Lib.hid hkF
      have HTL := Lib.hid hTl
      have HB1B := Lib.hid hB1
      have wk : IntKind.i64.wrap ((k : Int) - 1) = (k : Int) - 1 := by rw [IntKind.wrap_i64]; have := HFX.out; omega
      by_cases hyT : y ≤ T
      · obtain ⟨c, hc⟩ : ∃ c, c = cmpN T y := ⟨_, rfl⟩
        have hc0 : 0 ≤ c := by rw [hc]; exact cmpN_ge hyT
        have hcmp := fun W v (h : Sl W v (digs T)) (hw : Below g w W) => compare71_any h (HB.out.below (HG.out ▸ hw)) (by omega) (by rw [← HMY.out]; omega)
        rw [← hc] at hcmp
        have HC := Lib.hid hcmp
        have hmin := fun W v (h : Sl W v (digs T)) (hw : Below g w W) => minus50_any h (HB.out.below (HG.out ▸ hw)) (by omega) (by rw [← HMY.out]; omega) (by rw [val_digs, val_digs]; exact hyT)
        rw [val_digs, val_digs] at hmin
        obtain ⟨D, hD⟩ : ∃ D, D = T - y := ⟨_, rfl⟩
        rw [← hD] at hmin
        have HM := Lib.hid hmin
        have HDD := Lib.hid hD
        have HYT := Lib.hid hyT
        obtain ⟨q, hq⟩ : ∃ q, q = k / 32 := ⟨_, rfl⟩
        obtain ⟨r, hr⟩ : ∃ r, r = k % 32 := ⟨_, rfl⟩
        have f1 : (k : Int).tdiv 32 = (q : Int) := by rw [hq]; rfl
        have f2 : (k : Int).tmod 32 = (r : Int) := by rw [hr]; rfl
        have hqn : q < n := by have := HNN.out; omega
        have hqI : (q : Int) < (n : Int) := by omega
        have hr32 : r < 32 := by omega
        have hkq : k = 32 * q + r := by omega
        have HKQ := Lib.hid hkq
        obtain ⟨d, hd⟩ : ∃ d, d = zs.getD q 0 := ⟨_, rfl⟩
        have hd4 : d < 4294967296 := by rw [hd, val_digit hbz]; exact Nat.mod_lt _ (by omega)
        have hdm := bin_digit (x / 2 ^ (k + 1) / y) q r k d hr32 hkq (by rw [hd, val_digit hbz, hv])
        obtain ⟨fo, hd24⟩ := bin_or d r hr32 hd4 hdm
        obtain ⟨p, hp⟩ : ∃ p, p = 2 ^ r := ⟨_, rfl⟩
        rw [← hp] at fo hd24
        obtain ⟨d2, hd2⟩ : ∃ d2, d2 = d + p := ⟨_, rfl⟩
        rw [← hd2] at fo hd24
        have HVS : Hid (val (zs.set q d2) = (2 * (x / 2 ^ (k + 1) / y) + 1) * 2 ^ k) := Lib.hid (by
          have := bin_set (d := d) hv hkq (by omega) hd
          rwa [← hp, ← hd2] at this)
        have hp32 : p < 4294967296 := by omega
        have fp : IntKind.u32.wrap ((2 : Int) ^ r) = (p : Int) := by
          rw [show ((2 : Int) ^ r) = (p : Int) by rw [hp]; push_cast; rfl, IntKind.wrap_u32]
          omega
        have wq : IntKind.i64.wrap (q : Int) = (q : Int) := by rw [IntKind.wrap_i64]; have := HN1.out; omega
        have HP := Lib.hid hp
        have HDZ := Lib.hid hd
        have HD24 := Lib.hid hd24
        clear hrow hsw hbl hbz hzl hv hR hnb hT htw hbt hRl hTl hRy hB hyT hcmp hB1 hc hmin hD hq hr hkq hd hdm hp hd2
        go_wp2_with (first | (go_at_call 83; (with_reducible refine HBT.out.mono ?_); rintro e w' ⟨rfl, hw'⟩; subst w') | (go_at_call 82; (with_reducible refine HTW.out.mono ?_); rintro e w1 ⟨v, rfl, hq, hbq⟩; obtain ⟨a1, c1, rfl⟩ := hq.sl.mk'; have HS1 := Lib.hid hq; have HB2 := Lib.hid hbq; clear hq hbq; have HB3 := Lib.hid (HBL.out.trans (HB2.out.mono (by have := HROW.out.lt; omega)))) | (go_at_call 71; (with_reducible refine (HC.out _ _ HS1.out.sl HB3.out).mono ?_); rintro e w2 ⟨rfl, hbq⟩; have HB4 := Lib.hid hbq; clear hbq; have HB5 := Lib.hid (HB3.out.trans (HB4.out.mono (by have := HROW.out.lt; have := HB2.out.size; omega)))) | (go_at_call 50; (with_reducible refine (HM.out _ _ (HS1.out.sl.below HB4.out) HB5.out).mono ?_); rintro e w3 ⟨v, rfl, hq, hbq⟩; obtain ⟨a3, c3, rfl⟩ := hq.sl.mk'; have HS3 := Lib.hid hq; have HB6 := Lib.hid hbq; clear hq hbq))
        have hlt1 := HROW.out.lt
        have hsz1 := HB2.out.size
        have hsz2 := HB4.out.size
        have hsz3 := HB6.out.size
        have HR3 := Lib.hid (((HROW.out.below HB2.out).below HB4.out).below HB6.out)
        have hx : w3.drew.cell? ⟨g, q, none⟩ = some (.int .u32 (d : Int)) := by rw [HDZ.out]; exact (show Row w3.drew g zs from HR3.out).cell q (by rw [HZL.out]; exact hqn)
        have hfree : w3.drew.frozen? ⟨g, q, none⟩ = false := (show Row w3.drew g zs from HR3.out).free q
        refine frame_named ?_
        intro T hT
        obtain ⟨vals, hvals⟩ : ∃ vals : Nat → Value, vals = (fun ix => if ix = 0 then .slice (some ⟨g, 0, none⟩) n n else if ix = 1 then .int .i64 (k : Nat) else if ix = 2 then .int .i64 (q : Nat) else if ix = 3 then .slice (some ⟨g, 0, none⟩) n n else if ix = 4 then .int .i64 (k : Nat) else if ix = 5 then .int .i64 (q : Nat) else if ix = 6 then .pointer (some ⟨g, q, none⟩) else if ix = 7 then .int .u32 (d : Nat) else if ix = 8 then .int .i64 (k : Nat) else if ix = 9 then .int .i64 (r : Nat) else if ix = 10 then .int .u32 (p : Nat) else if ix = 11 then .int .u32 (d2 : Nat) else if ix = 12 then .pointer (some ⟨g, q, none⟩) else undef) := ⟨_, rfl⟩
        have v0 : vals 0 = .slice (some ⟨g, 0, none⟩) n n := by rw [hvals]; rfl
        have v1 : vals 1 = .int .i64 (k : Nat) := by rw [hvals]; rfl
        have v2 : vals 2 = .int .i64 (q : Nat) := by rw [hvals]; rfl
        have v3 : vals 3 = .slice (some ⟨g, 0, none⟩) n n := by rw [hvals]; rfl
        have v4 : vals 4 = .int .i64 (k : Nat) := by rw [hvals]; rfl
        have v5 : vals 5 = .int .i64 (q : Nat) := by rw [hvals]; rfl
        have v6 : vals 6 = .pointer (some ⟨g, q, none⟩) := by rw [hvals]; rfl
        have v7 : vals 7 = .int .u32 (d : Nat) := by rw [hvals]; rfl
        have v8 : vals 8 = .int .i64 (k : Nat) := by rw [hvals]; rfl
        have v9 : vals 9 = .int .i64 (r : Nat) := by rw [hvals]; rfl
        have v10 : vals 10 = .int .u32 (p : Nat) := by rw [hvals]; rfl
        have v11 : vals 11 = .int .u32 (d2 : Nat) := by rw [hvals]; rfl
        have v12 : vals 12 = .pointer (some ⟨g, q, none⟩) := by rw [hvals]; rfl
        clear hvals
        refine regionP_inv (by kernel_rfl) (fun l a w' => RV w3.drew ⟨g, q, none⟩ (.int .u32 (d2 : Nat)) 13 dvCh T [some 63, some 64, some 65, some 66, some 67, some 68, some 69, some 70, some 71, some 72, some 73, some 74, some 75, none] vals l a w') ?h0v1 ?stepv1 ?finv1
        case h0v1 => exact RV.start rfl (fun i j h => by simp [dvCh] at h; simp only [List.length_cons, List.length_nil]; omega) (by decide)
        case stepv1 =>
            rintro l a w' i' hR hi'
            obtain ⟨hl0, o, ho, hdep⟩ := mem_ready.1 hi'
            have h15 : i' < 14 := by
              have := (Array.getElem?_eq_some_iff.1 ho).1
              simpa using this
            rcases (show i' = 0 ∨ i' = 1 ∨ i' = 2 ∨ i' = 3 ∨ i' = 4 ∨ i' = 5 ∨ i' = 6 ∨ i' = 7 ∨ i' = 8 ∨ i' = 9 ∨ i' = 10 ∨ i' = 11 ∨ i' = 12 ∨ i' = 13 by omega) with rfl | rfl | rfl | rfl | rfl | rfl | rfl | rfl | rfl | rfl | rfl | rfl | rfl | rfl
            · simp at ho
              subst ho
              simp [Region.binds] at hdep
              have k0 : a.tmps.getD 7 undef = _ := (hR.fr.kept rfl (by simp [hT])).trans (by rw [hT]; try rfl)
              have hc : ∀ j, (0, j) ∈ dvCh → l.getD j true = true := by intro j hj; simp [dvCh] at hj
              clear hi' hdep
              unfold wpOp
              simp [Region.wanted]
              refine .inl ?_
              unfold Oper.wp
              simp [execOp, go_sem, Act.eval, k0]
              exact hR.op 0 63 v0 rfl (by decide) hl0 (by decide) hc
            · simp at ho
              subst ho
              simp [Region.binds] at hdep
              have k0 : a.tmps.getD 9 undef = _ := (hR.fr.kept rfl (by simp [hT])).trans (by rw [hT]; try rfl)
              have hc : ∀ j, (1, j) ∈ dvCh → l.getD j true = true := by intro j hj; simp [dvCh] at hj
              clear hi' hdep
              unfold wpOp
              simp [Region.wanted]
              refine .inl ?_
              unfold Oper.wp
              simp [execOp, go_sem, Act.eval, k0]
              exact hR.op 1 64 v1 rfl (by decide) hl0 (by decide) hc
            · simp at ho
              subst ho
              simp [Region.binds] at hdep
              have k0 : a.tmps.getD 64 undef = _ := (hR.fr.done (i := 1) rfl (by simp_all) (by simp [hT])).trans v1
              have hc : ∀ j, (2, j) ∈ dvCh → l.getD j true = true := by intro j hj; simp [dvCh] at hj; rcases hj with rfl <;> exact getD_true (by simp_all)
              clear hi' hdep
              unfold wpOp
              simp [Region.wanted]
              refine .inl ?_
              unfold Oper.wp
              simp [execOp, go_sem, Act.eval, k0, f1, wq]
              exact hR.op 2 65 v2 rfl (by decide) hl0 (by decide) hc
            · simp at ho
              subst ho
              simp [Region.binds] at hdep
              have k0 : a.tmps.getD 7 undef = _ := (hR.fr.kept rfl (by simp [hT])).trans (by rw [hT]; try rfl)
              have hc : ∀ j, (3, j) ∈ dvCh → l.getD j true = true := by intro j hj; simp [dvCh] at hj
              clear hi' hdep
              unfold wpOp
              simp [Region.wanted]
              refine .inl ?_
              unfold Oper.wp
              simp [execOp, go_sem, Act.eval, k0]
              exact hR.op 3 66 v3 rfl (by decide) hl0 (by decide) hc
            · simp at ho
              subst ho
              simp [Region.binds] at hdep
              have k0 : a.tmps.getD 9 undef = _ := (hR.fr.kept rfl (by simp [hT])).trans (by rw [hT]; try rfl)
              have hc : ∀ j, (4, j) ∈ dvCh → l.getD j true = true := by intro j hj; simp [dvCh] at hj
              clear hi' hdep
              unfold wpOp
              simp [Region.wanted]
              refine .inl ?_
              unfold Oper.wp
              simp [execOp, go_sem, Act.eval, k0]
              exact hR.op 4 67 v4 rfl (by decide) hl0 (by decide) hc
            · simp at ho
              subst ho
              simp [Region.binds] at hdep
              have k0 : a.tmps.getD 67 undef = _ := (hR.fr.done (i := 4) rfl (by simp_all) (by simp [hT])).trans v4
              have hc : ∀ j, (5, j) ∈ dvCh → l.getD j true = true := by intro j hj; simp [dvCh] at hj; rcases hj with rfl <;> exact getD_true (by simp_all)
              clear hi' hdep
              unfold wpOp
              simp [Region.wanted]
              refine .inl ?_
              unfold Oper.wp
              simp [execOp, go_sem, Act.eval, k0, f1, wq]
              exact hR.op 5 68 v5 rfl (by decide) hl0 (by decide) hc
            · simp at ho
              subst ho
              simp [Region.binds] at hdep
              have k0 : a.tmps.getD 66 undef = _ := (hR.fr.done (i := 3) rfl (by simp_all) (by simp [hT])).trans v3
              have k1 : a.tmps.getD 68 undef = _ := (hR.fr.done (i := 5) rfl (by simp_all) (by simp [hT])).trans v5
              have hc : ∀ j, (6, j) ∈ dvCh → l.getD j true = true := by intro j hj; simp [dvCh] at hj; rcases hj with rfl | rfl <;> exact getD_true (by simp_all)
              clear hi' hdep
              unfold wpOp
              simp [Region.wanted]
              refine .inl ?_
              unfold Oper.wp
              simp [execOp, go_sem, Act.eval, k0, k1, hqI]
              exact hR.op 6 69 v6 rfl (by decide) hl0 (by decide) hc
            · simp at ho
              subst ho
              simp [Region.binds] at hdep
              have k0 : a.tmps.getD 69 undef = _ := (hR.fr.done (i := 6) rfl (by simp_all) (by simp [hT])).trans v6
              have hc : ∀ j, (7, j) ∈ dvCh → l.getD j true = true := by intro j hj; simp [dvCh] at hj; rcases hj with rfl <;> exact getD_true (by simp_all)
              have hw' := hR.before hl0 (fun hs => (hR.dep 11 7 (by decide) (hR.dep 13 11 (by decide) hs)))
              subst hw'
              clear hi' hdep
              unfold wpOp
              simp [Region.wanted]
              refine .inl ?_
              unfold Oper.wp
              simp [execOp, go_sem, Act.eval, k0, hx]
              exact hR.op 7 70 v7 rfl (by decide) hl0 (by decide) hc
            · simp at ho
              subst ho
              simp [Region.binds] at hdep
              have k0 : a.tmps.getD 9 undef = _ := (hR.fr.kept rfl (by simp [hT])).trans (by rw [hT]; try rfl)
              have hc : ∀ j, (8, j) ∈ dvCh → l.getD j true = true := by intro j hj; simp [dvCh] at hj
              clear hi' hdep
              unfold wpOp
              simp [Region.wanted]
              refine .inl ?_
              unfold Oper.wp
              simp [execOp, go_sem, Act.eval, k0]
              exact hR.op 8 71 v8 rfl (by decide) hl0 (by decide) hc
            · simp at ho
              subst ho
              simp [Region.binds] at hdep
              have k0 : a.tmps.getD 71 undef = _ := (hR.fr.done (i := 8) rfl (by simp_all) (by simp [hT])).trans v8
              have hc : ∀ j, (9, j) ∈ dvCh → l.getD j true = true := by intro j hj; simp [dvCh] at hj; rcases hj with rfl <;> exact getD_true (by simp_all)
              clear hi' hdep
              unfold wpOp
              simp [Region.wanted]
              refine .inl ?_
              unfold Oper.wp
              simp [execOp, go_sem, Act.eval, k0, f2]
              exact hR.op 9 72 v9 rfl (by decide) hl0 (by decide) hc
            · simp at ho
              subst ho
              simp [Region.binds] at hdep
              have k0 : a.tmps.getD 72 undef = _ := (hR.fr.done (i := 9) rfl (by simp_all) (by simp [hT])).trans v9
              have hc : ∀ j, (10, j) ∈ dvCh → l.getD j true = true := by intro j hj; simp [dvCh] at hj; rcases hj with rfl <;> exact getD_true (by simp_all)
              clear hi' hdep
              unfold wpOp
              simp [Region.wanted]
              refine .inl ?_
              unfold Oper.wp
              simp [execOp, go_sem, Act.eval, k0, hr32, fp]
              exact hR.op 10 73 v10 rfl (by decide) hl0 (by decide) hc
            · simp at ho
              subst ho
              simp [Region.binds] at hdep
              have k0 : a.tmps.getD 70 undef = _ := (hR.fr.done (i := 7) rfl (by simp_all) (by simp [hT])).trans v7
              have k1 : a.tmps.getD 73 undef = _ := (hR.fr.done (i := 10) rfl (by simp_all) (by simp [hT])).trans v10
              have hc : ∀ j, (11, j) ∈ dvCh → l.getD j true = true := by intro j hj; simp [dvCh] at hj; rcases hj with rfl | rfl <;> exact getD_true (by simp_all)
              clear hi' hdep
              unfold wpOp
              simp [Region.wanted]
              refine .inl ?_
              unfold Oper.wp
              simp [execOp, go_sem, Act.eval, k0, k1, fo]
              exact hR.op 11 74 v11 rfl (by decide) hl0 (by decide) hc
            · simp at ho
              subst ho
              simp [Region.binds] at hdep
              have k0 : a.tmps.getD 63 undef = _ := (hR.fr.done (i := 0) rfl (by simp_all) (by simp [hT])).trans v0
              have k1 : a.tmps.getD 65 undef = _ := (hR.fr.done (i := 2) rfl (by simp_all) (by simp [hT])).trans v2
              have hc : ∀ j, (12, j) ∈ dvCh → l.getD j true = true := by intro j hj; simp [dvCh] at hj; rcases hj with rfl | rfl <;> exact getD_true (by simp_all)
              clear hi' hdep
              unfold wpOp
              simp [Region.wanted]
              refine .inl ?_
              unfold Oper.wp
              simp [execOp, go_sem, Act.eval, k0, k1, hqI]
              exact hR.op 12 75 v12 rfl (by decide) hl0 (by decide) hc
            · simp at ho
              subst ho
              simp [Region.binds] at hdep
              have k0 : a.tmps.getD 75 undef = _ := (hR.fr.done (i := 12) rfl (by simp_all) (by simp [hT])).trans v12
              have k1 : a.tmps.getD 74 undef = _ := (hR.fr.done (i := 11) rfl (by simp_all) (by simp [hT])).trans v11
              have hc : ∀ j, (13, j) ∈ dvCh → l.getD j true = true := by intro j hj; simp [dvCh] at hj; rcases hj with rfl | rfl <;> exact getD_true (by simp_all)
              have hw' := hR.before hl0 (fun hs => hs)
              subst hw'
              clear hi' hdep
              unfold wpOp
              simp [Region.wanted]
              refine .inl ?_
              unfold Oper.wp
              simp [execOp, go_sem, Act.eval, k0, k1, hx, hfree]
              exact hR.store rfl hl0 hc undef
        case' finv1 =>
            rintro l a w' hR hz
            have hnot := List.eq_nil_iff_forall_not_mem.1 hz
            have hk : ∀ k, k < 14 → (l.getD k true = false → False) → l.getD k false = true := fun k h12 h => by
              have hs := hR.size
              cases h' : l.getD k true with
              | false => exact (h h').elim
              | true => simp at hs; simp [Array.getD, hs, h12] at h' ⊢; exact h'
            have st0 := hk 0 (by omega) (fun h => hnot 0 (mem_ready.2 ⟨h, _, rfl, by simp [Region.binds]⟩))
            have st1 := hk 1 (by omega) (fun h => hnot 1 (mem_ready.2 ⟨h, _, rfl, by simp [Region.binds]⟩))
            have st2 := hk 2 (by omega) (fun h => hnot 2 (mem_ready.2 ⟨h, _, rfl, by simp [Region.binds] <;> simp_all⟩))
            have st3 := hk 3 (by omega) (fun h => hnot 3 (mem_ready.2 ⟨h, _, rfl, by simp [Region.binds]⟩))
            have st4 := hk 4 (by omega) (fun h => hnot 4 (mem_ready.2 ⟨h, _, rfl, by simp [Region.binds]⟩))
            have st5 := hk 5 (by omega) (fun h => hnot 5 (mem_ready.2 ⟨h, _, rfl, by simp [Region.binds] <;> simp_all⟩))
            have st6 := hk 6 (by omega) (fun h => hnot 6 (mem_ready.2 ⟨h, _, rfl, by simp [Region.binds] <;> simp_all⟩))
            have st7 := hk 7 (by omega) (fun h => hnot 7 (mem_ready.2 ⟨h, _, rfl, by simp [Region.binds] <;> simp_all⟩))
            have st8 := hk 8 (by omega) (fun h => hnot 8 (mem_ready.2 ⟨h, _, rfl, by simp [Region.binds]⟩))
            have st9 := hk 9 (by omega) (fun h => hnot 9 (mem_ready.2 ⟨h, _, rfl, by simp [Region.binds] <;> simp_all⟩))
            have st10 := hk 10 (by omega) (fun h => hnot 10 (mem_ready.2 ⟨h, _, rfl, by simp [Region.binds] <;> simp_all⟩))
            have st11 := hk 11 (by omega) (fun h => hnot 11 (mem_ready.2 ⟨h, _, rfl, by simp [Region.binds] <;> simp_all⟩))
            have st12 := hk 12 (by omega) (fun h => hnot 12 (mem_ready.2 ⟨h, _, rfl, by simp [Region.binds] <;> simp_all⟩))
            have st13 := hk 13 (by omega) (fun h => hnot 13 (mem_ready.2 ⟨h, _, rfl, by simp [Region.binds] <;> simp_all⟩))
            have hall : ∀ i, i < 14 → l.getD i true = true := fun i hi => by
              rcases (show i = 0 ∨ i = 1 ∨ i = 2 ∨ i = 3 ∨ i = 4 ∨ i = 5 ∨ i = 6 ∨ i = 7 ∨ i = 8 ∨ i = 9 ∨ i = 10 ∨ i = 11 ∨ i = 12 ∨ i = 13 by omega) with rfl | rfl | rfl | rfl | rfl | rfl | rfl | rfl | rfl | rfl | rfl | rfl | rfl | rfl
              · exact getD_true st0
              · exact getD_true st1
              · exact getD_true st2
              · exact getD_true st3
              · exact getD_true st4
              · exact getD_true st5
              · exact getD_true st6
              · exact getD_true st7
              · exact getD_true st8
              · exact getD_true st9
              · exact getD_true st10
              · exact getD_true st11
              · exact getD_true st12
              · exact getD_true st13
            clear st0 st1 st2 st3 st4 st5 st6 st7 st8 st9 st10 st11 st12 st13 hk hnot hz
            have hTs : T.size = 79 := by rw [hT]; rfl
            obtain ⟨ha, hw'⟩ := hR.all (T' := (((((((((((((T.setIfInBounds 63 (vals 0)).setIfInBounds 64 (vals 1)).setIfInBounds 65 (vals 2)).setIfInBounds 66 (vals 3)).setIfInBounds 67 (vals 4)).setIfInBounds 68 (vals 5)).setIfInBounds 69 (vals 6)).setIfInBounds 70 (vals 7)).setIfInBounds 71 (vals 8)).setIfInBounds 72 (vals 9)).setIfInBounds 73 (vals 10)).setIfInBounds 74 (vals 11)).setIfInBounds 75 (vals 12))) (fun i hi => hall i (by simpa using hi)) (by decide) (by simp) (fun j hj => by
              by_cases h1 : j = 63 ∨ j = 64 ∨ j = 65 ∨ j = 66 ∨ j = 67 ∨ j = 68 ∨ j = 69 ∨ j = 70 ∨ j = 71 ∨ j = 72 ∨ j = 73 ∨ j = 74 ∨ j = 75
              · rcases h1 with rfl | rfl | rfl | rfl | rfl | rfl | rfl | rfl | rfl | rfl | rfl | rfl | rfl <;> simp [rv_sets, tOwn, List.findIdx?, List.findIdx?.go, hTs]
              · simp only [not_or] at h1
                obtain ⟨m63, m64, m65, m66, m67, m68, m69, m70, m71, m72, m73, m74, m75⟩ := h1
                have e : tOwn [some 63, some 64, some 65, some 66, some 67, some 68, some 69, some 70, some 71, some 72, some 73, some 74, some 75, none] vals j = none := by
                  unfold tOwn
                  simp [List.findIdx?, List.findIdx?.go, Ne.symm m63, Ne.symm m64, Ne.symm m65, Ne.symm m66, Ne.symm m67, Ne.symm m68, Ne.symm m69, Ne.symm m70, Ne.symm m71, Ne.symm m72, Ne.symm m73, Ne.symm m74, Ne.symm m75]
                rw [e]
                simp only [rv_sets]
                repeat rw [if_neg (by omega)])
            subst ha hw'
            clear hR hall hTs
            rw [v0, v1, v2, v3, v4, v5, v6, v7, v8, v9, v10, v11, v12, hT]
            simp only [List.setIfInBounds_toArray, List.set_cons_succ, List.set_cons_zero]
            clear v0 v1 v2 v3 v4 v5 v6 v7 v8 v9 v10 v11 v12 vals hT T
        clear f1 f2 wq fp fo
        go_wp2
        go_roundw
        case rel =>
          have HQN := Lib.hid hqn
          obtain ⟨e1, e2⟩ := bin_great (P := x / 2 ^ (k + 1)) (Y := y) (B := B) (Nat.pos_of_ne_zero HY0.out) HB1B.out (by rw [← HRX.out, ← HTT.out]; exact HYT.out)
          have hown : Sw (g + 1) w3 (.slice a3 (digs D).length c3) (digs D) := HS3.out.mono (by omega)
          have hbd : Below w3.heap.size w3 w3.drew := ⟨rfl, rfl, rfl, Nat.le_refl _, fun _ _ => rfl⟩
          have hbw3 : Below g w w3.drew := (HB5.out.trans (HB6.out.mono (by omega))).trans (hbd.mono (by omega))
          refine ⟨k, (k : Int) - 1, zs.set q d2, D, a3, c3, rfl, by go_num, by omega, by have := HKF.out; omega, ?_, ?_, by rw [List.length_set]; exact HZL.out, ?_, (show Row w3.drew g zs from HR3.out).set q d2, ?_, ?_⟩
          · rw [HNB.out, e1, ← HRX.out, ← HTT.out]; exact HDD.out
          · rw [HNB.out, e2]; exact HVS.out
          · exact HBZ.out.set _ HD24.out
          · exact (hown.below hbd).setOther _ _ (fun b off n cap e hn => by obtain ⟨b', o', e', h', _⟩ := hown.own _ _ _ e hn; cases e'; omega)
          · exact hbw3.setCell (p := ⟨g, q, none⟩) (Nat.le_refl g) _
        case measure => simp [RowKit.intOf]
      · have hcmp := fun W v (h : Sl W v (digs T)) (hw : Below g w W) => compare71_any h (HB.out.below (HG.out ▸ hw)) (by omega) (by rw [← HMY.out]; omega)
        rw [cmpN_lt (Nat.lt_of_not_le hyT)] at hcmp
        have HC := Lib.hid hcmp
        have HYT := Lib.hid hyT
        clear hrow hsw hbl hbz hzl hv hR hnb hT htw hbt hRl hTl hRy hB hyT hcmp hB1
        go_wp2_with (first | (go_at_call 83; (with_reducible refine HBT.out.mono ?_); rintro e w' ⟨rfl, hw'⟩; subst w') | (go_at_call 82; (with_reducible refine HTW.out.mono ?_); rintro e w1 ⟨v, rfl, hq, hbq⟩; obtain ⟨a1, c1, rfl⟩ := hq.sl.mk'; have HS1 := Lib.hid hq; have HB2 := Lib.hid hbq; clear hq hbq; have HB3 := Lib.hid (HBL.out.trans (HB2.out.mono (by have := HROW.out.lt; omega)))) | (go_at_call 71; (with_reducible refine (HC.out _ _ HS1.out.sl HB3.out).mono ?_); rintro e w2 ⟨rfl, hbq⟩; have HB4 := Lib.hid hbq; clear hbq))
        have hlt1 := HROW.out.lt
        have hsz1 := HB2.out.size
        have hsz2 := HB4.out.size
        go_roundw
        case rel =>
          obtain ⟨e1, e2⟩ := bin_small (P := x / 2 ^ (k + 1)) (Y := y) (B := B) HB1B.out (by rw [← HRX.out, ← HTT.out]; exact Nat.lt_of_not_le HYT.out)
          refine ⟨k, (k : Int) - 1, zs, T, a1, c1, rfl, by go_num, by omega, by have := HKF.out; omega, ?_, ?_, HZL.out, HBZ.out, (HROW.out.below HB2.out).below HB4.out, (HS1.out.mono (by omega)).below HB4.out, HB3.out.trans (HB4.out.mono (by omega))⟩
          · rw [HNB.out, e1, ← HRX.out]; exact HTT.out
          · rw [HNB.out, e2, HV.out, Nat.pow_succ]; grind
        case measure => simp [RowKit.intOf]

end Go.Proofs.YtdgmjmckeeeljaaGreatDoor
