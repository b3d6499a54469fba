/- The law NumRing, walked. Condition: the table of powers of ten is laid. -/
import Derived.BigRegion
import Derived.Deep.RegionHeld3
import Derived.Test.YtdgmjmckeeeljaaGreatDoorTT
import Derived.Test.YtdgmjmckeeeljaaGreatDoorXC
namespace Go.Proofs.YtdgmjmckeeeljaaGreatDoor
open Go.RowKit

theorem step2 {B : Nat} {w W W' : World} {o : Obj} (h : Hid (Below B w W)) (hB : Hid (B ≤ W.heap.size)) (hb : Below (W.alloc o).heap.size (W.alloc o) W') : Hid (Below B w W') ∧ Hid (B ≤ W'.heap.size) := step1 h hB (later hb)
theorem stepD {B : Nat} {w W W' : World} (h : Hid (Below B w W)) (hB : Hid (B ≤ W.heap.size)) (hb : Below W.drew.heap.size W.drew W') : Hid (Below B w W') ∧ Hid (B ≤ W'.heap.size) :=
  step1 h hB ((show Below W.heap.size W W.drew from ⟨rfl, rfl, rfl, Nat.le_refl _, fun _ _ => rfl⟩).trans hb)
theorem sets_getD (T : Array Value) (i j : Nat) (v : Value) : (T.setIfInBounds i v).getD j undef = if i = j ∧ i < T.size then v else T.getD j undef := by
  by_cases h : i = j
  · subst h
    by_cases h2 : i < T.size
    · simp [Array.getD, h2]
    · simp [Array.getD, h2]
  · rw [if_neg (fun e => h e.1)]
    simp only [Array.getD_eq_getD_getElem?]
    rw [Array.getElem?_setIfInBounds_ne h]

theorem fits_pow {z : Int} (k : Nat) (h : z.natAbs < 4294967296 ^ k) (hk : k ≤ 256) : fitsB z.natAbs = true :=
  decide_eq_true (Nat.le_trans (digs_length_le.2 h) hk)
theorem lt_mul {a b : Int} {i j : Nat} (ha : a.natAbs < 4294967296 ^ i) (hb : b.natAbs < 4294967296 ^ j) : (a * b).natAbs < 4294967296 ^ (i + j) := by
  rw [Int.natAbs_mul, Nat.pow_add]
  exact Nat.mul_lt_mul'' ha hb
theorem lt_add {a b : Int} {i : Nat} (ha : a.natAbs < 4294967296 ^ i) (hb : b.natAbs < 4294967296 ^ i) : (a + b).natAbs < 4294967296 ^ (i + 1) := by
  rw [Nat.pow_succ]
  omega
theorem lt_more {a : Int} {i j : Nat} (ha : a.natAbs < 4294967296 ^ i) (h : i ≤ j) : a.natAbs < 4294967296 ^ j := Nat.lt_of_lt_of_le ha (Nat.pow_le_pow_right (by decide) h)
theorem lt_pow {a : Int} (n : Nat) (hn : n ≤ 16) (ha : a.natAbs < 4294967296 ^ 6) : (a ^ n).natAbs < 4294967296 ^ 97 := by
  rw [Int.natAbs_pow]
  have h1 : a.natAbs ^ n ≤ (4294967296 ^ 6) ^ n := Nat.pow_le_pow_left (Nat.le_of_lt ha) n
  rw [← Nat.pow_mul] at h1
  have h2 : 4294967296 ^ (6 * n) < 4294967296 ^ 97 := Nat.pow_lt_pow_right (by decide) (by omega)
  omega

theorem add_fit {w : World} {x y : Value} {a b : Int} (z : Int) (hx : Nu w x a) (hy : Nu w y b) (hz : a + b = z) (hf : fitsB z.natAbs = true) : Calls Tryz.prog 28 #[x, y] w (YesN w z) := by
  subst hz; exact (add_any hx hy).mono fun _ _ h => h.yes hf
theorem sub_fit {w : World} {x y : Value} {a b : Int} (z : Int) (hx : Nu w x a) (hy : Nu w y b) (hz : a - b = z) (hf : fitsB z.natAbs = true) : Calls Tryz.prog 29 #[x, y] w (YesN w z) := by
  subst hz; exact (sub_any hx hy).mono fun _ _ h => h.yes hf
theorem mul_fit {w : World} {x y : Value} {a b : Int} (z : Int) (hx : Nu w x a) (hy : Nu w y b) (hz : a * b = z) (hf : fitsB z.natAbs = true) : Calls Tryz.prog 30 #[x, y] w (YesN w z) := by
  subst hz; exact (mul_any hx hy).mono fun _ _ h => h.yes hf
theorem pow_fit {w : World} {x : Value} {a : Int} (z : Int) (n : Nat) (hx : Nu w x a) (hn : n < 9223372036854775808) (hz : a ^ n = z) (hf : fitsB z.natAbs = true) : Calls Tryz.prog 20 #[x, .int .i64 n] w (YesN w z) := by
  subst hz; exact (pow_any hx n hn).mono fun _ _ h => h.yes hf
theorem same_yes {w : World} {x y : Value} {a b : Int} (hx : Nu w x a) (hy : Nu w y b) (h : a = b) : Calls Tryz.prog 19 #[x, y] w (SameRes w true) := by
  have := same_nu hx hy
  rwa [decide_eq_true h] at this

/-- A box that holds 0. -/
theorem Bx.zero {W : World} {g : Nat} {neg : Bool} {ao : Option Addr} {n cap : Nat} (h : Bx W g neg ao n cap 0) : neg = false ∧ n = 0 := by
  obtain ⟨s, e, hs, _⟩ := h.nu
  injection e with e
  simp only [Array.mk.injEq, List.cons.injEq, Value.bool.injEq, and_true] at e
  obtain ⟨rfl, rfl⟩ := e
  have := hs.size
  rw [show digs (Int.natAbs 0) = [] from digs_zero] at this
  exact ⟨rfl, by simpa using this⟩

theorem Li.below {w w' : World} {v : Value} {zs : List Int} (h : Li w v zs) (hb : Below w.heap.size w w') : Li w' v zs := by
  obtain ⟨ao, cap, h1, h2, h3, h4⟩ := h
  refine ⟨ao, cap, h1, h2, h3, fun hn => ?_⟩
  obtain ⟨b, off, e, hc⟩ := h4 hn
  exact ⟨b, off, e, fun j hj => cell_later hb (hc j hj)⟩

/-- What Made returns, its parts named. -/
theorem made_parts {w : World} {v : Value} {zs : List Int} (h : Li w v zs) :
    Calls Tryz.prog 11 #[v] w fun e w' => ∃ neg ao n cap z, e = .returned (.agg #[.bool neg, .slice ao n cap]) ∧ Nu w' (.agg #[.bool neg, .slice ao n cap]) z ∧ z.natAbs < 4294967296 ^ 6 ∧ Below w.heap.size w w' :=
  (made11_any h).mono fun _ _ ⟨x, z, he, hn, hl, hb⟩ => by
    obtain ⟨s, rfl, hs, hl2⟩ := hn
    obtain ⟨ao, cap, rfl⟩ := hs.mk'
    exact ⟨_, ao, _, cap, z, he, ⟨_, rfl, hs, hl2⟩, digs_length_le.1 hl, hb⟩

set_option maxRecDepth 10000 in
set_option maxHeartbeats 8000000 in
theorem ring_any {w : World} {s0 s1 s2 : Option Addr} {n0 n1 n2 c0 c1 c2 : Nat} {z0 z1 z2 : List Int} (h0 : Li w (.slice s0 n0 c0) z0) (h1 : Li w (.slice s1 n1 c1) z1) (h2 : Li w (.slice s2 n2 c2) z2) (e0 e1 : UInt8) (htab : ∀ W, Below w.heap.size w W → Tab W) :
    Calls Tryz.prog 7 #[.agg #[.slice s0 n0 c0, .slice s1 n1 c1, .slice s2 n2 c2], .agg #[.int .u8 e0.toNat, .int .u8 e1.toNat]] w fun e w' => e = .returned (.bool true) ∧ Below w.heap.size w w' := by
  have he0 := e0.toNat_lt
  have he1 := e1.toNat_lt
  obtain ⟨E0, hE0⟩ : ∃ E0 : Nat, E0 = e0.toNat := ⟨_, rfl⟩
  obtain ⟨E1, hE1⟩ : ∃ E1 : Nat, E1 = e1.toNat := ⟨_, rfl⟩
  rw [← hE0] at he0 ⊢
  rw [← hE1] at he1 ⊢
  have HM0 := Lib.hid (fun W (hb : Below w.heap.size w W) => made_parts (h0.below hb))
  have HM1 := Lib.hid (fun W (hb : Below w.heap.size w W) => made_parts (h1.below hb))
  have HM2 := Lib.hid (fun W (hb : Below w.heap.size w W) => made_parts (h2.below hb))
  have HSA : Hid (∀ W, Below w.heap.size w W → Calls Tryz.prog 10 #[] W fun e w' => e = .returned (.bool true) ∧ Below W.heap.size W w') := Lib.hid (fun W hb => sanity_any W (fun W' hb' => htab W' (hb.trans (hb'.mono hb.size))))
  have HW : Hid (Below w.heap.size w w) := Lib.hid (Below.refl _ _)
  have HZ : Hid (w.heap.size ≤ w.heap.size) := Lib.hid (Nat.le_refl _)
  clear hE0 hE1 h0 h1 h2 htab
  go_enter Tryz.func7, Tryz.ntmps7
  go_upto_region 1 with fail
  obtain ⟨W, hW⟩ : ∃ W, W = (w.alloc (.cells #[.slice s0 n0 c0, .slice s1 n1 c1, .slice s2 n2 c2] 52)).alloc (.cells #[.int .u8 E0, .int .u8 E1] 53) := ⟨_, rfl⟩
  have hb : Below w.heap.size w W := by rw [hW]; exact (alloc_b _ _).trans ((alloc_b _ _).mono (alloc_b _ _).size)
  have r0 : W.heap[w.heap.size]? = some (.cells #[.slice s0 n0 c0, .slice s1 n1 c1, .slice s2 n2 c2] 52 (0, 0)) := by
    rw [hW, Below.heap_alloc _ _ _ (by simp)]; exact heap_alloc_new _ _
  have r1 : W.heap[w.heap.size + 1]? = some (.cells #[.int .u8 E0, .int .u8 E1] 53 (0, 0)) := by
    rw [hW]
    have := heap_alloc_new (w.alloc (.cells #[.slice s0 n0 c0, .slice s1 n1 c1, .slice s2 n2 c2] 52)) (.cells #[.int .u8 E0, .int .u8 E1] 53)
    rw [World.size_alloc] at this
    exact this
  have HBL : Hid (∀ W', Below W.heap.size W W' → (W'.cell? ⟨w.heap.size, 0, none⟩ = some (.slice s0 n0 c0) ∧ W'.cell? ⟨w.heap.size, 1, none⟩ = some (.slice s1 n1 c1) ∧ W'.cell? ⟨w.heap.size, 2, none⟩ = some (.slice s2 n2 c2)) ∧ W'.cell? ⟨w.heap.size + 1, 0, none⟩ = some (.int .u8 E0) ∧ W'.cell? ⟨w.heap.size + 1, 1, none⟩ = some (.int .u8 E1)) := Lib.hid (fun W' h => by
    have q0 := (h.block _ (Array.getElem?_eq_some_iff.1 r0).1).trans r0
    have q1 := (h.block _ (Array.getElem?_eq_some_iff.1 r1).1).trans r1
    exact ⟨⟨by rw [cell_of_row _ _ _ _ _ _ q0]; rfl, by rw [cell_of_row _ _ _ _ _ _ q0]; rfl, by rw [cell_of_row _ _ _ _ _ _ q0]; rfl⟩, by rw [cell_of_row _ _ _ _ _ _ q1]; rfl, by rw [cell_of_row _ _ _ _ _ _ q1]; rfl⟩)
  have HWW := step1 HW HZ hb
  have HW := HWW.1
  have HZ := HWW.2
  have HD : Hid (Below W.heap.size W W) := Lib.hid (Below.refl _ _)
  have HE : Hid (W.heap.size ≤ W.heap.size) := Lib.hid (Nat.le_refl _)
  rw [← hW]
  clear hW hb HWW r0 r1
  go_upto_region 2 with (go_at_call 10; refine (HSA.out _ HW.out).mono ?_; rintro e wz ⟨rfl, hb⟩; have HWW := step1 HW HZ hb; have HW := HWW.1; have HZ := HWW.2; have HDD := step1 HD HE hb; have HD := HDD.1; have HE := HDD.2; clear HWW HDD hb)
  obtain ⟨k0, k1, k2⟩ := (HBL.out _ HD.out).1
  obtain ⟨W1, hW1⟩ : ∃ W1, W1 = wz := ⟨_, rfl⟩
  obtain ⟨T, hT⟩ : ∃ T : Array Value, T = #[.agg #[.slice s0 n0 c0, .slice s1 n1 c1, .slice s2 n2 c2], .agg #[.int .u8 (E0 : Nat), .int .u8 (E1 : Nat)], .pointer (some ⟨w.heap.size, 0, none⟩), .pointer (some ⟨w.heap.size + 1, 0, none⟩), .bool false, .bool true, undef, undef, undef, undef, undef, undef, undef, undef, undef, undef, undef, undef, undef, undef, undef, undef, undef, undef, undef, undef, undef, undef, undef, undef, undef, undef, undef, undef, undef, .bool true, undef, undef, undef, undef, undef, undef, undef, undef, undef, undef, undef, undef, undef, undef, undef, undef, undef, undef, undef, undef, undef, undef, undef, undef, undef, undef, undef, undef, undef, undef, undef, undef, undef, undef, undef, undef, undef, undef, undef, undef, undef, undef, undef, undef, undef, undef, undef, undef, undef, undef, undef, undef, undef, undef, undef, undef, undef, undef, undef, undef, undef, undef, undef, undef, undef, undef, undef, undef, undef, undef, undef, undef, undef, undef, undef, undef, undef, undef, undef, undef, undef, undef, undef, undef, undef, undef, undef, undef, undef, undef, undef, undef, undef, undef, undef, undef, undef, undef, undef, undef, undef, undef, undef, undef, undef, undef, undef, undef, undef, undef, undef, undef, undef, undef, undef, undef, undef, undef, undef, undef, undef, undef, undef, undef, undef, undef, undef, undef, undef, undef, undef, undef, undef, undef, undef, undef, undef, undef, undef, undef, undef, undef, undef, undef, undef, undef, undef, undef, undef, undef, undef, undef, undef, undef, undef, undef, undef, undef, undef, undef, undef, undef, undef, undef, undef, undef, undef] := ⟨_, rfl⟩
  rw [← hT]
  refine regionP_inv (by kernel_rfl) (fun l a w' => ∃ vs gs, RM wz T 3 36 6 w.heap.size (fun t => if t = 0 then .slice s0 n0 c0 else if t = 1 then .slice s1 n1 c1 else .slice s2 n2 c2) vs gs l a w') ?h0 ?step ?fin
  case h0 => exact ⟨fun _ => undef, fun _ => 0, RM.start rfl (show Below wz.heap.size wz wz.drew from ⟨rfl, rfl, rfl, Nat.le_refl _, fun _ _ => rfl⟩)⟩
  case step =>
      rintro l a w' i' ⟨vs, gs, hR⟩ hi'
      obtain ⟨hl0, o, ho, hdep⟩ := mem_ready.1 hi'
      have h15 : i' < 15 := by
        have := (Array.getElem?_eq_some_iff.1 ho).1
        simpa using this
      have hbw : Below w.heap.size w w' := HW.out.trans (hR.bl.mono HZ.out)
      obtain ⟨y0, y1, y2⟩ := (HBL.out _ (HD.out.trans (hR.bl.mono HE.out))).1
      rcases (show i' = 0 ∨ i' = 1 ∨ i' = 2 ∨ i' = 3 ∨ i' = 4 ∨ i' = 5 ∨ i' = 6 ∨ i' = 7 ∨ i' = 8 ∨ i' = 9 ∨ i' = 10 ∨ i' = 11 ∨ i' = 12 ∨ i' = 13 ∨ i' = 14 by omega) with rfl | rfl | rfl | rfl | rfl | rfl | rfl | rfl | rfl | rfl | rfl | rfl | rfl | rfl | rfl
      · simp at ho
        subst ho
        simp [Region.binds] at hdep
        have k2 : a.tmps.getD 2 undef = .pointer (some ⟨w.heap.size, 0, none⟩) := (hR.fr.kept rfl (by simp [hT])).trans (by rw [hT]; rfl)
        clear hi' hdep hl0
        unfold wpOp
        simp [Region.wanted]
        refine .inl ?_
        unfold Oper.wp
        simp [execOp, go_sem, Act.eval, k2]
        exact ⟨vs, gs, hR.plain (by omega) (by omega) rfl rfl⟩
      · simp at ho
        subst ho
        simp [Region.binds] at hdep
        have k3 : a.tmps.getD 36 undef = .pointer (some ⟨w.heap.size, 0, none⟩) := hR.fr.done (i := 0) rfl (by simp_all) (by simp [hT])
        clear hi' hdep hl0
        unfold wpOp
        simp [Region.wanted]
        refine .inl ?_
        unfold Oper.wp
        simp [execOp, go_sem, Act.eval, k3, y0]
        exact ⟨vs, gs, hR.plain (by omega) (by omega) rfl rfl⟩
      · simp at ho
        subst ho
        simp [Region.binds] at hdep
        have k4 : a.tmps.getD 37 undef = .slice s0 n0 c0 := hR.fr.done (i := 1) rfl (by simp_all) (by simp [hT])
        clear hi' hdep
        unfold wpOp
        simp [Region.wanted]
        refine .inl ?_
        unfold Oper.wp
        simp [execOp, go_sem, Act.eval, k4]
        refine (HM0.out w' hbw).mono ?_
        rintro e w'' ⟨neg, ao, n, cap, z, rfl, hn, hA, hb⟩
        exact ⟨_, gs, hR.call (t := 0) (by omega) hl0 rfl (.inr (by omega)) ⟨neg, ao, n, cap, z, rfl, hn, hA⟩ hb⟩
      · simp at ho
        subst ho
        simp [Region.binds] at hdep
        have k2 : a.tmps.getD 2 undef = .pointer (some ⟨w.heap.size, 0, none⟩) := (hR.fr.kept rfl (by simp [hT])).trans (by rw [hT]; rfl)
        clear hi' hdep hl0
        unfold wpOp
        simp [Region.wanted]
        refine .inl ?_
        unfold Oper.wp
        simp [execOp, go_sem, Act.eval, k2]
        exact ⟨vs, gs, hR.plain (by omega) (by omega) rfl rfl⟩
      · simp at ho
        subst ho
        simp [Region.binds] at hdep
        have k3 : a.tmps.getD 39 undef = .pointer (some ⟨w.heap.size, 1, none⟩) := hR.fr.done (i := 3) rfl (by simp_all) (by simp [hT])
        clear hi' hdep hl0
        unfold wpOp
        simp [Region.wanted]
        refine .inl ?_
        unfold Oper.wp
        simp [execOp, go_sem, Act.eval, k3, y1]
        exact ⟨vs, gs, hR.plain (by omega) (by omega) rfl rfl⟩
      · simp at ho
        subst ho
        simp [Region.binds] at hdep
        have k4 : a.tmps.getD 40 undef = .slice s1 n1 c1 := hR.fr.done (i := 4) rfl (by simp_all) (by simp [hT])
        clear hi' hdep
        unfold wpOp
        simp [Region.wanted]
        refine .inl ?_
        unfold Oper.wp
        simp [execOp, go_sem, Act.eval, k4]
        refine (HM1.out w' hbw).mono ?_
        rintro e w'' ⟨neg, ao, n, cap, z, rfl, hn, hA, hb⟩
        exact ⟨_, gs, hR.call (t := 1) (by omega) hl0 rfl (.inr (by omega)) ⟨neg, ao, n, cap, z, rfl, hn, hA⟩ hb⟩
      · simp at ho
        subst ho
        simp [Region.binds] at hdep
        have k2 : a.tmps.getD 2 undef = .pointer (some ⟨w.heap.size, 0, none⟩) := (hR.fr.kept rfl (by simp [hT])).trans (by rw [hT]; rfl)
        clear hi' hdep hl0
        unfold wpOp
        simp [Region.wanted]
        refine .inl ?_
        unfold Oper.wp
        simp [execOp, go_sem, Act.eval, k2]
        exact ⟨vs, gs, hR.plain (by omega) (by omega) rfl rfl⟩
      · simp at ho
        subst ho
        simp [Region.binds] at hdep
        have k3 : a.tmps.getD 42 undef = .pointer (some ⟨w.heap.size, 2, none⟩) := hR.fr.done (i := 6) rfl (by simp_all) (by simp [hT])
        clear hi' hdep hl0
        unfold wpOp
        simp [Region.wanted]
        refine .inl ?_
        unfold Oper.wp
        simp [execOp, go_sem, Act.eval, k3, y2]
        exact ⟨vs, gs, hR.plain (by omega) (by omega) rfl rfl⟩
      · simp at ho
        subst ho
        simp [Region.binds] at hdep
        have k4 : a.tmps.getD 43 undef = .slice s2 n2 c2 := hR.fr.done (i := 7) rfl (by simp_all) (by simp [hT])
        clear hi' hdep
        unfold wpOp
        simp [Region.wanted]
        refine .inl ?_
        unfold Oper.wp
        simp [execOp, go_sem, Act.eval, k4]
        refine (HM2.out w' hbw).mono ?_
        rintro e w'' ⟨neg, ao, n, cap, z, rfl, hn, hA, hb⟩
        exact ⟨_, gs, hR.call (t := 2) (by omega) hl0 rfl (.inr (by omega)) ⟨neg, ao, n, cap, z, rfl, hn, hA⟩ hb⟩
      · simp at ho
        subst ho
        simp [Region.binds] at hdep
        clear hi' hdep
        unfold wpOp
        simp [Region.wanted]
        refine .inl ?_
        unfold Oper.wp
        simp [execOp, go_sem, Act.eval]
        exact ⟨vs, _, hR.alloc (t := 0) (by omega) hl0 rfl (.inr (by omega))⟩
      · simp at ho
        subst ho
        simp [Region.binds] at hdep
        clear hi' hdep
        unfold wpOp
        simp [Region.wanted]
        refine .inl ?_
        unfold Oper.wp
        simp [execOp, go_sem, Act.eval]
        exact ⟨vs, _, hR.alloc (t := 1) (by omega) hl0 rfl (.inr (by omega))⟩
      · simp at ho
        subst ho
        simp [Region.binds] at hdep
        clear hi' hdep
        unfold wpOp
        simp [Region.wanted]
        refine .inl ?_
        unfold Oper.wp
        simp [execOp, go_sem, Act.eval]
        exact ⟨vs, _, hR.alloc (t := 2) (by omega) hl0 rfl (.inr (by omega))⟩
      · simp at ho
        subst ho
        simp [Region.binds] at hdep
        have j1 : l.getD 9 true = true := getD_true (by simp_all)
        have j2 : l.getD 2 true = true := getD_true (by simp_all)
        have k5 : a.tmps.getD 6 undef = .pointer (some ⟨gs 0, 0, none⟩) := hR.fr.done (i := 9) rfl (by simp_all) (by simp [hT])
        have k6 : a.tmps.getD 38 undef = vs 0 := hR.fr.done (i := 2) rfl (by simp_all) (by simp [hT])
        obtain ⟨neg, ao, n, cap, z, ev, _⟩ := hR.val 0 (by omega) j2
        rw [ev] at k6
        obtain ⟨x0, x1, x2, x3, x4⟩ := hR.ready (t := 0) (by omega) hl0 j1
        clear hi' hdep
        unfold wpOp
        simp [Region.wanted]
        refine .inl ?_
        unfold Oper.wp
        simp [execOp, go_sem, Act.eval, k5, k6, x0, x1, x2, x3, x4]
        exact ⟨vs, gs, hR.store (t := 0) (by omega) hl0 j1 j2 ev undef⟩
      · simp at ho
        subst ho
        simp [Region.binds] at hdep
        have j1 : l.getD 10 true = true := getD_true (by simp_all)
        have j2 : l.getD 5 true = true := getD_true (by simp_all)
        have k5 : a.tmps.getD 7 undef = .pointer (some ⟨gs 1, 0, none⟩) := hR.fr.done (i := 10) rfl (by simp_all) (by simp [hT])
        have k6 : a.tmps.getD 41 undef = vs 1 := hR.fr.done (i := 5) rfl (by simp_all) (by simp [hT])
        obtain ⟨neg, ao, n, cap, z, ev, _⟩ := hR.val 1 (by omega) j2
        rw [ev] at k6
        obtain ⟨x0, x1, x2, x3, x4⟩ := hR.ready (t := 1) (by omega) hl0 j1
        clear hi' hdep
        unfold wpOp
        simp [Region.wanted]
        refine .inl ?_
        unfold Oper.wp
        simp [execOp, go_sem, Act.eval, k5, k6, x0, x1, x2, x3, x4]
        exact ⟨vs, gs, hR.store (t := 1) (by omega) hl0 j1 j2 ev undef⟩
      · simp at ho
        subst ho
        simp [Region.binds] at hdep
        have j1 : l.getD 11 true = true := getD_true (by simp_all)
        have j2 : l.getD 8 true = true := getD_true (by simp_all)
        have k5 : a.tmps.getD 8 undef = .pointer (some ⟨gs 2, 0, none⟩) := hR.fr.done (i := 11) rfl (by simp_all) (by simp [hT])
        have k6 : a.tmps.getD 44 undef = vs 2 := hR.fr.done (i := 8) rfl (by simp_all) (by simp [hT])
        obtain ⟨neg, ao, n, cap, z, ev, _⟩ := hR.val 2 (by omega) j2
        rw [ev] at k6
        obtain ⟨x0, x1, x2, x3, x4⟩ := hR.ready (t := 2) (by omega) hl0 j1
        clear hi' hdep
        unfold wpOp
        simp [Region.wanted]
        refine .inl ?_
        unfold Oper.wp
        simp [execOp, go_sem, Act.eval, k5, k6, x0, x1, x2, x3, x4]
        exact ⟨vs, gs, hR.store (t := 2) (by omega) hl0 j1 j2 ev undef⟩
  case' fin =>
      rintro l a W ⟨vs, gs, hR⟩ hz
      have hnot := List.eq_nil_iff_forall_not_mem.1 hz
      have hk : ∀ k, k < 15 → (l.getD k true = false → False) → l.getD k false = true := fun k h12 h => by
        have hs := hR.size
        cases h' : l.getD k true with
        | false => exact (h h').elim
        | true => simp [Array.getD, hs, h12] at h' ⊢; exact h'
      have st0 := hk 0 (by omega) (fun h => hnot 0 (mem_ready.2 ⟨h, _, rfl, by simp [Region.binds]⟩))
      have st1 := hk 1 (by omega) (fun h => hnot 1 (mem_ready.2 ⟨h, _, rfl, by simp [Region.binds]; simp_all⟩))
      have st2 := hk 2 (by omega) (fun h => hnot 2 (mem_ready.2 ⟨h, _, rfl, by simp [Region.binds]; simp_all⟩))
      have st3 := hk 3 (by omega) (fun h => hnot 3 (mem_ready.2 ⟨h, _, rfl, by simp [Region.binds]⟩))
      have st4 := hk 4 (by omega) (fun h => hnot 4 (mem_ready.2 ⟨h, _, rfl, by simp [Region.binds]; simp_all⟩))
      have st5 := hk 5 (by omega) (fun h => hnot 5 (mem_ready.2 ⟨h, _, rfl, by simp [Region.binds]; simp_all⟩))
      have st6 := hk 6 (by omega) (fun h => hnot 6 (mem_ready.2 ⟨h, _, rfl, by simp [Region.binds]⟩))
      have st7 := hk 7 (by omega) (fun h => hnot 7 (mem_ready.2 ⟨h, _, rfl, by simp [Region.binds]; simp_all⟩))
      have st8 := hk 8 (by omega) (fun h => hnot 8 (mem_ready.2 ⟨h, _, rfl, by simp [Region.binds]; simp_all⟩))
      have st9 := hk 9 (by omega) (fun h => hnot 9 (mem_ready.2 ⟨h, _, rfl, by simp [Region.binds]⟩))
      have st10 := hk 10 (by omega) (fun h => hnot 10 (mem_ready.2 ⟨h, _, rfl, by simp [Region.binds]⟩))
      have st11 := hk 11 (by omega) (fun h => hnot 11 (mem_ready.2 ⟨h, _, rfl, by simp [Region.binds]⟩))
      have st12 := hk 12 (by omega) (fun h => hnot 12 (mem_ready.2 ⟨h, _, rfl, by simp [Region.binds]; simp_all⟩))
      have st13 := hk 13 (by omega) (fun h => hnot 13 (mem_ready.2 ⟨h, _, rfl, by simp [Region.binds]; simp_all⟩))
      have st14 := hk 14 (by omega) (fun h => hnot 14 (mem_ready.2 ⟨h, _, rfl, by simp [Region.binds]; simp_all⟩))
      have hall : ∀ i, i < 15 → l.getD i true = true := fun i hi => by
        rcases (show i = 0 ∨ i = 1 ∨ i = 2 ∨ i = 3 ∨ i = 4 ∨ i = 5 ∨ i = 6 ∨ i = 7 ∨ i = 8 ∨ i = 9 ∨ i = 10 ∨ i = 11 ∨ i = 12 ∨ i = 13 ∨ i = 14 by omega) with rfl | rfl | rfl | rfl | rfl | rfl | rfl | rfl | rfl | rfl | rfl | rfl | rfl | rfl | rfl
        · exact getD_true st0
        · exact getD_true st1
        · exact getD_true st2
        · exact getD_true st3
        · exact getD_true st4
        · exact getD_true st5
        · exact getD_true st6
        · exact getD_true st7
        · exact getD_true st8
        · exact getD_true st9
        · exact getD_true st10
        · exact getD_true st11
        · exact getD_true st12
        · exact getD_true st13
        · exact getD_true st14
      clear st0 st1 st2 st3 st4 st5 st6 st7 st8 st9 st10 st11 st12 st13 st14 hk hnot hz
      obtain ⟨n6, a6, l6, c6, A, ev0, B6, HA⟩ := hR.bx (t := 0) (by omega) (hall 12 (by omega))
      obtain ⟨n7, a7, l7, c7, B, ev1, B7, HB⟩ := hR.bx (t := 1) (by omega) (hall 13 (by omega))
      obtain ⟨n8, a8, l8, c8, C, ev2, B8, HC⟩ := hR.bx (t := 2) (by omega) (hall 14 (by omega))
      have hTs : T.size = 203 := by rw [hT]; rfl
      have ha : a = ⟨((((((((((((T.setIfInBounds 36 (.pointer (some ⟨w.heap.size, 0, none⟩))).setIfInBounds 37 (.slice s0 n0 c0)).setIfInBounds 38 (vs 0)).setIfInBounds 39 (.pointer (some ⟨w.heap.size, 1, none⟩))).setIfInBounds 40 (.slice s1 n1 c1)).setIfInBounds 41 (vs 1)).setIfInBounds 42 (.pointer (some ⟨w.heap.size, 2, none⟩))).setIfInBounds 43 (.slice s2 n2 c2)).setIfInBounds 44 (vs 2)).setIfInBounds 6 (.pointer (some ⟨gs 0, 0, none⟩))).setIfInBounds 7 (.pointer (some ⟨gs 1, 0, none⟩))).setIfInBounds 8 (.pointer (some ⟨gs 2, 0, none⟩))), []⟩ := by
        refine hR.fr.all (fun j i v h => hall i (by have := mOwn_lt h; simp only [] at this; omega)) (by simp) (fun j hj => ?_)
        by_cases h1 : 36 ≤ j ∧ j < 45
        · rcases (show j = 36 ∨ j = 37 ∨ j = 38 ∨ j = 39 ∨ j = 40 ∨ j = 41 ∨ j = 42 ∨ j = 43 ∨ j = 44 by omega) with rfl | rfl | rfl | rfl | rfl | rfl | rfl | rfl | rfl <;> simp [sets_getD, mOwn, hTs]
        · by_cases h2 : 6 ≤ j ∧ j < 9
          · rcases (show j = 6 ∨ j = 7 ∨ j = 8 by omega) with rfl | rfl | rfl <;> simp [sets_getD, mOwn, hTs]
          · have e : mOwn 3 36 6 w.heap.size (fun t => if t = 0 then .slice s0 n0 c0 else if t = 1 then .slice s1 n1 c1 else .slice s2 n2 c2) vs gs j = none := by
              unfold mOwn
              rw [if_neg (by omega), if_neg (by omega)]
            rw [e]
            simp only [sets_getD]
            repeat rw [if_neg (by omega)]
      have hbl := hR.bl
      clear hR hall
      rw [ev0, ev1, ev2] at ha
      obtain ⟨g6, hg6⟩ : ∃ g6, g6 = gs 0 := ⟨_, rfl⟩
      obtain ⟨g7, hg7⟩ : ∃ g7, g7 = gs 1 := ⟨_, rfl⟩
      obtain ⟨g8, hg8⟩ : ∃ g8, g8 = gs 2 := ⟨_, rfl⟩
      rw [← hg6] at ha B6
      rw [← hg7] at ha B7
      rw [← hg8] at ha B8
      have ha2 : a = ⟨#[.agg #[.slice s0 n0 c0, .slice s1 n1 c1, .slice s2 n2 c2], .agg #[.int .u8 (E0 : Nat), .int .u8 (E1 : Nat)], .pointer (some ⟨w.heap.size, 0, none⟩), .pointer (some ⟨w.heap.size + 1, 0, none⟩), .bool false, .bool true, .pointer (some ⟨g6, 0, none⟩), .pointer (some ⟨g7, 0, none⟩), .pointer (some ⟨g8, 0, none⟩), undef, undef, undef, undef, undef, undef, undef, undef, undef, undef, undef, undef, undef, undef, undef, undef, undef, undef, undef, undef, undef, undef, undef, undef, undef, undef, .bool true, .pointer (some ⟨w.heap.size, 0, none⟩), .slice s0 n0 c0, .agg #[.bool n6, .slice a6 l6 c6], .pointer (some ⟨w.heap.size, 1, none⟩), .slice s1 n1 c1, .agg #[.bool n7, .slice a7 l7 c7], .pointer (some ⟨w.heap.size, 2, none⟩), .slice s2 n2 c2, .agg #[.bool n8, .slice a8 l8 c8], undef, undef, undef, undef, undef, undef, undef, undef, undef, undef, undef, undef, undef, undef, undef, undef, undef, undef, undef, undef, undef, undef, undef, undef, undef, undef, undef, undef, undef, undef, undef, undef, undef, undef, undef, undef, undef, undef, undef, undef, undef, undef, undef, undef, undef, undef, undef, undef, undef, undef, undef, undef, undef, undef, undef, undef, undef, undef, undef, undef, undef, undef, undef, undef, undef, undef, undef, undef, undef, undef, undef, undef, undef, undef, undef, undef, undef, undef, undef, undef, undef, undef, undef, undef, undef, undef, undef, undef, undef, undef, undef, undef, undef, undef, undef, undef, undef, undef, undef, undef, undef, undef, undef, undef, undef, undef, undef, undef, undef, undef, undef, undef, undef, undef, undef, undef, undef, undef, undef, undef, undef, undef, undef, undef, undef, undef, undef, undef, undef, undef, undef, undef, undef, undef, undef, undef, undef, undef, undef, undef, undef, undef, undef, undef, undef, undef, undef, undef, undef, undef, undef, undef, undef, undef, undef, undef, undef, undef], []⟩ := by
        rw [ha, hT]
        simp only [List.setIfInBounds_toArray, List.set_cons_succ, List.set_cons_zero]
      subst ha2
      have B6 := Lib.hid B6
      have B7 := Lib.hid B7
      have B8 := Lib.hid B8
      have HA := Lib.hid HA
      have HB := Lib.hid HB
      have HC := Lib.hid HC
      have HWW := step1 HW HZ hbl
      have HDD := step1 HD HE hbl
      have HW := HWW.1
      have HZ := HWW.2
      have HD := HDD.1
      have HE := HDD.2
      clear HWW HDD hbl ha hT hTs ev0 ev1 ev2 hg6 hg7 hg8 vs gs k0 k1 k2 hW1
  obtain ⟨S, hS⟩ : ∃ S, S = A + B := ⟨_, rfl⟩
  obtain ⟨M, hM⟩ : ∃ M, M = S * C := ⟨_, rfl⟩
  obtain ⟨X, hX⟩ : ∃ X, X = C * A := ⟨_, rfl⟩
  obtain ⟨Y, hY⟩ : ∃ Y, Y = B * C := ⟨_, rfl⟩
  have dS := lt_add HA.out HB.out
  rw [← hS] at dS
  have dM := lt_mul dS HC.out
  rw [← hM] at dM
  have dX := lt_mul HC.out HA.out
  rw [← hX] at dX
  have dY := lt_mul HB.out HC.out
  rw [← hY] at dY
  have hMXY : X + Y = M := by rw [hM, hS, hX, hY, Int.add_mul, Int.mul_comm C A]
  have ES : Hid (A + B = S) := Lib.hid hS.symm
  have ES2 : Hid (B + A = S) := Lib.hid (by rw [hS]; omega)
  have EM : Hid (S * C = M) := Lib.hid hM.symm
  have EX : Hid (C * A = X) := Lib.hid hX.symm
  have EY : Hid (B * C = Y) := Lib.hid hY.symm
  have ER : Hid (X + Y = M) := Lib.hid hMXY
  have EA : Hid (S - B = A) := Lib.hid (by rw [hS]; omega)
  have EZ : Hid (M - M = 0) := Lib.hid (by omega)
  have FS := Lib.hid (fits_pow _ dS (by omega))
  have FM := Lib.hid (fits_pow _ dM (by omega))
  have FX := Lib.hid (fits_pow _ dX (by omega))
  have FY := Lib.hid (fits_pow _ dY (by omega))
  have FA := Lib.hid (fits_pow _ HA.out (by omega))
  have FZ := Lib.hid (fits_w (n := Int.natAbs 0) (by decide))
  obtain ⟨N0, hN0⟩ : ∃ N0, N0 = E0 % 9 := ⟨_, rfl⟩
  obtain ⟨N1, hN1⟩ : ∃ N1, N1 = E1 % 9 := ⟨_, rfl⟩
  have h08 : N0 ≤ 8 := by omega
  have h18 : N1 ≤ 8 := by omega
  obtain ⟨P0, hP0⟩ : ∃ P0, P0 = A ^ N0 := ⟨_, rfl⟩
  obtain ⟨P1, hP1⟩ : ∃ P1, P1 = A ^ N1 := ⟨_, rfl⟩
  obtain ⟨Q, hQ⟩ : ∃ Q, Q = A ^ (N0 + N1) := ⟨_, rfl⟩
  have FP0 : Hid (fitsB P0.natAbs = true) := Lib.hid (by rw [hP0]; exact fits_pow _ (lt_pow N0 (by omega) HA.out) (by omega))
  have FP1 : Hid (fitsB P1.natAbs = true) := Lib.hid (by rw [hP1]; exact fits_pow _ (lt_pow N1 (by omega) HA.out) (by omega))
  have FQ : Hid (fitsB Q.natAbs = true) := Lib.hid (by rw [hQ]; exact fits_pow _ (lt_pow (N0 + N1) (by omega) HA.out) (by omega))
  have EP0 : Hid (A ^ N0 = P0) := Lib.hid hP0.symm
  have EP1 : Hid (A ^ N1 = P1) := Lib.hid hP1.symm
  have EQ : Hid (P0 * P1 = Q) := Lib.hid (by rw [hP0, hP1, hQ, Int.pow_add])
  have HPW : Hid (∀ W x, Nu W x A → Calls Tryz.prog 20 #[x, .int .i64 ((N0 : Int) + (N1 : Int))] W (YesN W Q)) := Lib.hid (fun W x h => pow_fit Q (N0 + N1) h (by omega) hQ.symm FQ.out)
  have m0 : (E0 : Int) % 9 = (N0 : Nat) := by omega
  have m1 : (E1 : Int) % 9 = (N1 : Nat) := by omega
  have t0 : (E0 : Int).tmod 9 = (N0 : Nat) := by rw [Int.tmod_eq_emod_of_nonneg (by omega)]; exact m0
  have t1 : (E1 : Int).tmod 9 = (N1 : Nat) := by rw [Int.tmod_eq_emod_of_nonneg (by omega)]; exact m1
  have w0 : IntKind.i64.wrap (E0 : Int) = (E0 : Int) := by rw [IntKind.wrap_i64]; omega
  have w1 : IntKind.i64.wrap (E1 : Int) = (E1 : Int) := by rw [IntKind.wrap_i64]; omega
  have w2 : IntKind.i64.wrap (N0 : Int) = (N0 : Int) := by rw [IntKind.wrap_i64]; omega
  have w3 : IntKind.i64.wrap (N1 : Int) = (N1 : Int) := by rw [IntKind.wrap_i64]; omega
  clear hS hM hX hY hMXY dS dM dX dY hN0 hN1 hP0 hP1 hQ HA HB HC HM0 HM1 HM2 HSA
  have p6 := B6.out.c0
  have q6 := B6.out.c1
  have p7 := B7.out.c0
  have q7 := B7.out.c1
  go_upto_region 4 with (first | (go_at_call 28; refine (add_fit S B6.out.nu B7.out.nu ES.out FS.out).mono ?_; rintro e wz ⟨n9, a9, l9, c9, rfl, hn, hb⟩; (try have B6 := Lib.hid (B6.out.below hb)); (try have B7 := Lib.hid (B7.out.below hb)); (try have B8 := Lib.hid (B8.out.below hb)); have HWW := step1 HW HZ hb; have HW := HWW.1; have HZ := HWW.2; have HDD := step1 HD HE hb; have HD := HDD.1; have HE := HDD.2; clear HWW HDD; have NB := Lib.hid hn; clear hn; clear hb))
  obtain ⟨W, hW⟩ : ∃ W, W = wz.alloc (.cells #[.bool n9, .slice a9 l9 c9] 27) := ⟨_, rfl⟩
  obtain ⟨g9, hg⟩ : ∃ g, g = wz.heap.size := ⟨_, rfl⟩
  have hb : Below wz.heap.size wz W := by rw [hW]; exact alloc_b _ _
  have B9 : Hid (Bx W g9 n9 a9 l9 c9 S) := Lib.hid (by rw [hW, hg]; exact bx_new NB.out)
  rw [← hW]
  rw [← hg]
  clear hW hg NB
  have B6 := Lib.hid (B6.out.below hb)
  have B7 := Lib.hid (B7.out.below hb)
  have B8 := Lib.hid (B8.out.below hb)
  have HWW := step1 HW HZ hb
  have HW := HWW.1
  have HZ := HWW.2
  have HDD := step1 HD HE hb
  have HD := HDD.1
  have HE := HDD.2
  clear HWW HDD hb 
  clear p6 q6 p7 q7
  have p7 := B7.out.c0
  have q7 := B7.out.c1
  have p6 := B6.out.c0
  have q6 := B6.out.c1
  go_upto_region 5 with (first | (go_at_call 28; refine (add_fit S B7.out.nu B6.out.nu ES2.out FS.out).mono ?_; rintro e wz ⟨n11, a11, l11, c11, rfl, hn, hb⟩; (try have B6 := Lib.hid (B6.out.below hb)); (try have B7 := Lib.hid (B7.out.below hb)); (try have B8 := Lib.hid (B8.out.below hb)); (try have B9 := Lib.hid (B9.out.below hb)); have HWW := step1 HW HZ hb; have HW := HWW.1; have HZ := HWW.2; have HDD := step1 HD HE hb; have HD := HDD.1; have HE := HDD.2; clear HWW HDD; have NB := Lib.hid hn; clear hn; clear hb))
  obtain ⟨W, hW⟩ : ∃ W, W = wz.alloc (.cells #[.bool n11, .slice a11 l11 c11] 27) := ⟨_, rfl⟩
  obtain ⟨g11, hg⟩ : ∃ g, g = wz.heap.size := ⟨_, rfl⟩
  have hb : Below wz.heap.size wz W := by rw [hW]; exact alloc_b _ _
  have B11 : Hid (Bx W g11 n11 a11 l11 c11 S) := Lib.hid (by rw [hW, hg]; exact bx_new NB.out)
  rw [← hW]
  rw [← hg]
  clear hW hg NB
  have B6 := Lib.hid (B6.out.below hb)
  have B7 := Lib.hid (B7.out.below hb)
  have B8 := Lib.hid (B8.out.below hb)
  have B9 := Lib.hid (B9.out.below hb)
  have HWW := step1 HW HZ hb
  have HW := HWW.1
  have HZ := HWW.2
  have HDD := step1 HD HE hb
  have HD := HDD.1
  have HE := HDD.2
  clear HWW HDD hb 
  clear p7 q7 p6 q6
  have p9 := B9.out.c0
  have q9 := B9.out.c1
  have p8 := B8.out.c0
  have q8 := B8.out.c1
  go_upto_region 6 with (first | (go_at_call 30; refine (mul_fit M B9.out.nu B8.out.nu EM.out FM.out).mono ?_; rintro e wz ⟨n13, a13, l13, c13, rfl, hn, hb⟩; (try have B6 := Lib.hid (B6.out.below hb)); (try have B7 := Lib.hid (B7.out.below hb)); (try have B8 := Lib.hid (B8.out.below hb)); (try have B9 := Lib.hid (B9.out.below hb)); (try have B11 := Lib.hid (B11.out.below hb)); have HWW := step1 HW HZ hb; have HW := HWW.1; have HZ := HWW.2; have HDD := step1 HD HE hb; have HD := HDD.1; have HE := HDD.2; clear HWW HDD; have NB := Lib.hid hn; clear hn; clear hb))
  obtain ⟨W, hW⟩ : ∃ W, W = wz.alloc (.cells #[.bool n13, .slice a13 l13 c13] 27) := ⟨_, rfl⟩
  obtain ⟨g13, hg⟩ : ∃ g, g = wz.heap.size := ⟨_, rfl⟩
  have hb : Below wz.heap.size wz W := by rw [hW]; exact alloc_b _ _
  have B13 : Hid (Bx W g13 n13 a13 l13 c13 M) := Lib.hid (by rw [hW, hg]; exact bx_new NB.out)
  rw [← hW]
  rw [← hg]
  clear hW hg NB
  have B6 := Lib.hid (B6.out.below hb)
  have B7 := Lib.hid (B7.out.below hb)
  have B8 := Lib.hid (B8.out.below hb)
  have B9 := Lib.hid (B9.out.below hb)
  have B11 := Lib.hid (B11.out.below hb)
  have HWW := step1 HW HZ hb
  have HW := HWW.1
  have HZ := HWW.2
  have HDD := step1 HD HE hb
  have HD := HDD.1
  have HE := HDD.2
  clear HWW HDD hb 
  clear p9 q9 p8 q8
  have p8 := B8.out.c0
  have q8 := B8.out.c1
  have p6 := B6.out.c0
  have q6 := B6.out.c1
  go_upto_region 7 with (first | (go_at_call 30; refine (mul_fit X B8.out.nu B6.out.nu EX.out FX.out).mono ?_; rintro e wz ⟨n15, a15, l15, c15, rfl, hn, hb⟩; (try have B6 := Lib.hid (B6.out.below hb)); (try have B7 := Lib.hid (B7.out.below hb)); (try have B8 := Lib.hid (B8.out.below hb)); (try have B9 := Lib.hid (B9.out.below hb)); (try have B11 := Lib.hid (B11.out.below hb)); (try have B13 := Lib.hid (B13.out.below hb)); have HWW := step1 HW HZ hb; have HW := HWW.1; have HZ := HWW.2; have HDD := step1 HD HE hb; have HD := HDD.1; have HE := HDD.2; clear HWW HDD; have NB := Lib.hid hn; clear hn; clear hb))
  obtain ⟨W, hW⟩ : ∃ W, W = wz.alloc (.cells #[.bool n15, .slice a15 l15 c15] 27) := ⟨_, rfl⟩
  obtain ⟨g15, hg⟩ : ∃ g, g = wz.heap.size := ⟨_, rfl⟩
  have hb : Below wz.heap.size wz W := by rw [hW]; exact alloc_b _ _
  have B15 : Hid (Bx W g15 n15 a15 l15 c15 X) := Lib.hid (by rw [hW, hg]; exact bx_new NB.out)
  rw [← hW]
  rw [← hg]
  clear hW hg NB
  have B6 := Lib.hid (B6.out.below hb)
  have B7 := Lib.hid (B7.out.below hb)
  have B8 := Lib.hid (B8.out.below hb)
  have B9 := Lib.hid (B9.out.below hb)
  have B11 := Lib.hid (B11.out.below hb)
  have B13 := Lib.hid (B13.out.below hb)
  have HWW := step1 HW HZ hb
  have HW := HWW.1
  have HZ := HWW.2
  have HDD := step1 HD HE hb
  have HD := HDD.1
  have HE := HDD.2
  clear HWW HDD hb 
  clear p8 q8 p6 q6
  have p7 := B7.out.c0
  have q7 := B7.out.c1
  have p8 := B8.out.c0
  have q8 := B8.out.c1
  go_upto_region 8 with (first | (go_at_call 30; refine (mul_fit Y B7.out.nu B8.out.nu EY.out FY.out).mono ?_; rintro e wz ⟨n17, a17, l17, c17, rfl, hn, hb⟩; (try have B6 := Lib.hid (B6.out.below hb)); (try have B7 := Lib.hid (B7.out.below hb)); (try have B8 := Lib.hid (B8.out.below hb)); (try have B9 := Lib.hid (B9.out.below hb)); (try have B11 := Lib.hid (B11.out.below hb)); (try have B13 := Lib.hid (B13.out.below hb)); (try have B15 := Lib.hid (B15.out.below hb)); have HWW := step1 HW HZ hb; have HW := HWW.1; have HZ := HWW.2; have HDD := step1 HD HE hb; have HD := HDD.1; have HE := HDD.2; clear HWW HDD; have NB := Lib.hid hn; clear hn; clear hb))
  obtain ⟨W, hW⟩ : ∃ W, W = wz.alloc (.cells #[.bool n17, .slice a17 l17 c17] 27) := ⟨_, rfl⟩
  obtain ⟨g17, hg⟩ : ∃ g, g = wz.heap.size := ⟨_, rfl⟩
  have hb : Below wz.heap.size wz W := by rw [hW]; exact alloc_b _ _
  have B17 : Hid (Bx W g17 n17 a17 l17 c17 Y) := Lib.hid (by rw [hW, hg]; exact bx_new NB.out)
  rw [← hW]
  rw [← hg]
  clear hW hg NB
  have B6 := Lib.hid (B6.out.below hb)
  have B7 := Lib.hid (B7.out.below hb)
  have B8 := Lib.hid (B8.out.below hb)
  have B9 := Lib.hid (B9.out.below hb)
  have B11 := Lib.hid (B11.out.below hb)
  have B13 := Lib.hid (B13.out.below hb)
  have B15 := Lib.hid (B15.out.below hb)
  have HWW := step1 HW HZ hb
  have HW := HWW.1
  have HZ := HWW.2
  have HDD := step1 HD HE hb
  have HD := HDD.1
  have HE := HDD.2
  clear HWW HDD hb 
  clear p7 q7 p8 q8
  have p15 := B15.out.c0
  have q15 := B15.out.c1
  have p17 := B17.out.c0
  have q17 := B17.out.c1
  go_upto_region 9 with (first | (go_at_call 28; refine (add_fit M B15.out.nu B17.out.nu ER.out FM.out).mono ?_; rintro e wz ⟨n19, a19, l19, c19, rfl, hn, hb⟩; (try have B6 := Lib.hid (B6.out.below hb)); (try have B7 := Lib.hid (B7.out.below hb)); (try have B8 := Lib.hid (B8.out.below hb)); (try have B9 := Lib.hid (B9.out.below hb)); (try have B11 := Lib.hid (B11.out.below hb)); (try have B13 := Lib.hid (B13.out.below hb)); (try have B15 := Lib.hid (B15.out.below hb)); (try have B17 := Lib.hid (B17.out.below hb)); have HWW := step1 HW HZ hb; have HW := HWW.1; have HZ := HWW.2; have HDD := step1 HD HE hb; have HD := HDD.1; have HE := HDD.2; clear HWW HDD; have NB := Lib.hid hn; clear hn; clear hb))
  obtain ⟨W, hW⟩ : ∃ W, W = wz.alloc (.cells #[.bool n19, .slice a19 l19 c19] 27) := ⟨_, rfl⟩
  obtain ⟨g19, hg⟩ : ∃ g, g = wz.heap.size := ⟨_, rfl⟩
  have hb : Below wz.heap.size wz W := by rw [hW]; exact alloc_b _ _
  have B19 : Hid (Bx W g19 n19 a19 l19 c19 M) := Lib.hid (by rw [hW, hg]; exact bx_new NB.out)
  rw [← hW]
  rw [← hg]
  clear hW hg NB
  have B6 := Lib.hid (B6.out.below hb)
  have B7 := Lib.hid (B7.out.below hb)
  have B8 := Lib.hid (B8.out.below hb)
  have B9 := Lib.hid (B9.out.below hb)
  have B11 := Lib.hid (B11.out.below hb)
  have B13 := Lib.hid (B13.out.below hb)
  have B15 := Lib.hid (B15.out.below hb)
  have B17 := Lib.hid (B17.out.below hb)
  have HWW := step1 HW HZ hb
  have HW := HWW.1
  have HZ := HWW.2
  have HDD := step1 HD HE hb
  have HD := HDD.1
  have HE := HDD.2
  clear HWW HDD hb 
  clear p15 q15 p17 q17
  have p9 := B9.out.c0
  have q9 := B9.out.c1
  have p7 := B7.out.c0
  have q7 := B7.out.c1
  go_upto_region 10 with (first | (go_at_call 29; refine (sub_fit A B9.out.nu B7.out.nu EA.out FA.out).mono ?_; rintro e wz ⟨n21, a21, l21, c21, rfl, hn, hb⟩; (try have B6 := Lib.hid (B6.out.below hb)); (try have B7 := Lib.hid (B7.out.below hb)); (try have B8 := Lib.hid (B8.out.below hb)); (try have B9 := Lib.hid (B9.out.below hb)); (try have B11 := Lib.hid (B11.out.below hb)); (try have B13 := Lib.hid (B13.out.below hb)); (try have B15 := Lib.hid (B15.out.below hb)); (try have B17 := Lib.hid (B17.out.below hb)); (try have B19 := Lib.hid (B19.out.below hb)); have HWW := step1 HW HZ hb; have HW := HWW.1; have HZ := HWW.2; have HDD := step1 HD HE hb; have HD := HDD.1; have HE := HDD.2; clear HWW HDD; have NB := Lib.hid hn; clear hn; clear hb))
  obtain ⟨W, hW⟩ : ∃ W, W = wz.alloc (.cells #[.bool n21, .slice a21 l21 c21] 27) := ⟨_, rfl⟩
  obtain ⟨g21, hg⟩ : ∃ g, g = wz.heap.size := ⟨_, rfl⟩
  have hb : Below wz.heap.size wz W := by rw [hW]; exact alloc_b _ _
  have B21 : Hid (Bx W g21 n21 a21 l21 c21 A) := Lib.hid (by rw [hW, hg]; exact bx_new NB.out)
  rw [← hW]
  rw [← hg]
  clear hW hg NB
  have B6 := Lib.hid (B6.out.below hb)
  have B7 := Lib.hid (B7.out.below hb)
  have B8 := Lib.hid (B8.out.below hb)
  have B9 := Lib.hid (B9.out.below hb)
  have B11 := Lib.hid (B11.out.below hb)
  have B13 := Lib.hid (B13.out.below hb)
  have B15 := Lib.hid (B15.out.below hb)
  have B17 := Lib.hid (B17.out.below hb)
  have B19 := Lib.hid (B19.out.below hb)
  have HWW := step1 HW HZ hb
  have HW := HWW.1
  have HZ := HWW.2
  have HDD := step1 HD HE hb
  have HD := HDD.1
  have HE := HDD.2
  clear HWW HDD hb 
  clear p9 q9 p7 q7
  have p13 := B13.out.c0
  have q13 := B13.out.c1
  have p19 := B19.out.c0
  have q19 := B19.out.c1
  go_upto_region 11 with (first | (go_at_call 29; refine (sub_fit 0 B13.out.nu B19.out.nu EZ.out FZ.out).mono ?_; rintro e wz ⟨n23, a23, l23, c23, rfl, hn, hb⟩; (try have B6 := Lib.hid (B6.out.below hb)); (try have B7 := Lib.hid (B7.out.below hb)); (try have B8 := Lib.hid (B8.out.below hb)); (try have B9 := Lib.hid (B9.out.below hb)); (try have B11 := Lib.hid (B11.out.below hb)); (try have B13 := Lib.hid (B13.out.below hb)); (try have B15 := Lib.hid (B15.out.below hb)); (try have B17 := Lib.hid (B17.out.below hb)); (try have B19 := Lib.hid (B19.out.below hb)); (try have B21 := Lib.hid (B21.out.below hb)); have HWW := step1 HW HZ hb; have HW := HWW.1; have HZ := HWW.2; have HDD := step1 HD HE hb; have HD := HDD.1; have HE := HDD.2; clear HWW HDD; have NB := Lib.hid hn; clear hn; clear hb))
  obtain ⟨W, hW⟩ : ∃ W, W = wz.alloc (.cells #[.bool n23, .slice a23 l23 c23] 27) := ⟨_, rfl⟩
  obtain ⟨g23, hg⟩ : ∃ g, g = wz.heap.size := ⟨_, rfl⟩
  have hb : Below wz.heap.size wz W := by rw [hW]; exact alloc_b _ _
  have B23 : Hid (Bx W g23 n23 a23 l23 c23 0) := Lib.hid (by rw [hW, hg]; exact bx_new NB.out)
  rw [← hW]
  rw [← hg]
  clear hW hg NB
  have B6 := Lib.hid (B6.out.below hb)
  have B7 := Lib.hid (B7.out.below hb)
  have B8 := Lib.hid (B8.out.below hb)
  have B9 := Lib.hid (B9.out.below hb)
  have B11 := Lib.hid (B11.out.below hb)
  have B13 := Lib.hid (B13.out.below hb)
  have B15 := Lib.hid (B15.out.below hb)
  have B17 := Lib.hid (B17.out.below hb)
  have B19 := Lib.hid (B19.out.below hb)
  have B21 := Lib.hid (B21.out.below hb)
  have HWW := step1 HW HZ hb
  have HW := HWW.1
  have HZ := HWW.2
  have HDD := step1 HD HE hb
  have HD := HDD.1
  have HE := HDD.2
  clear HWW HDD hb 
  clear p13 q13 p19 q19
  obtain ⟨e1, e2⟩ := B23.out.zero
  subst e1 e2
  have p9 := B9.out.c0
  have q9 := B9.out.c1
  have p11 := B11.out.c0
  have q11 := B11.out.c1
  have p13 := B13.out.c0
  have q13 := B13.out.c1
  have p19 := B19.out.c0
  have q19 := B19.out.c1
  have p21 := B21.out.c0
  have q21 := B21.out.c1
  have p6 := B6.out.c0
  have q6 := B6.out.c1
  have p23 := B23.out.c0
  have q23 := B23.out.c1
  clear B7 B8 B15 B17
  go_upto_region 13 with (first | (go_at_call_of 19 (Value.slice a9 l9 c9); refine (same_yes B9.out.nu B11.out.nu rfl).mono ?_; rintro e wz ⟨rfl, hb⟩; (try have B6 := Lib.hid (B6.out.below hb)); (try have B9 := Lib.hid (B9.out.below hb)); (try have B11 := Lib.hid (B11.out.below hb)); (try have B13 := Lib.hid (B13.out.below hb)); (try have B19 := Lib.hid (B19.out.below hb)); (try have B21 := Lib.hid (B21.out.below hb)); (try have B23 := Lib.hid (B23.out.below hb)); have HWW := step1 HW HZ hb; have HW := HWW.1; have HZ := HWW.2; have HDD := step1 HD HE hb; have HD := HDD.1; have HE := HDD.2; clear HWW HDD; have p9 := B9.out.c0; have q9 := B9.out.c1; have p11 := B11.out.c0; have q11 := B11.out.c1; have p13 := B13.out.c0; have q13 := B13.out.c1; have p19 := B19.out.c0; have q19 := B19.out.c1; have p21 := B21.out.c0; have q21 := B21.out.c1; have p6 := B6.out.c0; have q6 := B6.out.c1; have p23 := B23.out.c0; have q23 := B23.out.c1; clear hb) | (go_at_call_of 19 (Value.slice a13 l13 c13); refine (same_yes B13.out.nu B19.out.nu rfl).mono ?_; rintro e wz ⟨rfl, hb⟩; (try have B6 := Lib.hid (B6.out.below hb)); (try have B9 := Lib.hid (B9.out.below hb)); (try have B11 := Lib.hid (B11.out.below hb)); (try have B13 := Lib.hid (B13.out.below hb)); (try have B19 := Lib.hid (B19.out.below hb)); (try have B21 := Lib.hid (B21.out.below hb)); (try have B23 := Lib.hid (B23.out.below hb)); have HWW := step1 HW HZ hb; have HW := HWW.1; have HZ := HWW.2; have HDD := step1 HD HE hb; have HD := HDD.1; have HE := HDD.2; clear HWW HDD; have p9 := B9.out.c0; have q9 := B9.out.c1; have p11 := B11.out.c0; have q11 := B11.out.c1; have p13 := B13.out.c0; have q13 := B13.out.c1; have p19 := B19.out.c0; have q19 := B19.out.c1; have p21 := B21.out.c0; have q21 := B21.out.c1; have p6 := B6.out.c0; have q6 := B6.out.c1; have p23 := B23.out.c0; have q23 := B23.out.c1; clear hb) | (go_at_call_of 19 (Value.slice a21 l21 c21); refine (same_yes B21.out.nu B6.out.nu rfl).mono ?_; rintro e wz ⟨rfl, hb⟩; (try have B6 := Lib.hid (B6.out.below hb)); (try have B9 := Lib.hid (B9.out.below hb)); (try have B11 := Lib.hid (B11.out.below hb)); (try have B13 := Lib.hid (B13.out.below hb)); (try have B19 := Lib.hid (B19.out.below hb)); (try have B21 := Lib.hid (B21.out.below hb)); (try have B23 := Lib.hid (B23.out.below hb)); have HWW := step1 HW HZ hb; have HW := HWW.1; have HZ := HWW.2; have HDD := step1 HD HE hb; have HD := HDD.1; have HE := HDD.2; clear HWW HDD; have p9 := B9.out.c0; have q9 := B9.out.c1; have p11 := B11.out.c0; have q11 := B11.out.c1; have p13 := B13.out.c0; have q13 := B13.out.c1; have p19 := B19.out.c0; have q19 := B19.out.c1; have p21 := B21.out.c0; have q21 := B21.out.c1; have p6 := B6.out.c0; have q6 := B6.out.c1; have p23 := B23.out.c0; have q23 := B23.out.c1; clear hb))
  clear p9 q9 p11 q11 p13 q13 p19 q19 p21 q21 p6 q6 p23 q23 B9 B11 B13 B19 B21 B23
  obtain ⟨u0, u1⟩ := (HBL.out _ HD.out).2
  go_region
  clear u0 u1
  obtain ⟨W, hW⟩ : ∃ W, W = wz.drew := ⟨_, rfl⟩
  have hb : Below wz.heap.size wz W := by rw [hW]; exact ⟨rfl, rfl, rfl, Nat.le_refl _, fun _ _ => rfl⟩
  rw [← hW]
  clear hW
  have B6 := Lib.hid (B6.out.below hb)
  have HWW := step1 HW HZ hb
  have HW := HWW.1
  have HZ := HWW.2
  have HDD := step1 HD HE hb
  have HD := HDD.1
  have HE := HDD.2
  clear HWW HDD hb
  have p6 := B6.out.c0
  have q6 := B6.out.c1
  go_upto_region 15 with (first | (go_at_call 20; refine (pow_fit P0 N0 B6.out.nu (by omega) EP0.out FP0.out).mono ?_; rintro e wz ⟨n27, a27, l27, c27, rfl, hn, hb⟩; (try have B6 := Lib.hid (B6.out.below hb)); have HWW := step1 HW HZ hb; have HW := HWW.1; have HZ := HWW.2; have HDD := step1 HD HE hb; have HD := HDD.1; have HE := HDD.2; clear HWW HDD; have NB := Lib.hid hn; clear hn; clear hb))
  obtain ⟨W, hW⟩ : ∃ W, W = wz.alloc (.cells #[.bool n27, .slice a27 l27 c27] 27) := ⟨_, rfl⟩
  obtain ⟨g27, hg⟩ : ∃ g, g = wz.heap.size := ⟨_, rfl⟩
  have hb : Below wz.heap.size wz W := by rw [hW]; exact alloc_b _ _
  have B27 : Hid (Bx W g27 n27 a27 l27 c27 P0) := Lib.hid (by rw [hW, hg]; exact bx_new NB.out)
  rw [← hW]
  rw [← hg]
  clear hW hg NB
  have B6 := Lib.hid (B6.out.below hb)
  have HWW := step1 HW HZ hb
  have HW := HWW.1
  have HZ := HWW.2
  have HDD := step1 HD HE hb
  have HD := HDD.1
  have HE := HDD.2
  clear HWW HDD hb 
  clear p6 q6
  have p6 := B6.out.c0
  have q6 := B6.out.c1
  go_upto_region 16 with (first | (go_at_call 20; refine (pow_fit P1 N1 B6.out.nu (by omega) EP1.out FP1.out).mono ?_; rintro e wz ⟨n29, a29, l29, c29, rfl, hn, hb⟩; (try have B6 := Lib.hid (B6.out.below hb)); (try have B27 := Lib.hid (B27.out.below hb)); have HWW := step1 HW HZ hb; have HW := HWW.1; have HZ := HWW.2; have HDD := step1 HD HE hb; have HD := HDD.1; have HE := HDD.2; clear HWW HDD; have NB := Lib.hid hn; clear hn; clear hb))
  obtain ⟨W, hW⟩ : ∃ W, W = wz.alloc (.cells #[.bool n29, .slice a29 l29 c29] 27) := ⟨_, rfl⟩
  obtain ⟨g29, hg⟩ : ∃ g, g = wz.heap.size := ⟨_, rfl⟩
  have hb : Below wz.heap.size wz W := by rw [hW]; exact alloc_b _ _
  have B29 : Hid (Bx W g29 n29 a29 l29 c29 P1) := Lib.hid (by rw [hW, hg]; exact bx_new NB.out)
  rw [← hW]
  rw [← hg]
  clear hW hg NB
  have B6 := Lib.hid (B6.out.below hb)
  have B27 := Lib.hid (B27.out.below hb)
  have HWW := step1 HW HZ hb
  have HW := HWW.1
  have HZ := HWW.2
  have HDD := step1 HD HE hb
  have HD := HDD.1
  have HE := HDD.2
  clear HWW HDD hb 
  clear p6 q6
  have p6 := B6.out.c0
  have q6 := B6.out.c1
  go_upto_region 17 with (first | (go_at_call 20; refine (HPW.out _ _ B6.out.nu).mono ?_; rintro e wz ⟨n31, a31, l31, c31, rfl, hn, hb⟩; (try have B6 := Lib.hid (B6.out.below hb)); (try have B27 := Lib.hid (B27.out.below hb)); (try have B29 := Lib.hid (B29.out.below hb)); have HWW := step1 HW HZ hb; have HW := HWW.1; have HZ := HWW.2; have HDD := step1 HD HE hb; have HD := HDD.1; have HE := HDD.2; clear HWW HDD; have NB := Lib.hid hn; clear hn; clear hb))
  obtain ⟨W, hW⟩ : ∃ W, W = wz.alloc (.cells #[.bool n31, .slice a31 l31 c31] 27) := ⟨_, rfl⟩
  obtain ⟨g31, hg⟩ : ∃ g, g = wz.heap.size := ⟨_, rfl⟩
  have hb : Below wz.heap.size wz W := by rw [hW]; exact alloc_b _ _
  have B31 : Hid (Bx W g31 n31 a31 l31 c31 Q) := Lib.hid (by rw [hW, hg]; exact bx_new NB.out)
  rw [← hW]
  rw [← hg]
  clear hW hg NB
  have B6 := Lib.hid (B6.out.below hb)
  have B27 := Lib.hid (B27.out.below hb)
  have B29 := Lib.hid (B29.out.below hb)
  have HWW := step1 HW HZ hb
  have HW := HWW.1
  have HZ := HWW.2
  have HDD := step1 HD HE hb
  have HD := HDD.1
  have HE := HDD.2
  clear HWW HDD hb 
  clear p6 q6
  have p27 := B27.out.c0
  have q27 := B27.out.c1
  have p29 := B29.out.c0
  have q29 := B29.out.c1
  go_upto_region 18 with (first | (go_at_call 30; refine (mul_fit Q B27.out.nu B29.out.nu EQ.out FQ.out).mono ?_; rintro e wz ⟨n33, a33, l33, c33, rfl, hn, hb⟩; (try have B6 := Lib.hid (B6.out.below hb)); (try have B27 := Lib.hid (B27.out.below hb)); (try have B29 := Lib.hid (B29.out.below hb)); (try have B31 := Lib.hid (B31.out.below hb)); have HWW := step1 HW HZ hb; have HW := HWW.1; have HZ := HWW.2; have HDD := step1 HD HE hb; have HD := HDD.1; have HE := HDD.2; clear HWW HDD; have NB := Lib.hid hn; clear hn; clear hb))
  obtain ⟨W, hW⟩ : ∃ W, W = wz.alloc (.cells #[.bool n33, .slice a33 l33 c33] 27) := ⟨_, rfl⟩
  obtain ⟨g33, hg⟩ : ∃ g, g = wz.heap.size := ⟨_, rfl⟩
  have hb : Below wz.heap.size wz W := by rw [hW]; exact alloc_b _ _
  have B33 : Hid (Bx W g33 n33 a33 l33 c33 Q) := Lib.hid (by rw [hW, hg]; exact bx_new NB.out)
  rw [← hW]
  rw [← hg]
  clear hW hg NB
  have B31 := Lib.hid (B31.out.below hb)
  have HWW := step1 HW HZ hb
  have HW := HWW.1
  have HZ := HWW.2
  have HDD := step1 HD HE hb
  have HD := HDD.1
  have HE := HDD.2
  clear HWW HDD hb 
  clear p27 q27 p29 q29
  have p31 := B31.out.c0
  have q31 := B31.out.c1
  have p33 := B33.out.c0
  have q33 := B33.out.c1
  go_wp2_with (first | (go_at_call 19; refine (same_yes B31.out.nu B33.out.nu rfl).mono ?_; rintro e wz ⟨rfl, hb⟩; have HWW := step1 HW HZ hb; have HW := HWW.1; have HZ := HWW.2; have HDD := step1 HD HE hb; have HD := HDD.1; have HE := HDD.2; clear HWW HDD; clear hb))
  go_ret
  exact ⟨rfl, HW.out⟩

end Go.Proofs.YtdgmjmckeeeljaaGreatDoor
