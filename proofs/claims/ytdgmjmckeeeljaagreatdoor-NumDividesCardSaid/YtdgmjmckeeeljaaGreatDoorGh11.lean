/- The contract of done: what several steps at once make of two numbers. Conditions: small factors; what is made is neither negative nor greater than the first number. The contract of foreseen: steps of Euclid's algorithm that the highest digits make certain. Conditions: the first number has at least three digits and is not less than the second. The contract of common: the greatest common divisor. Condition: at most 256 digits. The contract of Gcd, for all right numbers. No condition. Div and Gcd: both sides answer alike, whatever the numbers. The law's 'cut' at 20 digits, walked. -/
import Derived.BigRegion
import Derived.Test.YtdgmjmckeeeljaaGreatDoorGh10
import Derived.Test.YtdgmjmckeeeljaaGreatDoorGh3
import Derived.Test.YtdgmjmckeeeljaaGreatDoorGh9
import Derived.Test.YtdgmjmckeeeljaaGreatDoorGh7
namespace Go.Proofs.YtdgmjmckeeeljaaGreatDoor
open Go.RowKit

/-- What each operation returns. -/
def okDN (B : Nat) (va vb : Value) (ax ay bx c : Int) (NN MM : Nat) (i : Nat) (v : Value) (W : World) : Prop :=
  match i with
  | 0 => v = .pointer (some ⟨B, 0, none⟩)
  | 1 => v = .int .i64 ax
  | 2 => v = va
  | 3 => v = .pointer (some ⟨B, 1, none⟩)
  | 4 => v = .int .i64 ay
  | 5 => v = vb
  | 6 => SwD B NN v W
  | 7 => v = .pointer (some ⟨B, 2, none⟩)
  | 8 => v = .int .i64 bx
  | 9 => v = va
  | 10 => v = .pointer (some ⟨B, 3, none⟩)
  | 11 => v = .int .i64 c
  | 12 => v = vb
  | 14 => SwD B NN v W
  | _ => SwD B MM v W
theorem swD_below {B n : Nat} {v : Value} {w w' : World} (h : SwD B n v w) (hb : Below w.heap.size w w') : SwD B n v w' := by
  obtain ⟨ao, cap, e, hs⟩ := h
  exact ⟨ao, cap, e, hs.below hb⟩
theorem okDN_mono {B : Nat} {va vb : Value} {ax ay bx c : Int} {NN MM : Nat} (i : Nat) (v : Value) (w w' : World) (h : okDN B va vb ax ay bx c NN MM i v w) (hb : Below w.heap.size w w') : okDN B va vb ax ay bx c NN MM i v w' := by
  unfold okDN at h ⊢
  split at h <;> first | exact h | exact swD_below h hb

def TwoE (w : World) (NN MM : Nat) (e : Ending) (w' : World) : Prop := ∃ v1 v2, e = .returned (.tuple #[v1, v2]) ∧ SwD w.heap.size NN v1 w' ∧ SwD w.heap.size MM v2 w' ∧ Below w.heap.size w w'

set_option maxRecDepth 10000 in
set_option maxHeartbeats 4000000 in
theorem done_any {w : World} {va vb : Value} {x y NN MM : Nat} {ax ay bx c : Int} (ha : Sl w va (digs x)) (hb : Sl w vb (digs y)) (hla : (digs x).length ≤ 256) (hxy : y ≤ x)
    (h1 : -1073741824 < ax ∧ ax < 1073741824) (h2 : -1073741824 < ay ∧ ay < 1073741824) (h3 : -1073741824 < bx ∧ bx < 1073741824) (h4 : -1073741824 < c ∧ c < 1073741824)
    (hN : (NN : Int) = ax * x + ay * y) (hM : (MM : Int) = bx * x + c * y) (hNx : NN ≤ x) (hMx : MM ≤ x) :
    Calls Tryz.prog 86 #[.agg #[.int .i64 ax, .int .i64 ay, .int .i64 bx, .int .i64 c], va, vb] w (TwoE w NN MM) := by
  have hxl : x < 4294967296 ^ (digs x).length := digs_length_le.1 (Nat.le_refl _)
  obtain ⟨W, hW⟩ : ∃ W, W = w.alloc (.cells #[.int .i64 ax, .int .i64 ay, .int .i64 bx, .int .i64 c] 102) := ⟨_, rfl⟩
  have hbW : Below w.heap.size w W := by rw [hW]; exact alloc_b _ _
  have hmk : ∀ f g (K : Nat), -1073741824 < f ∧ f < 1073741824 → -1073741824 < g ∧ g < 1073741824 → (K : Int) = f * x + g * y → K ≤ x → ∀ V, Below W.heap.size W V → Calls Tryz.prog 108 #[.int .i64 f, va, .int .i64 g, vb] V fun e w' => ∃ v, e = .returned v ∧ SwD w.heap.size K v w' ∧ Below V.heap.size V w' := fun f g K hf hg hK hKx V hV =>
    (mixed_any (ha.below (hbW.trans (hV.mono hbW.size))) (hb.below (hbW.trans (hV.mono hbW.size))) (by omega) (digs_mono hxy) hf.1 hf.2 hg.1 hg.2 (by rw [val_digs, val_digs]; exact hK) (by omega)).mono fun e w' h => by
      obtain ⟨v, e1, e2, e3⟩ := h
      exact ⟨v, e1, swD_mk e2 (Nat.le_trans hbW.size hV.size), e3⟩
  have HC1 := Lib.hid (hmk ax ay NN h1 h2 hN hNx)
  have HC2 := Lib.hid (hmk bx c MM h3 h4 hM hMx)
  have hrow : W.heap[w.heap.size]? = some (.cells #[.int .i64 ax, .int .i64 ay, .int .i64 bx, .int .i64 c] 102 (0, 0)) := by rw [hW]; exact heap_alloc_new _ _
  have z0 : W.cell? ⟨w.heap.size, 0, none⟩ = some (.int .i64 ax) := by rw [cell_of_row _ _ _ _ _ _ hrow]; rfl
  have z1 : W.cell? ⟨w.heap.size, 1, none⟩ = some (.int .i64 ay) := by rw [cell_of_row _ _ _ _ _ _ hrow]; rfl
  have z2 : W.cell? ⟨w.heap.size, 2, none⟩ = some (.int .i64 bx) := by rw [cell_of_row _ _ _ _ _ _ hrow]; rfl
  have z3 : W.cell? ⟨w.heap.size, 3, none⟩ = some (.int .i64 c) := by rw [cell_of_row _ _ _ _ _ _ hrow]; rfl
  have HBW := Lib.hid hbW
  clear hmk h1 h2 h3 h4 hN hM hNx hMx hxl hla hxy ha hb hrow hbW
  go_enter Tryz.func86, Tryz.ntmps86
  go_wp2
  rw [← hW]
  clear hW
  refine frame_named ?_
  intro T hT
  refine regionP_inv (by kernel_rfl) (fun l a wq => ∃ vals, RH W T [some 8, some 9, some 10, some 11, some 12, some 13, some 14, some 15, some 16, some 17, some 18, some 19, some 20, some 21, some 6, some 7] (okDN w.heap.size va vb ax ay bx c NN MM) [] vals l a wq) ?h0h1 ?steph1 ?finh1
  case h0h1 => exact ⟨fun _ => undef, RH.start rfl (show Below W.heap.size W W.drew from ⟨rfl, rfl, rfl, Nat.le_refl _, fun _ _ => rfl⟩)⟩
  case steph1 =>
    rintro l a wq i' ⟨vals, hR⟩ hi'
    obtain ⟨hl0, o, ho, hdep⟩ := mem_ready.1 hi'
    have h15 : i' < 16 := by
      have := (Array.getElem?_eq_some_iff.1 ho).1
      simpa using this
    have hbl := hR.bl
    have y0 := (hbl.cell (p := ⟨w.heap.size, 0, none⟩) (block_lt_of_cell z0)).trans z0
    have y1 := (hbl.cell (p := ⟨w.heap.size, 1, none⟩) (block_lt_of_cell z1)).trans z1
    have y2 := (hbl.cell (p := ⟨w.heap.size, 2, none⟩) (block_lt_of_cell z2)).trans z2
    have y3 := (hbl.cell (p := ⟨w.heap.size, 3, none⟩) (block_lt_of_cell z3)).trans z3
    rcases (show i' = 0 ∨ i' = 1 ∨ i' = 2 ∨ i' = 3 ∨ i' = 4 ∨ i' = 5 ∨ i' = 6 ∨ i' = 7 ∨ i' = 8 ∨ i' = 9 ∨ i' = 10 ∨ i' = 11 ∨ i' = 12 ∨ i' = 13 ∨ i' = 14 ∨ i' = 15 by omega) with rfl | rfl | rfl | rfl | rfl | rfl | rfl | rfl | rfl | rfl | rfl | rfl | rfl | rfl | rfl | rfl
    · simp at ho
      subst ho
      simp [Region.binds] at hdep
      have k0 : a.tmps.getD 3 undef = _ := (hR.fr.kept rfl (by simp [hT])).trans (by rw [hT]; try rfl)
      clear hi' hdep
      unfold wpOp
      simp [Region.wanted]
      refine .inl ?_
      unfold Oper.wp
      simp [execOp, go_sem, Act.eval, k0, y0, y1, y2, y3]
      exact ⟨_, hR.op okDN_mono 0 8 rfl (by decide) hl0 (Below.refl _ _) rfl⟩
    · simp at ho
      subst ho
      simp [Region.binds] at hdep
      have k0 : a.tmps.getD 8 undef = vals 0 := hR.fr.done (i := 0) rfl (by simp_all) (by simp [hT])
      have u0 := hR.val 0 (by decide) (getD_true (by simp_all))
      have u0 : vals 0 = .pointer (some ⟨w.heap.size, 0, none⟩) := u0
      rw [u0] at k0
      clear hi' hdep
      unfold wpOp
      simp [Region.wanted]
      refine .inl ?_
      unfold Oper.wp
      simp [execOp, go_sem, Act.eval, k0, y0]
      exact ⟨_, hR.op okDN_mono 1 9 rfl (by decide) hl0 (Below.refl _ _) rfl⟩
    · simp at ho
      subst ho
      simp [Region.binds] at hdep
      have k0 : a.tmps.getD 1 undef = _ := (hR.fr.kept rfl (by simp [hT])).trans (by rw [hT]; try rfl)
      clear hi' hdep
      unfold wpOp
      simp [Region.wanted]
      refine .inl ?_
      unfold Oper.wp
      simp [execOp, go_sem, Act.eval, k0]
      exact ⟨_, hR.op okDN_mono 2 10 rfl (by decide) hl0 (Below.refl _ _) rfl⟩
    · simp at ho
      subst ho
      simp [Region.binds] at hdep
      have k0 : a.tmps.getD 3 undef = _ := (hR.fr.kept rfl (by simp [hT])).trans (by rw [hT]; try rfl)
      clear hi' hdep
      unfold wpOp
      simp [Region.wanted]
      refine .inl ?_
      unfold Oper.wp
      simp [execOp, go_sem, Act.eval, k0, y0, y1, y2, y3]
      exact ⟨_, hR.op okDN_mono 3 11 rfl (by decide) hl0 (Below.refl _ _) rfl⟩
    · simp at ho
      subst ho
      simp [Region.binds] at hdep
      have k0 : a.tmps.getD 11 undef = vals 3 := hR.fr.done (i := 3) rfl (by simp_all) (by simp [hT])
      have u0 := hR.val 3 (by decide) (getD_true (by simp_all))
      have u0 : vals 3 = .pointer (some ⟨w.heap.size, 1, none⟩) := u0
      rw [u0] at k0
      clear hi' hdep
      unfold wpOp
      simp [Region.wanted]
      refine .inl ?_
      unfold Oper.wp
      simp [execOp, go_sem, Act.eval, k0, y1]
      exact ⟨_, hR.op okDN_mono 4 12 rfl (by decide) hl0 (Below.refl _ _) rfl⟩
    · simp at ho
      subst ho
      simp [Region.binds] at hdep
      have k0 : a.tmps.getD 2 undef = _ := (hR.fr.kept rfl (by simp [hT])).trans (by rw [hT]; try rfl)
      clear hi' hdep
      unfold wpOp
      simp [Region.wanted]
      refine .inl ?_
      unfold Oper.wp
      simp [execOp, go_sem, Act.eval, k0]
      exact ⟨_, hR.op okDN_mono 5 13 rfl (by decide) hl0 (Below.refl _ _) rfl⟩
    · simp at ho
      subst ho
      simp [Region.binds] at hdep
      have k0 : a.tmps.getD 9 undef = vals 1 := hR.fr.done (i := 1) rfl (by simp_all) (by simp [hT])
      have u0 := hR.val 1 (by decide) (getD_true (by simp_all))
      have u0 : vals 1 = .int .i64 ax := u0
      rw [u0] at k0
      have k1 : a.tmps.getD 10 undef = vals 2 := hR.fr.done (i := 2) rfl (by simp_all) (by simp [hT])
      have u1 := hR.val 2 (by decide) (getD_true (by simp_all))
      have u1 : vals 2 = va := u1
      rw [u1] at k1
      have k2 : a.tmps.getD 12 undef = vals 4 := hR.fr.done (i := 4) rfl (by simp_all) (by simp [hT])
      have u2 := hR.val 4 (by decide) (getD_true (by simp_all))
      have u2 : vals 4 = .int .i64 ay := u2
      rw [u2] at k2
      have k3 : a.tmps.getD 13 undef = vals 5 := hR.fr.done (i := 5) rfl (by simp_all) (by simp [hT])
      have u3 := hR.val 5 (by decide) (getD_true (by simp_all))
      have u3 : vals 5 = vb := u3
      rw [u3] at k3
      clear hi' hdep
      unfold wpOp
      simp [Region.wanted]
      refine .inl ?_
      unfold Oper.wp
      simp [execOp, go_sem, Act.eval, k0, k1, k2, k3]
      refine (HC1.out _ hbl).mono ?_
      rintro e w'' ⟨v, rfl, hv, hb⟩
      exact ⟨_, hR.op okDN_mono 6 14 rfl (by decide) hl0 hb hv⟩
    · simp at ho
      subst ho
      simp [Region.binds] at hdep
      have k0 : a.tmps.getD 3 undef = _ := (hR.fr.kept rfl (by simp [hT])).trans (by rw [hT]; try rfl)
      clear hi' hdep
      unfold wpOp
      simp [Region.wanted]
      refine .inl ?_
      unfold Oper.wp
      simp [execOp, go_sem, Act.eval, k0, y0, y1, y2, y3]
      exact ⟨_, hR.op okDN_mono 7 15 rfl (by decide) hl0 (Below.refl _ _) rfl⟩
    · simp at ho
      subst ho
      simp [Region.binds] at hdep
      have k0 : a.tmps.getD 15 undef = vals 7 := hR.fr.done (i := 7) rfl (by simp_all) (by simp [hT])
      have u0 := hR.val 7 (by decide) (getD_true (by simp_all))
      have u0 : vals 7 = .pointer (some ⟨w.heap.size, 2, none⟩) := u0
      rw [u0] at k0
      clear hi' hdep
      unfold wpOp
      simp [Region.wanted]
      refine .inl ?_
      unfold Oper.wp
      simp [execOp, go_sem, Act.eval, k0, y2]
      exact ⟨_, hR.op okDN_mono 8 16 rfl (by decide) hl0 (Below.refl _ _) rfl⟩
    · simp at ho
      subst ho
      simp [Region.binds] at hdep
      have k0 : a.tmps.getD 1 undef = _ := (hR.fr.kept rfl (by simp [hT])).trans (by rw [hT]; try rfl)
      clear hi' hdep
      unfold wpOp
      simp [Region.wanted]
      refine .inl ?_
      unfold Oper.wp
      simp [execOp, go_sem, Act.eval, k0]
      exact ⟨_, hR.op okDN_mono 9 17 rfl (by decide) hl0 (Below.refl _ _) rfl⟩
    · simp at ho
      subst ho
      simp [Region.binds] at hdep
      have k0 : a.tmps.getD 3 undef = _ := (hR.fr.kept rfl (by simp [hT])).trans (by rw [hT]; try rfl)
      clear hi' hdep
      unfold wpOp
      simp [Region.wanted]
      refine .inl ?_
      unfold Oper.wp
      simp [execOp, go_sem, Act.eval, k0, y0, y1, y2, y3]
      exact ⟨_, hR.op okDN_mono 10 18 rfl (by decide) hl0 (Below.refl _ _) rfl⟩
    · simp at ho
      subst ho
      simp [Region.binds] at hdep
      have k0 : a.tmps.getD 18 undef = vals 10 := hR.fr.done (i := 10) rfl (by simp_all) (by simp [hT])
      have u0 := hR.val 10 (by decide) (getD_true (by simp_all))
      have u0 : vals 10 = .pointer (some ⟨w.heap.size, 3, none⟩) := u0
      rw [u0] at k0
      clear hi' hdep
      unfold wpOp
      simp [Region.wanted]
      refine .inl ?_
      unfold Oper.wp
      simp [execOp, go_sem, Act.eval, k0, y3]
      exact ⟨_, hR.op okDN_mono 11 19 rfl (by decide) hl0 (Below.refl _ _) rfl⟩
    · simp at ho
      subst ho
      simp [Region.binds] at hdep
      have k0 : a.tmps.getD 2 undef = _ := (hR.fr.kept rfl (by simp [hT])).trans (by rw [hT]; try rfl)
      clear hi' hdep
      unfold wpOp
      simp [Region.wanted]
      refine .inl ?_
      unfold Oper.wp
      simp [execOp, go_sem, Act.eval, k0]
      exact ⟨_, hR.op okDN_mono 12 20 rfl (by decide) hl0 (Below.refl _ _) rfl⟩
    · simp at ho
      subst ho
      simp [Region.binds] at hdep
      have k0 : a.tmps.getD 16 undef = vals 8 := hR.fr.done (i := 8) rfl (by simp_all) (by simp [hT])
      have u0 := hR.val 8 (by decide) (getD_true (by simp_all))
      have u0 : vals 8 = .int .i64 bx := u0
      rw [u0] at k0
      have k1 : a.tmps.getD 17 undef = vals 9 := hR.fr.done (i := 9) rfl (by simp_all) (by simp [hT])
      have u1 := hR.val 9 (by decide) (getD_true (by simp_all))
      have u1 : vals 9 = va := u1
      rw [u1] at k1
      have k2 : a.tmps.getD 19 undef = vals 11 := hR.fr.done (i := 11) rfl (by simp_all) (by simp [hT])
      have u2 := hR.val 11 (by decide) (getD_true (by simp_all))
      have u2 : vals 11 = .int .i64 c := u2
      rw [u2] at k2
      have k3 : a.tmps.getD 20 undef = vals 12 := hR.fr.done (i := 12) rfl (by simp_all) (by simp [hT])
      have u3 := hR.val 12 (by decide) (getD_true (by simp_all))
      have u3 : vals 12 = vb := u3
      rw [u3] at k3
      clear hi' hdep
      unfold wpOp
      simp [Region.wanted]
      refine .inl ?_
      unfold Oper.wp
      simp [execOp, go_sem, Act.eval, k0, k1, k2, k3]
      refine (HC2.out _ hbl).mono ?_
      rintro e w'' ⟨v, rfl, hv, hb⟩
      exact ⟨_, hR.op okDN_mono 13 21 rfl (by decide) hl0 hb hv⟩
    · simp at ho
      subst ho
      simp [Region.binds] at hdep
      have k0 : a.tmps.getD 14 undef = vals 6 := hR.fr.done (i := 6) rfl (by simp_all) (by simp [hT])
      have u0 := hR.val 6 (by decide) (getD_true (by simp_all))
      clear hi' hdep
      unfold wpOp
      simp [Region.wanted]
      refine .inl ?_
      unfold Oper.wp
      simp [execOp, go_sem, Act.eval, k0]
      exact ⟨_, hR.op okDN_mono 14 6 rfl (by decide) hl0 (Below.refl _ _) u0⟩
    · simp at ho
      subst ho
      simp [Region.binds] at hdep
      have k0 : a.tmps.getD 21 undef = vals 13 := hR.fr.done (i := 13) rfl (by simp_all) (by simp [hT])
      have u0 := hR.val 13 (by decide) (getD_true (by simp_all))
      clear hi' hdep
      unfold wpOp
      simp [Region.wanted]
      refine .inl ?_
      unfold Oper.wp
      simp [execOp, go_sem, Act.eval, k0]
      exact ⟨_, hR.op okDN_mono 15 7 rfl (by decide) hl0 (Below.refl _ _) u0⟩
  case' finh1 =>
    rintro l a wz ⟨vals, hR⟩ hz
    have hnot := List.eq_nil_iff_forall_not_mem.1 hz
    have hk : ∀ k, k < 16 → (l.getD k true = false → False) → l.getD k false = true := fun k h12 h => by
      have hs := hR.size
      cases h' : l.getD k true with
      | false => exact (h h').elim
      | true => simp at hs; simp [Array.getD, hs, h12] at h' ⊢; exact h'
    have st0 := hk 0 (by omega) (fun h => hnot 0 (mem_ready.2 ⟨h, _, rfl, by simp [Region.binds] <;> simp_all⟩))
    have st1 := hk 1 (by omega) (fun h => hnot 1 (mem_ready.2 ⟨h, _, rfl, by simp [Region.binds] <;> simp_all⟩))
    have st2 := hk 2 (by omega) (fun h => hnot 2 (mem_ready.2 ⟨h, _, rfl, by simp [Region.binds] <;> simp_all⟩))
    have st3 := hk 3 (by omega) (fun h => hnot 3 (mem_ready.2 ⟨h, _, rfl, by simp [Region.binds] <;> simp_all⟩))
    have st4 := hk 4 (by omega) (fun h => hnot 4 (mem_ready.2 ⟨h, _, rfl, by simp [Region.binds] <;> simp_all⟩))
    have st5 := hk 5 (by omega) (fun h => hnot 5 (mem_ready.2 ⟨h, _, rfl, by simp [Region.binds] <;> simp_all⟩))
    have st6 := hk 6 (by omega) (fun h => hnot 6 (mem_ready.2 ⟨h, _, rfl, by simp [Region.binds] <;> simp_all⟩))
    have st7 := hk 7 (by omega) (fun h => hnot 7 (mem_ready.2 ⟨h, _, rfl, by simp [Region.binds] <;> simp_all⟩))
    have st8 := hk 8 (by omega) (fun h => hnot 8 (mem_ready.2 ⟨h, _, rfl, by simp [Region.binds] <;> simp_all⟩))
    have st9 := hk 9 (by omega) (fun h => hnot 9 (mem_ready.2 ⟨h, _, rfl, by simp [Region.binds] <;> simp_all⟩))
    have st10 := hk 10 (by omega) (fun h => hnot 10 (mem_ready.2 ⟨h, _, rfl, by simp [Region.binds] <;> simp_all⟩))
    have st11 := hk 11 (by omega) (fun h => hnot 11 (mem_ready.2 ⟨h, _, rfl, by simp [Region.binds] <;> simp_all⟩))
    have st12 := hk 12 (by omega) (fun h => hnot 12 (mem_ready.2 ⟨h, _, rfl, by simp [Region.binds] <;> simp_all⟩))
    have st13 := hk 13 (by omega) (fun h => hnot 13 (mem_ready.2 ⟨h, _, rfl, by simp [Region.binds] <;> simp_all⟩))
    have st14 := hk 14 (by omega) (fun h => hnot 14 (mem_ready.2 ⟨h, _, rfl, by simp [Region.binds] <;> simp_all⟩))
    have st15 := hk 15 (by omega) (fun h => hnot 15 (mem_ready.2 ⟨h, _, rfl, by simp [Region.binds] <;> simp_all⟩))
    have hall : ∀ i, i < 16 → l.getD i true = true := fun i hi => by
      rcases (show i = 0 ∨ i = 1 ∨ i = 2 ∨ i = 3 ∨ i = 4 ∨ i = 5 ∨ i = 6 ∨ i = 7 ∨ i = 8 ∨ i = 9 ∨ i = 10 ∨ i = 11 ∨ i = 12 ∨ i = 13 ∨ i = 14 ∨ i = 15 by omega) with rfl | rfl | rfl | rfl | rfl | rfl | rfl | rfl | rfl | rfl | rfl | rfl | rfl | rfl | rfl | rfl
      · exact getD_true st0
      · exact getD_true st1
      · exact getD_true st2
      · exact getD_true st3
      · exact getD_true st4
      · exact getD_true st5
      · exact getD_true st6
      · exact getD_true st7
      · exact getD_true st8
      · exact getD_true st9
      · exact getD_true st10
      · exact getD_true st11
      · exact getD_true st12
      · exact getD_true st13
      · exact getD_true st14
      · exact getD_true st15
    clear st0 st1 st2 st3 st4 st5 st6 st7 st8 st9 st10 st11 st12 st13 st14 st15 hk hnot hz
    have hTs : T.size = 22 := by rw [hT]; rfl
    have ha := hR.all (T' := ((((((((((((((((T.setIfInBounds 8 (vals 0)).setIfInBounds 9 (vals 1)).setIfInBounds 10 (vals 2)).setIfInBounds 11 (vals 3)).setIfInBounds 12 (vals 4)).setIfInBounds 13 (vals 5)).setIfInBounds 14 (vals 6)).setIfInBounds 15 (vals 7)).setIfInBounds 16 (vals 8)).setIfInBounds 17 (vals 9)).setIfInBounds 18 (vals 10)).setIfInBounds 19 (vals 11)).setIfInBounds 20 (vals 12)).setIfInBounds 21 (vals 13)).setIfInBounds 6 (vals 14)).setIfInBounds 7 (vals 15))) (fun i hi => hall i (by simpa using hi)) (by simp) (fun j hj => by
      by_cases h1 : j = 8 ∨ j = 9 ∨ j = 10 ∨ j = 11 ∨ j = 12 ∨ j = 13 ∨ j = 14 ∨ j = 15 ∨ j = 16 ∨ j = 17 ∨ j = 18 ∨ j = 19 ∨ j = 20 ∨ j = 21 ∨ j = 6 ∨ j = 7
      · rcases h1 with rfl | rfl | rfl | rfl | rfl | rfl | rfl | rfl | rfl | rfl | rfl | rfl | rfl | rfl | rfl | rfl <;> simp [rv_sets, tOwn, List.findIdx?, List.findIdx?.go, hTs]
      · simp only [not_or] at h1
        obtain ⟨m8, m9, m10, m11, m12, m13, m14, m15, m16, m17, m18, m19, m20, m21, m6, m7⟩ := h1
        have e : tOwn [some 8, some 9, some 10, some 11, some 12, some 13, some 14, some 15, some 16, some 17, some 18, some 19, some 20, some 21, some 6, some 7] vals j = none := by
          unfold tOwn
          simp [List.findIdx?, List.findIdx?.go, Ne.symm m8, Ne.symm m9, Ne.symm m10, Ne.symm m11, Ne.symm m12, Ne.symm m13, Ne.symm m14, Ne.symm m15, Ne.symm m16, Ne.symm m17, Ne.symm m18, Ne.symm m19, Ne.symm m20, Ne.symm m21, Ne.symm m6, Ne.symm m7]
        rw [e]
        simp only [rv_sets]
        repeat rw [if_neg (by omega)])
    have hbl := hR.bl
    have ev0 : vals 0 = .pointer (some ⟨w.heap.size, 0, none⟩) := hR.val 0 (by decide) (hall 0 (by decide))
    have ev1 : vals 1 = .int .i64 ax := hR.val 1 (by decide) (hall 1 (by decide))
    have ev2 : vals 2 = va := hR.val 2 (by decide) (hall 2 (by decide))
    have ev3 : vals 3 = .pointer (some ⟨w.heap.size, 1, none⟩) := hR.val 3 (by decide) (hall 3 (by decide))
    have ev4 : vals 4 = .int .i64 ay := hR.val 4 (by decide) (hall 4 (by decide))
    have ev5 : vals 5 = vb := hR.val 5 (by decide) (hall 5 (by decide))
    have ev6 := hR.val 6 (by decide) (hall 6 (by decide))
    have ev7 : vals 7 = .pointer (some ⟨w.heap.size, 2, none⟩) := hR.val 7 (by decide) (hall 7 (by decide))
    have ev8 : vals 8 = .int .i64 bx := hR.val 8 (by decide) (hall 8 (by decide))
    have ev9 : vals 9 = va := hR.val 9 (by decide) (hall 9 (by decide))
    have ev10 : vals 10 = .pointer (some ⟨w.heap.size, 3, none⟩) := hR.val 10 (by decide) (hall 10 (by decide))
    have ev11 : vals 11 = .int .i64 c := hR.val 11 (by decide) (hall 11 (by decide))
    have ev12 : vals 12 = vb := hR.val 12 (by decide) (hall 12 (by decide))
    have ev13 := hR.val 13 (by decide) (hall 13 (by decide))
    have ev14 := hR.val 14 (by decide) (hall 14 (by decide))
    have ev15 := hR.val 15 (by decide) (hall 15 (by decide))
    subst ha
    clear hR hall hTs
    rw [ev0, ev1, ev2, ev3, ev4, ev5, ev7, ev8, ev9, ev10, ev11, ev12, hT]
    simp only [List.setIfInBounds_toArray, List.set_cons_succ, List.set_cons_zero]
    clear ev0 ev1 ev2 ev3 ev4 ev5 ev7 ev8 ev9 ev10 ev11 ev12 hT T
  have e14 : SwD w.heap.size NN (vals 14) wz := ev14
  have e15 : SwD w.heap.size MM (vals 15) wz := ev15
  obtain ⟨v1, hv1⟩ : ∃ v1, v1 = vals 14 := ⟨_, rfl⟩
  obtain ⟨v2, hv2⟩ : ∃ v2, v2 = vals 15 := ⟨_, rfl⟩
  rw [← hv1] at e14 ⊢
  rw [← hv2] at e15 ⊢
  have H14 := Lib.hid e14
  have H15 := Lib.hid e15
  have HBL := Lib.hid hbl
  clear ev6 ev13 ev14 ev15 hv1 hv2 e14 e15 hbl z0 z1 z2 z3
  go_wp2
  go_ret2
  exact ⟨v1, v2, rfl, H14.out, H15.out, HBW.out.trans (HBL.out.mono HBW.out.size)⟩

end Go.Proofs.YtdgmjmckeeeljaaGreatDoor

namespace Go.Proofs.YtdgmjmckeeeljaaGreatDoor
open Go.RowKit

def fv (ax ay bx c : Int) : Array Value := #[.int .i64 ax, .int .i64 ay, .int .i64 bx, .int .i64 c]

/-- What foreseen returns: no step, or steps that make less of the numbers. -/
def Seen (x y : Nat) (ax ay bx c : Int) : Prop :=
  ay = 0 ∨ ∃ N M, Made2 x y ax ay bx c N M ∧ M < N ∧ M < y ∧ (-1073741824 < ax ∧ ax < 1073741824) ∧ (-1073741824 < ay ∧ ay < 1073741824) ∧ (-1073741824 < bx ∧ bx < 1073741824) ∧ (-1073741824 < c ∧ c < 1073741824)

def SeenE (w : World) (x y : Nat) (e : Ending) (w' : World) : Prop := ∃ ax ay bx c, e = .returned (.agg (fv ax ay bx c)) ∧ Seen x y ax ay bx c ∧ Below w.heap.size w w'

/-- What a round of foreseen begins with. -/
structure SeeS (x y : Nat) (x0 y0 : Int) (X Y ax ay bx c : Int) : Prop where
  leh : Leh x0 y0 X Y ax ay bx c
  le : X ≤ x0
  made : ∃ N M, Made2 x y ax ay bx c N M ∧ (Lst X Y ax ay bx c → M < N ∧ M < y)
  now : (X = x0 ∧ Y = y0 ∧ ax = 1 ∧ ay = 0 ∧ bx = 0 ∧ c = 1) ∨ Lst X Y ax ay bx c

theorem seeS_start {x y : Nat} {x0 y0 : Int} (h0 : 0 ≤ y0) (h : y0 ≤ x0) : SeeS x y x0 y0 x0 y0 1 0 0 1 :=
  ⟨leh_start h0 h, Int.le_refl _, ⟨x, y, made2_start x y, fun hl => by have := hl.m; omega⟩, .inl ⟨rfl, rfl, rfl, rfl, rfl, rfl⟩⟩

theorem seeS_seen {x y : Nat} {x0 y0 X Y ax ay bx c : Int} (h : SeeS x y x0 y0 X Y ax ay bx c) (hx : x0 < 1152921504606846976) : Seen x y ax ay bx c := by
  rcases h.now with h1 | h1
  · exact .inl h1.2.2.2.1
  · obtain ⟨N, M, h2, h3⟩ := h.made
    obtain ⟨h4, h5⟩ := h3 h1
    exact .inr ⟨N, M, h2, h4, h5, leh_small h.leh h1 hx⟩

theorem seeS_small {x y : Nat} {x0 y0 X Y ax ay bx c : Int} (h : SeeS x y x0 y0 X Y ax ay bx c) (hx : x0 < 1152921504606846976) :
    (-1073741824 < ax ∧ ax < 1073741824) ∧ (-1073741824 < ay ∧ ay < 1073741824) ∧ (-1073741824 < bx ∧ bx < 1073741824) ∧ (-1073741824 < c ∧ c < 1073741824) := by
  rcases h.now with h1 | h1
  · omega
  · exact leh_small h.leh h1 hx

theorem seeS_step {x y : Nat} {E A0 B0 ra rb : Int} {s : Nat} {x0 y0 X Y ax ay bx c q : Int} (h : SeeS x y x0 y0 X Y ax ay bx c) (hyx : y ≤ x) (hE : 0 < E) (a0 : 0 ≤ ra) (a1 : ra < E) (b0 : 0 ≤ rb) (b1 : rb < E)
    (hA : (x : Int) * 2 ^ s = x0 * E + ra) (hB : (y : Int) * 2 ^ s = y0 * E + rb)
    (k1 : 0 < Y + bx) (k2 : 0 < Y + c) (e1 : (X + ax) / (Y + bx) = q) (e2 : (X + ay) / (Y + c) = q) :
    SeeS x y x0 y0 Y (X - q * Y) bx c (ax - q * bx) (ay - q * c) ∧ X - q * Y < Y ∧ 0 ≤ q := by
  have hq : 0 ≤ q := by rw [← e1]; exact Int.ediv_nonneg h.leh.u1 (by omega)
  have d1 := Int.mul_ediv_add_emod (X + ax) (Y + bx)
  have d2 := Int.mul_ediv_add_emod (X + ay) (Y + c)
  have m1 := Int.emod_nonneg (X + ax) (show Y + bx ≠ 0 by omega)
  have m2 := Int.emod_lt_of_pos (X + ax) k1
  have m3 := Int.emod_nonneg (X + ay) (show Y + c ≠ 0 by omega)
  have m4 := Int.emod_lt_of_pos (X + ay) k2
  rw [e1, Int.mul_comm] at d1
  rw [e2, Int.mul_comm] at d2
  have st := leh_step h.leh hq (by omega) (by omega) (by omega) (by omega)
  have hl : Lst Y (X - q * Y) bx c (ax - q * bx) (ay - q * c) := by
    rcases h.now with ⟨h1, h2, h3, h4, h5, h6⟩ | h1
    · subst h1 h2 h3 h4 h5 h6
      exact lst_first h.leh.y0 h.leh.yx hq (by omega) (by omega) (by omega) (by omega)
    · exact lst_step h.leh h1 hq (by omega) (by omega) (by omega) (by omega)
  have hr := leh_real st.1 hl hE a0 a1 b0 b1
  rw [← hA, ← hB] at hr
  have hS : (0 : Int) < 2 ^ s := Int.pow_pos (by omega)
  have t1 : (ax - q * bx) * ((x : Int) * 2 ^ s) + (ay - q * c) * ((y : Int) * 2 ^ s) = ((ax - q * bx) * x + (ay - q * c) * y) * 2 ^ s := by grind
  have t2 : bx * ((x : Int) * 2 ^ s) + c * ((y : Int) * 2 ^ s) = (bx * x + c * y) * 2 ^ s := by grind
  rw [t1, t2] at hr
  have g1 : 0 ≤ (ax - q * bx) * x + (ay - q * c) * y := by
    rcases Int.lt_or_le ((ax - q * bx) * x + (ay - q * c) * y) 0 with e | e
    · have := Int.mul_neg_of_neg_of_pos e hS
      omega
    · exact e
  have g2 : (ax - q * bx) * x + (ay - q * c) * y < bx * x + c * y := Int.lt_of_mul_lt_mul_right hr.2.2 (Int.le_of_lt hS)
  obtain ⟨N, M, hm, _⟩ := h.made
  obtain ⟨M', hm', hlt⟩ := made2_step hm hyx hq g1 g2
  have hYlt : X - q * Y < Y := by
    rcases st.1.sg with s1 | s1 <;> omega
  exact ⟨⟨st.1, Int.le_trans h.leh.yx h.le, ⟨M, M', hm', fun _ => ⟨hlt, Nat.lt_of_lt_of_le hlt hm.2.2.2.2⟩⟩, .inr hl⟩, hYlt, hq⟩

theorem four_cells {W : World} {g : Nat} {ax ay bx c : Int} (h : W.heap[g]? = some (.cells (fv ax ay bx c) 102 (0, 0))) :
    W.cell? ⟨g, 0, none⟩ = some (.int .i64 ax) ∧ W.cell? ⟨g, 1, none⟩ = some (.int .i64 ay) ∧ W.cell? ⟨g, 2, none⟩ = some (.int .i64 bx) ∧ W.cell? ⟨g, 3, none⟩ = some (.int .i64 c) ∧
      W.frozen? ⟨g, 0, none⟩ = false ∧ W.frozen? ⟨g, 1, none⟩ = false ∧ W.frozen? ⟨g, 2, none⟩ = false ∧ W.frozen? ⟨g, 3, none⟩ = false := by
  refine ⟨?_, ?_, ?_, ?_, frozen_of_row _ _ _ _ _ h, frozen_of_row _ _ _ _ _ h, frozen_of_row _ _ _ _ _ h, frozen_of_row _ _ _ _ _ h⟩ <;> rw [cell_of_row _ _ _ _ _ _ h] <;> rfl

theorem stored_four {W : World} {g : Nat} {u0 u1 u2 u3 : Int} (h : W.heap[g]? = some (.cells (fv u0 u1 u2 u3) 102 (0, 0))) (ax ay bx c : Int) :
    ((((W.setCell ⟨g, 0, none⟩ (.int .i64 ax)).setCell ⟨g, 1, none⟩ (.int .i64 ay)).setCell ⟨g, 2, none⟩ (.int .i64 bx)).setCell ⟨g, 3, none⟩ (.int .i64 c)).heap[g]? = some (.cells (fv ax ay bx c) 102 (0, 0)) := by
  have h1 := heap_setCell_same W g 0 _ 102 (.int .i64 ax) h
  have h2 := heap_setCell_same _ g 1 _ 102 (.int .i64 ay) h1
  have h3 := heap_setCell_same _ g 2 _ 102 (.int .i64 bx) h2
  exact heap_setCell_same _ g 3 _ 102 (.int .i64 c) h3
theorem other_four {W : World} {g k : Nat} (h : k ≠ g) (u0 u1 u2 u3 : Value) :
    ((((W.setCell ⟨g, 0, none⟩ u0).setCell ⟨g, 1, none⟩ u1).setCell ⟨g, 2, none⟩ u2).setCell ⟨g, 3, none⟩ u3).heap[k]? = W.heap[k]? := by
  rw [heap_setCell_other _ _ _ _ (by simpa using h), heap_setCell_other _ _ _ _ (by simpa using h), heap_setCell_other _ _ _ _ (by simpa using h), heap_setCell_other _ _ _ _ (by simpa using h)]

theorem quo_i64 (x y q : Int) (h0 : y ≠ 0) (hq : IntKind.i64.wrap (x.tdiv y) = q) : binOp BinOp.quo 2 (.int .i64 x) (.int .i64 y) = (pure (.int .i64 q) : Sem Value) := by
  have e : binOp BinOp.quo 2 (.int .i64 x) (.int .i64 y) = Op.intDiv .quo .i64 x y := rfl
  rw [e]
  unfold Op.intDiv
  rw [if_neg h0, ← hq]

/-- The leading digits of a number, and the rest. -/
theorem lead_parts {V k : Nat} (hV : V < 4294967296 ^ (k + 3)) : ∃ ra : Nat, V = (V / 4294967296 ^ (k + 1) / 16) * (4294967296 ^ (k + 1) * 16) + ra ∧ ra < 4294967296 ^ (k + 1) * 16 ∧ V / 4294967296 ^ (k + 1) / 16 < 1152921504606846976 := by
  have hP : 0 < 4294967296 ^ (k + 1) * 16 := Nat.mul_pos (Nat.pow_pos (by omega)) (by omega)
  refine ⟨V % (4294967296 ^ (k + 1) * 16), ?_, Nat.mod_lt _ hP, ?_⟩
  · rw [Nat.div_div_eq_div_mul, Nat.mul_comm]
    exact (Nat.div_add_mod _ _).symm
  · have h3 : (4294967296 : Nat) ^ (k + 3) = 4294967296 ^ (k + 1) * (4294967296 * 4294967296) := by rw [show k + 3 = k + 1 + 2 by omega, Nat.pow_add]
    have h1 : V / 4294967296 ^ (k + 1) < 4294967296 * 4294967296 := Nat.div_lt_of_lt_mul (by rw [← h3]; exact hV)
    omega

def LeadR (w : World) (x y : Nat) (x0 y0 : Int) (g4 g8 : Nat) (Xv Yv : Value) (wr : World) : Prop :=
  ∃ X Y ax ay bx c : Int, Xv = .int .i64 X ∧ Yv = .int .i64 Y ∧ SeeS x y x0 y0 X Y ax ay bx c ∧ wr.heap[g8]? = some (.cells (fv ax ay bx c) 102 (0, 0)) ∧ wr.heap[g4]? = some (.cells (fv 0 0 0 0) 102 (0, 0)) ∧ Below w.heap.size w wr

set_option maxRecDepth 100000 in
set_option maxHeartbeats 8000000 in
theorem foreseen_any {w : World} {va vb : Value} {x y k : Nat} (ha : Sl w va (digs x)) (hb : Sl w vb (digs y)) (hl : (digs x).length = k + 3) (hk : k ≤ 900) (hyx : y ≤ x) : Calls Tryz.prog 85 #[va, vb] w (SeenE w x y) := by
  obtain ⟨aa, ca, rfl⟩ := ha.mk'
  rw [hl] at ha ⊢
  obtain ⟨ab, aoff, rfl, hcapa, hba, hcla⟩ := ha.at (by omega)
  have htop := hcla (k + 2) (by omega)
  have htl : (digs x).getD (k + 2) 0 < 4294967296 := by rw [val_digit (bd_digs x)]; exact Nat.mod_lt _ (by omega)
  have ht0 : (digs x).getD (k + 2) 0 ≠ 0 := last_ne (m := k + 1) hl
  have hLB := bitLen_facts ht0 htl
  obtain ⟨top, htp⟩ : ∃ t, t = (digs x).getD (k + 2) 0 := ⟨_, rfl⟩
  rw [← htp] at htop htl hLB
  obtain ⟨L, hL⟩ : ∃ L, L = Lib.bitLen top := ⟨_, rfl⟩
  have hlz := fun W => Tryz.bits_LeadingZeros32 (top : Int) W (by omega) (by omega)
  rw [← hL] at hLB
  obtain ⟨hL1, hL32, hLt⟩ := hLB
  obtain ⟨s, hs⟩ : ∃ s, s = 32 - L := ⟨_, rfl⟩
  have hst : s + L = 32 := by omega
  have hlz2 : ∀ W, Calls Tryz.prog 101 #[.int .u32 (top : Int)] W fun e w' => e = .returned (.int .i64 (s : Nat)) ∧ w' = W := fun W => by
    have := hlz W
    rw [Int.toNat_natCast, ← hL, show (32 : Int) - (L : Int) = (s : Nat) by omega] at this
    exact this
  have hroomx : x * 2 ^ s < 4294967296 ^ (k + 3) := norm_room (m := k + 1) hl (by rw [← htp]; exact hLt) hst
  have hroomy : y * 2 ^ s < 4294967296 ^ (k + 3) := Nat.lt_of_le_of_lt (Nat.mul_le_mul_right _ hyx) hroomx
  have hha : ∀ W, Below w.heap.size w W → Calls Tryz.prog 107 #[.slice (some ⟨ab, aoff, none⟩) (k + 3) ca, .int .i64 ((k : Int) + 3), .int .i64 s] W fun e w' => e = .returned (.int .i64 ((x * 2 ^ s / 4294967296 ^ (k + 1) / 16 : Nat) : Int)) ∧ ∃ m, w' = W.drewN m := fun W hW => by
    have := highest_any (n := k + 3) (ha.below hW) rfl hst (by omega) (by rw [val_digs]; exact hroomx)
    rwa [val_digs] at this
  have hhb : ∀ W, Below w.heap.size w W → Calls Tryz.prog 107 #[vb, .int .i64 ((k : Int) + 3), .int .i64 s] W fun e w' => e = .returned (.int .i64 ((y * 2 ^ s / 4294967296 ^ (k + 1) / 16 : Nat) : Int)) ∧ ∃ m, w' = W.drewN m := fun W hW => by
    have := highest_any (n := k + 3) (hb.below hW) rfl hst (by omega) (by rw [val_digs]; exact hroomy)
    rwa [val_digs] at this
  obtain ⟨ra, pa1, pa2, pa3⟩ := lead_parts hroomx
  obtain ⟨rb, pb1, pb2, pb3⟩ := lead_parts hroomy
  have hx0y0 : y * 2 ^ s / 4294967296 ^ (k + 1) / 16 ≤ x * 2 ^ s / 4294967296 ^ (k + 1) / 16 := Nat.div_le_div_right (Nat.div_le_div_right (Nat.mul_le_mul_right _ hyx))
  obtain ⟨x0, hx0⟩ : ∃ x0, x0 = x * 2 ^ s / 4294967296 ^ (k + 1) / 16 := ⟨_, rfl⟩
  obtain ⟨y0, hy0⟩ : ∃ y0, y0 = y * 2 ^ s / 4294967296 ^ (k + 1) / 16 := ⟨_, rfl⟩
  rw [← hx0] at hha pa1 pa3 hx0y0
  rw [← hy0] at hhb pb1 hx0y0
  obtain ⟨E, hE⟩ : ∃ E, E = 4294967296 ^ (k + 1) * 16 := ⟨_, rfl⟩
  rw [← hE] at pa1 pa2 pb1 pb2
  have HSTEP := Lib.hid (fun X Y ax ay bx c q (h : SeeS x y (x0 : Int) (y0 : Int) X Y ax ay bx c) (k1 : 0 < Y + bx) (k2 : 0 < Y + c) (e1 : (X + ax) / (Y + bx) = q) (e2 : (X + ay) / (Y + c) = q) =>
    seeS_step (E := (E : Int)) (A0 := 0) (B0 := 0) (ra := (ra : Int)) (rb := (rb : Int)) (s := s) h hyx (by omega) (by omega) (by omega) (by omega) (by omega) (by exact_mod_cast pa1) (by exact_mod_cast pb1) k1 k2 e1 e2)
  have HSTART := Lib.hid (seeS_start (x := x) (y := y) (x0 := (x0 : Int)) (y0 := (y0 : Int)) (by omega) (by omega))
  have HX0 : Hid ((x0 : Int) < 1152921504606846976) := Lib.hid (by omega)
  have HHA := Lib.hid hha
  have HHB := Lib.hid hhb
  have HLZ := Lib.hid hlz2
  clear hha hhb hlz hlz2 pa1 pa2 pa3 pb1 pb2 pb3 hx0y0 hx0 hy0 hE hroomx hroomy hst hs hL1 hL32 hLt hL htp htl ht0 hcla ha hb hl hyx
  go_enter Tryz.func85, Tryz.ntmps85
  obtain ⟨W0, hW0⟩ : ∃ W0, W0 = w.alloc (.cells (fv 0 0 0 0) 102) := ⟨_, rfl⟩
  have hb0 : Below w.heap.size w W0 := by rw [hW0]; exact alloc_b _ _
  have hr0 : W0.heap[w.heap.size]? = some (.cells (fv 0 0 0 0) 102 (0, 0)) := by rw [hW0]; exact heap_alloc_new _ _
  have hs0 : W0.heap.size = w.heap.size + 1 := by rw [hW0]; simp
  have HB0 := Lib.hid hb0
  have HR0 := Lib.hid hr0
  have HS0 := Lib.hid hs0
  clear hb0 hr0 hs0
  go_wp2_with fail
  rw [show w.alloc (.cells #[.int .i64 0, .int .i64 0, .int .i64 0, .int .i64 0] 102) = W0 from hW0.symm]
  clear hW0
  have hz1 := HLZ.out W0
  (with_reducible refine hz1.mono ?_)
  rintro e w2 ⟨rfl, rfl⟩
  clear hz1
  go_wp2_with fail
  have hA0 := HHA.out _ HB0.out
  (with_reducible refine hA0.mono ?_)
  rintro e w3 ⟨rfl, m1, rfl⟩
  clear hA0
  go_wp2_with fail
  have hB0 := HHB.out _ (below_drewN' HB0.out m1)
  (with_reducible refine hB0.mono ?_)
  rintro e w3 ⟨rfl, m2, rfl⟩
  clear hB0
  obtain ⟨W3, hW3⟩ : ∃ W3, W3 = (w2.drewN m1).drewN m2 := ⟨_, rfl⟩
  have HB3 : Hid (Below w.heap.size w W3) := Lib.hid (by rw [hW3]; exact below_drewN' (below_drewN' HB0.out m1) m2)
  have HR3 : Hid (W3.heap[w.heap.size]? = some (.cells (fv 0 0 0 0) 102 (0, 0))) := Lib.hid (by rw [hW3]; exact HR0.out)
  have HS3 : Hid (W3.heap.size = w.heap.size + 1) := Lib.hid (by rw [hW3]; exact HS0.out)
  rw [← hW3]
  clear hW3 HHA HHB HLZ HB0 HR0 HS0
  go_wp2_with fail
  obtain ⟨W4, hW4⟩ : ∃ W4, W4 = W3.alloc (.cells (fv 1 0 0 1) 102) := ⟨_, rfl⟩
  have HB4 : Hid (Below w.heap.size w W4) := Lib.hid (by rw [hW4]; exact HB3.out.trans ((alloc_b W3 _).mono HB3.out.size))
  have HR4 : Hid (W4.heap[w.heap.size]? = some (.cells (fv 0 0 0 0) 102 (0, 0))) := Lib.hid (by rw [hW4]; exact ((alloc_b W3 _).block _ (by rw [HS3.out]; omega)).trans HR3.out)
  obtain ⟨g8, hg8⟩ : ∃ g8, g8 = W3.heap.size := ⟨_, rfl⟩
  have hg48 : w.heap.size < g8 := by rw [hg8, HS3.out]; omega
  have HF4 : Hid (W4.heap[g8]? = some (.cells (fv 1 0 0 1) 102 (0, 0))) := Lib.hid (by rw [hW4, hg8]; exact heap_alloc_new _ _)
  rw [show W3.alloc (.cells #[.int .i64 1, .int .i64 0, .int .i64 0, .int .i64 1] 102) = W4 from hW4.symm, ← hg8]
  clear hW4 hg8 HB3 HR3 HS3
  go_loopw [6, 7] (fun Xv Yv wr => LeadR w x y x0 y0 w.heap.size g8 Xv Yv wr) (fun _ Yv _ => (intOf Yv).toNat)
  case atStart => exact ⟨x0, y0, 1, 0, 0, 1, rfl, rfl, HSTART.out, HF4.out, HR4.out, HB4.out⟩
  case round =>
    obtain ⟨X, Y, ax, ay, bx, c, rfl, rfl, hS, hf, hr4, hbl⟩ := hrel
    clear HF4 HR4 HB4
    obtain ⟨z0, z1, z2, z3, f0, f1, f2, f3⟩ := four_cells hf
    obtain ⟨r0, r1, r2, r3, o0, o1, o2, o3⟩ := four_cells hr4
    have HF := Lib.hid hf
    have HR := Lib.hid hr4
    have HS := Lib.hid hS
    have HBL := Lib.hid hbl
    obtain ⟨⟨b1, b2⟩, ⟨b3, b4⟩, ⟨b5, b6⟩, b7, b8⟩ := seeS_small hS HX0.out
    have hx0 := HX0.out
    have hXl := hS.le
    have hy0 := hS.leh.y0
    have hyx := hS.leh.yx
    have w1 : IntKind.i64.wrap (Y + bx) = Y + bx := by rw [IntKind.wrap_i64]; omega
    have w2 : IntKind.i64.wrap (Y + c) = Y + c := by rw [IntKind.wrap_i64]; omega
    have w3 : IntKind.i64.wrap (X + ax) = X + ax := by rw [IntKind.wrap_i64]; omega
    have w4 : IntKind.i64.wrap (X + ay) = X + ay := by rw [IntKind.wrap_i64]; omega
    have v1 := hS.leh.v1
    have v2 := hS.leh.v2
    have u1 := hS.leh.u1
    have u2 := hS.leh.u2
    clear hf hr4 hS hbl hx0 hXl hyx
    by_cases h1 : Y + bx = 0
    · have n1 : ((Y + bx) != 0) = false := by simp [h1]
      clear h1 b1 b2 b3 b4 b5 b6 b7 b8
      go_wp2
      obtain ⟨q0, q1, q2, q3, _⟩ := four_cells (stored_four HR.out ax ay bx c)
      refine bodyPost_ret (v := .agg (fv ax ay bx c)) (by simp [results, Tryz.results85, go_sem, q0, q1, q2, q3, fv]) rfl ⟨ax, ay, bx, c, rfl, seeS_seen HS.out HX0.out, ?_⟩
      exact (((HBL.out.setCell (p := ⟨w.heap.size, 0, none⟩) (Nat.le_refl _) _).setCell (p := ⟨w.heap.size, 1, none⟩) (Nat.le_refl _) _).setCell (p := ⟨w.heap.size, 2, none⟩) (Nat.le_refl _) _).setCell (p := ⟨w.heap.size, 3, none⟩) (Nat.le_refl _) _
    · have n1 : ((Y + bx) != 0) = true := by simpa using h1
      by_cases h2 : Y + c = 0
      · have n2 : ((Y + c) != 0) = false := by simp [h2]
        clear h1 h2 b1 b2 b3 b4 b5 b6 b7 b8
        go_wp2
        obtain ⟨q0, q1, q2, q3, _⟩ := four_cells (stored_four HR.out ax ay bx c)
        refine bodyPost_ret (v := .agg (fv ax ay bx c)) (by simp [results, Tryz.results85, go_sem, q0, q1, q2, q3, fv]) rfl ⟨ax, ay, bx, c, rfl, seeS_seen HS.out HX0.out, ?_⟩
        exact (((HBL.out.setCell (p := ⟨w.heap.size, 0, none⟩) (Nat.le_refl _) _).setCell (p := ⟨w.heap.size, 1, none⟩) (Nat.le_refl _) _).setCell (p := ⟨w.heap.size, 2, none⟩) (Nat.le_refl _) _).setCell (p := ⟨w.heap.size, 3, none⟩) (Nat.le_refl _) _
      · have n2 : ((Y + c) != 0) = true := by simpa using h2
        have p1 : ((Y + bx) == 0) = false := by simpa using h1
        have p2 : ((Y + c) == 0) = false := by simpa using h2
        have t1 : (X + ax).tdiv (Y + bx) = (X + ax) / (Y + bx) := Int.tdiv_eq_ediv_of_nonneg u1
        have t2 : (X + ay).tdiv (Y + c) = (X + ay) / (Y + c) := Int.tdiv_eq_ediv_of_nonneg u2
        have g1 := Int.ediv_nonneg u1 v1
        have g2 := Int.ediv_nonneg u2 v2
        have g3 : (X + ax) / (Y + bx) ≤ X + ax := Int.ediv_le_self _ u1
        have g4 : (X + ay) / (Y + c) ≤ X + ay := Int.ediv_le_self _ u2
        have hS1 := fun q e1 e2 => HSTEP.out X Y ax ay bx c q HS.out (by omega) (by omega) e1 e2
        obtain ⟨Q1, hQ1⟩ : ∃ Q, Q = (X + ax) / (Y + bx) := ⟨_, rfl⟩
        obtain ⟨Q2, hQ2⟩ : ∃ Q, Q = (X + ay) / (Y + c) := ⟨_, rfl⟩
        rw [← hQ1] at t1 g1 g3
        rw [← hQ2] at t2 g2 g4
        have hx0 := HX0.out
        have hXl := HS.out.le
        have d1 : IntKind.i64.wrap Q1 = Q1 := by rw [IntKind.wrap_i64]; omega
        have d2 : IntKind.i64.wrap Q2 = Q2 := by rw [IntKind.wrap_i64]; omega
        have c1 := quo_i64 (X + ax) (Y + bx) Q1 h1 (by rw [t1, d1])
        have c2 := quo_i64 (X + ay) (Y + c) Q2 h2 (by rw [t2, d2])
        clear t1 t2 d1 d2 p1 p2
        by_cases h3 : Q1 = Q2
        · subst h3
          have hN := hS1 Q1 hQ1.symm hQ2.symm
          obtain ⟨⟨a1, a2⟩, ⟨a3, a4⟩, ⟨a5, a6⟩, a7, a8⟩ := seeS_small hN.1 hx0
          have hy0' := hN.1.leh.y0
          have hlt := hN.2.1
          have HNN := Lib.hid hN.1
          obtain ⟨QB, hQB⟩ : ∃ Q, Q = Q1 * bx := ⟨_, rfl⟩
          obtain ⟨QC, hQC⟩ : ∃ Q, Q = Q1 * c := ⟨_, rfl⟩
          obtain ⟨QY, hQY⟩ : ∃ Q, Q = Q1 * Y := ⟨_, rfl⟩
          have hqy0 : 0 ≤ QY := by rw [hQY]; exact Int.mul_nonneg g1 hy0
          rw [← hQB] at a5 a6 HNN
          rw [← hQC] at a7 a8 HNN
          rw [← hQY] at hy0' hlt HNN
          have m1 : IntKind.i64.wrap (Q1 * bx) = QB := by rw [← hQB, IntKind.wrap_i64]; omega
          have m2 : IntKind.i64.wrap (Q1 * c) = QC := by rw [← hQC, IntKind.wrap_i64]; omega
          have m3 : IntKind.i64.wrap (Q1 * Y) = QY := by rw [← hQY, IntKind.wrap_i64]; omega
          have m4 : IntKind.i64.wrap (ax - QB) = ax - QB := by rw [IntKind.wrap_i64]; omega
          have m5 : IntKind.i64.wrap (ay - QC) = ay - QC := by rw [IntKind.wrap_i64]; omega
          have m6 : IntKind.i64.wrap (X - QY) = X - QY := by rw [IntKind.wrap_i64]; omega
          have HLT := Lib.hid hlt
          have HY0 := Lib.hid hy0'
          clear h1 h2 b1 b2 b3 b4 b5 b6 b7 b8 a1 a2 a3 a4 a5 a6 a7 a8 hN hS1 hQ1 hQ2 hQB hQC hQY g1 g2 g3 g4 hx0 hXl hlt hy0' hqy0 u1 u2 v1 v2
          go_wp2
          go_roundw
          case rel => exact ⟨Y, X - QY, bx, c, ax - QB, ay - QC, rfl, rfl, HNN.out, stored_four HF.out _ _ _ _, (other_four (by omega) _ _ _ _).trans HR.out, (((HBL.out.setCell (p := ⟨g8, 0, none⟩) (by dsimp only; omega) _).setCell (p := ⟨g8, 1, none⟩) (by dsimp only; omega) _).setCell (p := ⟨g8, 2, none⟩) (by dsimp only; omega) _).setCell (p := ⟨g8, 3, none⟩) (by dsimp only; omega) _⟩
          case measure => have := HLT.out; have := HY0.out; simp [intOf]; omega
        · have n3 : (Q1 != Q2) = true := by simpa using h3
          clear h1 h2 h3 b1 b2 b3 b4 b5 b6 b7 b8 hS1 hQ1 hQ2 g1 g2 g3 g4 hx0 hXl u1 u2 v1 v2
          go_wp2
          obtain ⟨q0, q1, q2, q3, _⟩ := four_cells (stored_four HR.out ax ay bx c)
          refine bodyPost_ret (v := .agg (fv ax ay bx c)) (by simp [results, Tryz.results85, go_sem, q0, q1, q2, q3, fv]) rfl ⟨ax, ay, bx, c, rfl, seeS_seen HS.out HX0.out, ?_⟩
          exact (((HBL.out.setCell (p := ⟨w.heap.size, 0, none⟩) (Nat.le_refl _) _).setCell (p := ⟨w.heap.size, 1, none⟩) (Nat.le_refl _) _).setCell (p := ⟨w.heap.size, 2, none⟩) (Nat.le_refl _) _).setCell (p := ⟨w.heap.size, 3, none⟩) (Nat.le_refl _) _

end Go.Proofs.YtdgmjmckeeeljaaGreatDoor

namespace Go.Proofs.YtdgmjmckeeeljaaGreatDoor
open Go.RowKit

theorem sl_same {w : World} {v : Value} {ds es : List Nat} (h : Sl w v ds) (k : Sl w v es) : ds = es := by
  have e1 := h.is
  have e2 := k.is
  rcases e1 with ⟨rfl, ao, cap, rfl⟩ | ⟨b, off, cap, rfl, hc, hl⟩
  · have := k.size
    exact (List.eq_nil_of_length_eq_zero this.symm).symm
  · rcases e2 with ⟨rfl, ao, cap', e⟩ | ⟨b', off', cap', e, hc', hl'⟩
    · have := k.size
      exact List.eq_nil_of_length_eq_zero this
    · have hs := k.size
      simp only [Value.slice.injEq, Option.some.injEq, Addr.mk.injEq] at e
      obtain ⟨⟨rfl, rfl, _⟩, _, _⟩ := e
      refine eq_of_getD hs (fun j hj => ?_)
      have q1 := hl j hj
      have q2 := hl' j (by omega)
      rw [q1] at q2
      injection q2 with q2
      injection q2 with _ q2
      omega
theorem eps_eq {w : World} {v : Value} {n : Nat} (h : Sl w v (digs n)) : Classical.epsilon (fun n => Sl w v (digs n)) = n := by
  have := Classical.epsilon_spec (p := fun n => Sl w v (digs n)) ⟨n, h⟩
  exact digs_inj (sl_same this h)

/-- What a round of common begins with. -/
def ComR (w : World) (G : Nat) (av bv : Value) (wr : World) : Prop :=
  ∃ u v : Nat, Sl wr av (digs u) ∧ Sl wr bv (digs v) ∧ v ≤ u ∧ (digs u).length ≤ 256 ∧ Nat.gcd u v = G ∧ Below w.heap.size w wr

set_option maxRecDepth 100000 in
set_option maxHeartbeats 8000000 in
theorem common_down {w : World} {va vb : Value} {x y l G : Nat} (ha : Sl w va (digs x)) (hb : Sl w vb (digs y)) (hla : (digs x).length ≤ 256) (hc : y ≤ x) (hlb : (digs y).length ≤ 256) (hG : Nat.gcd x y = G) (hl : l = (digs G).length) :
    Calls Tryz.prog 51 #[va, vb] w (NewD w G l) := by
  have hcm := compare_any ha hb (by omega) (by omega)
  have hge : 0 ≤ cmpN x y := by unfold cmpN; rw [if_neg (by omega)]; split <;> decide
  obtain ⟨C, hC⟩ : ∃ C, C = cmpN x y := ⟨_, rfl⟩
  rw [← hC] at hcm hge
  have HST0 : Hid (∀ W, Below w.heap.size w W → ComR w G va vb W) := Lib.hid (fun W h => ⟨x, y, ha.below h, hb.below h, hc, hla, hG, h⟩)
  have HCM := Lib.hid hcm
  have HL := Lib.hid hl
  clear hcm hC ha hb hla hlb hc hG hl
  go_enter Tryz.func51, Tryz.ntmps51
  go_wp2_with (go_at_call 68; refine HCM.out.mono ?_; rintro e W1 ⟨rfl, hb1⟩; have HST := Lib.hid (HST0.out _ hb1); clear hb1)
  clear HST0 HCM hge
  go_loopw [0, 1] (fun av bv wr => ComR w G av bv wr) (fun _ bv wr => Classical.epsilon (fun n => Sl wr bv (digs n)))
  case atStart => exact HST.out
  case round =>
    obtain ⟨u, v, hu, hv, hvu, hlu, hG, hbl⟩ := hrel
    clear HST
    obtain ⟨aa, ca, rfl⟩ := hu.mk'
    obtain ⟨ab, cb, rfl⟩ := hv.mk'
    have hluv := digs_mono hvu
    obtain ⟨na, hna⟩ : ∃ na, na = (digs u).length := ⟨_, rfl⟩
    obtain ⟨nb, hnb⟩ : ∃ nb, nb = (digs v).length := ⟨_, rfl⟩
    rw [← hna] at hu hlu hluv ⊢
    rw [← hnb] at hv hluv ⊢
    have HU := Lib.hid hu
    have HV := Lib.hid hv
    have HNA := Lib.hid hna
    have HNB := Lib.hid hnb
    have HG := Lib.hid hG
    have HBL := Lib.hid hbl
    have HVU := Lib.hid hvu
    have HLU := Lib.hid hlu
    have HLUV := Lib.hid hluv
    clear hu hv hna hnb hG hbl hvu hluv
    by_cases h2 : nb ≤ 2
    · by_cases h0 : nb = 0
      · subst h0
        have hy : v = 0 := digs_inj (by rw [digs_zero]; exact List.eq_nil_of_length_eq_zero HNB.out.symm)
        have hgu : G = u := by rw [← HG.out, hy, Nat.gcd_zero_right]
        have hcl := clone_any HU.out (by have := HNA.out; omega)
        have hlen : (digs u).length = l := by rw [← hgu]; exact HL.out.symm
        have HGU := Lib.hid hgu
        have HLEN := Lib.hid hlen
        have HCL := Lib.hid hcl
        clear hy hgu hcl hlen
        go_wp2_with fail
        refine HCL.out.mono ?_
        rintro e W2 ⟨ao, cap, rfl, hs, hb2⟩
        rw [HLEN.out] at hs ⊢
        have HS := Lib.hid hs
        have HB2 := Lib.hid hb2
        clear hs hb2
        go_wp2
        go_ret
        rw [HGU.out]
        exact ⟨_, _, rfl, HS.out.mono HBL.out.size, HBL.out.trans (HB2.out.mono HBL.out.size)⟩
      · have hy0 : v ≠ 0 := fun h => h0 (by rw [HNB.out, h, digs_zero]; rfl)
        have hlz : ((nb : Int) == 0) = false := by simp; omega
        have hyw : v / 4294967296 < 4294967296 := by
          have := digs_length_le.1 (show (digs v).length ≤ 2 by rw [← HNB.out]; exact h2)
          rw [show (4294967296 : Nat) ^ 2 = 4294967296 * 4294967296 from rfl] at this
          omega
        have hr : u % v < v := Nat.mod_lt _ (by omega)
        have hrl : (digs (u % v)).length ≤ 2 := digs_word (by omega)
        have hg : Nat.gcd v (u % v) = G := by rw [← HG.out, Nat.gcd_comm u v, Nat.gcd_rec v u, Nat.gcd_comm]
        have hgl : G / 4294967296 < 4294967296 := by
          have := Nat.gcd_le_left (u % v) (show 0 < v by omega)
          rw [hg] at this
          omega
        have hdv := divide_all HU.out HV.out hy0 (by rw [← HNA.out]; exact hlu) (by rw [← HNB.out]; omega)
        have HW1 : Hid (∀ W s, Sl W s (digs v) → Calls Tryz.prog 66 #[s] W fun e w' => e = .returned (.int .u64 (v : Nat)) ∧ w' = W) := Lib.hid (fun W s h => by
          have := word_any h (by rw [← HNB.out]; exact h2)
          rwa [val_digs] at this)
        have HW2 : Hid (∀ W s, Sl W s (digs (u % v)) → Calls Tryz.prog 66 #[s] W fun e w' => e = .returned (.int .u64 (u % v : Nat)) ∧ w' = W) := Lib.hid (fun W s h => by
          have := word_any h hrl
          rwa [val_digs] at this)
        have HCW : Hid (∀ W, Calls Tryz.prog 87 #[.int .u64 v, .int .u64 (u % v : Nat)] W fun e w' => e = .returned (.int .u64 (G : Nat)) ∧ ∃ m, w' = W.drewN m) := Lib.hid (fun W => by
          have := commonWord_any v (u % v) W hyw (by omega)
          rwa [hg] at this)
        have HDO : Hid (∀ W, Calls Tryz.prog 67 #[.int .u64 (G : Nat)] W (NewD W G l)) := Lib.hid (fun W => digitsOf_at (x := G) (n := l) W hgl HL.out.symm)
        have HDV := Lib.hid hdv
        unfold DivRes at HDV
        clear hyw hr hrl hg hgl hy0 hdv
        obtain ⟨r, hr⟩ : ∃ r, r = u % v := ⟨_, rfl⟩
        rw [← hr] at HCW HW2 HDV
        clear hr
        go_wp2_with fail
        refine HDV.out.mono ?_
        rintro e W2 ⟨aq, cq, ar, cr, rfl, hsq, hsr, hb2⟩
        have HSR := Lib.hid hsr
        have HB2 := Lib.hid hb2
        clear hsq hsr hb2
        go_wp2_with fail
        refine (HW1.out _ _ (HV.out.below HB2.out)).mono ?_
        rintro e w' ⟨rfl, rfl⟩
        go_wp2_with fail
        refine (HW2.out _ _ HSR.out.sl).mono ?_
        rintro e w'' ⟨rfl, rfl⟩
        go_wp2_with fail
        refine (HCW.out _).mono ?_
        rintro e w3 ⟨rfl, m, rfl⟩
        go_wp2_with fail
        refine (HDO.out _).mono ?_
        rintro e W4 ⟨ao, cap, rfl, hs4, hb4⟩
        have HS4 := Lib.hid hs4
        have HB4 := Lib.hid hb4
        clear hs4 hb4
        go_wp2
        go_ret
        have hz : Below w.heap.size w (w''.drewN m) := below_drewN' (HBL.out.trans (HB2.out.mono HBL.out.size)) m
        exact ⟨_, _, rfl, HS4.out.mono hz.size, hz.trans (HB4.out.mono hz.size)⟩
    · have hna3 : (digs u).length = (na - 3) + 3 := by have := HNA.out; have := HLUV.out; omega
      have hfo := foreseen_any HU.out HV.out hna3 (by omega) HVU.out
      have HFO := Lib.hid hfo
      clear hfo hna3
      go_wp2_with fail
      refine HFO.out.mono ?_
      rintro e W2 ⟨ax, ay, bx, c, rfl, hs, hb2⟩
      unfold fv
      have HB2 := Lib.hid hb2
      have HV0 : Hid (v ≠ 0) := Lib.hid (fun h => h2 (by rw [HNB.out, h, digs_zero]; simp))
      by_cases hay : ay = 0
      · subst hay
        clear hs hb2
        have HDV := Lib.hid (fun W (h : Below wr.heap.size wr W) => divide_all (HU.out.below h) (HV.out.below h) HV0.out (by rw [← HNA.out]; exact hlu) (by have := HNB.out; have := HLUV.out; omega))
        unfold DivRes at HDV
        have hbA : Hid (∀ o, Below wr.heap.size wr (W2.alloc o)) := Lib.hid (fun o => HB2.out.trans ((alloc_b W2 o).mono HB2.out.size))
        have hrlt : u % v < v := Nat.mod_lt _ (by have := HV0.out; omega)
        have hrg : Nat.gcd v (u % v) = G := by rw [← HG.out, Nat.gcd_comm u v, Nat.gcd_rec v u, Nat.gcd_comm]
        obtain ⟨r, hr⟩ : ∃ r, r = u % v := ⟨_, rfl⟩
        rw [← hr] at HDV hrlt hrg
        have HRLT := Lib.hid hrlt
        have HRG := Lib.hid hrg
        clear hr hrlt hrg
        go_wp2_with fail
        refine (HDV.out _ (hbA.out _)).mono ?_
        rintro e W3 ⟨aq, cq, ar, cr, rfl, hsq, hsr, hb3⟩
        have HSR := Lib.hid hsr
        have HB3 : Hid (Below wr.heap.size wr W3) := Lib.hid ((hbA.out _).trans (hb3.mono (hbA.out _).size))
        clear hsq hsr hb3
        go_wp2_with fail
        go_roundw
        case rel => exact ⟨v, r, HV.out.below HB3.out, HSR.out.sl, Nat.le_of_lt HRLT.out, by have := HNB.out; have := HLUV.out; omega, HRG.out, HBL.out.trans (HB3.out.mono HBL.out.size)⟩
        case measure => rw [eps_eq HSR.out.sl, eps_eq HV.out]; exact HRLT.out
      · obtain ⟨N, M, hm, hMN, hMv, g1, g2, g3, g4⟩ := hs.resolve_left hay
        have HDN := Lib.hid (fun W (h : Below wr.heap.size wr W) => done_any (HU.out.below h) (HV.out.below h) (by rw [← HNA.out]; exact hlu) HVU.out g1 g2 g3 g4 hm.1 hm.2.1 hm.2.2.2.1 (Nat.le_trans hm.2.2.2.2 HVU.out))
        unfold TwoE at HDN
        have hbA : Hid (∀ o, Below wr.heap.size wr (W2.alloc o)) := Lib.hid (fun o => HB2.out.trans ((alloc_b W2 o).mono HB2.out.size))
        have HMM := Lib.hid hm
        have HMN := Lib.hid hMN
        have HMV := Lib.hid hMv
        have hay2 : (ay != 0) = true := by simpa using hay
        clear hs hb2 hm hMN hMv g1 g2 g3 g4 hay
        go_wp2_with fail
        refine (HDN.out _ (hbA.out _)).mono ?_
        rintro e W3 ⟨v1, v2, rfl, ⟨a1, c1, rfl, hs1⟩, ⟨a2, c2, rfl, hs2⟩, hb3⟩
        have HS1 := Lib.hid hs1
        have HS2 := Lib.hid hs2
        have HB3 : Hid (Below wr.heap.size wr W3) := Lib.hid ((hbA.out _).trans (hb3.mono (hbA.out _).size))
        clear hs1 hs2 hb3
        go_wp2_with fail
        go_roundw
        case rel => exact ⟨N, M, HS1.out.sl, HS2.out.sl, Nat.le_of_lt HMN.out, Nat.le_trans (digs_mono HMM.out.2.2.2.1) (by rw [← HNA.out]; exact hlu), HMM.out.2.2.1.trans HG.out, HBL.out.trans (HB3.out.mono HBL.out.size)⟩
        case measure => rw [eps_eq HS2.out.sl, eps_eq HV.out]; exact HMV.out

set_option maxRecDepth 100000 in
set_option maxHeartbeats 8000000 in
theorem common_up {w : World} {va vb : Value} {x y l G : Nat} (ha : Sl w va (digs x)) (hb : Sl w vb (digs y)) (hla : (digs x).length ≤ 256) (hc : x < y) (hlb : (digs y).length ≤ 256) (hG : Nat.gcd x y = G) (hl : l = (digs G).length) :
    Calls Tryz.prog 51 #[va, vb] w (NewD w G l) := by
  have hcm := compare_any ha hb (by omega) (by omega)
  have hge : cmpN x y < 0 := by rw [cmpN_lt hc]; decide
  obtain ⟨C, hC⟩ : ∃ C, C = cmpN x y := ⟨_, rfl⟩
  rw [← hC] at hcm hge
  have HST0 : Hid (∀ W, Below w.heap.size w W → ComR w G vb va W) := Lib.hid (fun W h => ⟨y, x, hb.below h, ha.below h, Nat.le_of_lt hc, hlb, by rw [Nat.gcd_comm]; exact hG, h⟩)
  have HCM := Lib.hid hcm
  have HL := Lib.hid hl
  clear hcm hC ha hb hla hlb hc hG hl
  go_enter Tryz.func51, Tryz.ntmps51
  go_wp2_with (go_at_call 68; refine HCM.out.mono ?_; rintro e W1 ⟨rfl, hb1⟩; have HST := Lib.hid (HST0.out _ hb1); clear hb1)
  clear HST0 HCM hge
  go_loopw [0, 1] (fun av bv wr => ComR w G av bv wr) (fun _ bv wr => Classical.epsilon (fun n => Sl wr bv (digs n)))
  case atStart => exact HST.out
  case round =>
    obtain ⟨u, v, hu, hv, hvu, hlu, hG, hbl⟩ := hrel
    clear HST
    obtain ⟨aa, ca, rfl⟩ := hu.mk'
    obtain ⟨ab, cb, rfl⟩ := hv.mk'
    have hluv := digs_mono hvu
    obtain ⟨na, hna⟩ : ∃ na, na = (digs u).length := ⟨_, rfl⟩
    obtain ⟨nb, hnb⟩ : ∃ nb, nb = (digs v).length := ⟨_, rfl⟩
    rw [← hna] at hu hlu hluv ⊢
    rw [← hnb] at hv hluv ⊢
    have HU := Lib.hid hu
    have HV := Lib.hid hv
    have HNA := Lib.hid hna
    have HNB := Lib.hid hnb
    have HG := Lib.hid hG
    have HBL := Lib.hid hbl
    have HVU := Lib.hid hvu
    have HLU := Lib.hid hlu
    have HLUV := Lib.hid hluv
    clear hu hv hna hnb hG hbl hvu hluv
    by_cases h2 : nb ≤ 2
    · by_cases h0 : nb = 0
      · subst h0
        have hy : v = 0 := digs_inj (by rw [digs_zero]; exact List.eq_nil_of_length_eq_zero HNB.out.symm)
        have hgu : G = u := by rw [← HG.out, hy, Nat.gcd_zero_right]
        have hcl := clone_any HU.out (by have := HNA.out; omega)
        have hlen : (digs u).length = l := by rw [← hgu]; exact HL.out.symm
        have HGU := Lib.hid hgu
        have HLEN := Lib.hid hlen
        have HCL := Lib.hid hcl
        clear hy hgu hcl hlen
        go_wp2_with fail
        refine HCL.out.mono ?_
        rintro e W2 ⟨ao, cap, rfl, hs, hb2⟩
        rw [HLEN.out] at hs ⊢
        have HS := Lib.hid hs
        have HB2 := Lib.hid hb2
        clear hs hb2
        go_wp2
        go_ret
        rw [HGU.out]
        exact ⟨_, _, rfl, HS.out.mono HBL.out.size, HBL.out.trans (HB2.out.mono HBL.out.size)⟩
      · have hy0 : v ≠ 0 := fun h => h0 (by rw [HNB.out, h, digs_zero]; rfl)
        have hlz : ((nb : Int) == 0) = false := by simp; omega
        have hyw : v / 4294967296 < 4294967296 := by
          have := digs_length_le.1 (show (digs v).length ≤ 2 by rw [← HNB.out]; exact h2)
          rw [show (4294967296 : Nat) ^ 2 = 4294967296 * 4294967296 from rfl] at this
          omega
        have hr : u % v < v := Nat.mod_lt _ (by omega)
        have hrl : (digs (u % v)).length ≤ 2 := digs_word (by omega)
        have hg : Nat.gcd v (u % v) = G := by rw [← HG.out, Nat.gcd_comm u v, Nat.gcd_rec v u, Nat.gcd_comm]
        have hgl : G / 4294967296 < 4294967296 := by
          have := Nat.gcd_le_left (u % v) (show 0 < v by omega)
          rw [hg] at this
          omega
        have hdv := divide_all HU.out HV.out hy0 (by rw [← HNA.out]; exact hlu) (by rw [← HNB.out]; omega)
        have HW1 : Hid (∀ W s, Sl W s (digs v) → Calls Tryz.prog 66 #[s] W fun e w' => e = .returned (.int .u64 (v : Nat)) ∧ w' = W) := Lib.hid (fun W s h => by
          have := word_any h (by rw [← HNB.out]; exact h2)
          rwa [val_digs] at this)
        have HW2 : Hid (∀ W s, Sl W s (digs (u % v)) → Calls Tryz.prog 66 #[s] W fun e w' => e = .returned (.int .u64 (u % v : Nat)) ∧ w' = W) := Lib.hid (fun W s h => by
          have := word_any h hrl
          rwa [val_digs] at this)
        have HCW : Hid (∀ W, Calls Tryz.prog 87 #[.int .u64 v, .int .u64 (u % v : Nat)] W fun e w' => e = .returned (.int .u64 (G : Nat)) ∧ ∃ m, w' = W.drewN m) := Lib.hid (fun W => by
          have := commonWord_any v (u % v) W hyw (by omega)
          rwa [hg] at this)
        have HDO : Hid (∀ W, Calls Tryz.prog 67 #[.int .u64 (G : Nat)] W (NewD W G l)) := Lib.hid (fun W => digitsOf_at (x := G) (n := l) W hgl HL.out.symm)
        have HDV := Lib.hid hdv
        unfold DivRes at HDV
        clear hyw hr hrl hg hgl hy0 hdv
        obtain ⟨r, hr⟩ : ∃ r, r = u % v := ⟨_, rfl⟩
        rw [← hr] at HCW HW2 HDV
        clear hr
        go_wp2_with fail
        refine HDV.out.mono ?_
        rintro e W2 ⟨aq, cq, ar, cr, rfl, hsq, hsr, hb2⟩
        have HSR := Lib.hid hsr
        have HB2 := Lib.hid hb2
        clear hsq hsr hb2
        go_wp2_with fail
        refine (HW1.out _ _ (HV.out.below HB2.out)).mono ?_
        rintro e w' ⟨rfl, rfl⟩
        go_wp2_with fail
        refine (HW2.out _ _ HSR.out.sl).mono ?_
        rintro e w'' ⟨rfl, rfl⟩
        go_wp2_with fail
        refine (HCW.out _).mono ?_
        rintro e w3 ⟨rfl, m, rfl⟩
        go_wp2_with fail
        refine (HDO.out _).mono ?_
        rintro e W4 ⟨ao, cap, rfl, hs4, hb4⟩
        have HS4 := Lib.hid hs4
        have HB4 := Lib.hid hb4
        clear hs4 hb4
        go_wp2
        go_ret
        have hz : Below w.heap.size w (w''.drewN m) := below_drewN' (HBL.out.trans (HB2.out.mono HBL.out.size)) m
        exact ⟨_, _, rfl, HS4.out.mono hz.size, hz.trans (HB4.out.mono hz.size)⟩
    · have hna3 : (digs u).length = (na - 3) + 3 := by have := HNA.out; have := HLUV.out; omega
      have hfo := foreseen_any HU.out HV.out hna3 (by omega) HVU.out
      have HFO := Lib.hid hfo
      clear hfo hna3
      go_wp2_with fail
      refine HFO.out.mono ?_
      rintro e W2 ⟨ax, ay, bx, c, rfl, hs, hb2⟩
      unfold fv
      have HB2 := Lib.hid hb2
      have HV0 : Hid (v ≠ 0) := Lib.hid (fun h => h2 (by rw [HNB.out, h, digs_zero]; simp))
      by_cases hay : ay = 0
      · subst hay
        clear hs hb2
        have HDV := Lib.hid (fun W (h : Below wr.heap.size wr W) => divide_all (HU.out.below h) (HV.out.below h) HV0.out (by rw [← HNA.out]; exact hlu) (by have := HNB.out; have := HLUV.out; omega))
        unfold DivRes at HDV
        have hbA : Hid (∀ o, Below wr.heap.size wr (W2.alloc o)) := Lib.hid (fun o => HB2.out.trans ((alloc_b W2 o).mono HB2.out.size))
        have hrlt : u % v < v := Nat.mod_lt _ (by have := HV0.out; omega)
        have hrg : Nat.gcd v (u % v) = G := by rw [← HG.out, Nat.gcd_comm u v, Nat.gcd_rec v u, Nat.gcd_comm]
        obtain ⟨r, hr⟩ : ∃ r, r = u % v := ⟨_, rfl⟩
        rw [← hr] at HDV hrlt hrg
        have HRLT := Lib.hid hrlt
        have HRG := Lib.hid hrg
        clear hr hrlt hrg
        go_wp2_with fail
        refine (HDV.out _ (hbA.out _)).mono ?_
        rintro e W3 ⟨aq, cq, ar, cr, rfl, hsq, hsr, hb3⟩
        have HSR := Lib.hid hsr
        have HB3 : Hid (Below wr.heap.size wr W3) := Lib.hid ((hbA.out _).trans (hb3.mono (hbA.out _).size))
        clear hsq hsr hb3
        go_wp2_with fail
        go_roundw
        case rel => exact ⟨v, r, HV.out.below HB3.out, HSR.out.sl, Nat.le_of_lt HRLT.out, by have := HNB.out; have := HLUV.out; omega, HRG.out, HBL.out.trans (HB3.out.mono HBL.out.size)⟩
        case measure => rw [eps_eq HSR.out.sl, eps_eq HV.out]; exact HRLT.out
      · obtain ⟨N, M, hm, hMN, hMv, g1, g2, g3, g4⟩ := hs.resolve_left hay
        have HDN := Lib.hid (fun W (h : Below wr.heap.size wr W) => done_any (HU.out.below h) (HV.out.below h) (by rw [← HNA.out]; exact hlu) HVU.out g1 g2 g3 g4 hm.1 hm.2.1 hm.2.2.2.1 (Nat.le_trans hm.2.2.2.2 HVU.out))
        unfold TwoE at HDN
        have hbA : Hid (∀ o, Below wr.heap.size wr (W2.alloc o)) := Lib.hid (fun o => HB2.out.trans ((alloc_b W2 o).mono HB2.out.size))
        have HMM := Lib.hid hm
        have HMN := Lib.hid hMN
        have HMV := Lib.hid hMv
        have hay2 : (ay != 0) = true := by simpa using hay
        clear hs hb2 hm hMN hMv g1 g2 g3 g4 hay
        go_wp2_with fail
        refine (HDN.out _ (hbA.out _)).mono ?_
        rintro e W3 ⟨v1, v2, rfl, ⟨a1, c1, rfl, hs1⟩, ⟨a2, c2, rfl, hs2⟩, hb3⟩
        have HS1 := Lib.hid hs1
        have HS2 := Lib.hid hs2
        have HB3 : Hid (Below wr.heap.size wr W3) := Lib.hid ((hbA.out _).trans (hb3.mono (hbA.out _).size))
        clear hs1 hs2 hb3
        go_wp2_with fail
        go_roundw
        case rel => exact ⟨N, M, HS1.out.sl, HS2.out.sl, Nat.le_of_lt HMN.out, Nat.le_trans (digs_mono HMM.out.2.2.2.1) (by rw [← HNA.out]; exact hlu), HMM.out.2.2.1.trans HG.out, HBL.out.trans (HB3.out.mono HBL.out.size)⟩
        case measure => rw [eps_eq HS2.out.sl, eps_eq HV.out]; exact HMV.out

end Go.Proofs.YtdgmjmckeeeljaaGreatDoor

namespace Go.Proofs.YtdgmjmckeeeljaaGreatDoor
open Go.RowKit

theorem common_all {w : World} {va vb : Value} {x y l : Nat} (ha : Sl w va (digs x)) (hb : Sl w vb (digs y)) (hla : (digs x).length ≤ 256) (hlb : (digs y).length ≤ 256) (hl : l = (digs (Nat.gcd x y)).length) :
    Calls Tryz.prog 51 #[va, vb] w (NewD w (Nat.gcd x y) l) := by
  rcases Nat.lt_or_ge x y with h | h
  · exact common_up ha hb hla h hlb rfl hl
  · exact common_down ha hb hla h hlb rfl hl

set_option maxRecDepth 10000 in
set_option maxHeartbeats 1000000 in
theorem gcd_all {w : World} {x y : Value} {a b : Int} (hx : Nu w x a) (hy : Nu w y b) :
    Calls Tryz.prog 17 #[x, y] w (NumRes w (Nat.gcd a.natAbs b.natAbs : Nat)) := by
  obtain ⟨sa, rfl, ha, la⟩ := hx
  obtain ⟨sb, rfl, hb, lb⟩ := hy
  have ra := rightB_digs a la
  have rb := rightB_digs b lb
  obtain ⟨na, hna⟩ : ∃ na, na = decide (a < 0) := ⟨_, rfl⟩
  obtain ⟨nb, hnb⟩ : ∃ nb, nb = decide (b < 0) := ⟨_, rfl⟩
  rw [← hna] at ra ⊢
  rw [← hnb] at rb ⊢
  have HNA := Lib.hid hna
  have HNB := Lib.hid hnb
  clear hna hnb
  have R1 : ∀ W, Sl W sa (digs a.natAbs) → Calls Tryz.prog 32 #[.agg #[.bool na, sa]] W fun e w' => e = .returned (.bool true) ∧ w' = W.alloc (.cells #[.bool na, sa] 27) := fun W h => by have := right_any na h (by omega); rwa [ra] at this
  have R2 : ∀ W, Sl W sb (digs b.natAbs) → Calls Tryz.prog 32 #[.agg #[.bool nb, sb]] W fun e w' => e = .returned (.bool true) ∧ w' = W.alloc (.cells #[.bool nb, sb] 27) := fun W h => by have := right_any nb h (by omega); rwa [rb] at this
  have HR1 := Lib.hid R1
  have HR2 := Lib.hid R2
  clear R1 R2 ra rb
  go_enter Tryz.func17, Tryz.ntmps17
  go_wp2_with (first | (go_at_call_of 32 (Value.agg #[.bool na, sa]); refine (HR1.out _ (ha.below (by go_grown))).mono ?_; rintro e w' ⟨rfl, rfl⟩) | (go_at_call_of 32 (Value.agg #[.bool nb, sb]); refine (HR2.out _ (hb.below (by go_grown))).mono ?_; rintro e w' ⟨rfl, rfl⟩))
  have HB : Box3 ((((w.alloc (.cells #[.bool na, sa] 27)).alloc (.cells #[.bool nb, sb] 27)).alloc (.cells #[.bool false, .slice none 0 0] 27)).alloc (.cells #[.bool na, sa] 27) |>.alloc (.cells #[.bool nb, sb] 27)) w.heap.size na nb sa sb a.natAbs b.natAbs :=
    box3_new ha hb (by go_grown)
  have HBL : Below w.heap.size w ((((w.alloc (.cells #[.bool na, sa] 27)).alloc (.cells #[.bool nb, sb] 27)).alloc (.cells #[.bool false, .slice none 0 0] 27)).alloc (.cells #[.bool na, sa] 27) |>.alloc (.cells #[.bool nb, sb] 27)) := by go_grown
  revert HB HBL
  generalize ((((w.alloc (.cells #[.bool na, sa] 27)).alloc (.cells #[.bool nb, sb] 27)).alloc (.cells #[.bool false, .slice none 0 0] 27)).alloc (.cells #[.bool na, sa] 27) |>.alloc (.cells #[.bool nb, sb] 27)) = W
  intro HB HBL
  have a0 := HB.a0
  have a1 := HB.a1
  have b0 := HB.b0
  have b1 := HB.b1
  obtain ⟨n, hn⟩ : ∃ n, n = (digs (Nat.gcd a.natAbs b.natAbs)).length := ⟨_, rfl⟩
  have HN := Lib.hid hn
  clear hn
  refine (common_all HB.sa HB.sb la lb HN.out).mono ?_
  rintro e w1 ⟨ao, cap, rfl, hs1, hb1'⟩
  have HB1 := HB.below hb1'
  obtain ⟨r0, r1, f0, f1⟩ := HB1.cells
  have hz := HB1.lt
  have hbw := hb1'.mono (Nat.le_of_lt HB.lt)
  have hbw0 := Nat.le_of_lt hz
  go_wp2_with (go_at_call 47; refine (made_any _ _ _ _ _).mono ?_; rintro e w2 ⟨rfl, rfl⟩)
  have HHs := Lib.hid hs1
  clear hs1
  have hfin : Below w.heap.size w (((w1.setCell ⟨w.heap.size + 1 + 1, 0, none⟩ (.bool (mkN false n))).setCell ⟨w.heap.size + 1 + 1, 1, none⟩ (.slice (mkA ao n) (mkL n) (mkC n cap))).alloc (.cells #[.bool (mkN false n), .slice (mkA ao n) (mkL n) (mkC n cap)] 27)) :=
    (((HBL.trans (hb1'.mono (by have := HB.lt; omega))).setCell (by simp; omega) _).setCell (by simp; omega) _).alloc (by simp; omega) _
  obtain ⟨q0, q1⟩ := res_cells HB1.r (.bool (mkN false n)) (.slice (mkA ao n) (mkL n) (mkC n cap)) (.cells #[.bool (mkN false n), .slice (mkA ao n) (mkL n) (mkC n cap)] 27)
  have hsw := HHs.out.after (g := w.heap.size + 1 + 1) HB.lt (.bool (mkN false n)) (.slice (mkA ao n) (mkL n) (mkC n cap)) (.cells #[.bool (mkN false n), .slice (mkA ao n) (mkL n) (mkC n cap)] 27)
  revert q0 q1 hfin hsw
  generalize (((w1.setCell ⟨w.heap.size + 1 + 1, 0, none⟩ (.bool (mkN false n))).setCell ⟨w.heap.size + 1 + 1, 1, none⟩ (.slice (mkA ao n) (mkL n) (mkC n cap))).alloc (.cells #[.bool (mkN false n), .slice (mkA ao n) (mkL n) (mkC n cap)] 27)) = W3
  intro hfin q0 q1 hsw
  have HSW := Lib.hid hsw
  clear hsw
  refine bodyPost_ret (v := .tuple #[.agg #[.bool (mkN false n), .slice (mkA ao n) (mkL n) (mkC n cap)], .bool (mkK n)]) (by simp [results, Tryz.results17, go_sem, q0, q1]) rfl ?_
  exact numRes_made hfin (by rw [Int.natAbs_natCast]; exact HN.out) (fun hz => by simp) (fun _ => by rw [Int.natAbs_natCast]; exact HSW.out.mono HBL.size)

end Go.Proofs.YtdgmjmckeeeljaaGreatDoor

namespace Go.Proofs.YtdgmjmckeeeljaaGreatDoor
open Go.RowKit

/-- Two numbers, and whether there are any. -/
def RetD (w : World) (n1 : Bool) (d1 : List Nat) (n2 : Bool) (d2 : List Nat) (ok : Bool) (e : Ending) (w' : World) : Prop :=
  ∃ a1 l1 c1 a2 l2 c2, e = .returned (.tuple #[.agg #[.bool n1, .slice a1 l1 c1], .agg #[.bool n2, .slice a2 l2 c2], .bool ok]) ∧ Sl w' (.slice a1 l1 c1) d1 ∧ Sl w' (.slice a2 l2 c2) d2 ∧ Below w.heap.size w w'

theorem DivNo.ret {w w' : World} {e : Ending} (h : DivNo w e w') : RetD w false [] false [] false e w' := by
  obtain ⟨rfl, hb⟩ := h
  exact ⟨none, 0, 0, none, 0, 0, rfl, Sl.nil _ _ _, Sl.nil _ _ _, hb⟩

theorem DivOut.ret {w w' : World} {a b : Int} {e : Ending} (h : DivOut w a b e w') : RetD w (decide (a / b < 0)) (digs (a / b).natAbs) (decide (a % b < 0)) (digs (a % b).natAbs) true e w' := by
  obtain ⟨n1, a1, l1, c1, n2, a2, l2, c2, rfl, hb, h1, h2⟩ := h
  obtain ⟨s1, e1, g1, _⟩ := h1
  obtain ⟨s2, e2, g2, _⟩ := h2
  simp only [Value.agg.injEq, Array.mk.injEq, List.cons.injEq, and_true, Value.bool.injEq] at e1 e2
  obtain ⟨rfl, rfl⟩ := e1
  obtain ⟨rfl, rfl⟩ := e2
  exact ⟨a1, l1, c1, a2, l2, c2, rfl, g1, g2, hb⟩

/-- Both sides answer alike, with two numbers. -/
def BothD (f g : FuncId) (na nb : Bool) (xs ys : List Nat) : Prop :=
  ∃ n1 d1 n2 d2 ok, ∀ W sa sb, Sl W sa xs → Sl W sb ys → Calls Tryz.prog f #[.agg #[.bool na, sa], .agg #[.bool nb, sb]] W (RetD W n1 d1 n2 d2 ok) ∧ Calls Tryz.prog g #[.agg #[.bool na, sa], .agg #[.bool nb, sb]] W (RetD W n1 d1 n2 d2 ok)

section
variable {na nb : Bool} {xs ys : List Nat}

theorem both_gcd (bx : Bd xs) (hy : Bd ys) (lx : xs.length ≤ 1000) (ly : ys.length ≤ 1000) : Both 17 18 na nb xs ys := by
  by_cases h : rightB na xs = true ∧ rightB nb ys = true
  · obtain ⟨z, rfl, rfl, hz⟩ := of_right bx h.1
    obtain ⟨y, rfl, rfl, hy'⟩ := of_right hy h.2
    exact ⟨_, _, _, fun W sa sb ha hb => ⟨(gcd_all (nu_of ha hz) (nu_of hb hy')).mono fun _ _ h => h.ret, (gcd18_any (nu_of ha hz) (nu_of hb hy')).mono fun _ _ h => h.ret⟩⟩
  · have h' : rightB na xs = false ∨ rightB nb ys = false := by
      cases h1 : rightB na xs
      · exact .inl rfl
      · cases h2 : rightB nb ys
        · exact .inr rfl
        · exact absurd ⟨h1, h2⟩ h
    exact ⟨_, _, _, fun W sa sb ha hb => ⟨(gcd17_no ha hb lx ly h').mono fun _ _ h => h.ret, (gcd18_no ha hb lx ly h').mono fun _ _ h => h.ret⟩⟩

theorem both_div (bx : Bd xs) (hy : Bd ys) (lx : xs.length ≤ 1000) (ly : ys.length ≤ 1000) : BothD 15 16 na nb xs ys := by
  by_cases h : rightB na xs = true ∧ rightB nb ys = true
  · obtain ⟨z, rfl, rfl, hz⟩ := of_right bx h.1
    obtain ⟨y, rfl, rfl, hy'⟩ := of_right hy h.2
    by_cases h0 : y = 0
    · subst h0
      rw [show digs (Int.natAbs 0) = [] from digs_zero, show decide ((0 : Int) < 0) = false from rfl]
      exact ⟨_, _, _, _, _, fun W sa sb ha hb => ⟨(div15_zero ha hb lx h.1).mono fun _ _ h => h.ret, (div16_zero ha hb lx h.1).mono fun _ _ h => h.ret⟩⟩
    · exact ⟨_, _, _, _, _, fun W sa sb ha hb => ⟨(div_all (nu_of ha hz) (nu_of hb hy') h0).mono fun _ _ h => h.ret, (div16_any (nu_of ha hz) (nu_of hb hy') h0).mono fun _ _ h => h.ret⟩⟩
  · have h' : rightB na xs = false ∨ rightB nb ys = false := by
      cases h1 : rightB na xs
      · exact .inl rfl
      · cases h2 : rightB nb ys
        · exact .inr rfl
        · exact absurd ⟨h1, h2⟩ h
    exact ⟨_, _, _, _, _, fun W sa sb ha hb => ⟨(div15_no ha hb lx ly h').mono fun _ _ h => h.ret, (div16_no ha hb lx ly h').mono fun _ _ h => h.ret⟩⟩
end

end Go.Proofs.YtdgmjmckeeeljaaGreatDoor

namespace Go.Proofs.YtdgmjmckeeeljaaGreatDoor
open Go.RowKit

set_option maxRecDepth 100000 in
set_option maxHeartbeats 1000000 in
theorem cut20_walk (neg : Bool) (ao : Option Addr) (n cap k : Nat) (w : World) (hk : k = min n 20) (hc : n ≤ cap) (hn : n ≤ 9223372036854775807) :
    Calls Tryz.prog 13 #[.agg #[.bool neg, .slice ao n cap], .int .i64 20] w fun e w' => e = .returned (.agg #[.bool neg, .slice ao k cap]) ∧ Below w.heap.size w w' := by
  have HB : Hid (Below (w.heap.size + 1) ((w.alloc (.cells #[.bool neg, .slice ao n cap] 27)).alloc (.cells #[.bool false, .slice none 0 0] 27)) ((w.alloc (.cells #[.bool neg, .slice ao n cap] 27)).alloc (.cells #[.bool false, .slice none 0 0] 27))) := Below.refl _ _
  have HKP : Hid (∀ w', Below (w.heap.size + 1) ((w.alloc (.cells #[.bool neg, .slice ao n cap] 27)).alloc (.cells #[.bool false, .slice none 0 0] 27)) w' → w'.cell? ⟨w.heap.size, 0, none⟩ = some (.bool neg) ∧ w'.cell? ⟨w.heap.size, 1, none⟩ = some (.slice ao n cap)) := Lib.hid (fun w' h =>
    ((show Bk w' w.heap.size (.bool neg) (.slice ao n cap) from (h.block _ (by omega)).trans ((Below.heap_alloc _ _ _ (by simp)).trans (heap_alloc_new _ _))).cells))
  obtain ⟨c0, c1⟩ := HKP.out _ HB.out
  go_enter Tryz.func13, Tryz.ntmps13
  go_upto_region 1 with fail
  have hmin : min (n : Int) 20 = (k : Int) := by omega
  have k0 : (0 : Int) ≤ (k : Int) := by omega
  have k1 : (k : Int) ≤ (cap : Int) := by omega
  have k2 : k ≤ cap := by omega
  have kt : ((k : Int)).toNat = k := by omega
  clear hk
  go_region_held3 (fun w' => w'.cell? ⟨w.heap.size, 0, none⟩ = some (.bool neg) ∧ w'.cell? ⟨w.heap.size, 1, none⟩ = some (.slice ao n cap))
    (first | (with_reducible exact HKP.out _ HB.out) | (exact HKP.out _ HB.out.drew) | (exact (show Bk (World.drew ((w.alloc (.cells #[.bool neg, .slice ao n cap] 27)).alloc (.cells #[.bool neg, .slice ao k cap] 27))) w.heap.size (.bool neg) (.slice ao n cap) from (Below.heap_alloc _ _ _ (by simp)).trans (heap_alloc_new _ _)).cells))
    (fail)
  have hr : Bk (World.drew ((w.alloc (.cells #[.bool neg, .slice ao n cap] 27)).alloc (.cells #[.bool neg, .slice ao k cap] 27))) (w.heap.size + 1) (.bool neg) (.slice ao k cap) := by
    have := heap_alloc_new (w.alloc (.cells #[.bool neg, .slice ao n cap] 27)) (.cells #[.bool neg, .slice ao k cap] 27)
    rw [World.size_alloc] at this
    exact this
  have hbl : Below w.heap.size w (World.drew ((w.alloc (.cells #[.bool neg, .slice ao n cap] 27)).alloc (.cells #[.bool neg, .slice ao k cap] 27))) := Below.drew (show Below w.heap.size w ((w.alloc (.cells #[.bool neg, .slice ao n cap] 27)).alloc (.cells #[.bool neg, .slice ao k cap] 27)) by go_grown)
  have HR := Lib.hid hr
  have HBL := Lib.hid hbl
  clear hr hbl
  revert HR HBL
  generalize (World.drew ((w.alloc (.cells #[.bool neg, .slice ao n cap] 27)).alloc (.cells #[.bool neg, .slice ao k cap] 27))) = W2
  intro HR HBL
  obtain ⟨r0, r1⟩ := HR.out.cells
  go_wp2
  refine bodyPost_ret (v := .agg #[.bool neg, .slice ao k cap]) (by simp [results, Tryz.results13, go_sem, r0, r1]) rfl ⟨rfl, HBL.out⟩

/-- The law's cut of any number: the first 20 digits. -/
theorem cut20_any {w : World} {neg : Bool} {ao : Option Addr} {n cap : Nat} {ds : List Nat} (h : Sl w (.slice ao n cap) ds) :
    Calls Tryz.prog 13 #[.agg #[.bool neg, .slice ao n cap], .int .i64 20] w fun e w' => e = .returned (.agg #[.bool neg, .slice ao (min n 20) cap]) ∧ Sl w' (.slice ao (min n 20) cap) (ds.take (min n 20)) ∧ Below w.heap.size w w' := by
  have hn := h.size
  have hl := h.len
  unfold maxLen at hl
  have hc : n ≤ cap := by
    by_cases h0 : n = 0
    · omega
    · obtain ⟨_, _, _, hc, _⟩ := h.at h0
      exact hc
  exact (cut20_walk neg ao n cap (min n 20) w rfl hc (by omega)).mono fun e w' ⟨h1, h2⟩ => ⟨h1, (h.front _ (Nat.min_le_left _ _)).below h2, h2⟩

end Go.Proofs.YtdgmjmckeeeljaaGreatDoor
