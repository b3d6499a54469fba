/- slices.Backward over digits, and compare. No condition but that the slices read as digits. -/
import Derived.RangeFuncNested
import Derived.RangeFuncBound
import Derived.RangeFuncCalls
import Derived.RangeFuncLeaves
import Derived.Shelf.Abstract
import Derived.Shelf.RegionOpen
import Derived.OwnWalkIn
import Derived.TacticsInMore
import Derived.LoopNIn
import Derived.LoopIn
import Derived.Test.YtdgmjmckeeeljaaGreatDoorE
namespace Go.Proofs.YtdgmjmckeeeljaaGreatDoor
open Go.RowKit Go.Shelf
attribute [local go_sem] Oper.semAt_some

/-- What has come when k rounds are over: the last digit first, each with its place. -/
def back (zs : List Nat) (k : Nat) : List (Nat × Nat) := (List.range k).map fun i => (zs.length - 1 - i, zs.getD (zs.length - 1 - i) 0)
theorem back_succ (zs : List Nat) (k : Nat) : back zs (k + 1) = back zs k ++ [(zs.length - 1 - k, zs.getD (zs.length - 1 - k) 0)] := by simp [back, List.range_succ]
theorem back_length (zs : List Nat) (k : Nat) : (back zs k).length = k := by simp [back]

/-- The place and the digit that a round is handed; whatever pair it is, they are in their ranges. -/
def ix (N : Nat) (x : Nat × Nat) : Nat := x.1 % N
def dv (x : Nat × Nat) : Nat := x.2 % 4294967296
theorem ix_lt {N : Nat} (h : 0 < N) (x : Nat × Nat) : ix N x < N := Nat.mod_lt _ h
theorem dv_lt (x : Nat × Nat) : dv x < 4294967296 := Nat.mod_lt _ (by omega)
theorem ix_of {N m : Nat} (h : m < N) (z : Nat) : ix N (m, z) = m := Nat.mod_eq_of_lt h
theorem dv_of {z : Nat} (h : z < 4294967296) (m : Nat) : dv (m, z) = z := Nat.mod_eq_of_lt h

/-- What a loop's body keeps: the slice's block and the box that holds the slice. -/
def Same2 (b B : Nat) (W W' : World) : Prop := W'.heap[b]? = W.heap[b]? ∧ W'.heap[B]? = W.heap[B]?
theorem Same2.trans {b B : Nat} {A C D : World} (h : Same2 b B A C) (k : Same2 b B C D) : Same2 b B A D := ⟨k.1.trans h.1, k.2.trans h.2⟩
theorem Same2.refl {b B : Nat} (A : World) : Same2 b B A A := ⟨rfl, rfl⟩
theorem same2_b {b B : Nat} {w : World} (hb : b < w.heap.size) (hB : B < w.heap.size) (W : World) (l : Nat) (o o' : Obj) (hl : w.heap.size ≤ l) (_ : W.heap[l]? = some o) (_ : o.isCells = false) (_ : o.isWalk = false) : Same2 b B W (W.putObj l o') :=
  ⟨World.putObj_heap_other (by omega), World.putObj_heap_other (by omega)⟩

/-- The slice and its box. -/
def Boxd (W : World) (b B off cap : Nat) (zs : List Nat) : Prop := W.cell? ⟨B, 0, none⟩ = some (.slice (some ⟨b, off, none⟩) zs.length cap) ∧ Cl W b off zs
theorem Boxd.same {W W' : World} {b B off cap : Nat} {zs : List Nat} (h : Boxd W b B off cap zs) (k : Same2 b B W W') : Boxd W' b B off cap zs :=
  ⟨(World.cell?_of_block (w := W) (a := ⟨B, 0, none⟩) k.2).trans h.1, fun j hj => (World.cell?_of_block (w := W) (a := ⟨b, off + j, none⟩) k.1).trans (h.2 j hj)⟩

set_option maxRecDepth 100000 in
set_option maxHeartbeats 2000000 in
theorem backward1_in (F : Fence) (n : Nat) (h90 : F.fn 90) (hro : F.round = none) (hn : 1 ≤ n) (l b B off cap : Nat) (zs : List Nat) (hbd : Bd zs) (hreach : zs.length ≤ 140737488351232) (hcap : zs.length ≤ cap) (J Jx : List (Nat × Nat) → World → Prop)
    (hY : ∀ pre x W, J pre W → pre.length < zs.length → YieldAt F (n - 1) Tryz.prog l #[.int .i64 (ix zs.length x : Nat), .int .u32 (dv x : Nat)] W fun e W' =>
      (e = .returned (.bool true) ∧ J (pre ++ [x]) W' ∧ Same2 b B W W') ∨ (e = .returned (.bool false) ∧ Jx (pre ++ [x]) W'))
    (W : World) (hBs : Boxd W b B off cap zs) (h0 : J [] W) :
    CallsIn F n Tryz.prog 90 #[.func (.yield l) #[] #[], .pointer (some ⟨B, 0, none⟩)] W fun e W' => (∃ v, e = .returned v) ∧
      ((∃ ys, ys = back zs zs.length ∧ J ys W') ∨ (∃ pre, (∃ k, k ≤ zs.length ∧ pre = back zs k) ∧ Jx pre W')) := by
  obtain ⟨len, hlen⟩ : ∃ len : Nat, len = zs.length := ⟨_, rfl⟩
  have hB1 := hBs.1
  rw [← hlen] at hB1 hreach hcap
  have HLEN := Lib.hid hlen
  clear hlen
  refine callsIn_of_wp Tryz.func90 rfl h90 ?_ hro
  simp only [Tryz.ntmps90, List.size_toArray, List.length_cons, List.length_nil, Nat.reduceAdd, Nat.reduceSub, Array.replicate_succ, Array.replicate_zero, List.push_toArray, List.append_toArray, List.nil_append, List.cons_append]
  gi_wp2
  gi_loopw [3] (fun i wr => ∃ m : Nat, m ≤ len ∧ i = .int .i64 ((m : Int) - 1) ∧ J (back zs (len - m)) wr ∧ Boxd wr b B off cap zs)
    (fun i _ => (intOf i + 1).toNat)
  case atStart => exact ⟨len, Nat.le_refl _, by go_num, by simpa [back] using h0, hBs⟩
  case round =>
    obtain ⟨m, hk, rfl, hJs, hnx⟩ := hrel
    have hb1 := hnx.1
    rw [← HLEN.out] at hb1
    cases m with
    | succ m =>
      have hcx := hnx.2 m (by rw [← HLEN.out]; omega)
      obtain ⟨fn, tmps, assign, body, hy, hR⟩ := hY _ (m, zs.getD m 0) wr hJs (by rw [back_length, ← HLEN.out]; omega)
      have hbs : back zs (len - m) = back zs (len - (m + 1)) ++ [(m, zs.getD m 0)] := by
        rw [show len - m = len - (m + 1) + 1 by omega, back_succ, ← HLEN.out]
        rw [show len - 1 - (len - (m + 1)) = m by omega]
      have lz : zs.getD m 0 < 4294967296 := by rw [val_digit hbd]; exact Nat.mod_lt _ (by omega)
      obtain ⟨z, hz⟩ : ∃ z, z = zs.getD m 0 := ⟨_, rfl⟩
      rw [← hz] at hcx hy hR hbs lz
      rw [ix_of (by rw [← HLEN.out]; omega), dv_of lz] at hy
      have HBS := Lib.hid hbs
      have HNX := Lib.hid hnx
      clear hbs hz hnx
      gi_wp2
      refine hR.mono ?_
      rintro e W3 (⟨rfl, hJ3, hk3⟩ | ⟨rfl, hJx3⟩)
      · gi_wp2
        go_roundw
        case rel => exact ⟨m, by omega, by go_num, by rw [HBS.out]; exact hJ3, HNX.out.same hk3⟩
        case measure => simp [intOf]
      · gi_wp2
        refine bodyPost_ret (results_none rfl _ _ _) rfl ?_
        exact ⟨⟨_, rfl⟩, .inr ⟨_, ⟨len - m, by rw [← HLEN.out]; omega, HBS.out.symm⟩, hJx3⟩⟩
    | zero =>
      have HJ := Lib.hid hJs
      clear hJs
      gi_wp2
      go_end0
      exact ⟨⟨_, rfl⟩, .inl ⟨_, by rw [← HLEN.out]; rfl, HJ.out⟩⟩

set_option maxRecDepth 100000 in
set_option maxHeartbeats 1000000 in
theorem backward1_nil_in (F : Fence) (n : Nat) (h90 : F.fn 90) (hro : F.round = none) (l B : Nat) (ao : Option Addr) (cap : Nat) (J : List (Nat × Nat) → World → Prop) (W : World) (hBs : W.cell? ⟨B, 0, none⟩ = some (.slice ao 0 cap)) (h0 : J [] W) :
    CallsIn F n Tryz.prog 90 #[.func (.yield l) #[] #[], .pointer (some ⟨B, 0, none⟩)] W fun e W' => (∃ v, e = .returned v) ∧ J [] W' := by
  refine callsIn_of_wp Tryz.func90 rfl h90 ?_ hro
  simp only [Tryz.ntmps90, List.size_toArray, List.length_cons, List.length_nil, Nat.reduceAdd, Nat.reduceSub, Array.replicate_succ, Array.replicate_zero, List.push_toArray, List.append_toArray, List.nil_append, List.cons_append]
  gi_wp2
  gi_loopw [3] (fun i wr => i = .int .i64 (-1) ∧ J [] wr) (fun _ _ => 0)
  case atStart => exact ⟨rfl, h0⟩
  case round =>
    obtain ⟨rfl, hJs⟩ := hrel
    have HJ := Lib.hid hJs
    clear hJs
    gi_wp2
    go_end0
    exact ⟨⟨_, rfl⟩, HJ.out⟩

set_option maxHeartbeats 1000000 in
theorem backward_in (F : Fence) (n : Nat) (h58 : F.fn 58) (hro : F.round = none) (ao : Option Addr) (len cap : Nat) (w : World) :
    CallsIn F n Tryz.prog 58 #[.slice ao len cap] w fun e w' => e = .returned (.func (.func 90) #[] #[.pointer (some ⟨w.heap.size, 0, none⟩)]) ∧ w' = w.alloc (.cells #[.slice ao len cap] 25) := by
  refine callsIn_of_wp Tryz.func58 rfl h58 ?_ hro
  simp only [Tryz.ntmps58, List.size_toArray, List.length_cons, List.length_nil, Nat.reduceAdd, Nat.reduceSub, Array.replicate_succ, Array.replicate_zero, List.push_toArray, List.append_toArray, List.nil_append, List.cons_append]
  gi_wp2
  go_ret
  exact ⟨rfl, rfl⟩

/-- The block of a slice that is not empty. -/
def blockOf : Value → Nat
  | .slice (some a) (_ + 1) _ => a.block
  | _ => 0

theorem Sl.blockOf_lt {w : World} {v : Value} {zs : List Nat} (h : Sl w v zs) (hp : 0 < w.heap.size) : blockOf v < w.heap.size := by
  rcases h.is with ⟨rfl, ao, cap, rfl⟩ | ⟨b, off, cap, rfl, hcap, hcl⟩
  · cases ao <;> exact hp
  · cases zs with
    | nil => exact hp
    | cons z zs => exact block_lt_of_cell (hcl 0 (by simp))

theorem back_stops (F : Fence) (n : Nat) (h90 : F.fn 90) (hro : F.round = none) (hn : 1 ≤ n) (B : Nat) (v : Value) (zs : List Nat) (hreach : zs.length ≤ 140737488351232) (w : World) (hB : B < w.heap.size)
    (hc : w.cell? ⟨B, 0, none⟩ = some v) (hI : Sl w v zs) :
    SeqStopsK F n Tryz.prog 90 #[.pointer (some ⟨B, 0, none⟩)] (fun x : Nat × Nat => #[Value.int .i64 (ix zs.length x : Nat), Value.int .u32 (dv x : Nat)]) (Same2 (blockOf v) B) (fun ys => ys = back zs zs.length)
      (fun pre => ∃ k, k ≤ zs.length ∧ pre = back zs k) zs.length w := fun l J Jx W hW _ _ hY h0 => by
  have hc' := (hW.cell (p := ⟨B, 0, none⟩) hB).trans hc
  rcases (hI.below hW).is with ⟨rfl, ao, cap, rfl⟩ | ⟨b, off, cap, rfl, hcap, hcl⟩
  · exact (backward1_nil_in F n h90 hro l B ao cap J W hc' h0).mono fun e W' ⟨he, hj⟩ => ⟨he, .inl ⟨_, rfl, hj⟩⟩
  · cases zs with
    | nil => exact (backward1_nil_in F n h90 hro l B _ cap J W hc' h0).mono fun e W' ⟨he, hj⟩ => ⟨he, .inl ⟨_, rfl, hj⟩⟩
    | cons z zs => exact backward1_in F n h90 hro hn l b B off cap _ hI.bd hreach hcap J Jx hY W ⟨hc', hcl⟩ h0

/-- Less, equal, greater. -/
def cmpN (x y : Nat) : Int := if x < y then -1 else if x = y then 0 else 1

set_option maxHeartbeats 1000000 in
theorem cmp32_any (x y : Nat) (w : World) :
    Calls Tryz.prog 99 #[.int .u32 x, .int .u32 y] w fun e w' => e = .returned (.int .i64 (cmpN x y)) ∧ w' = w := by
  rcases Nat.lt_trichotomy x y with h | h | h
  · have e0 : cmpN x y = -1 := by unfold cmpN; rw [if_pos h]
    rw [e0]
    clear e0
    go_enter Tryz.func99, Tryz.ntmps99
    go_wp2
    go_ret
    exact ⟨rfl, rfl⟩
  · have e0 : cmpN x y = 0 := by unfold cmpN; rw [if_neg (by omega), if_pos h]
    rw [e0]
    subst h
    clear e0
    go_enter Tryz.func99, Tryz.ntmps99
    go_wp2
    go_ret
    exact ⟨rfl, rfl⟩
  · have e0 : cmpN x y = 1 := by unfold cmpN; rw [if_neg (by omega), if_neg (by omega)]
    rw [e0]
    clear e0
    go_enter Tryz.func99, Tryz.ntmps99
    go_wp2
    go_ret
    exact ⟨rfl, rfl⟩

set_option maxHeartbeats 1000000 in
theorem cmp64_any (x y : Nat) (w : World) :
    Calls Tryz.prog 98 #[.int .i64 x, .int .i64 y] w fun e w' => e = .returned (.int .i64 (cmpN x y)) ∧ w' = w := by
  rcases Nat.lt_trichotomy x y with h | h | h
  · have e0 : cmpN x y = -1 := by unfold cmpN; rw [if_pos h]
    rw [e0]
    clear e0
    go_enter Tryz.func98, Tryz.ntmps98
    go_wp2
    go_ret
    exact ⟨rfl, rfl⟩
  · have e0 : cmpN x y = 0 := by unfold cmpN; rw [if_neg (by omega), if_pos h]
    rw [e0]
    subst h
    clear e0
    go_enter Tryz.func98, Tryz.ntmps98
    go_wp2
    go_ret
    exact ⟨rfl, rfl⟩
  · have e0 : cmpN x y = 1 := by unfold cmpN; rw [if_neg (by omega), if_neg (by omega)]
    rw [e0]
    clear e0
    go_enter Tryz.func98, Tryz.ntmps98
    go_wp2
    go_ret
    exact ⟨rfl, rfl⟩

end Go.Proofs.YtdgmjmckeeeljaaGreatDoor
