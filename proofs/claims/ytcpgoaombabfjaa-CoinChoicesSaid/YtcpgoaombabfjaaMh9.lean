/- slices.Backward over digits, and compare. No condition but that the slices read as digits. compare. No condition but that the slices read as digits without zeros at the end. Contracts of num: right numbers, made. No condition but that the slices read as digits. Contracts of num: Mul. Contracts of num: Add. Contracts of num: Sub, Of, Int, Cmp, Bits. -/
import Derived.RangeFuncNested
import Derived.RangeFuncBound
import Derived.RangeFuncCalls
import Derived.RangeFuncLeaves
import Derived.Shelf.Abstract
import Derived.Shelf.RegionOpen
import Derived.OwnWalkIn
import Derived.TacticsInMore
import Derived.LoopNIn
import Derived.LoopIn
import Derived.Test.YtcpgoaombabfjaaMh8
import Derived.Deep.RegionHeld3
namespace Go.Proofs.Ytcpgoaombabfjaa.Nums
open Go.RowKit Go.Shelf
attribute [local go_sem] Oper.semAt_some

/-- What has come when k rounds are over: the last digit first, each with its place. -/
def back (zs : List Nat) (k : Nat) : List (Nat × Nat) := (List.range k).map fun i => (zs.length - 1 - i, zs.getD (zs.length - 1 - i) 0)
theorem back_succ (zs : List Nat) (k : Nat) : back zs (k + 1) = back zs k ++ [(zs.length - 1 - k, zs.getD (zs.length - 1 - k) 0)] := by simp [back, List.range_succ]
theorem back_length (zs : List Nat) (k : Nat) : (back zs k).length = k := by simp [back]

/-- The place and the digit that a round is handed; whatever pair it is, they are in their ranges. -/
def ix (N : Nat) (x : Nat × Nat) : Nat := x.1 % N
def dv (x : Nat × Nat) : Nat := x.2 % 4294967296
theorem ix_lt {N : Nat} (h : 0 < N) (x : Nat × Nat) : ix N x < N := Nat.mod_lt _ h
theorem dv_lt (x : Nat × Nat) : dv x < 4294967296 := Nat.mod_lt _ (by omega)
theorem ix_of {N m : Nat} (h : m < N) (z : Nat) : ix N (m, z) = m := Nat.mod_eq_of_lt h
theorem dv_of {z : Nat} (h : z < 4294967296) (m : Nat) : dv (m, z) = z := Nat.mod_eq_of_lt h

/-- What a loop's body keeps: the slice's block and the box that holds the slice. -/
def Same2 (b B : Nat) (W W' : World) : Prop := W'.heap[b]? = W.heap[b]? ∧ W'.heap[B]? = W.heap[B]?
theorem Same2.trans {b B : Nat} {A C D : World} (h : Same2 b B A C) (k : Same2 b B C D) : Same2 b B A D := ⟨k.1.trans h.1, k.2.trans h.2⟩
theorem Same2.refl {b B : Nat} (A : World) : Same2 b B A A := ⟨rfl, rfl⟩
theorem same2_b {b B : Nat} {w : World} (hb : b < w.heap.size) (hB : B < w.heap.size) (W : World) (l : Nat) (o o' : Obj) (hl : w.heap.size ≤ l) (_ : W.heap[l]? = some o) (_ : o.isCells = false) (_ : o.isWalk = false) : Same2 b B W (W.putObj l o') :=
  ⟨World.putObj_heap_other (by omega), World.putObj_heap_other (by omega)⟩

/-- The slice and its box. -/
def Boxd (W : World) (b B off cap : Nat) (zs : List Nat) : Prop := W.cell? ⟨B, 0, none⟩ = some (.slice (some ⟨b, off, none⟩) zs.length cap) ∧ Cl W b off zs
theorem Boxd.same {W W' : World} {b B off cap : Nat} {zs : List Nat} (h : Boxd W b B off cap zs) (k : Same2 b B W W') : Boxd W' b B off cap zs :=
  ⟨(World.cell?_of_block (w := W) (a := ⟨B, 0, none⟩) k.2).trans h.1, fun j hj => (World.cell?_of_block (w := W) (a := ⟨b, off + j, none⟩) k.1).trans (h.2 j hj)⟩

set_option maxRecDepth 100000 in
set_option maxHeartbeats 2000000 in
theorem backward1_in (F : Fence) (n : Nat) (h90 : F.fn 84) (hro : F.round = none) (hn : 1 ≤ n) (l b B off cap : Nat) (zs : List Nat) (hbd : Bd zs) (hreach : zs.length ≤ 140737488351232) (hcap : zs.length ≤ cap) (J Jx : List (Nat × Nat) → World → Prop)
    (hY : ∀ pre x W, J pre W → pre.length < zs.length → YieldAt F (n - 1) Try.prog l #[.int .i64 (ix zs.length x : Nat), .int .u32 (dv x : Nat)] W fun e W' =>
      (e = .returned (.bool true) ∧ J (pre ++ [x]) W' ∧ Same2 b B W W') ∨ (e = .returned (.bool false) ∧ Jx (pre ++ [x]) W'))
    (W : World) (hBs : Boxd W b B off cap zs) (h0 : J [] W) :
    CallsIn F n Try.prog 84 #[.func (.yield l) #[] #[], .pointer (some ⟨B, 0, none⟩)] W fun e W' => (∃ v, e = .returned v) ∧
      ((∃ ys, ys = back zs zs.length ∧ J ys W') ∨ (∃ pre, (∃ k, k ≤ zs.length ∧ pre = back zs k) ∧ Jx pre W')) := by
  obtain ⟨len, hlen⟩ : ∃ len : Nat, len = zs.length := ⟨_, rfl⟩
  have hB1 := hBs.1
  rw [← hlen] at hB1 hreach hcap
  have HLEN := Lib.hid hlen
  clear hlen
  refine callsIn_of_wp Try.func84 rfl h90 ?_ hro
  simp only [Try.ntmps84, List.size_toArray, List.length_cons, List.length_nil, Nat.reduceAdd, Nat.reduceSub, Array.replicate_succ, Array.replicate_zero, List.push_toArray, List.append_toArray, List.nil_append, List.cons_append]
  gi_wp2
  gi_loopw [3] (fun i wr => ∃ m : Nat, m ≤ len ∧ i = .int .i64 ((m : Int) - 1) ∧ J (back zs (len - m)) wr ∧ Boxd wr b B off cap zs)
    (fun i _ => (intOf i + 1).toNat)
  case atStart => exact ⟨len, Nat.le_refl _, by go_num, by simpa [back] using h0, hBs⟩
  case round =>
    obtain ⟨m, hk, rfl, hJs, hnx⟩ := hrel
    have hb1 := hnx.1
    rw [← HLEN.out] at hb1
    cases m with
    | succ m =>
      have hcx := hnx.2 m (by rw [← HLEN.out]; omega)
      obtain ⟨fn, tmps, assign, body, hy, hR⟩ := hY _ (m, zs.getD m 0) wr hJs (by rw [back_length, ← HLEN.out]; omega)
      have hbs : back zs (len - m) = back zs (len - (m + 1)) ++ [(m, zs.getD m 0)] := by
        rw [show len - m = len - (m + 1) + 1 by omega, back_succ, ← HLEN.out]
        rw [show len - 1 - (len - (m + 1)) = m by omega]
      have lz : zs.getD m 0 < 4294967296 := by rw [val_digit hbd]; exact Nat.mod_lt _ (by omega)
      obtain ⟨z, hz⟩ : ∃ z, z = zs.getD m 0 := ⟨_, rfl⟩
      rw [← hz] at hcx hy hR hbs lz
      rw [ix_of (by rw [← HLEN.out]; omega), dv_of lz] at hy
      have HBS := Lib.hid hbs
      have HNX := Lib.hid hnx
      clear hbs hz hnx
      gi_wp2
      refine hR.mono ?_
      rintro e W3 (⟨rfl, hJ3, hk3⟩ | ⟨rfl, hJx3⟩)
      · gi_wp2
        go_roundw
        case rel => exact ⟨m, by omega, by go_num, by rw [HBS.out]; exact hJ3, HNX.out.same hk3⟩
        case measure => simp [intOf]
      · gi_wp2
        refine bodyPost_ret (results_none rfl _ _ _) rfl ?_
        exact ⟨⟨_, rfl⟩, .inr ⟨_, ⟨len - m, by rw [← HLEN.out]; omega, HBS.out.symm⟩, hJx3⟩⟩
    | zero =>
      have HJ := Lib.hid hJs
      clear hJs
      gi_wp2
      go_end0
      exact ⟨⟨_, rfl⟩, .inl ⟨_, by rw [← HLEN.out]; rfl, HJ.out⟩⟩

set_option maxRecDepth 100000 in
set_option maxHeartbeats 1000000 in
theorem backward1_nil_in (F : Fence) (n : Nat) (h90 : F.fn 84) (hro : F.round = none) (l B : Nat) (ao : Option Addr) (cap : Nat) (J : List (Nat × Nat) → World → Prop) (W : World) (hBs : W.cell? ⟨B, 0, none⟩ = some (.slice ao 0 cap)) (h0 : J [] W) :
    CallsIn F n Try.prog 84 #[.func (.yield l) #[] #[], .pointer (some ⟨B, 0, none⟩)] W fun e W' => (∃ v, e = .returned v) ∧ J [] W' := by
  refine callsIn_of_wp Try.func84 rfl h90 ?_ hro
  simp only [Try.ntmps84, List.size_toArray, List.length_cons, List.length_nil, Nat.reduceAdd, Nat.reduceSub, Array.replicate_succ, Array.replicate_zero, List.push_toArray, List.append_toArray, List.nil_append, List.cons_append]
  gi_wp2
  gi_loopw [3] (fun i wr => i = .int .i64 (-1) ∧ J [] wr) (fun _ _ => 0)
  case atStart => exact ⟨rfl, h0⟩
  case round =>
    obtain ⟨rfl, hJs⟩ := hrel
    have HJ := Lib.hid hJs
    clear hJs
    gi_wp2
    go_end0
    exact ⟨⟨_, rfl⟩, HJ.out⟩

set_option maxHeartbeats 1000000 in
theorem backward_in (F : Fence) (n : Nat) (h58 : F.fn 75) (hro : F.round = none) (ao : Option Addr) (len cap : Nat) (w : World) :
    CallsIn F n Try.prog 75 #[.slice ao len cap] w fun e w' => e = .returned (.func (.func 84) #[] #[.pointer (some ⟨w.heap.size, 0, none⟩)]) ∧ w' = w.alloc (.cells #[.slice ao len cap] 86) := by
  refine callsIn_of_wp Try.func75 rfl h58 ?_ hro
  simp only [Try.ntmps75, List.size_toArray, List.length_cons, List.length_nil, Nat.reduceAdd, Nat.reduceSub, Array.replicate_succ, Array.replicate_zero, List.push_toArray, List.append_toArray, List.nil_append, List.cons_append]
  gi_wp2
  go_ret
  exact ⟨rfl, rfl⟩

/-- The block of a slice that is not empty. -/
def blockOf : Value → Nat
  | .slice (some a) (_ + 1) _ => a.block
  | _ => 0

theorem Sl.blockOf_lt {w : World} {v : Value} {zs : List Nat} (h : Sl w v zs) (hp : 0 < w.heap.size) : blockOf v < w.heap.size := by
  rcases h.is with ⟨rfl, ao, cap, rfl⟩ | ⟨b, off, cap, rfl, hcap, hcl⟩
  · cases ao <;> exact hp
  · cases zs with
    | nil => exact hp
    | cons z zs => exact block_lt_of_cell (hcl 0 (by simp))

theorem back_stops (F : Fence) (n : Nat) (h90 : F.fn 84) (hro : F.round = none) (hn : 1 ≤ n) (B : Nat) (v : Value) (zs : List Nat) (hreach : zs.length ≤ 140737488351232) (w : World) (hB : B < w.heap.size)
    (hc : w.cell? ⟨B, 0, none⟩ = some v) (hI : Sl w v zs) :
    SeqStopsK F n Try.prog 84 #[.pointer (some ⟨B, 0, none⟩)] (fun x : Nat × Nat => #[Value.int .i64 (ix zs.length x : Nat), Value.int .u32 (dv x : Nat)]) (Same2 (blockOf v) B) (fun ys => ys = back zs zs.length)
      (fun pre => ∃ k, k ≤ zs.length ∧ pre = back zs k) zs.length w := fun l J Jx W hW _ _ hY h0 => by
  have hc' := (hW.cell (p := ⟨B, 0, none⟩) hB).trans hc
  rcases (hI.below hW).is with ⟨rfl, ao, cap, rfl⟩ | ⟨b, off, cap, rfl, hcap, hcl⟩
  · exact (backward1_nil_in F n h90 hro l B ao cap J W hc' h0).mono fun e W' ⟨he, hj⟩ => ⟨he, .inl ⟨_, rfl, hj⟩⟩
  · cases zs with
    | nil => exact (backward1_nil_in F n h90 hro l B _ cap J W hc' h0).mono fun e W' ⟨he, hj⟩ => ⟨he, .inl ⟨_, rfl, hj⟩⟩
    | cons z zs => exact backward1_in F n h90 hro hn l b B off cap _ hI.bd hreach hcap J Jx hY W ⟨hc', hcl⟩ h0

/-- Less, equal, greater. -/
def cmpN (x y : Nat) : Int := if x < y then -1 else if x = y then 0 else 1

set_option maxHeartbeats 1000000 in
theorem cmp32_any (x y : Nat) (w : World) :
    Calls Try.prog 76 #[.int .u32 x, .int .u32 y] w fun e w' => e = .returned (.int .i64 (cmpN x y)) ∧ w' = w := by
  rcases Nat.lt_trichotomy x y with h | h | h
  · have e0 : cmpN x y = -1 := by unfold cmpN; rw [if_pos h]
    rw [e0]
    clear e0
    go_enter Try.func76, Try.ntmps76
    go_wp2
    go_ret
    exact ⟨rfl, rfl⟩
  · have e0 : cmpN x y = 0 := by unfold cmpN; rw [if_neg (by omega), if_pos h]
    rw [e0]
    subst h
    clear e0
    go_enter Try.func76, Try.ntmps76
    go_wp2
    go_ret
    exact ⟨rfl, rfl⟩
  · have e0 : cmpN x y = 1 := by unfold cmpN; rw [if_neg (by omega), if_neg (by omega)]
    rw [e0]
    clear e0
    go_enter Try.func76, Try.ntmps76
    go_wp2
    go_ret
    exact ⟨rfl, rfl⟩

set_option maxHeartbeats 1000000 in
theorem cmp64_any (x y : Nat) (w : World) :
    Calls Try.prog 74 #[.int .i64 x, .int .i64 y] w fun e w' => e = .returned (.int .i64 (cmpN x y)) ∧ w' = w := by
  rcases Nat.lt_trichotomy x y with h | h | h
  · have e0 : cmpN x y = -1 := by unfold cmpN; rw [if_pos h]
    rw [e0]
    clear e0
    go_enter Try.func74, Try.ntmps74
    go_wp2
    go_ret
    exact ⟨rfl, rfl⟩
  · have e0 : cmpN x y = 0 := by unfold cmpN; rw [if_neg (by omega), if_pos h]
    rw [e0]
    subst h
    clear e0
    go_enter Try.func74, Try.ntmps74
    go_wp2
    go_ret
    exact ⟨rfl, rfl⟩
  · have e0 : cmpN x y = 1 := by unfold cmpN; rw [if_neg (by omega), if_neg (by omega)]
    rw [e0]
    clear e0
    go_enter Try.func74, Try.ntmps74
    go_wp2
    go_ret
    exact ⟨rfl, rfl⟩

end Go.Proofs.Ytcpgoaombabfjaa.Nums

namespace Go.Proofs.Ytcpgoaombabfjaa.Nums
open Go.RowKit Go.Shelf
attribute [local go_sem] Oper.semAt_some

set_option maxRecDepth 100000 in
set_option maxHeartbeats 2000000 in
theorem compare_eq_in (F : Fence) (n : Nat) (h68 : F.fn 71) (h58 : F.fn 75) (h90 : F.fn 84) (h99 : F.fn 76) (hc99 : ∀ k x y w, CallsIn F k Try.prog 76 #[.int .u32 (x : Nat), .int .u32 (y : Nat)] w fun e w' => e = .returned (.int .i64 (cmpN x y)) ∧ w' = w) (hro : F.round = none) (hn : 4 ≤ n) {w : World} {aa ab : Option Addr} {ca cb : Nat} {xs ys : List Nat} (ha : Sl w (.slice aa xs.length ca) xs) (hb : Sl w (.slice ab xs.length cb) ys) (hla : xs.length ≤ 140737488351232) (Z : Int)
    (hZ0 : (∀ j, j < xs.length → xs.getD j 0 = ys.getD j 0) → Z = 0) (hZ1 : ∀ k, k < xs.length → xs.getD k 0 ≠ ys.getD k 0 → (∀ j, k < j → j < xs.length → xs.getD j 0 = ys.getD j 0) → Z = cmpN (xs.getD k 0) (ys.getD k 0)) :
    CallsIn F n Try.prog 71 #[.slice aa xs.length ca, .slice ab xs.length cb] w fun e w' => e = .returned (.int .i64 Z) ∧ Below w.heap.size w w' := by
  have h1 : 1 ≤ n := by omega
  refine callsIn_of_wp_marks Try.func71 rfl h68 ?_ hro
  simp only [Try.ntmps71, List.size_toArray, List.length_cons, List.length_nil, Nat.reduceAdd, Nat.reduceSub, Array.replicate_succ, Array.replicate_zero, List.push_toArray, List.append_toArray, List.nil_append, List.cons_append]
  gi_wp2_with (gi_at_call 75; refine (backward_in F (n - 1) h58 hro _ _ _ _).mono ?_; rintro e w' ⟨rfl, rfl⟩)
  have bY := Boxed.new w 86 (.slice ab xs.length cb)
  have bR := Boxed.new (w.alloc (.cells #[.slice ab xs.length cb] 86)) 3 (.int .i64 0)
  have bN := Boxed.new ((w.alloc (.cells #[.slice ab xs.length cb] 86)).alloc (.cells #[.int .i64 0] 3)) 86 (.slice aa xs.length ca)
  simp only [World.size_alloc] at bR bN
  have hB0 : Below w.heap.size w (((w.alloc (.cells #[.slice ab xs.length cb] 86)).alloc (.cells #[.int .i64 0] 3)).alloc (.cells #[.slice aa xs.length ca] 86)) := (((Below.refl _ w).alloc (Nat.le_refl _) _).alloc (by simp) _).alloc (by simp; omega) _
  have hyl : xs.length = ys.length := hb.size
  have HYL := Lib.hid hyl
  clear hyl
  refine wpIn_rangeFunc_ownG hro h1 (gf := 84) (lb := #[.pointer (some ⟨w.heap.size + 1 + 1, 0, none⟩)]) rfl h90 (enters_of Try.func84 (by kernel_rfl) rfl)
    (back_stops F (n - 1) h90 hro (by omega) (w.heap.size + 1 + 1) _ xs (by omega) _ (by simp) bN.cell (ha.below hB0)) Same2.trans ?hKb (Below.refl _ _) (fun _ => rfl)
    (fun pre W => ((∀ p ∈ pre, dv p = ys.getD (ix xs.length p) 0) ∧ (W.cell? ⟨w.heap.size, 0, none⟩ = some (.slice ab xs.length cb) ∧ W.cell? ⟨w.heap.size + 1, 0, none⟩ = some (.int .i64 0)) ∧ W.frozen? ⟨w.heap.size + 1, 0, none⟩ = false) ∧ Below w.heap.size w W)
    (fun c pre W => (c = .ret ∧ ∃ ini last, pre = ini ++ [last] ∧ (∀ p ∈ ini, dv p = ys.getD (ix xs.length p) 0) ∧ dv last ≠ ys.getD (ix xs.length last) 0 ∧ W.cell? ⟨w.heap.size + 1, 0, none⟩ = some (.int .i64 (cmpN (dv last) (ys.getD (ix xs.length last) 0)))) ∧ Below w.heap.size w W)
    (OwnFrom.and (Own.from (fun s A B row hs hg hr => ⟨hs.1, ⟨cell_kept hs.2.1.1 hg hr, cell_kept hs.2.1.2 hg hr⟩, (frozen_kept hs.2.1.2 hg hr).trans hs.2.2⟩) _) (ownFrom_below (Nat.le_refl _) (by simp; omega)))
    (fun c => OwnFrom.and (Own.from (fun s A B row hs hg hr => by obtain ⟨hc, ini, last, e1, e2, e3, e4⟩ := hs; exact ⟨hc, ini, last, e1, e2, e3, cell_kept e4 hg hr⟩) _) (ownFrom_below (Nat.le_refl _) (by simp; omega)))
    ⟨⟨by simp, ⟨((bY.alloc _).alloc _).cell, (bR.alloc _).cell⟩, (bR.alloc _).frozen⟩, hB0⟩
    (fun x => { tmps := #[.slice aa xs.length ca, .slice ab xs.length cb, undef, .pointer (some ⟨w.heap.size, 0, none⟩), .pointer (some ⟨w.heap.size + 1, 0, none⟩), .int .i64 (ix xs.length x : Nat), .int .u32 (dv x : Nat), .slice aa xs.length ca, .int .i64 xs.length, .slice ab xs.length cb, .int .i64 xs.length, .bool false, undef, undef, undef, undef, undef, .slice aa xs.length ca, .func (.func 84) #[] #[.pointer (some ⟨w.heap.size + 1 + 1, 0, none⟩)], .int .i64 (ix xs.length x : Nat), .int .u32 (dv x : Nat), undef, undef, undef, undef, undef, undef, undef, undef, undef, undef, undef, undef], defers := [] }) ?assign ?body ?done ?stop
  case hKb => exact same2_b ((ha.below hB0).blockOf_lt (by simp)) (by simp)
  case assign =>
    intro l x W K hK
    gi_wp2
    exact hK
  case body =>
    rintro l pre x W ⟨⟨hp, ⟨hcy, hcr⟩, hfr⟩, hB⟩ hlen
    have hpos : 0 < xs.length := by omega
    have h3 : 1 ≤ n - 1 - 1 := by omega
    have hix := ix_lt hpos x
    have hdv := dv_lt x
    obtain ⟨b', off', rfl, hcap', hbs', hcl'⟩ := hb.at (by omega)
    have hcy' := hcl'.at hB hbs' (ix xs.length x) (by rw [← HYL.out]; exact hix)
    have HP := Lib.hid hp
    have HCL := Lib.hid hcl'
    clear hp hcl'
    obtain ⟨i, hi⟩ : ∃ i, i = ix xs.length x := ⟨_, rfl⟩
    obtain ⟨d, hd⟩ : ∃ d, d = dv x := ⟨_, rfl⟩
    obtain ⟨y, hy⟩ : ∃ y, y = ys.getD i 0 := ⟨_, rfl⟩
    rw [← hi, ← hy] at hcy'
    rw [← hi] at hix
    rw [← hd] at hdv
    rw [← hi, ← hd]
    have HI := Lib.hid hi
    have HD := Lib.hid hd
    have HY := Lib.hid hy
    clear hi hd hy
    by_cases hxy : d = y
    · subst hxy
      gi_wp2
      exact ⟨KeepsFrom.refl _ _, Same2.refl _, ⟨fun p hp' => (List.mem_append.1 hp').elim (HP.out p) (fun e => by simp only [List.mem_singleton] at e; subst e; rw [← HI.out, ← HD.out]; exact HY.out), ⟨hcy, hcr⟩, hfr⟩, hB⟩
    · have h2 : ((d : Int) != y) = true := by simp; omega
      gi_wp2_with (gi_at_call 76; refine (CallsIn.inRound l (hc99 _ d y _)).mono ?_; rintro e w' ⟨rfl, rfl⟩)
      exact ⟨(KeepsOthers.setCell _ _ _).from _, ⟨rfl, pre, x, rfl, HP.out, by rw [← HI.out, ← HD.out, ← HY.out]; exact hxy, by rw [← HI.out, ← HD.out, ← HY.out]; exact World.cell?_setCell_same' _ _ _ (by rw [hcr]; rfl)⟩, hB.setCell (p := ⟨w.heap.size + 1, 0, none⟩) (by simp) _⟩
  case done =>
    rintro D zs W hD rfl ⟨⟨hne, ⟨hcy, hcr⟩, hfr⟩, hB⟩ hK
    have hz := hZ0 (fun j hj => by
      have := hne (j, xs.getD j 0) (by
        simp only [back, List.mem_map, List.mem_range]
        exact ⟨xs.length - 1 - j, by omega, by rw [show xs.length - 1 - (xs.length - 1 - j) = j by omega]⟩)
      rw [dv_of (by rw [val_digit ha.bd]; exact Nat.mod_lt _ (by omega)), ix_of hj] at this
      exact this)
    subst hz
    clear hne
    gi_wp2
    have hK' := (KeepsOthers.setCell W ⟨w.heap.size + 1, 0, none⟩ (.int .i64 0)).same D _ hK rfl
    refine ⟨by simp, .inl ⟨_, _, rfl, run_takeDeferred hK', ?_⟩⟩
    have hc5 := cell_kept (World.cell?_setCell_same' W ⟨w.heap.size + 1, 0, none⟩ (.int .i64 0) (by rw [hcr]; rfl)) (grownBy_putObj' _ D (.deferred none)) (fun r e => by cases e; exact ⟨_, hK', rfl⟩)
    refine ⟨.int .i64 0, ?_, rfl, (hB.setCell (p := ⟨w.heap.size + 1, 0, none⟩) (by simp) _).trans (belowK_b (w := w) (Nat.le_refl _) _ D _ _ (by simp at hD; omega) hK' rfl rfl)⟩
    simp [results, Try.f71, go_sem, hc5]
  case stop =>
    rintro D c pre W hD ⟨k, hk, rfl⟩ ⟨⟨rfl, ini, last, e1, e2, e3, hcr⟩, hB⟩ hK
    gi_wp2
    refine ⟨by simp, .inl ⟨_, _, rfl, run_takeDeferred hK, ?_⟩⟩
    have hc5 := cell_kept hcr (grownBy_putObj' _ D (.deferred none)) (fun r e => by cases e; exact ⟨_, hK, rfl⟩)
    obtain ⟨k', rfl⟩ : ∃ k', k = k' + 1 := by
      cases k with
      | zero => simp [back] at e1
      | succ k' => exact ⟨k', rfl⟩
    rw [back_succ] at e1
    obtain ⟨rfl, e5⟩ := List.append_inj' e1 rfl
    obtain rfl : (xs.length - 1 - k', xs.getD (xs.length - 1 - k') 0) = last := by simpa using e5
    have lz : ∀ j, xs.getD j 0 < 4294967296 := fun j => by rw [val_digit ha.bd]; exact Nat.mod_lt _ (by omega)
    rw [dv_of (lz _), ix_of (by omega)] at e3 hc5
    have hz := hZ1 (xs.length - 1 - k') (by omega) e3 (fun j h1 h2 => by
      have := e2 (j, xs.getD j 0) (by
        simp only [back, List.mem_map, List.mem_range]
        exact ⟨xs.length - 1 - j, by omega, by rw [show xs.length - 1 - (xs.length - 1 - j) = j by omega]⟩)
      rw [dv_of (lz _), ix_of h2] at this
      exact this)
    refine ⟨.int .i64 Z, ?_, rfl, hB.trans (belowK_b (w := w) (Nat.le_refl _) W D _ _ (by simp at hD; omega) hK rfl rfl)⟩
    rw [hz]
    simp [results, Try.f71, go_sem, hc5]

theorem cmpN_eq (x : Nat) : cmpN x x = 0 := by unfold cmpN; rw [if_neg (by omega), if_pos rfl]
theorem cmpN_lt {x y : Nat} (h : x < y) : cmpN x y = -1 := by unfold cmpN; rw [if_pos h]
theorem cmpN_gt {x y : Nat} (h : y < x) : cmpN x y = 1 := by unfold cmpN; rw [if_neg (by omega), if_neg (by omega)]

/-- The digits above the place tell which number is greater. -/
theorem cmp_digits {xs ys : List Nat} (hx : Bd xs) (hy : Bd ys) (hl : xs.length = ys.length) :
    ((∀ j, j < xs.length → xs.getD j 0 = ys.getD j 0) → val xs = val ys) ∧
    (∀ k, k < xs.length → (∀ j, k < j → j < xs.length → xs.getD j 0 = ys.getD j 0) → (xs.getD k 0 < ys.getD k 0 → val xs < val ys) ∧ (ys.getD k 0 < xs.getD k 0 → val ys < val xs)) := by
  induction xs generalizing ys with
  | nil =>
    cases ys with
    | nil => exact ⟨fun _ => rfl, fun k hk => by simp at hk⟩
    | cons y ys => simp at hl
  | cons x xs ih =>
    cases ys with
    | nil => simp at hl
    | cons y ys =>
      obtain ⟨lx, bx⟩ := hx.cons
      obtain ⟨ly, by'⟩ := hy.cons
      obtain ⟨i1, i2⟩ := ih bx by' (by simpa using hl)
      refine ⟨fun h => ?_, fun k hk h => ?_⟩
      · have h0 := h 0 (by simp)
        have h1 := i1 (fun j hj => by simpa using h (j + 1) (by simpa using hj))
        simp only [val]
        simp at h0
        omega
      · cases k with
        | zero =>
          have h1 := i1 (fun j hj => by simpa using h (j + 1) (by omega) (by simpa using hj))
          simp only [val, List.getD_cons_zero]
          omega
        | succ k =>
          have h1 := i2 k (by simpa using hk) (fun j hj hj' => by simpa using h (j + 1) (by omega) (by simpa using hj'))
          simp only [val, List.getD_cons_succ]
          omega

set_option maxRecDepth 100000 in
set_option maxHeartbeats 2000000 in
theorem compare_ne {w : World} (aa ab : Option Addr) (ca cb n m : Nat) (h : n ≠ m) (hn : n ≤ 140737488351232) (hm : m ≤ 140737488351232) :
    Calls Try.prog 71 #[.slice aa n ca, .slice ab m cb] w fun e w' => e = .returned (.int .i64 (cmpN n m)) ∧ Below w.heap.size w w' := by
  have h2 : ((n : Int) != m) = true := by simp; omega
  go_enter Try.func71, Try.ntmps71
  go_wp2_with (go_at_call 74; refine (cmp64_any n m _).mono ?_; rintro e w' ⟨rfl, rfl⟩)
  go_returns
  exact ⟨rfl, (((Below.refl _ w).alloc (Nat.le_refl _) _).alloc (by simp) _)⟩

/-- compare of digits without zeros at the end. -/
theorem compare_any {w : World} {va vb : Value} {x y : Nat} (ha : Sl w va (digs x)) (hb : Sl w vb (digs y)) (hla : (digs x).length ≤ 140737488351232) (hlb : (digs y).length ≤ 140737488351232) :
    Calls Try.prog 71 #[va, vb] w fun e w' => e = .returned (.int .i64 (cmpN x y)) ∧ Below w.heap.size w w' := by
  obtain ⟨aa, ca, rfl⟩ := ha.mk'
  obtain ⟨ab, cb, rfl⟩ := hb.mk'
  by_cases h : (digs x).length = (digs y).length
  · rw [← h] at hb ⊢
    obtain ⟨c1, c2⟩ := cmp_digits (bd_digs x) (bd_digs y) h
    rw [val_digs, val_digs] at c1 c2
    refine callsIn_wide.1 (compare_eq_in Fence.wide 5 trivial trivial trivial trivial (fun k a b w => callsIn_wide.2 (cmp32_any a b w)) rfl (by omega) ha hb hla _ (fun hj => by rw [c1 hj, cmpN_eq]) (fun k hk hne hj => ?_))
    obtain ⟨d1, d2⟩ := c2 k hk hj
    rcases Nat.lt_or_gt_of_ne hne with h | h
    · rw [cmpN_lt h, cmpN_lt (d1 h)]
    · rw [cmpN_gt h, cmpN_gt (d2 h)]
  · have e : cmpN x y = cmpN (digs x).length (digs y).length := by
      rcases Nat.lt_or_gt_of_ne h with h | h
      · rw [cmpN_lt h, cmpN_lt]
        have h1 := (digs_length_le (n := x) (k := (digs x).length)).1 (Nat.le_refl _)
        exact Nat.lt_of_lt_of_le h1 (Nat.le_of_not_lt fun h2 => by have := digs_length_le.2 h2; omega)
      · rw [cmpN_gt h, cmpN_gt]
        have h1 := (digs_length_le (n := y) (k := (digs y).length)).1 (Nat.le_refl _)
        exact Nat.lt_of_lt_of_le h1 (Nat.le_of_not_lt fun h2 => by have := digs_length_le.2 h2; omega)
    rw [e]
    exact compare_ne aa ab ca cb _ _ h hla hlb

end Go.Proofs.Ytcpgoaombabfjaa.Nums

namespace Go.Proofs.Ytcpgoaombabfjaa.Nums
open Go.RowKit

/-- Whether a Num of this sign and these digits is right. -/
def rightB (neg : Bool) (ds : List Nat) : Bool := if ds = [] then !neg else decide (ds.length ≤ 256) && decide (ds.getD (ds.length - 1) 0 ≠ 0)

set_option maxRecDepth 10000 in
set_option maxHeartbeats 400000 in
theorem right_any {w : World} {s : Value} {ds : List Nat} (neg : Bool) (h : Sl w s ds) (hreach : ds.length ≤ 140737488351232) :
    Calls Try.prog 66 #[.agg #[.bool neg, s]] w fun e w' => e = .returned (.bool (rightB neg ds)) ∧ w' = w.alloc (.cells #[.bool neg, s] 88) := by
  obtain ⟨ao, cap, rfl⟩ := h.mk'
  obtain ⟨n, hn⟩ : ∃ n, n = ds.length := ⟨_, rfl⟩
  cases n with
  | zero =>
    obtain rfl : ds = [] := List.eq_nil_of_length_eq_zero hn.symm
    have e0 : rightB neg [] = !neg := rfl
    rw [e0]
    clear e0 hn
    go_enter Try.func66, Try.ntmps66
    go_wp2
    go_ret
    exact ⟨rfl, rfl⟩
  | succ n =>
    rw [← hn] at h hreach ⊢
    obtain ⟨b, off, rfl, hcap, hbs, hcl⟩ := h.at (by omega)
    have hc := hcl n (by omega)
    obtain ⟨x, hx⟩ : ∃ x, x = ds.getD n 0 := ⟨_, rfl⟩
    rw [← hx] at hc
    have e0 : rightB neg ds = (decide (n + 1 ≤ 256) && decide (x ≠ 0)) := by
      unfold rightB
      rw [if_neg (by intro h0; rw [h0] at hn; simp at hn), ← hn, hx]
      rfl
    rw [e0]
    clear e0 hcl hx hn h
    have h4 : ((n : Int) + 1 == 0) = false := by simp; omega
    by_cases h1 : n + 1 ≤ 256
    · by_cases h2 : x = 0
      · subst h2
        go_enter Try.func66, Try.ntmps66
        go_wp2
        go_ret
        exact ⟨by simp, rfl⟩
      · have h3 : ((x : Int) != 0) = true := by simp; omega
        go_enter Try.func66, Try.ntmps66
        go_wp2
        go_ret
        exact ⟨by simp [h1, h2], rfl⟩
    · go_enter Try.func66, Try.ntmps66
      go_wp2
      go_ret
      exact ⟨by simp [h1], rfl⟩

set_option maxHeartbeats 400000 in
theorem made_big (neg : Bool) (ao : Option Addr) (n cap : Nat) (w : World) (h1 : 256 < n) :
    Calls Try.prog 69 #[.bool neg, .slice ao n cap] w fun e w' => e = .returned (.tuple #[.agg #[.bool false, .slice none 0 0], .bool false]) ∧ w' = w.alloc (.cells #[.bool false, .slice none 0 0] 88) := by
  go_enter Try.func69, Try.ntmps69
  go_wp2
  go_returns
  exact ⟨rfl, rfl⟩

set_option maxHeartbeats 400000 in
theorem made_zero (neg : Bool) (ao : Option Addr) (cap : Nat) (w : World) :
    Calls Try.prog 69 #[.bool neg, .slice ao 0 cap] w fun e w' => e = .returned (.tuple #[.agg #[.bool false, .slice none 0 0], .bool true]) ∧ w' = w.alloc (.cells #[.bool false, .slice none 0 0] 88) := by
  go_enter Try.func69, Try.ntmps69
  go_wp2
  go_returns
  exact ⟨rfl, rfl⟩

set_option maxHeartbeats 400000 in
theorem made_ok (neg : Bool) (ao : Option Addr) (n cap : Nat) (w : World) (h1 : n ≤ 256) (h2 : n ≠ 0) :
    Calls Try.prog 69 #[.bool neg, .slice ao n cap] w fun e w' => e = .returned (.tuple #[.agg #[.bool neg, .slice ao n cap], .bool true]) ∧ w' = w.alloc (.cells #[.bool neg, .slice ao n cap] 88) := by
  have h3 : ((n : Int) == 0) = false := by simp; omega
  go_enter Try.func69, Try.ntmps69
  go_wp2
  go_returns
  exact ⟨rfl, rfl⟩

/-- What made makes of a sign and a slice of n digits. -/
def mkN (neg : Bool) (n : Nat) : Bool := if n ≤ 256 ∧ n ≠ 0 then neg else false
def mkA (ao : Option Addr) (n : Nat) : Option Addr := if n ≤ 256 ∧ n ≠ 0 then ao else none
def mkL (n : Nat) : Nat := if n ≤ 256 ∧ n ≠ 0 then n else 0
def mkC (n cap : Nat) : Nat := if n ≤ 256 ∧ n ≠ 0 then cap else 0
def mkK (n : Nat) : Bool := decide (n ≤ 256)

theorem made_any (neg : Bool) (ao : Option Addr) (n cap : Nat) (w : World) :
    Calls Try.prog 69 #[.bool neg, .slice ao n cap] w fun e w' => e = .returned (.tuple #[.agg #[.bool (mkN neg n), .slice (mkA ao n) (mkL n) (mkC n cap)], .bool (mkK n)]) ∧ w' = w.alloc (.cells #[.bool (mkN neg n), .slice (mkA ao n) (mkL n) (mkC n cap)] 88) := by
  by_cases h1 : 256 < n
  · have hn : ¬ (n ≤ 256 ∧ n ≠ 0) := by omega
    have hk : mkK n = false := by unfold mkK; simp; omega
    unfold mkN mkA mkL mkC
    rw [if_neg hn, if_neg hn, if_neg hn, if_neg hn, hk]
    exact made_big neg ao n cap w h1
  · have hk : mkK n = true := by unfold mkK; simp; omega
    rw [hk]
    by_cases h2 : n = 0
    · subst h2
      exact made_zero neg ao cap w
    · have hn : n ≤ 256 ∧ n ≠ 0 := by omega
      unfold mkN mkA mkL mkC
      rw [if_pos hn, if_pos hn, if_pos hn, if_pos hn]
      exact made_ok neg ao n cap w (by omega) h2

def fitsB (n : Nat) : Bool := decide ((digs n).length ≤ 256)

/-- What a function returns that makes a Num of the integer z: the Num, and whether it fits. -/
def NumRes (w : World) (z : Int) (e : Ending) (w' : World) : Prop :=
  ∃ neg ao n cap, e = .returned (.tuple #[.agg #[.bool neg, .slice ao n cap], .bool (fitsB z.natAbs)]) ∧ Below w.heap.size w w' ∧
    (fitsB z.natAbs = true → neg = decide (z < 0) ∧ Sw w.heap.size w' (.slice ao n cap) (digs z.natAbs)) ∧ (fitsB z.natAbs = false → neg = false ∧ ao = none ∧ n = 0 ∧ cap = 0)

theorem Sw.nil (B : Nat) (w : World) (ao : Option Addr) (cap : Nat) : Sw B w (.slice ao 0 cap) [] := ⟨Sl.nil w ao cap, fun ao n cap hv hn => by cases hv; exact absurd rfl hn⟩

/-- Out of made: a Num of the integer, where the sign is right. -/
theorem numRes_made {w W : World} {z : Int} {neg : Bool} {ao : Option Addr} {n cap : Nat} (hb : Below w.heap.size w W) (hn : n = (digs z.natAbs).length) (hneg : z ≠ 0 → neg = decide (z < 0)) (hs : n ≠ 0 → Sw w.heap.size W (.slice ao n cap) (digs z.natAbs)) :
    NumRes w z (.returned (.tuple #[.agg #[.bool (mkN neg n), .slice (mkA ao n) (mkL n) (mkC n cap)], .bool (mkK n)])) W := by
  have hk : mkK n = fitsB z.natAbs := by unfold mkK fitsB; rw [hn]
  refine ⟨_, _, _, _, by rw [hk], hb, fun hf => ?_, fun hf => ?_⟩
  · have hle : n ≤ 256 := by rw [hn]; simpa [fitsB] using hf
    by_cases h0 : n = 0
    · have hz : z = 0 := by
        have : digs z.natAbs = [] := List.eq_nil_of_length_eq_zero (by omega)
        have : z.natAbs = 0 := digs_inj (by rw [this, digs_zero])
        omega
      subst hz
      have hn' : ¬ (n ≤ 256 ∧ n ≠ 0) := by omega
      unfold mkN mkA mkL mkC
      rw [if_neg hn', if_neg hn', if_neg hn', if_neg hn']
      exact ⟨rfl, by rw [show digs (Int.natAbs 0) = [] from digs_zero]; exact Sw.nil _ _ _ _⟩
    · have hn' : n ≤ 256 ∧ n ≠ 0 := ⟨hle, h0⟩
      unfold mkN mkA mkL mkC
      rw [if_pos hn', if_pos hn', if_pos hn', if_pos hn']
      refine ⟨hneg ?_, hs h0⟩
      intro hz
      subst hz
      apply h0
      rw [hn]
      show (digs 0).length = 0
      rw [digs_zero]; rfl
  · have hle : 256 < n := by rw [hn]; simpa [fitsB] using hf
    have hn' : ¬ (n ≤ 256 ∧ n ≠ 0) := by omega
    unfold mkN mkA mkL mkC
    rw [if_neg hn', if_neg hn', if_neg hn', if_neg hn']
    exact ⟨rfl, rfl, rfl, rfl⟩

end Go.Proofs.Ytcpgoaombabfjaa.Nums

namespace Go.Proofs.Ytcpgoaombabfjaa.Nums
open Go.RowKit

/-- The right Num of an integer. -/
def Nu (w : World) (x : Value) (z : Int) : Prop := ∃ s, x = .agg #[.bool (decide (z < 0)), s] ∧ Sl w s (digs z.natAbs) ∧ (digs z.natAbs).length ≤ 256

theorem rightB_digs (z : Int) (h : (digs z.natAbs).length ≤ 256) : rightB (decide (z < 0)) (digs z.natAbs) = true := by
  unfold rightB
  by_cases h0 : digs z.natAbs = []
  · rw [if_pos h0]
    have : z.natAbs = 0 := digs_inj (by rw [h0, digs_zero])
    simp; omega
  · rw [if_neg h0]
    have hl := digs_last z.natAbs
    rw [List.getLast?_eq_getElem?] at hl
    have h1 : (digs z.natAbs).length - 1 < (digs z.natAbs).length := by
      have := List.length_pos_iff.2 h0; omega
    simp only [h, decide_true, Bool.true_and, decide_eq_true_eq, ne_eq]
    intro h2
    apply hl
    rw [List.getElem?_eq_getElem h1]
    simp only [List.getD, List.getElem?_eq_getElem h1, Option.getD_some] at h2
    rw [h2]

/-- Three boxes that a call made: two that were read, one for the result. -/
structure Box3 (W : World) (B : Nat) (na nb : Bool) (sa sb : Value) (x y : Nat) : Prop where
  a0 : W.cell? ⟨B, 0, none⟩ = some (.bool na)
  a1 : W.cell? ⟨B, 1, none⟩ = some sa
  b0 : W.cell? ⟨B + 1, 0, none⟩ = some (.bool nb)
  b1 : W.cell? ⟨B + 1, 1, none⟩ = some sb
  r : W.heap[B + 1 + 1]? = some (.cells #[.bool false, .slice none 0 0] 88 (0, 0))
  sa : Sl W sa (digs x)
  sb : Sl W sb (digs y)

theorem Box3.below {W W' : World} {B : Nat} {na nb : Bool} {sa sb : Value} {x y : Nat} (h : Box3 W B na nb sa sb x y) (hb : Below W.heap.size W W') : Box3 W' B na nb sa sb x y :=
  ⟨cell_later hb h.a0, cell_later hb h.a1, cell_later hb h.b0, cell_later hb h.b1, (hb.block _ (Array.getElem?_eq_some_iff.1 h.r).1).trans h.r, h.sa.below hb, h.sb.below hb⟩

theorem Box3.keep {W W' : World} {B : Nat} {na nb : Bool} {sa sb : Value} {x y : Nat} (h : Box3 W B na nb sa sb x y) (hb : Below (B + 1 + 1) W W') :
    W'.cell? ⟨B, 0, none⟩ = some (.bool na) ∧ W'.cell? ⟨B, 1, none⟩ = some sa ∧ W'.cell? ⟨B + 1, 0, none⟩ = some (.bool nb) ∧ W'.cell? ⟨B + 1, 1, none⟩ = some sb :=
  ⟨(hb.cell (p := ⟨B, 0, none⟩) (by simp; omega)).trans h.a0, (hb.cell (p := ⟨B, 1, none⟩) (by simp; omega)).trans h.a1, (hb.cell (p := ⟨B + 1, 0, none⟩) (by simp)).trans h.b0, (hb.cell (p := ⟨B + 1, 1, none⟩) (by simp)).trans h.b1⟩

theorem Box3.lt {W : World} {B : Nat} {na nb : Bool} {sa sb : Value} {x y : Nat} (h : Box3 W B na nb sa sb x y) : B + 1 + 1 < W.heap.size := (Array.getElem?_eq_some_iff.1 h.r).1
theorem Box3.cells {W : World} {B : Nat} {na nb : Bool} {sa sb : Value} {x y : Nat} (h : Box3 W B na nb sa sb x y) :
    W.cell? ⟨B + 1 + 1, 0, none⟩ = some (.bool false) ∧ W.cell? ⟨B + 1 + 1, 1, none⟩ = some (.slice none 0 0) ∧ W.frozen? ⟨B + 1 + 1, 0, none⟩ = false ∧ W.frozen? ⟨B + 1 + 1, 1, none⟩ = false := by
  refine ⟨?_, ?_, frozen_of_row W _ _ _ _ h.r, frozen_of_row W _ _ _ _ h.r⟩ <;> rw [cell_of_row W _ _ _ _ _ h.r] <;> rfl

/-- The result's two cells, when they were stored. -/
theorem res_cells {w1 : World} {g : Nat} {v0 v1 : Value} (h : w1.heap[g]? = some (.cells #[v0, v1] 88 (0, 0))) (u0 u1 : Value) (o : Obj) :
    (((w1.setCell ⟨g, 0, none⟩ u0).setCell ⟨g, 1, none⟩ u1).alloc o).cell? ⟨g, 0, none⟩ = some u0 ∧ (((w1.setCell ⟨g, 0, none⟩ u0).setCell ⟨g, 1, none⟩ u1).alloc o).cell? ⟨g, 1, none⟩ = some u1 := by
  have h1 := heap_setCell_same w1 g 0 _ 88 u0 h
  have h2 := heap_setCell_same _ g 1 _ 88 u1 h1
  have h3 : (((w1.setCell ⟨g, 0, none⟩ u0).setCell ⟨g, 1, none⟩ u1).alloc o).heap[g]? = _ := (Below.heap_alloc _ _ _ (Array.getElem?_eq_some_iff.1 h2).1).trans h2
  constructor <;> rw [cell_of_row _ _ _ _ _ _ h3] <;> rfl

theorem sign_mul {a b : Int} (h : a * b ≠ 0) : (!(decide (a < 0) == decide (b < 0))) = decide (a * b < 0) := by
  have ha : a ≠ 0 := fun h0 => h (by rw [h0, Int.zero_mul])
  have hb : b ≠ 0 := fun h0 => h (by rw [h0, Int.mul_zero])
  rcases Int.lt_or_gt_of_ne ha with h1 | h1 <;> rcases Int.lt_or_gt_of_ne hb with h2 | h2
  · have := Int.mul_pos_of_neg_of_neg h1 h2
    simp [h1, h2]; omega
  · have := Int.mul_neg_of_neg_of_pos h1 h2
    have h3 : ¬ b < 0 := by omega
    simp [h1, h3, this]
  · have := Int.mul_neg_of_pos_of_neg h1 h2
    have h3 : ¬ a < 0 := by omega
    simp [h2, h3, this]
  · have := Int.mul_pos h1 h2
    have h3 : ¬ a < 0 := by omega
    have h4 : ¬ b < 0 := by omega
    simp [h3, h4]; omega

/-- What is owned in new memory stays so when an older box is written, and behind a new block. -/
theorem Sw.after2 {B g : Nat} {w : World} {v : Value} {ds : List Nat} (h : Sw B w v ds) (hg : g < B) (u0 u1 : Value) : Sw B ((w.setCell ⟨g, 0, none⟩ u0).setCell ⟨g, 1, none⟩ u1) v ds := by
  have key : ∀ (w : World) (j : Nat) (u : Value), Sw B w v ds → Sw B (w.setCell ⟨g, j, none⟩ u) v ds := by
    intro w j u h
    have hc : ∀ b o, B ≤ b → (w.setCell ⟨g, j, none⟩ u).cell? ⟨b, o, none⟩ = w.cell? ⟨b, o, none⟩ := fun b o hb => World.cell?_of_block (w := w) (a := ⟨b, o, none⟩) (Below.heap_setCell _ _ _ _ (by simp; omega))
    have hf : ∀ b o, B ≤ b → (w.setCell ⟨g, j, none⟩ u).frozen? ⟨b, o, none⟩ = w.frozen? ⟨b, o, none⟩ := fun b o hb => World.frozen?_of_block (w := w) (a := ⟨b, o, none⟩) (Below.heap_setCell _ _ _ _ (by simp; omega))
    refine ⟨⟨h.sl.bd, h.sl.len, ?_⟩, ?_⟩
    · rcases h.sl.is with h1 | ⟨b, off, cap, hv, hcp, hcl⟩
      · exact .inl h1
      · refine .inr ⟨b, off, cap, hv, hcp, fun k hk => ?_⟩
        obtain ⟨b', off', e1, e2, _⟩ := h.own _ _ _ hv (by omega)
        cases e1
        rw [hc _ _ e2]
        exact hcl k hk
    · intro ao n cap hv hn
      obtain ⟨b, off, e1, e2, e3⟩ := h.own ao n cap hv hn
      exact ⟨b, off, e1, e2, fun k hk => by rw [hf _ _ e2]; exact e3 k hk⟩
  exact key _ 1 u1 (key _ 0 u0 h)
theorem Sw.after {B g : Nat} {w : World} {v : Value} {ds : List Nat} (h : Sw B w v ds) (hg : g < B) (u0 u1 : Value) (o : Obj) : Sw B (((w.setCell ⟨g, 0, none⟩ u0).setCell ⟨g, 1, none⟩ u1).alloc o) v ds :=
  (h.after2 hg u0 u1).below ((Below.refl _ _).alloc (Nat.le_refl _) _)

theorem heap_three (w : World) (o1 o2 o3 : Obj) : (((w.alloc o1).alloc o2).alloc o3).heap[w.heap.size]? = some o1 ∧ (((w.alloc o1).alloc o2).alloc o3).heap[w.heap.size + 1]? = some o2 ∧ (((w.alloc o1).alloc o2).alloc o3).heap[w.heap.size + 1 + 1]? = some o3 := by
  have h1 := heap_alloc_new w o1
  have h2 := heap_alloc_new (w.alloc o1) o2
  have h3 := heap_alloc_new ((w.alloc o1).alloc o2) o3
  simp only [World.size_alloc] at h2 h3
  refine ⟨?_, ?_, h3⟩
  · rw [Below.heap_alloc _ _ _ (by simp; omega), Below.heap_alloc _ _ _ (by simp)]
    exact h1
  · rw [Below.heap_alloc _ _ _ (by simp)]
    exact h2

theorem box3_new {w W : World} {na nb : Bool} {sa sb : Value} {x y : Nat} (ha : Sl w sa (digs x)) (hb : Sl w sb (digs y))
    (h : Below (w.heap.size + 1 + 1 + 1) (((w.alloc (.cells #[.bool na, sa] 88)).alloc (.cells #[.bool nb, sb] 88)).alloc (.cells #[.bool false, .slice none 0 0] 88)) W) : Box3 W w.heap.size na nb sa sb x y := by
  obtain ⟨h1, h2, h3⟩ := heap_three w (.cells #[.bool na, sa] 88) (.cells #[.bool nb, sb] 88) (.cells #[.bool false, .slice none 0 0] 88)
  rw [← h.block _ (by omega)] at h1 h2 h3
  have hw : Below w.heap.size w W := ((((Below.refl _ w).alloc (Nat.le_refl _) _).alloc (by simp) _).alloc (by simp; omega) _).trans (h.mono (by omega))
  refine ⟨?_, ?_, ?_, ?_, h3, ha.below hw, hb.below hw⟩
  · rw [cell_of_row W _ _ _ _ _ h1]; rfl
  · rw [cell_of_row W _ _ _ _ _ h1]; rfl
  · rw [cell_of_row W _ _ _ _ _ h2]; rfl
  · rw [cell_of_row W _ _ _ _ _ h2]; rfl

end Go.Proofs.Ytcpgoaombabfjaa.Nums

namespace Go.Proofs.Ytcpgoaombabfjaa.Nums
open Go.RowKit

end Go.Proofs.Ytcpgoaombabfjaa.Nums

namespace Go.Proofs.Ytcpgoaombabfjaa.Nums
open Go.RowKit

theorem Nu.below {w w' : World} {x : Value} {z : Int} (h : Nu w x z) (hb : Below w.heap.size w w') : Nu w' x z := by
  obtain ⟨s, e, h1, h2⟩ := h
  exact ⟨s, e, h1.below hb, h2⟩

theorem Nu.neg {w : World} {s : Value} {z : Int} (h : Sl w s (digs z.natAbs)) (hl : (digs z.natAbs).length ≤ 256) (hz : z ≠ 0) : Nu w (.agg #[.bool (!(decide (z < 0))), s]) (-z) := by
  refine ⟨s, ?_, by rw [Int.natAbs_neg]; exact h, by rw [Int.natAbs_neg]; exact hl⟩
  congr 3
  by_cases h : z < 0
  · simp [h]; omega
  · simp [h]; omega

/-- A box for a result. -/
def ResBox (W : World) (g : Nat) : Prop := W.heap[g]? = some (.cells #[.bool false, .slice none 0 0] 88 (0, 0))
theorem ResBox.lt {W : World} {g : Nat} (h : ResBox W g) : g < W.heap.size := (Array.getElem?_eq_some_iff.1 h).1
theorem ResBox.below {W W' : World} {g : Nat} (h : ResBox W g) (hb : Below W.heap.size W W') : ResBox W' g := (hb.block _ h.lt).trans h
theorem ResBox.cells {W : World} {g : Nat} (h : ResBox W g) :
    W.cell? ⟨g, 0, none⟩ = some (.bool false) ∧ W.cell? ⟨g, 1, none⟩ = some (.slice none 0 0) ∧ W.frozen? ⟨g, 0, none⟩ = false ∧ W.frozen? ⟨g, 1, none⟩ = false := by
  refine ⟨?_, ?_, frozen_of_row W _ _ _ _ h, frozen_of_row W _ _ _ _ h⟩ <;> rw [cell_of_row W _ _ _ _ _ h] <;> rfl
theorem ResBox.stored {w1 : World} {g : Nat} (h : ResBox w1 g) (u0 u1 : Value) :
    ((w1.setCell ⟨g, 0, none⟩ u0).setCell ⟨g, 1, none⟩ u1).cell? ⟨g, 0, none⟩ = some u0 ∧ ((w1.setCell ⟨g, 0, none⟩ u0).setCell ⟨g, 1, none⟩ u1).cell? ⟨g, 1, none⟩ = some u1 := by
  have h1 := heap_setCell_same w1 g 0 _ 88 u0 h
  have h2 := heap_setCell_same _ g 1 _ 88 u1 h1
  constructor <;> rw [cell_of_row _ _ _ _ _ _ h2] <;> rfl

/-- What a call returned, handed on through a box of an older number. -/
theorem NumRes.handed {w W W1 : World} {z : Int} {neg : Bool} {ao : Option Addr} {n cap g : Nat} (hB : Below w.heap.size w W) (hb : Below W.heap.size W W1) (hg : w.heap.size ≤ g) (hgW : g < W.heap.size)
    (h1 : fitsB z.natAbs = true → neg = decide (z < 0) ∧ Sw W.heap.size W1 (.slice ao n cap) (digs z.natAbs)) (h2 : fitsB z.natAbs = false → neg = false ∧ ao = none ∧ n = 0 ∧ cap = 0) (u0 u1 : Value) :
    NumRes w z (.returned (.tuple #[.agg #[.bool neg, .slice ao n cap], .bool (fitsB z.natAbs)])) ((W1.setCell ⟨g, 0, none⟩ u0).setCell ⟨g, 1, none⟩ u1) := by
  refine ⟨_, _, _, _, rfl, ((hB.trans (hb.mono hB.size)).setCell (by simpa using hg) _).setCell (by simpa using hg) _, fun hf => ?_, h2⟩
  obtain ⟨e1, e2⟩ := h1 hf
  refine ⟨e1, ?_⟩
  have := (e2.after2 hgW u0 u1).mono hB.size
  exact this

end Go.Proofs.Ytcpgoaombabfjaa.Nums
