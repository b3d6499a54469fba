/- Contracts: width, halved. -/
import Derived.StillTailTactics
import Derived.Test.YtkkbjkjmhjgaiaaN
import Derived.Test.YtkkbjkjmhjgaiaaL
namespace Go.Proofs.Ytkkbjkjmhjgaiaa
open Go.RowKit

theorem widFrom_step {x n : Nat} (h0 : 0 < x) (h : x < n) : widFrom x n = widFrom (2 * x) n := by
  rw [widFrom, dif_pos ⟨h0, h⟩]
theorem widFrom_end {x n : Nat} (h : ¬ x < n) : widFrom x n = x := by
  rw [widFrom, dif_neg (fun h2 => h h2.2)]

set_option maxRecDepth 10000 in
set_option maxHeartbeats 400000 in
theorem width_any (n : Nat) (h : n ≤ 1048576) (w : World) : Calls Try.prog 48 #[.int .i64 n] w fun e w' => e = .returned (.int .i64 (wid n : Nat)) ∧ w' = w := by
  have HW : Hid (wid n = widFrom 1 n) := rfl
  obtain ⟨r, hr⟩ : ∃ r, r = wid n := ⟨_, rfl⟩
  rw [← hr] at HW ⊢
  clear hr
  go_enter Try.func48, Try.ntmps48
  go_wp2
  go_loop [3] (fun v => ∃ x : Nat, 0 < x ∧ x ≤ 2097152 ∧ v = .int .i64 (x : Nat) ∧ r = widFrom x n) (fun v => n - (intOf v).toNat)
  case atStart => exact ⟨1, by omega, by omega, rfl, HW.out⟩
  case round =>
    obtain ⟨x, h0, h1, rfl, hx⟩ := hrel
    by_cases hn : x < n
    · have hs := hx.trans (widFrom_step h0 hn)
      have HS := Lib.hid hs
      clear hx hs
      go_wp2
      go_round
      case rel => exact ⟨2 * x, by omega, by omega, by go_num, HS.out⟩
      case measure => simp [intOf]; omega
    · have hs := hx.trans (widFrom_end hn)
      have HS := Lib.hid hs
      clear hx hs
      go_wp2
      go_ret
      exact ⟨by rw [HS.out]; rfl, rfl⟩

/-- Digests as cells, one after the other. -/
def flat (L : List Dg) : List Value := (L.map chars).flatten

/-- A slice that reads as digests. -/
structure Dx (w : World) (v : Value) (L : List Dg) : Prop where
  all : All8 L
  is : ∃ b off cap cs fr, v = .slice (some ⟨b, off, none⟩) L.length cap ∧ L.length ≤ cap ∧ w.heap[b]? = some (.cells cs 52 fr) ∧ ∀ j, j < L.length → ∀ i, i < 8 → w.cell? ⟨b, off + j * 8 + i, none⟩ = some (.int .u8 ((L.getD j []).getD i 0).toNat)

theorem Dx.below {w w' : World} {v : Value} {L : List Dg} (h : Dx w v L) (hb : Below w.heap.size w w') : Dx w' v L := by
  obtain ⟨ha, b, off, cap, cs, fr, hv, hc, hh, hl⟩ := h
  exact ⟨ha, b, off, cap, cs, fr, hv, hc, (hb.block b (Array.getElem?_eq_some_iff.1 hh).1).trans hh, fun j hj i hi => cell_later hb (hl j hj i hi)⟩

theorem Try.info52 : (Try.prog.info? 52).map (fun i => (i.zero, i.size, i.bytes)) = some (some (.agg #[.int .u8 0, .int .u8 0, .int .u8 0, .int .u8 0, .int .u8 0, .int .u8 0, .int .u8 0, .int .u8 0]), 8, 8) := by kernel_rfl


/-- A row of digests. -/
def RowD (W : World) (g : Nat) (L : List Dg) : Prop := ∃ cs, W.heap[g]? = some (.cells cs 52 (0, 0)) ∧ cs.size = L.length * 8 ∧ ∀ j, j < L.length → ∀ i, i < 8 → cs[j * 8 + i]? = some (.int .u8 ((L.getD j []).getD i 0).toNat)

theorem RowD.below {B g : Nat} {w W : World} {L : List Dg} (h : RowD w g L) (hb : Below B w W) (hg : g < B) : RowD W g L := by
  obtain ⟨cs, h1, h2, h3⟩ := h
  exact ⟨cs, (hb.block g hg).trans h1, h2, h3⟩

theorem RowD.lt {g : Nat} {w : World} {L : List Dg} (h : RowD w g L) : g < w.heap.size := by
  obtain ⟨cs, h1, _⟩ := h
  exact (Array.getElem?_eq_some_iff.1 h1).1

theorem RowD.dx {W : World} {g n : Nat} {L : List Dg} (h : RowD W g L) (hn : n = L.length) (ha : All8 L) : Dx W (.slice (some ⟨g, 0, none⟩) n n) L := by
  subst hn
  obtain ⟨cs, h1, h2, h3⟩ := h
  refine ⟨ha, g, 0, _, cs, _, rfl, Nat.le_refl _, h1, fun j hj i hi => ?_⟩
  rw [cell_of_row _ _ _ _ _ _ h1, Nat.zero_add]
  exact h3 j hj i hi

theorem RowD.make (W : World) (m : Nat) : RowD (W.alloc (.cells (madeCells (Value.agg #[.int .u8 0, .int .u8 0, .int .u8 0, .int .u8 0, .int .u8 0, .int .u8 0, .int .u8 0, .int .u8 0]).cells (m * 8)) 52)) W.heap.size (List.replicate m zero8) := by
  refine ⟨_, heap_alloc_new _ _, by simp [size_madeCells], fun j hj i hi => ?_⟩
  have hj' : j < m := by simpa using hj
  have e : (List.replicate m zero8).getD j [] = zero8 := by simp [List.getD, hj']
  rw [e]
  have h2 : j * 8 + i < m * 8 := by omega
  have h3 : (j * 8 + i) % 8 = i := by omega
  have ez : (Value.agg #[.int .u8 0, .int .u8 0, .int .u8 0, .int .u8 0, .int .u8 0, .int .u8 0, .int .u8 0, .int .u8 0]).cells = #[.int .u8 0, .int .u8 0, .int .u8 0, .int .u8 0, .int .u8 0, .int .u8 0, .int .u8 0, .int .u8 0] := rfl
  rw [ez, madeCells, Array.getElem?_map, Array.getElem?_range, if_pos h2]
  show some (_ : Value) = _
  rw [show (#[Value.int .u8 0, .int .u8 0, .int .u8 0, .int .u8 0, .int .u8 0, .int .u8 0, .int .u8 0, .int .u8 0]).size = 8 from rfl]
  show some ((#[Value.int .u8 0, .int .u8 0, .int .u8 0, .int .u8 0, .int .u8 0, .int .u8 0, .int .u8 0, .int .u8 0])[(j * 8 + i) % 8]!) = _
  rw [h3]
  match i, hi with
  | 0, _ => rfl
  | 1, _ => rfl
  | 2, _ => rfl
  | 3, _ => rfl
  | 4, _ => rfl
  | 5, _ => rfl
  | 6, _ => rfl
  | 7, _ => rfl

/-- Eight values, stored from q on. -/
def put8o (W : World) (g q : Nat) (a0 a1 a2 a3 a4 a5 a6 a7 : Int) : World :=
  (((((((W.setCell ⟨g, q, none⟩ (.int .u8 a0)).setCell ⟨g, q + 1, none⟩ (.int .u8 a1)).setCell ⟨g, q + 2, none⟩ (.int .u8 a2)).setCell ⟨g, q + 3, none⟩ (.int .u8 a3)).setCell ⟨g, q + 4, none⟩ (.int .u8 a4)).setCell ⟨g, q + 5, none⟩ (.int .u8 a5)).setCell ⟨g, q + 6, none⟩ (.int .u8 a6)).setCell ⟨g, q + 7, none⟩ (.int .u8 a7)

theorem put8o_below {B g q : Nat} {w W : World} {a0 a1 a2 a3 a4 a5 a6 a7 : Int} (h : Below B w W) (hg : B ≤ g) : Below B w (put8o W g q a0 a1 a2 a3 a4 a5 a6 a7) :=
  (((((((h.setCell hg _).setCell hg _).setCell hg _).setCell hg _).setCell hg _).setCell hg _).setCell hg _).setCell hg _

theorem dval_at {d : List UInt8} {a0 a1 a2 a3 a4 a5 a6 a7 : Int} (hd : dval d = .agg #[.int .u8 a0, .int .u8 a1, .int .u8 a2, .int .u8 a3, .int .u8 a4, .int .u8 a5, .int .u8 a6, .int .u8 a7]) :
    d.length = 8 ∧ a0 = (d.getD 0 0).toNat ∧ a1 = (d.getD 1 0).toNat ∧ a2 = (d.getD 2 0).toNat ∧ a3 = (d.getD 3 0).toNat ∧ a4 = (d.getD 4 0).toNat ∧ a5 = (d.getD 5 0).toNat ∧ a6 = (d.getD 6 0).toNat ∧ a7 = (d.getD 7 0).toNat := by
  unfold dval at hd
  injection hd with h
  have h2 := congrArg Array.toList h
  simp only [List.toList_toArray] at h2
  have hl : d.length = 8 := by have := congrArg List.length h2; simpa using this
  match d, hl with
  | [b0, b1, b2, b3, b4, b5, b6, b7], _ =>
    simp at h2
    obtain ⟨h0, h1, h2, h3, h4, h5, h6, h7⟩ := h2
    exact ⟨rfl, h0.symm, h1.symm, h2.symm, h3.symm, h4.symm, h5.symm, h6.symm, h7.symm⟩

set_option maxHeartbeats 1000000 in
theorem RowD.put {W : World} {g k q : Nat} {L : List Dg} {d : Dg} {a0 a1 a2 a3 a4 a5 a6 a7 : Int} (h : RowD W g L) (hk : k < L.length) (hq : q = k * 8) (hd : dval d = .agg #[.int .u8 a0, .int .u8 a1, .int .u8 a2, .int .u8 a3, .int .u8 a4, .int .u8 a5, .int .u8 a6, .int .u8 a7]) :
    RowD (put8o W g q a0 a1 a2 a3 a4 a5 a6 a7) g (L.set k d) := by
  subst hq
  obtain ⟨hl, e0, e1, e2, e3, e4, e5, e6, e7⟩ := dval_at hd
  obtain ⟨cs, h1, h2, h3⟩ := h
  have s0 := heap_setCell_same W g (k * 8) cs 52 (.int .u8 a0) h1
  have s1 := heap_setCell_same _ g (k * 8 + 1) _ 52 (.int .u8 a1) s0
  have s2 := heap_setCell_same _ g (k * 8 + 2) _ 52 (.int .u8 a2) s1
  have s3 := heap_setCell_same _ g (k * 8 + 3) _ 52 (.int .u8 a3) s2
  have s4 := heap_setCell_same _ g (k * 8 + 4) _ 52 (.int .u8 a4) s3
  have s5 := heap_setCell_same _ g (k * 8 + 5) _ 52 (.int .u8 a5) s4
  have s6 := heap_setCell_same _ g (k * 8 + 6) _ 52 (.int .u8 a6) s5
  have s7 := heap_setCell_same _ g (k * 8 + 7) _ 52 (.int .u8 a7) s6
  refine ⟨_, s7, by simp [h2], fun j hj i hi => ?_⟩
  have hj' : j < L.length := by simpa using hj
  have ho := h3 j hj' i hi
  have hsz : j * 8 + i < cs.size := by omega
  by_cases hjk : j = k
  · subst hjk
    rw [show (L.set j d).getD j [] = d by simp [List.getD, hj']]
    match i, hi with
    | 0, _ => simp [Array.getElem?_setIfInBounds, hsz, e0]; omega
    | 1, _ => simp [Array.getElem?_setIfInBounds, hsz, e1]
    | 2, _ => simp [Array.getElem?_setIfInBounds, hsz, e2]
    | 3, _ => simp [Array.getElem?_setIfInBounds, hsz, e3]
    | 4, _ => simp [Array.getElem?_setIfInBounds, hsz, e4]
    | 5, _ => simp [Array.getElem?_setIfInBounds, hsz, e5]
    | 6, _ => simp [Array.getElem?_setIfInBounds, hsz, e6]
    | 7, _ => simp [Array.getElem?_setIfInBounds, hsz, e7]
  · rw [getD_set_ne' (fun e => hjk e.symm), ← ho]
    rw [Array.getElem?_setIfInBounds_ne (by omega), Array.getElem?_setIfInBounds_ne (by omega), Array.getElem?_setIfInBounds_ne (by omega), Array.getElem?_setIfInBounds_ne (by omega), Array.getElem?_setIfInBounds_ne (by omega), Array.getElem?_setIfInBounds_ne (by omega), Array.getElem?_setIfInBounds_ne (by omega), Array.getElem?_setIfInBounds_ne (by omega)]

/-- The eight cells of an element. -/
theorem RowD.cells {W : World} {g k q : Nat} {L : List Dg} (h : RowD W g L) (hk : k < L.length) (hq : q = k * 8) :
    ∃ o0 o1 o2 o3 o4 o5 o6 o7 : Int, W.cell? ⟨g, q, none⟩ = some (.int .u8 o0) ∧ W.cell? ⟨g, q + 1, none⟩ = some (.int .u8 o1) ∧ W.cell? ⟨g, q + 2, none⟩ = some (.int .u8 o2) ∧ W.cell? ⟨g, q + 3, none⟩ = some (.int .u8 o3) ∧
    W.cell? ⟨g, q + 4, none⟩ = some (.int .u8 o4) ∧ W.cell? ⟨g, q + 5, none⟩ = some (.int .u8 o5) ∧ W.cell? ⟨g, q + 6, none⟩ = some (.int .u8 o6) ∧ W.cell? ⟨g, q + 7, none⟩ = some (.int .u8 o7) := by
  subst hq
  obtain ⟨cs, h1, h2, h3⟩ := h
  have e := fun i hi => (cell_of_row W g (k * 8 + i) _ _ _ h1).trans (h3 k hk i hi)
  exact ⟨_, _, _, _, _, _, _, _, e 0 (by omega), e 1 (by omega), e 2 (by omega), e 3 (by omega), e 4 (by omega), e 5 (by omega), e 6 (by omega), e 7 (by omega)⟩

theorem RowD.free {W : World} {g : Nat} {L : List Dg} (h : RowD W g L) (q : Nat) : W.frozen? ⟨g, q, none⟩ = false := by
  obtain ⟨cs, h1, _⟩ := h
  exact frozen_of_row _ _ _ _ _ h1

/-- An element of a slice that reads as digests: its address, its eight cells. -/
theorem dx_cells {W : World} {b off k p : Nat} {L : List Dg} {a0 a1 a2 a3 a4 a5 a6 a7 : Int} (h : ∀ j, j < L.length → ∀ i, i < 8 → W.cell? ⟨b, off + j * 8 + i, none⟩ = some (.int .u8 ((L.getD j []).getD i 0).toNat)) (hk : k < L.length) (hp : p = off + k * 8)
    (hd : dval (L.getD k []) = .agg #[.int .u8 a0, .int .u8 a1, .int .u8 a2, .int .u8 a3, .int .u8 a4, .int .u8 a5, .int .u8 a6, .int .u8 a7]) :
    W.cell? ⟨b, p, none⟩ = some (.int .u8 a0) ∧ W.cell? ⟨b, p + 1, none⟩ = some (.int .u8 a1) ∧ W.cell? ⟨b, p + 2, none⟩ = some (.int .u8 a2) ∧ W.cell? ⟨b, p + 3, none⟩ = some (.int .u8 a3) ∧
    W.cell? ⟨b, p + 4, none⟩ = some (.int .u8 a4) ∧ W.cell? ⟨b, p + 5, none⟩ = some (.int .u8 a5) ∧ W.cell? ⟨b, p + 6, none⟩ = some (.int .u8 a6) ∧ W.cell? ⟨b, p + 7, none⟩ = some (.int .u8 a7) := by
  subst hp
  obtain ⟨hl, e0, e1, e2, e3, e4, e5, e6, e7⟩ := dval_at hd
  rw [e0, e1, e2, e3, e4, e5, e6, e7]
  exact ⟨h k hk 0 (by omega), h k hk 1 (by omega), h k hk 2 (by omega), h k hk 3 (by omega), h k hk 4 (by omega), h k hk 5 (by omega), h k hk 6 (by omega), h k hk 7 (by omega)⟩

theorem run_at57 (b off n cap k : Nat) (h : k < n) (z : Int) (hz : z = (k : Int)) (p : Nat) (hp : p = off + k * 8) (W : World) : (Instr.indexAt 57 (.slice (some ⟨b, off, none⟩) n cap) (.int .i64 z)).run Try.prog W = .ok (.pointer (some ⟨b, p, none⟩)) W := by
  subst hz hp
  have h1 : (0 : Int) ≤ k ∧ (k : Int) < n := by omega
  have hs : (Go.sizeOf 52).run Try.prog W = .ok 8 W := by
    obtain ⟨i, hi, hz0, hz1, hz2⟩ := info_parts Try.info52
    simp [Go.sizeOf, typeInfo, hi, hz1]
  simp [Instr.indexAt, run_underlying Try.underlying57, asIntOf, hs, h, Addr.add_lit]


/-- What is in the next level behind k rounds. -/
def hv (L : List Dg) (m k : Nat) : List Dg := (halveD L).take k ++ List.replicate (m - k) zero8

theorem hv_len {L : List Dg} {m : Nat} (h : L.length = 2 * m) {k : Nat} (hk : k ≤ m) : (hv L m k).length = m := by
  simp [hv, halveD_len, h]; omega

theorem hv_zero (L : List Dg) (m : Nat) : hv L m 0 = List.replicate m zero8 := by simp [hv]
theorem hv_end {L : List Dg} {m : Nat} (h : L.length = 2 * m) : hv L m m = halveD L := by
  unfold hv
  rw [List.take_of_length_le (by rw [halveD_len]; omega), Nat.sub_self]
  simp
theorem hv_set {L : List Dg} {m : Nat} (h : L.length = 2 * m) {k : Nat} (hk : k < m) : (hv L m k).set k (nodeD (L.getD (2 * k) []) (L.getD (2 * k + 1) [])) = hv L m (k + 1) := by
  have hl : (halveD L).length = m := by rw [halveD_len]; omega
  have hkl : k < (halveD L).length := by omega
  rw [← halveD_get L k (by omega), show (halveD L).getD k [] = (halveD L)[k] by simp [List.getD, hkl]]
  unfold hv
  rw [List.set_append_right _ _ (by simp; omega), List.length_take, hl, show k - min k m = 0 by omega, show m - k = (m - (k + 1)) + 1 by omega, List.replicate_succ, List.set_cons_zero]
  rw [List.take_add_one (i := k), List.getElem?_eq_getElem hkl, List.append_assoc]
  rfl

structure HvI (w : World) (L : List Dg) (m k : Nat) (wr : World) : Prop where
  row : RowD wr w.heap.size (hv L m k)
  bl : Below w.heap.size w wr

set_option maxRecDepth 10000 in
set_option maxHeartbeats 2000000 in
/-- halved -/
theorem halved_any {w : World} {v : Value} {L : List Dg} (hX : Dx w v L) (m : Nat) (hL : L.length = 2 * m) (hm : m ≤ 1048576) : Calls Try.prog 47 #[v] w fun e w' => ∃ v', e = .returned v' ∧ Dx w' v' (halveD L) ∧ Below w.heap.size w w' := by
  obtain ⟨ha, b, off, cap, cs, fr, rfl, hcap, hblk, hcl⟩ := hX
  obtain ⟨i, hi, hz0, hz1, hz2⟩ := info_parts Try.info52
  have hlt : b < w.heap.size := (Array.getElem?_eq_some_iff.1 hblk).1
  rw [hL] at hcap ⊢
  have h2 : (((2 * m : Nat) : Int) / 2) = (m : Int) := by omega
  have hmk := fun W => run_make (P := Try.prog) W 57 52 i _ Try.underlying57 hi hz0 .i64 .i64 (m : Int) (m : Int) (by omega) (Int.le_refl _) (by rw [hz2]; omega) (by omega)
  simp only [Int.toNat_natCast, hz1] at hmk
  have hr0 := RowD.make w m
  have hb0 : Below w.heap.size w (w.alloc (.cells (madeCells (Value.agg #[.int .u8 0, .int .u8 0, .int .u8 0, .int .u8 0, .int .u8 0, .int .u8 0, .int .u8 0, .int .u8 0]).cells (m * 8)) 52)) := Below.alloc (Below.refl _ _) (Nat.le_refl _) _
  obtain ⟨W1, hW1⟩ : ∃ W1, W1 = w.alloc (.cells (madeCells (Value.agg #[.int .u8 0, .int .u8 0, .int .u8 0, .int .u8 0, .int .u8 0, .int .u8 0, .int .u8 0, .int .u8 0]).cells (m * 8)) 52) := ⟨_, rfl⟩
  have hmk1 := hmk w
  rw [← hW1] at hmk1 hr0 hb0
  rw [← hv_zero L m] at hr0
  have HI0 : Hid (HvI w L m 0 W1) := Lib.hid ⟨hr0, hb0⟩
  have HA := Lib.hid ha
  have HCL : Hid (∀ W, Below w.heap.size w W → ∀ j, j < L.length → ∀ i, i < 8 → W.cell? ⟨b, off + j * 8 + i, none⟩ = some (.int .u8 ((L.getD j []).getD i 0).toNat)) := fun W hW j hj i hi => (hW.cell (p := ⟨b, off + j * 8 + i, none⟩) hlt).trans (hcl j hj i hi)
  have HL := Lib.hid hL
  have HN : Hid (∀ (a b : Dg), a.length = 8 → b.length = 8 → ∀ W, Calls Try.prog 43 #[dval a, dval b] W fun e w' => e = .returned (dval (nodeD a b)) ∧ Below W.heap.size W w') := fun a b ha hb W => nodeOf_any a b ha hb W
  have HP : Hid (∃ B : Nat, B = w.heap.size) := Lib.hid ⟨_, rfl⟩
  clear hmk hi hz0 hz1 hz2 hW1 hr0 hb0 ha hcl hL hblk
  go_enter Try.func47, Try.ntmps47
  go_wp2
  go_loopw [11] (fun iv wr => ∃ k : Nat, k ≤ m ∧ iv = .int .i64 (k : Nat) ∧ Hid (HvI w L m k wr)) (fun iv _ => m - (intOf iv).toNat)
  case atStart => exact ⟨0, by omega, rfl, HI0⟩
  case round =>
    obtain ⟨k, hk, rfl, hJ⟩ := hrel
    by_cases hkm : k = m
    · subst hkm
      go_wp2
      go_ret
      exact ⟨_, rfl, RowD.dx (by rw [← hv_end HL.out]; exact hJ.out.row) (by rw [halveD_len, HL.out]; omega) (all8_halve L), hJ.out.bl⟩
    · have hkm2 : k < m := by omega
      have l1 : 2 * k < L.length := by rw [HL.out]; omega
      have l2 : 2 * k + 1 < L.length := by rw [HL.out]; omega
      have g1 : (L.getD (2 * k) []).length = 8 := by
        rw [show L.getD (2 * k) [] = L[2 * k] by simp [List.getD, l1]]
        exact HA.out _ (List.getElem_mem l1)
      have g2 : (L.getD (2 * k + 1) []).length = 8 := by
        rw [show L.getD (2 * k + 1) [] = L[2 * k + 1] by simp [List.getD, l2]]
        exact HA.out _ (List.getElem_mem l2)
      obtain ⟨a0, a1, a2, a3, a4, a5, a6, a7, ea⟩ := dval_eight g1
      obtain ⟨b0, b1, b2, b3, b4, b5, b6, b7, eb⟩ := dval_eight g2
      obtain ⟨d0, d1, d2, d3, d4, d5, d6, d7, ed⟩ := dval_eight (d := nodeD (L.getD (2 * k) []) (L.getD (2 * k + 1) [])) (dig_len _)
      have HNk := Lib.hid (HN.out _ _ g1 g2)
      rw [ea, eb, ed] at HNk
      obtain ⟨p, hp⟩ : ∃ p, p = off + 2 * k * 8 := ⟨_, rfl⟩
      obtain ⟨q, hq⟩ : ∃ q, q = off + (2 * k + 1) * 8 := ⟨_, rfl⟩
      obtain ⟨t, ht⟩ : ∃ t, t = k * 8 := ⟨_, rfl⟩
      have hi1 := run_at57 b off (2 * m) cap (2 * k) (by omega) (2 * (k : Int)) (by omega) p hp
      have hi2 := run_at57 b off (2 * m) cap (2 * k + 1) (by omega) (2 * (k : Int) + 1) (by omega) q hq
      have hi3 := run_at57 w.heap.size 0 m m k (by omega) (k : Int) rfl t (by omega)
      have HK : Hid (∀ w', Below w.heap.size w w' → w'.cell? ⟨b, p, none⟩ = some (.int .u8 a0) ∧ w'.cell? ⟨b, p + 1, none⟩ = some (.int .u8 a1) ∧ w'.cell? ⟨b, p + 2, none⟩ = some (.int .u8 a2) ∧ w'.cell? ⟨b, p + 3, none⟩ = some (.int .u8 a3) ∧ w'.cell? ⟨b, p + 4, none⟩ = some (.int .u8 a4) ∧ w'.cell? ⟨b, p + 5, none⟩ = some (.int .u8 a5) ∧ w'.cell? ⟨b, p + 6, none⟩ = some (.int .u8 a6) ∧ w'.cell? ⟨b, p + 7, none⟩ = some (.int .u8 a7) ∧ w'.cell? ⟨b, q, none⟩ = some (.int .u8 b0) ∧ w'.cell? ⟨b, q + 1, none⟩ = some (.int .u8 b1) ∧ w'.cell? ⟨b, q + 2, none⟩ = some (.int .u8 b2) ∧ w'.cell? ⟨b, q + 3, none⟩ = some (.int .u8 b3) ∧ w'.cell? ⟨b, q + 4, none⟩ = some (.int .u8 b4) ∧ w'.cell? ⟨b, q + 5, none⟩ = some (.int .u8 b5) ∧ w'.cell? ⟨b, q + 6, none⟩ = some (.int .u8 b6) ∧ w'.cell? ⟨b, q + 7, none⟩ = some (.int .u8 b7)) := fun w' hb' => by
        obtain ⟨c0, c1, c2, c3, c4, c5, c6, c7⟩ := dx_cells (HCL.out _ hb') l1 hp ea
        obtain ⟨e0, e1, e2, e3, e4, e5, e6, e7⟩ := dx_cells (HCL.out _ hb') l2 hq eb
        exact ⟨c0, c1, c2, c3, c4, c5, c6, c7, e0, e1, e2, e3, e4, e5, e6, e7⟩
      obtain ⟨c0, c1, c2, c3, c4, c5, c6, c7, e0, e1, e2, e3, e4, e5, e6, e7⟩ := HK.out _ hJ.out.bl
      have HB := Lib.hid hJ.out.bl
      have HRW := Lib.hid hJ.out.row
      have hw1 : IntKind.i64.wrap (2 * (k : Int)) = 2 * (k : Int) := by rw [IntKind.wrap_i64]; omega
      have hw2 : IntKind.i64.wrap (2 * (k : Int) + 1) = 2 * (k : Int) + 1 := by rw [IntKind.wrap_i64]; omega
      have HED := Lib.hid ed
      have HT := Lib.hid ht
      clear hp hq ht ea eb ed g1 g2 l1 l2 HN HCL HA
      clear hJ
      go_wp2_with fail
      go_region_held3 (fun w' => w'.cell? ⟨b, p, none⟩ = some (.int .u8 a0) ∧ w'.cell? ⟨b, p + 1, none⟩ = some (.int .u8 a1) ∧ w'.cell? ⟨b, p + 2, none⟩ = some (.int .u8 a2) ∧ w'.cell? ⟨b, p + 3, none⟩ = some (.int .u8 a3) ∧ w'.cell? ⟨b, p + 4, none⟩ = some (.int .u8 a4) ∧ w'.cell? ⟨b, p + 5, none⟩ = some (.int .u8 a5) ∧ w'.cell? ⟨b, p + 6, none⟩ = some (.int .u8 a6) ∧ w'.cell? ⟨b, p + 7, none⟩ = some (.int .u8 a7) ∧ w'.cell? ⟨b, q, none⟩ = some (.int .u8 b0) ∧ w'.cell? ⟨b, q + 1, none⟩ = some (.int .u8 b1) ∧ w'.cell? ⟨b, q + 2, none⟩ = some (.int .u8 b2) ∧ w'.cell? ⟨b, q + 3, none⟩ = some (.int .u8 b3) ∧ w'.cell? ⟨b, q + 4, none⟩ = some (.int .u8 b4) ∧ w'.cell? ⟨b, q + 5, none⟩ = some (.int .u8 b5) ∧ w'.cell? ⟨b, q + 6, none⟩ = some (.int .u8 b6) ∧ w'.cell? ⟨b, q + 7, none⟩ = some (.int .u8 b7))
        (first | (with_reducible exact HK.out _ hbw) | (with_reducible exact HK.out _ hbp) | (refine HK.out _ (HB.out.trans (Below.mono (?_ : Below wr.heap.size wr _) HB.out.size)); (go_grown; done)))
        ((first | (go_at_call 43; refine (HNk.out _).mono ?_; rintro e w1 ⟨rfl, hb⟩; have hbw : Below w.heap.size w w1 := (HB.out.trans (Below.mono (by go_grown) HB.out.size)).trans (hb.mono HB.out.size); have hbp : Below w.heap.size w ((((((((w1.setCell ⟨w.heap.size, t, none⟩ (.int .u8 d0)).setCell ⟨w.heap.size, t + 1, none⟩ (.int .u8 d1)).setCell ⟨w.heap.size, t + 2, none⟩ (.int .u8 d2)).setCell ⟨w.heap.size, t + 3, none⟩ (.int .u8 d3)).setCell ⟨w.heap.size, t + 4, none⟩ (.int .u8 d4)).setCell ⟨w.heap.size, t + 5, none⟩ (.int .u8 d5)).setCell ⟨w.heap.size, t + 6, none⟩ (.int .u8 d6)).setCell ⟨w.heap.size, t + 7, none⟩ (.int .u8 d7)) := put8o_below hbw (Nat.le_refl _); have HR1 := Lib.hid (HRW.out.below (Below.trans (by go_grown) hb) HRW.out.lt); clear hb; obtain ⟨o0, o1, o2, o3, o4, o5, o6, o7, k0, k1, k2, k3, k4, k5, k6, k7⟩ := HR1.out.cells (by rw [hv_len HL.out hk]; exact hkm2) HT.out; have f0 := HR1.out.free t; have f1 := HR1.out.free (t + 1); have f2 := HR1.out.free (t + 2); have f3 := HR1.out.free (t + 3); have f4 := HR1.out.free (t + 4); have f5 := HR1.out.free (t + 5); have f6 := HR1.out.free (t + 6); have f7 := HR1.out.free (t + 7))))
      go_wp2
      exact ⟨⟨k + 1, by omega, by go_num, Lib.hid ⟨by rw [← hv_set HL.out hkm2]; exact HR1.out.put (by rw [hv_len HL.out hk]; exact hkm2) HT.out HED.out, hbp⟩⟩, by simp [intOf]; omega⟩

end Go.Proofs.Ytkkbjkjmhjgaiaa
