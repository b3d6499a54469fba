/- compare. No condition but that the slices read as digits without zeros at the end. -/
import Derived.Test.YtdgmjmckeeeljaaGreatDoorF
namespace Go.Proofs.YtdgmjmckeeeljaaGreatDoor
open Go.RowKit Go.Shelf
attribute [local go_sem] Oper.semAt_some

set_option maxRecDepth 100000 in
set_option maxHeartbeats 2000000 in
theorem compare_eq_in (F : Fence) (n : Nat) (h68 : F.fn 68) (h58 : F.fn 58) (h90 : F.fn 90) (h99 : F.fn 99) (hc99 : ∀ k x y w, CallsIn F k Tryz.prog 99 #[.int .u32 (x : Nat), .int .u32 (y : Nat)] w fun e w' => e = .returned (.int .i64 (cmpN x y)) ∧ w' = w) (hro : F.round = none) (hn : 4 ≤ n) {w : World} {aa ab : Option Addr} {ca cb : Nat} {xs ys : List Nat} (ha : Sl w (.slice aa xs.length ca) xs) (hb : Sl w (.slice ab xs.length cb) ys) (hla : xs.length ≤ 140737488351232) (Z : Int)
    (hZ0 : (∀ j, j < xs.length → xs.getD j 0 = ys.getD j 0) → Z = 0) (hZ1 : ∀ k, k < xs.length → xs.getD k 0 ≠ ys.getD k 0 → (∀ j, k < j → j < xs.length → xs.getD j 0 = ys.getD j 0) → Z = cmpN (xs.getD k 0) (ys.getD k 0)) :
    CallsIn F n Tryz.prog 68 #[.slice aa xs.length ca, .slice ab xs.length cb] w fun e w' => e = .returned (.int .i64 Z) ∧ Below w.heap.size w w' := by
  have h1 : 1 ≤ n := by omega
  refine callsIn_of_wp_marks Tryz.func68 rfl h68 ?_ hro
  simp only [Tryz.ntmps68, List.size_toArray, List.length_cons, List.length_nil, Nat.reduceAdd, Nat.reduceSub, Array.replicate_succ, Array.replicate_zero, List.push_toArray, List.append_toArray, List.nil_append, List.cons_append]
  gi_wp2_with (gi_at_call 58; refine (backward_in F (n - 1) h58 hro _ _ _ _).mono ?_; rintro e w' ⟨rfl, rfl⟩)
  have bY := Boxed.new w 25 (.slice ab xs.length cb)
  have bR := Boxed.new (w.alloc (.cells #[.slice ab xs.length cb] 25)) 3 (.int .i64 0)
  have bN := Boxed.new ((w.alloc (.cells #[.slice ab xs.length cb] 25)).alloc (.cells #[.int .i64 0] 3)) 25 (.slice aa xs.length ca)
  simp only [World.size_alloc] at bR bN
  have hB0 : Below w.heap.size w (((w.alloc (.cells #[.slice ab xs.length cb] 25)).alloc (.cells #[.int .i64 0] 3)).alloc (.cells #[.slice aa xs.length ca] 25)) := (((Below.refl _ w).alloc (Nat.le_refl _) _).alloc (by simp) _).alloc (by simp; omega) _
  have hyl : xs.length = ys.length := hb.size
  have HYL := Lib.hid hyl
  clear hyl
  refine wpIn_rangeFunc_ownG hro h1 (gf := 90) (lb := #[.pointer (some ⟨w.heap.size + 1 + 1, 0, none⟩)]) rfl h90 (enters_of Tryz.func90 (by kernel_rfl) rfl)
    (back_stops F (n - 1) h90 hro (by omega) (w.heap.size + 1 + 1) _ xs (by omega) _ (by simp) bN.cell (ha.below hB0)) Same2.trans ?hKb (Below.refl _ _) (fun _ => rfl)
    (fun pre W => ((∀ p ∈ pre, dv p = ys.getD (ix xs.length p) 0) ∧ (W.cell? ⟨w.heap.size, 0, none⟩ = some (.slice ab xs.length cb) ∧ W.cell? ⟨w.heap.size + 1, 0, none⟩ = some (.int .i64 0)) ∧ W.frozen? ⟨w.heap.size + 1, 0, none⟩ = false) ∧ Below w.heap.size w W)
    (fun c pre W => (c = .ret ∧ ∃ ini last, pre = ini ++ [last] ∧ (∀ p ∈ ini, dv p = ys.getD (ix xs.length p) 0) ∧ dv last ≠ ys.getD (ix xs.length last) 0 ∧ W.cell? ⟨w.heap.size + 1, 0, none⟩ = some (.int .i64 (cmpN (dv last) (ys.getD (ix xs.length last) 0)))) ∧ Below w.heap.size w W)
    (OwnFrom.and (Own.from (fun s A B row hs hg hr => ⟨hs.1, ⟨cell_kept hs.2.1.1 hg hr, cell_kept hs.2.1.2 hg hr⟩, (frozen_kept hs.2.1.2 hg hr).trans hs.2.2⟩) _) (ownFrom_below (Nat.le_refl _) (by simp; omega)))
    (fun c => OwnFrom.and (Own.from (fun s A B row hs hg hr => by obtain ⟨hc, ini, last, e1, e2, e3, e4⟩ := hs; exact ⟨hc, ini, last, e1, e2, e3, cell_kept e4 hg hr⟩) _) (ownFrom_below (Nat.le_refl _) (by simp; omega)))
    ⟨⟨by simp, ⟨((bY.alloc _).alloc _).cell, (bR.alloc _).cell⟩, (bR.alloc _).frozen⟩, hB0⟩
    (fun x => { tmps := #[.slice aa xs.length ca, .slice ab xs.length cb, undef, .pointer (some ⟨w.heap.size, 0, none⟩), .pointer (some ⟨w.heap.size + 1, 0, none⟩), .int .i64 (ix xs.length x : Nat), .int .u32 (dv x : Nat), .slice aa xs.length ca, .int .i64 xs.length, .slice ab xs.length cb, .int .i64 xs.length, .bool false, undef, undef, undef, undef, undef, .slice aa xs.length ca, .func (.func 90) #[] #[.pointer (some ⟨w.heap.size + 1 + 1, 0, none⟩)], .int .i64 (ix xs.length x : Nat), .int .u32 (dv x : Nat), undef, undef, undef, undef, undef, undef, undef, undef, undef, undef, undef, undef], defers := [] }) ?assign ?body ?done ?stop
  case hKb => exact same2_b ((ha.below hB0).blockOf_lt (by simp)) (by simp)
  case assign =>
    intro l x W K hK
    gi_wp2
    exact hK
  case body =>
    rintro l pre x W ⟨⟨hp, ⟨hcy, hcr⟩, hfr⟩, hB⟩ hlen
    have hpos : 0 < xs.length := by omega
    have h3 : 1 ≤ n - 1 - 1 := by omega
    have hix := ix_lt hpos x
    have hdv := dv_lt x
    obtain ⟨b', off', rfl, hcap', hbs', hcl'⟩ := hb.at (by omega)
    have hcy' := hcl'.at hB hbs' (ix xs.length x) (by rw [← HYL.out]; exact hix)
    have HP := Lib.hid hp
    have HCL := Lib.hid hcl'
    clear hp hcl'
    obtain ⟨i, hi⟩ : ∃ i, i = ix xs.length x := ⟨_, rfl⟩
    obtain ⟨d, hd⟩ : ∃ d, d = dv x := ⟨_, rfl⟩
    obtain ⟨y, hy⟩ : ∃ y, y = ys.getD i 0 := ⟨_, rfl⟩
    rw [← hi, ← hy] at hcy'
    rw [← hi] at hix
    rw [← hd] at hdv
    rw [← hi, ← hd]
    have HI := Lib.hid hi
    have HD := Lib.hid hd
    have HY := Lib.hid hy
    clear hi hd hy
    by_cases hxy : d = y
    · subst hxy
      gi_wp2
      exact ⟨KeepsFrom.refl _ _, Same2.refl _, ⟨fun p hp' => (List.mem_append.1 hp').elim (HP.out p) (fun e => by simp only [List.mem_singleton] at e; subst e; rw [← HI.out, ← HD.out]; exact HY.out), ⟨hcy, hcr⟩, hfr⟩, hB⟩
    · have h2 : ((d : Int) != y) = true := by simp; omega
      gi_wp2_with (gi_at_call 99; refine (CallsIn.inRound l (hc99 _ d y _)).mono ?_; rintro e w' ⟨rfl, rfl⟩)
      exact ⟨(KeepsOthers.setCell _ _ _).from _, ⟨rfl, pre, x, rfl, HP.out, by rw [← HI.out, ← HD.out, ← HY.out]; exact hxy, by rw [← HI.out, ← HD.out, ← HY.out]; exact World.cell?_setCell_same' _ _ _ (by rw [hcr]; rfl)⟩, hB.setCell (p := ⟨w.heap.size + 1, 0, none⟩) (by simp) _⟩
  case done =>
    rintro D zs W hD rfl ⟨⟨hne, ⟨hcy, hcr⟩, hfr⟩, hB⟩ hK
    have hz := hZ0 (fun j hj => by
      have := hne (j, xs.getD j 0) (by
        simp only [back, List.mem_map, List.mem_range]
        exact ⟨xs.length - 1 - j, by omega, by rw [show xs.length - 1 - (xs.length - 1 - j) = j by omega]⟩)
      rw [dv_of (by rw [val_digit ha.bd]; exact Nat.mod_lt _ (by omega)), ix_of hj] at this
      exact this)
    subst hz
    clear hne
    gi_wp2
    have hK' := (KeepsOthers.setCell W ⟨w.heap.size + 1, 0, none⟩ (.int .i64 0)).same D _ hK rfl
    refine ⟨by simp, .inl ⟨_, _, rfl, run_takeDeferred hK', ?_⟩⟩
    have hc5 := cell_kept (World.cell?_setCell_same' W ⟨w.heap.size + 1, 0, none⟩ (.int .i64 0) (by rw [hcr]; rfl)) (grownBy_putObj' _ D (.deferred none)) (fun r e => by cases e; exact ⟨_, hK', rfl⟩)
    refine ⟨.int .i64 0, ?_, rfl, (hB.setCell (p := ⟨w.heap.size + 1, 0, none⟩) (by simp) _).trans (belowK_b (w := w) (Nat.le_refl _) _ D _ _ (by simp at hD; omega) hK' rfl rfl)⟩
    simp [results, Tryz.f68, go_sem, hc5]
  case stop =>
    rintro D c pre W hD ⟨k, hk, rfl⟩ ⟨⟨rfl, ini, last, e1, e2, e3, hcr⟩, hB⟩ hK
    gi_wp2
    refine ⟨by simp, .inl ⟨_, _, rfl, run_takeDeferred hK, ?_⟩⟩
    have hc5 := cell_kept hcr (grownBy_putObj' _ D (.deferred none)) (fun r e => by cases e; exact ⟨_, hK, rfl⟩)
    obtain ⟨k', rfl⟩ : ∃ k', k = k' + 1 := by
      cases k with
      | zero => simp [back] at e1
      | succ k' => exact ⟨k', rfl⟩
    rw [back_succ] at e1
    obtain ⟨rfl, e5⟩ := List.append_inj' e1 rfl
    obtain rfl : (xs.length - 1 - k', xs.getD (xs.length - 1 - k') 0) = last := by simpa using e5
    have lz : ∀ j, xs.getD j 0 < 4294967296 := fun j => by rw [val_digit ha.bd]; exact Nat.mod_lt _ (by omega)
    rw [dv_of (lz _), ix_of (by omega)] at e3 hc5
    have hz := hZ1 (xs.length - 1 - k') (by omega) e3 (fun j h1 h2 => by
      have := e2 (j, xs.getD j 0) (by
        simp only [back, List.mem_map, List.mem_range]
        exact ⟨xs.length - 1 - j, by omega, by rw [show xs.length - 1 - (xs.length - 1 - j) = j by omega]⟩)
      rw [dv_of (lz _), ix_of h2] at this
      exact this)
    refine ⟨.int .i64 Z, ?_, rfl, hB.trans (belowK_b (w := w) (Nat.le_refl _) W D _ _ (by simp at hD; omega) hK rfl rfl)⟩
    rw [hz]
    simp [results, Tryz.f68, go_sem, hc5]

theorem cmpN_eq (x : Nat) : cmpN x x = 0 := by unfold cmpN; rw [if_neg (by omega), if_pos rfl]
theorem cmpN_lt {x y : Nat} (h : x < y) : cmpN x y = -1 := by unfold cmpN; rw [if_pos h]
theorem cmpN_gt {x y : Nat} (h : y < x) : cmpN x y = 1 := by unfold cmpN; rw [if_neg (by omega), if_neg (by omega)]

/-- The digits above the place tell which number is greater. -/
theorem cmp_digits {xs ys : List Nat} (hx : Bd xs) (hy : Bd ys) (hl : xs.length = ys.length) :
    ((∀ j, j < xs.length → xs.getD j 0 = ys.getD j 0) → val xs = val ys) ∧
    (∀ k, k < xs.length → (∀ j, k < j → j < xs.length → xs.getD j 0 = ys.getD j 0) → (xs.getD k 0 < ys.getD k 0 → val xs < val ys) ∧ (ys.getD k 0 < xs.getD k 0 → val ys < val xs)) := by
  induction xs generalizing ys with
  | nil =>
    cases ys with
    | nil => exact ⟨fun _ => rfl, fun k hk => by simp at hk⟩
    | cons y ys => simp at hl
  | cons x xs ih =>
    cases ys with
    | nil => simp at hl
    | cons y ys =>
      obtain ⟨lx, bx⟩ := hx.cons
      obtain ⟨ly, by'⟩ := hy.cons
      obtain ⟨i1, i2⟩ := ih bx by' (by simpa using hl)
      refine ⟨fun h => ?_, fun k hk h => ?_⟩
      · have h0 := h 0 (by simp)
        have h1 := i1 (fun j hj => by simpa using h (j + 1) (by simpa using hj))
        simp only [val]
        simp at h0
        omega
      · cases k with
        | zero =>
          have h1 := i1 (fun j hj => by simpa using h (j + 1) (by omega) (by simpa using hj))
          simp only [val, List.getD_cons_zero]
          omega
        | succ k =>
          have h1 := i2 k (by simpa using hk) (fun j hj hj' => by simpa using h (j + 1) (by omega) (by simpa using hj'))
          simp only [val, List.getD_cons_succ]
          omega

set_option maxRecDepth 100000 in
set_option maxHeartbeats 2000000 in
theorem compare_ne {w : World} (aa ab : Option Addr) (ca cb n m : Nat) (h : n ≠ m) (hn : n ≤ 140737488351232) (hm : m ≤ 140737488351232) :
    Calls Tryz.prog 68 #[.slice aa n ca, .slice ab m cb] w fun e w' => e = .returned (.int .i64 (cmpN n m)) ∧ Below w.heap.size w w' := by
  have h2 : ((n : Int) != m) = true := by simp; omega
  go_enter Tryz.func68, Tryz.ntmps68
  go_wp2_with (go_at_call 98; refine (cmp64_any n m _).mono ?_; rintro e w' ⟨rfl, rfl⟩)
  go_returns
  exact ⟨rfl, (((Below.refl _ w).alloc (Nat.le_refl _) _).alloc (by simp) _)⟩

/-- compare of digits without zeros at the end. -/
theorem compare_any {w : World} {va vb : Value} {x y : Nat} (ha : Sl w va (digs x)) (hb : Sl w vb (digs y)) (hla : (digs x).length ≤ 140737488351232) (hlb : (digs y).length ≤ 140737488351232) :
    Calls Tryz.prog 68 #[va, vb] w fun e w' => e = .returned (.int .i64 (cmpN x y)) ∧ Below w.heap.size w w' := by
  obtain ⟨aa, ca, rfl⟩ := ha.mk'
  obtain ⟨ab, cb, rfl⟩ := hb.mk'
  by_cases h : (digs x).length = (digs y).length
  · rw [← h] at hb ⊢
    obtain ⟨c1, c2⟩ := cmp_digits (bd_digs x) (bd_digs y) h
    rw [val_digs, val_digs] at c1 c2
    refine callsIn_wide.1 (compare_eq_in Fence.wide 5 trivial trivial trivial trivial (fun k a b w => callsIn_wide.2 (cmp32_any a b w)) rfl (by omega) ha hb hla _ (fun hj => by rw [c1 hj, cmpN_eq]) (fun k hk hne hj => ?_))
    obtain ⟨d1, d2⟩ := c2 k hk hj
    rcases Nat.lt_or_gt_of_ne hne with h | h
    · rw [cmpN_lt h, cmpN_lt (d1 h)]
    · rw [cmpN_gt h, cmpN_gt (d2 h)]
  · have e : cmpN x y = cmpN (digs x).length (digs y).length := by
      rcases Nat.lt_or_gt_of_ne h with h | h
      · rw [cmpN_lt h, cmpN_lt]
        have h1 := (digs_length_le (n := x) (k := (digs x).length)).1 (Nat.le_refl _)
        exact Nat.lt_of_lt_of_le h1 (Nat.le_of_not_lt fun h2 => by have := digs_length_le.2 h2; omega)
      · rw [cmpN_gt h, cmpN_gt]
        have h1 := (digs_length_le (n := y) (k := (digs y).length)).1 (Nat.le_refl _)
        exact Nat.lt_of_lt_of_le h1 (Nat.le_of_not_lt fun h2 => by have := digs_length_le.2 h2; omega)
    rw [e]
    exact compare_ne aa ab ca cb _ _ h hla hlb

end Go.Proofs.YtdgmjmckeeeljaaGreatDoor
