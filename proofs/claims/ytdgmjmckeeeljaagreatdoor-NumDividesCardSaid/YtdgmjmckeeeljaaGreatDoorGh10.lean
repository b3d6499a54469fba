/- The contract of raised: digits moved up by binary digits. Conditions: there is a digit; fewer than 33 binary digits. A region that draws its order behind a loop over a function: its results are known by what each is, whatever is deferred. No condition. The contract of divideLong: a number of at least two digits divided into one that is not less. Condition: at most 256 digits. The contract of divide, and of Div, for all right numbers. Condition: the divisor is not 0. Several steps of Euclid's algorithm at once (Lehmer): arithmetic alone. No condition. The contract of highest: the highest sixty binary digits. Conditions: the digits, moved up, fit. The contract of mixed: two multiples of numbers, added. Conditions: small factors; the sum is no more than the first number has room for, and not negative. -/
import Derived.BigRegion
import Derived.Laws.CopyRow
import Derived.Test.YtdgmjmckeeeljaaGreatDoorGh9
import Derived.Test.YtdgmjmckeeeljaaGreatDoorGh8
import Derived.Test.YtdgmjmckeeeljaaGreatDoorGh3
import Derived.Test.YtdgmjmckeeeljaaGreatDoorGh2
import Derived.Test.YtdgmjmckeeeljaaGreatDoorGh6
import Derived.Deep.QuietTactic
import Derived.BigQuiet
import Derived.Test.YtdgmjmckeeeljaaGreatDoorGh1
namespace Go.Proofs.YtdgmjmckeeeljaaGreatDoor
open Go.RowKit

theorem run_make_row (w : World) (n : Nat) (h : n ≤ 1000001) : (Instr.makeSlice 25 (.int .i64 (n : Int)) (.int .i64 (n : Int))).run Tryz.prog w = .ok (.slice (some ⟨w.heap.size, 0, none⟩) n n) (w.alloc (.cells ((List.replicate n 0).map u32v).toArray 59)) := by
  obtain ⟨i, hi, hz0, hz1, hz2⟩ := info_parts Tryz.info59
  have hr := run_make (P := Tryz.prog) w 25 59 i _ Tryz.underlying25 hi hz0 .i64 .i64 n n (by omega) (Int.le_refl _) (by rw [hz2]; omega) (by omega)
  simp only [Int.toNat_natCast, hz1] at hr
  rw [zeros_cells] at hr
  exact hr
theorem run_make_up (w : World) (n : Nat) (h : n ≤ 1000000) : (Instr.makeSlice 25 (.int .i64 ((n : Int) + 1)) (.int .i64 ((n : Int) + 1))).run Tryz.prog w = .ok (.slice (some ⟨w.heap.size, 0, none⟩) (n + 1) (n + 1)) (w.alloc (.cells ((List.replicate (n + 1) 0).map u32v).toArray 59)) := run_make_row w (n + 1) (by omega)

/-- The world in which the new digits are made, their box beside them. -/
structure UpW (w : World) (n s : Nat) (ds : List Nat) (W : World) : Prop where
  size : W.heap.size = w.heap.size + 1 + 1 + 1
  c0 : W.cell? ⟨w.heap.size, 0, none⟩ = some (.int .i64 (s : Nat))
  row : Row W (w.heap.size + 1) (ds ++ [0])
  c1 : W.cell? ⟨w.heap.size + 1 + 1, 0, none⟩ = some (.slice (some ⟨w.heap.size + 1, 0, none⟩) (n + 1) (n + 1))
  bl : Below w.heap.size w W

theorem one_u32v (d : Nat) : (u32v d).oneCell' = true := rfl

theorem up_copy (w : World) {n s b off cap : Nat} {ds : List Nat} (hb : b < w.heap.size) (hn : ds.length = n) (hcl : Cl w b off ds) :
    ∃ W4, UpW w n s ds W4 ∧ (Builtin.copy_ #[25, 25] 3 #[.slice (some ⟨w.heap.size + 1, 0, none⟩) (n + 1) (n + 1), .slice (some ⟨b, off, none⟩) n cap]).run Tryz.prog
      (((w.alloc (.cells #[.int .i64 (s : Nat)] 3)).alloc (.cells (Array.replicate (n + 1) (u32v 0)) 59)).alloc (.cells #[.slice (some ⟨w.heap.size + 1, 0, none⟩) (n + 1) (n + 1)] 25)) = .ok (goInt (n : Nat)) W4 := by
  obtain ⟨W3, hW3⟩ : ∃ W3, W3 = (((w.alloc (.cells #[.int .i64 (s : Nat)] 3)).alloc (.cells (Array.replicate (n + 1) (u32v 0)) 59)).alloc (.cells #[.slice (some ⟨w.heap.size + 1, 0, none⟩) (n + 1) (n + 1)] 25)) := ⟨_, rfl⟩
  rw [← hW3]
  have hbl : Below w.heap.size w W3 := by rw [hW3]; go_grown
  have b0 := Boxed.new w 3 (.int .i64 (s : Nat))
  have b1 := Boxed.new ((w.alloc (.cells #[.int .i64 (s : Nat)] 3)).alloc (.cells (Array.replicate (n + 1) (u32v 0)) 59)) 25 (.slice (some ⟨w.heap.size + 1, 0, none⟩) (n + 1) (n + 1))
  simp only [World.size_alloc] at b1
  have hg : W3.heap[w.heap.size + 1]? = some (.cells (Array.replicate (n + 1) (u32v 0)) 59 (0, 0)) := by
    rw [hW3, Below.heap_alloc _ _ _ (by simp)]
    have := heap_alloc_new (w.alloc (.cells #[.int .i64 (s : Nat)] 3)) (.cells (Array.replicate (n + 1) (u32v 0)) 59)
    rwa [World.size_alloc] at this
  have hs3 : W3.heap.size = w.heap.size + 1 + 1 + 1 := by rw [hW3]; simp
  have c0 : W3.cell? ⟨w.heap.size, 0, none⟩ = some (.int .i64 (s : Nat)) := by rw [hW3]; exact ((b0.alloc _).alloc _).cell
  have c1 : W3.cell? ⟨w.heap.size + 1 + 1, 0, none⟩ = some (.slice (some ⟨w.heap.size + 1, 0, none⟩) (n + 1) (n + 1)) := by rw [hW3]; exact b1.cell
  have hr := run_copy_row (P := Tryz.prog) W3 25 25 3 59 (w.heap.size + 1) 0 (n + 1) (n + 1) ⟨b, off, none⟩ n cap (Array.replicate (n + 1) (u32v 0)) 59 (ds.map u32v) Tryz.underlying25 (by kernel_rfl) hg (by simp [hn]) (by
    intro j v hv
    rw [List.getElem?_map, Option.map_eq_some_iff] at hv
    obtain ⟨x, hx, rfl⟩ := hv
    have hj : j < ds.length := (List.getElem?_eq_some_iff.1 hx).1
    have := hcl j hj
    rw [List.getD_eq_getElem?_getD, hx] at this
    rw [show (⟨b, off, none⟩ : Addr).add j = ⟨b, off + j, none⟩ by simp [Addr.add]]
    refine (hbl.cell (p := ⟨b, off + j, none⟩) hb).trans (this.trans ?_)
    rfl) (by simp; omega) (by intro v hv; obtain ⟨x, _, rfl⟩ := List.mem_map.1 hv; rfl)
  have hlist : (Array.replicate (n + 1) (u32v 0)).toList.take 0 ++ ds.map u32v ++ (Array.replicate (n + 1) (u32v 0)).toList.drop (0 + (ds.map u32v).length) = (ds ++ [0]).map u32v := by
    simp [hn, List.drop_replicate]
  rw [hlist] at hr
  rw [List.length_map, hn] at hr
  have ho : ∀ k, k ≠ w.heap.size + 1 → (W3.setRow (w.heap.size + 1) ((ds ++ [0]).map u32v).toArray).heap[k]? = W3.heap[k]? := fun k hk => setRow_other W3 _ k _ hk
  exact ⟨_, ⟨by rw [setRow_size, hs3], (cell_of_block (ho _ (by simp))).trans c0, setRow_heap W3 _ _ _ 59 (0, 0) hg, (cell_of_block (ho _ (by simp))).trans c1,
    hbl.trans ⟨rfl, rfl, rfl, by rw [setRow_size]; exact Nat.le_refl _, fun k hk => ho k (by omega)⟩⟩, hr⟩

theorem bd_snoc {ds : List Nat} (h : Bd ds) : Bd (ds ++ [0]) := by
  intro x hx
  rcases List.mem_append.1 hx with h1 | h1
  · exact h x h1
  · obtain rfl := List.mem_singleton.1 h1
    omega
theorem val_snoc0 (ds : List Nat) : val (ds ++ [0]) = val ds := by rw [val_append]; simp [val]
theorem raised_room {ds : List Nat} {s : Nat} (h : Bd ds) (hs : s < 32) : val (ds ++ [0]) * 2 ^ s < 4294967296 ^ (ds ++ [0]).length := by
  rw [val_snoc0, List.length_append, List.length_singleton, Nat.pow_succ]
  exact Nat.mul_lt_mul'' (val_lt h) (Nat.lt_of_lt_of_le (Nat.pow_lt_pow_right (by omega) hs) (by decide))
theorem take_at {zs ms : List Nat} {k j : Nat} (h : zs.take k = ms.take k) (hj : j < k) : zs.getD j 0 = ms.getD j 0 := by
  rw [← getD_take zs k j hj, ← getD_take ms k j hj, h]
theorem dg_take {zs ms : List Nat} {k : Nat} {j : Int} (h : zs.take k = ms.take k) (hj : j < k) : dg zs j = dg ms j := by
  unfold dg
  by_cases h0 : j < 0
  · rw [if_pos h0, if_pos h0]
  · rw [if_neg h0, if_neg h0]
    exact take_at h (by omega)

/-- New digits, all of them named. -/
def RaisE (w : World) (n N : Nat) (e : Ending) (w' : World) : Prop :=
  ∃ (g : Nat) (zs : List Nat), e = .returned (.slice (some ⟨g, 0, none⟩) (n + 1) (n + 1)) ∧ w.heap.size ≤ g ∧ Row w' g zs ∧ zs.length = n + 1 ∧ Bd zs ∧ val zs = N ∧ Below w.heap.size w w'

def upCh : List (Nat × Nat) := [(17, 15), (17, 16), (16, 0), (15, 7), (7, 5), (7, 6), (5, 4), (4, 2), (15, 14), (14, 11), (11, 8), (14, 13), (13, 12)]

/-- What holds when k digits are moved up. -/
structure UpI (w : World) (n s : Nat) (ds : List Nat) (k : Nat) (W : World) : Prop where
  c0 : W.cell? ⟨w.heap.size, 0, none⟩ = some (.int .i64 (s : Nat))
  c1 : W.cell? ⟨w.heap.size + 1 + 1, 0, none⟩ = some (.slice (some ⟨w.heap.size + 1, 0, none⟩) (n + 1) (n + 1))
  c2 : W.cell? ⟨w.heap.size + 1 + 1 + 1, 0, none⟩ = some (.slice (some ⟨w.heap.size + 1, 0, none⟩) (n + 1) (n + 1))
  ex : ∃ zs, Raising (ds ++ [0]) zs s (n + 1 - k) ∧ Row W (w.heap.size + 1) zs
  bl : Below w.heap.size w W

theorem upI_own {w w0 : World} {n s : Nat} {ds : List Nat} (h1 : w.heap.size + 1 + 1 + 1 < w0.heap.size) : OwnFrom w0.heap.size (UpI w n s ds) := by
  intro k W W' row hs hg hr
  have hr' : ∀ r, row = some r → ∃ o : Obj, W.heap[r]? = some o ∧ o.isCells = false := fun r e => (hr r e).2
  obtain ⟨zs, e1, e2⟩ := hs.ex
  refine ⟨cell_kept hs.c0 hg hr', cell_kept hs.c1 hg hr', cell_kept hs.c2 hg hr', ⟨zs, e1, ?_⟩, ?_⟩
  · exact (hg.block _ e2.lt (fun e => by have := (hr _ e.symm).1; omega)).trans e2
  · exact hs.bl.grown hg hs.bl.size (fun r e => by have := (hr r e).1; omega)

theorem upI_next {w W : World} {n s t k i d : Nat} {ds zs : List Nat} (hI : UpI w n s ds k W) (hr : Raising (ds ++ [0]) zs s (n + 1 - k)) (hrow : Row W (w.heap.size + 1) zs) (hk : k < n + 1) (hi : i = n - k) (hN : Raising (ds ++ [0]) (zs.set i d) s i) :
    UpI w n s ds (k + 1) (W.drew.setCell ⟨w.heap.size + 1, i, none⟩ (.int .u32 (d : Nat))) := by
  have co : ∀ b o, b ≠ w.heap.size + 1 → (W.drew.setCell ⟨w.heap.size + 1, i, none⟩ (.int .u32 (d : Nat))).cell? ⟨b, o, none⟩ = W.cell? ⟨b, o, none⟩ := fun b o hb => by
    rw [cell_other (fun e => hb (by have := congrArg Addr.block e; exact this.symm))]
    rfl
  refine ⟨(co _ _ (by omega)).trans hI.c0, (co _ _ (by omega)).trans hI.c1, (co _ _ (by omega)).trans hI.c2, ⟨zs.set i d, by rw [show n + 1 - (k + 1) = i by omega]; exact hN, (show Row W.drew (w.heap.size + 1) zs from hrow).set i d⟩, ?_⟩
  exact (hI.bl.trans (below_drewN' (Below.refl _ _) 1)).setCell (p := ⟨w.heap.size + 1, i, none⟩) (by exact Nat.le_succ _) _

attribute [local go_sem] Oper.semAt_some
open Go.Shelf in
set_option maxRecDepth 100000 in
set_option maxHeartbeats 8000000 in
theorem raised_in (F : Fence) (m : Nat) (h102 : F.fn 102) (h58 : F.fn 58) (h90 : F.fn 90) (h78 : F.fn 78)
    (hc78 : ∀ k (W : World) (v : Value) (zs : List Nat) (j : Int), Sl W v zs → CallsIn F k Tryz.prog 78 #[v, .int .i64 j] W fun e w' => e = .returned (.int .u32 (dg zs j : Nat)) ∧ w' = W)
    (hro : F.round = none) (hm : 5 ≤ m) {w : World} {ao : Option Addr} {cap n s t : Nat} {ds : List Nat} (ha : Sl w (.slice ao n cap) ds) (hn0 : n ≠ 0) (hst : s + t = 32) (hl : n ≤ 1000000) (hs32 : s < 32) :
    CallsIn F m Tryz.prog 102 #[.slice ao n cap, .int .i64 s] w (RaisE w n (val ds * 2 ^ s)) := by
  have h1 : 1 ≤ m := by omega
  obtain ⟨b, off, rfl, hcap, hbl, hcl⟩ := ha.at hn0
  have HNL := Lib.hid ha.size
  have hbd := ha.bd
  refine callsIn_of_wp_marks Tryz.func102 rfl h102 ?_ hro
  simp only [Tryz.ntmps102, List.size_toArray, List.length_cons, List.length_nil, Nat.reduceAdd, Nat.reduceSub, Array.replicate_succ, Array.replicate_zero, List.push_toArray, List.append_toArray, List.nil_append, List.cons_append]
  obtain ⟨W4, hW4, hcp⟩ := up_copy (s := s) (cap := cap) w hbl ha.size.symm hcl
  have HW4 := Lib.hid hW4
  have hc1 := hW4.c1
  have hz4 := hW4.size
  clear hW4
  have hmk := run_make_up (w.alloc (.cells #[.int .i64 (s : Nat)] 3)) n hl
  gi_wp2_with (gi_at_call 58; refine (backward_in F (m - 1) h58 hro _ _ _ _).mono ?_; rintro e w' ⟨rfl, rfl⟩)
  clear hcp hmk hc1
  obtain ⟨W5, hW5⟩ : ∃ W5, W5 = W4.alloc (.cells #[.slice (some ⟨w.heap.size + 1, 0, none⟩) (n + 1) (n + 1)] 25) := ⟨_, rfl⟩
  have hz5 : W5.heap.size = w.heap.size + 1 + 1 + 1 + 1 := by rw [hW5]; simp; omega
  have b3 := Boxed.new W4 25 (.slice (some ⟨w.heap.size + 1, 0, none⟩) (n + 1) (n + 1))
  rw [hz4, ← hW5] at b3
  have hb45 : Below W4.heap.size W4 W5 := by rw [hW5]; exact (Below.refl _ _).alloc (Nat.le_refl _) _
  have hI0 : UpI w n s ds 0 W5 := ⟨(hb45.cell (p := ⟨w.heap.size, 0, none⟩) (by simp; omega)).trans HW4.out.c0, (hb45.cell (p := ⟨w.heap.size + 1 + 1, 0, none⟩) (by simp; omega)).trans HW4.out.c1, b3.cell,
    ⟨ds ++ [0], by have := raising_start (ds := ds ++ [0]) (s := s) (bd_snoc hbd) (raised_room hbd hs32); rwa [List.length_append, List.length_singleton, ← HNL.out] at this, HW4.out.row.below hb45⟩,
    HW4.out.bl.trans (hb45.mono (by omega))⟩
  rw [← hW5]
  clear hW5 b3 hb45
  have hxl : (ds ++ [0]).length = n + 1 := by rw [List.length_append, List.length_singleton, ← HNL.out]
  have HC := backward_counts F (m - 1) h90 hro (by omega) (w.heap.size + 1 + 1 + 1) (some ⟨w.heap.size + 1, 0, none⟩) (n + 1) (ds ++ [0]) (by omega) (UpI w n s ds) (fun k W h => by rw [hxl]; exact h.c2) (fun k W h hk => ?hcell)
  rw [hxl] at HC
  refine rangeFunc_counts hro h1 (gf := 90) (lb := #[.pointer (some ⟨w.heap.size + 1 + 1 + 1, 0, none⟩)]) rfl h90 (enters_of Tryz.func90 (by kernel_rfl) rfl)
    HC (fun _ => rfl) (upI_own (by omega)) hI0
    (fun k => { tmps := #[.slice (some ⟨b, off, none⟩) n cap, .int .i64 (s : Nat), undef, .pointer (some ⟨w.heap.size, 0, none⟩), .slice none 0 0, .pointer (some ⟨w.heap.size + 1 + 1, 0, none⟩), .int .i64 ((n - k : Nat) : Int), .slice (some ⟨b, off, none⟩) n cap, .int .i64 (n : Nat), .int .i64 ((n : Int) + 1), .slice (some ⟨w.heap.size + 1, 0, none⟩) (n + 1) (n + 1), .slice (some ⟨w.heap.size + 1, 0, none⟩) (n + 1) (n + 1), .slice (some ⟨b, off, none⟩) n cap, .int .i64 (n : Nat), .slice (some ⟨w.heap.size + 1, 0, none⟩) (n + 1) (n + 1), .func (.func 90) #[] #[.pointer (some ⟨w.heap.size + 1 + 1 + 1, 0, none⟩)], .int .i64 ((n - k : Nat) : Int), .int .u32 (((ds ++ [0]).getD (n - k) 0 : Nat) : Int), undef, undef, undef, undef, undef, undef, undef, undef, undef, undef, undef, undef, undef, undef, undef, undef, undef, undef], defers := [] }) ?assign ?body ?done
  case hcell =>
    obtain ⟨zs, e1, e2⟩ := h.ex
    refine ⟨w.heap.size + 1, 0, rfl, ?_⟩
    have hz : zs.length = n + 1 := e1.1.trans hxl
    rw [hxl] at hk
    rw [hxl, Nat.zero_add, e2.cell _ (by omega), take_at e1.2.2.1 (by omega)]
  case assign =>
    intro l k W K hK
    have e0 : (ds ++ [0]).length - 1 - k = n - k := by rw [hxl]; omega
    unfold backArgs
    rw [e0]
    obtain ⟨i, hi⟩ : ∃ i, i = n - k := ⟨_, rfl⟩
    obtain ⟨x, hx⟩ : ∃ x, x = (ds ++ [0]).getD (n - k) 0 := ⟨_, rfl⟩
    rw [← hx, ← hi] at hK ⊢
    clear hi hx e0 HC hI0
    gi_wp2
    exact hK
  case body =>
    intro l k W hk hI
    have h3 : 1 ≤ m - 1 - 1 := by omega
    have hmx : Tryz.prog.follows .mixedOrders = true := by kernel_rfl
    obtain ⟨zs, e1, e2⟩ := hI.ex
    have hz : zs.length = n + 1 := e1.1.trans hxl
    have c0 : W.drew.cell? _ = _ := hI.c0
    have c1 : W.drew.cell? _ = _ := hI.c1
    obtain ⟨i, hi⟩ : ∃ i, i = n - k := ⟨_, rfl⟩
    have hin : i < n + 1 := by omega
    have hx : W.drew.cell? ⟨w.heap.size + 1, i, none⟩ = some (.int .u32 (((ds ++ [0]).getD i 0 : Nat) : Int)) := by
      have := e2.cell i (by omega)
      rw [take_at e1.2.2.1 (by omega)] at this
      exact this
    have hfree : W.drew.frozen? ⟨w.heap.size + 1, i, none⟩ = false := e2.free i
    have hsl : Sl W.drew (.slice (some ⟨w.heap.size + 1, 0, none⟩) (n + 1) (n + 1)) zs := ((show Row W.drew (w.heap.size + 1) zs from e2).sw' (B := 0) (Nat.zero_le _) e1.2.1 hz (by unfold maxLen; omega)).sl
    have hd := hc78 (m - 1 - 1 - 1) W.drew _ zs ((i : Int) - 1) hsl
    rw [show dg zs ((i : Int) - 1) = dg (ds ++ [0]) ((i : Int) - 1) from dg_take e1.2.2.1 (by omega)] at hd
    have hxb : (ds ++ [0]).getD i 0 < 4294967296 := by rw [val_digit (bd_snoc hbd)]; exact Nat.mod_lt _ (by omega)
    have hyb := dg_lt (bd_snoc hbd) ((i : Int) - 1)
    have e1' := e1
    rw [show n + 1 - k = i + 1 by omega] at e1'
    have hstep := fun d hd => raising_step (d := d) e1' (bd_snoc hbd) hst (by rw [hxl]; exact hin) hd
    rw [← hi]
    obtain ⟨x, hxx⟩ : ∃ x, x = (ds ++ [0]).getD i 0 := ⟨_, rfl⟩
    obtain ⟨y, hyy⟩ : ∃ y, y = dg (ds ++ [0]) ((i : Int) - 1) := ⟨_, rfl⟩
    rw [← hxx] at hx hxb hstep ⊢
    rw [← hyy] at hd hyb hstep
    obtain ⟨x1, hx1⟩ : ∃ x1, x1 = x * 2 ^ s % 4294967296 := ⟨_, rfl⟩
    obtain ⟨y1, hy1⟩ : ∃ y1, y1 = y / 2 ^ t := ⟨_, rfl⟩
    have q1 := shl_u32 x s (by omega)
    have q2 := shr_u32 y t (by omega)
    rw [← hx1] at q1 hstep
    rw [← hy1] at q2 hstep
    have hx1l : x1 < 4294967296 := by rw [hx1]; exact Nat.mod_lt _ (by omega)
    have hy1l : y1 < 4294967296 := by rw [hy1]; exact Nat.lt_of_le_of_lt (Nat.div_le_self _ _) hyb
    have q3 := or_u32 x1 y1 hx1l hy1l
    obtain ⟨d, hdd⟩ : ∃ d, d = x1 ||| y1 := ⟨_, rfl⟩
    rw [← hdd] at q3
    have HNX := Lib.hid (upI_next (t := t) hI e1 e2 hk hi (hstep d hdd))
    have wk : IntKind.i64.wrap ((i : Int) - 1) = (i : Int) - 1 := by rw [IntKind.wrap_i64]; omega
    have wt : IntKind.i64.wrap (32 - (s : Int)) = (t : Int) := by rw [IntKind.wrap_i64]; omega
    have hlI : (i : Int) < (n : Int) + 1 := by omega
    clear hI e1 e2 e1' hstep hxx hyy hx1 hy1 hdd hsl hi hk hz HC hI0 HW4 hcl ha hcap
    gi_wp2
    refine frame_namedIn ?_
    intro T hT
    obtain ⟨vals, hvals⟩ : ∃ vals : Nat → Value, vals = (fun ix => if ix = 0 then .slice (some ⟨w.heap.size + 1, 0, none⟩) (n + 1) (n + 1) else if ix = 1 then .int .i64 (i : Nat) else if ix = 2 then .slice (some ⟨w.heap.size + 1, 0, none⟩) (n + 1) (n + 1) else if ix = 3 then .int .i64 (i : Nat) else if ix = 4 then .pointer (some ⟨w.heap.size + 1, i, none⟩) else if ix = 5 then .int .u32 (x : Nat) else if ix = 6 then .int .i64 (s : Nat) else if ix = 7 then .int .u32 (x1 : Nat) else if ix = 8 then .slice (some ⟨w.heap.size + 1, 0, none⟩) (n + 1) (n + 1) else if ix = 9 then .int .i64 (i : Nat) else if ix = 10 then .int .i64 ((i : Int) - 1) else if ix = 11 then .int .u32 (y : Nat) else if ix = 12 then .int .i64 (s : Nat) else if ix = 13 then .int .i64 (t : Nat) else if ix = 14 then .int .u32 (y1 : Nat) else if ix = 15 then .int .u32 (d : Nat) else if ix = 16 then .pointer (some ⟨w.heap.size + 1, i, none⟩) else undef) := ⟨_, rfl⟩
    have v0 : vals 0 = .slice (some ⟨w.heap.size + 1, 0, none⟩) (n + 1) (n + 1) := by rw [hvals]; rfl
    have v1 : vals 1 = .int .i64 (i : Nat) := by rw [hvals]; rfl
    have v2 : vals 2 = .slice (some ⟨w.heap.size + 1, 0, none⟩) (n + 1) (n + 1) := by rw [hvals]; rfl
    have v3 : vals 3 = .int .i64 (i : Nat) := by rw [hvals]; rfl
    have v4 : vals 4 = .pointer (some ⟨w.heap.size + 1, i, none⟩) := by rw [hvals]; rfl
    have v5 : vals 5 = .int .u32 (x : Nat) := by rw [hvals]; rfl
    have v6 : vals 6 = .int .i64 (s : Nat) := by rw [hvals]; rfl
    have v7 : vals 7 = .int .u32 (x1 : Nat) := by rw [hvals]; rfl
    have v8 : vals 8 = .slice (some ⟨w.heap.size + 1, 0, none⟩) (n + 1) (n + 1) := by rw [hvals]; rfl
    have v9 : vals 9 = .int .i64 (i : Nat) := by rw [hvals]; rfl
    have v10 : vals 10 = .int .i64 ((i : Int) - 1) := by rw [hvals]; rfl
    have v11 : vals 11 = .int .u32 (y : Nat) := by rw [hvals]; rfl
    have v12 : vals 12 = .int .i64 (s : Nat) := by rw [hvals]; rfl
    have v13 : vals 13 = .int .i64 (t : Nat) := by rw [hvals]; rfl
    have v14 : vals 14 = .int .u32 (y1 : Nat) := by rw [hvals]; rfl
    have v15 : vals 15 = .int .u32 (d : Nat) := by rw [hvals]; rfl
    have v16 : vals 16 = .pointer (some ⟨w.heap.size + 1, i, none⟩) := by rw [hvals]; rfl
    clear hvals
    refine region_inv (by kernel_rfl) (fun l a w' => RV W.drew ⟨w.heap.size + 1, i, none⟩ (.int .u32 (d : Nat)) 17 upCh T [some 18, some 19, some 20, some 21, some 22, some 23, some 24, some 25, some 26, some 27, some 28, some 29, some 30, some 31, some 32, some 33, some 34, none] vals l a w') ?h0v1 ?stepv1 ?finv1
    case h0v1 => exact RV.start rfl (fun i j h => by simp [upCh] at h; simp only [List.length_cons, List.length_nil]; omega) (by decide)
    case stepv1 =>
        rintro l a w' i' hR hi'
        obtain ⟨hl0, o, ho, hdep⟩ := mem_ready.1 hi'
        have h15 : i' < 18 := by
          have := (Array.getElem?_eq_some_iff.1 ho).1
          simpa using this
        rcases (show i' = 0 ∨ i' = 1 ∨ i' = 2 ∨ i' = 3 ∨ i' = 4 ∨ i' = 5 ∨ i' = 6 ∨ i' = 7 ∨ i' = 8 ∨ i' = 9 ∨ i' = 10 ∨ i' = 11 ∨ i' = 12 ∨ i' = 13 ∨ i' = 14 ∨ i' = 15 ∨ i' = 16 ∨ i' = 17 by omega) with rfl | rfl | rfl | rfl | rfl | rfl | rfl | rfl | rfl | rfl | rfl | rfl | rfl | rfl | rfl | rfl | rfl | rfl
        · simp at ho
          subst ho
          simp [Region.binds] at hdep
          have k0 : a.tmps.getD 5 undef = _ := (hR.fr.kept rfl (by simp [hT])).trans (by rw [hT]; try rfl)
          have hc : ∀ j, (0, j) ∈ upCh → l.getD j true = true := by intro j hj; simp [upCh] at hj
          have hw' := hR.before hl0 (fun hs => (hR.dep 16 0 (by decide) (hR.dep 17 16 (by decide) hs)))
          subst hw'
          clear hi' hdep
          unfold wpOpIn
          simp [Region.wanted]
          unfold Oper.wpIn
          simp [Oper.about, execOp, go_sem, Act.eval, k0, c1]
          exact hR.op 0 18 v0 rfl (by decide) hl0 (by decide) hc
        · simp at ho
          subst ho
          simp [Region.binds] at hdep
          have k0 : a.tmps.getD 6 undef = _ := (hR.fr.kept rfl (by simp [hT])).trans (by rw [hT]; try rfl)
          have hc : ∀ j, (1, j) ∈ upCh → l.getD j true = true := by intro j hj; simp [upCh] at hj
          clear hi' hdep
          unfold wpOpIn
          simp [Region.wanted]
          unfold Oper.wpIn
          simp [Oper.about, execOp, go_sem, Act.eval, k0]
          exact hR.op 1 19 v1 rfl (by decide) hl0 (by decide) hc
        · simp at ho
          subst ho
          simp [Region.binds] at hdep
          have k0 : a.tmps.getD 5 undef = _ := (hR.fr.kept rfl (by simp [hT])).trans (by rw [hT]; try rfl)
          have hc : ∀ j, (2, j) ∈ upCh → l.getD j true = true := by intro j hj; simp [upCh] at hj
          have hw' := hR.before hl0 (fun hs => (hR.dep 4 2 (by decide) (hR.dep 5 4 (by decide) (hR.dep 7 5 (by decide) (hR.dep 15 7 (by decide) (hR.dep 17 15 (by decide) hs))))))
          subst hw'
          clear hi' hdep
          unfold wpOpIn
          simp [Region.wanted]
          unfold Oper.wpIn
          simp [Oper.about, execOp, go_sem, Act.eval, k0, c1]
          exact hR.op 2 20 v2 rfl (by decide) hl0 (by decide) hc
        · simp at ho
          subst ho
          simp [Region.binds] at hdep
          have k0 : a.tmps.getD 6 undef = _ := (hR.fr.kept rfl (by simp [hT])).trans (by rw [hT]; try rfl)
          have hc : ∀ j, (3, j) ∈ upCh → l.getD j true = true := by intro j hj; simp [upCh] at hj
          clear hi' hdep
          unfold wpOpIn
          simp [Region.wanted]
          unfold Oper.wpIn
          simp [Oper.about, execOp, go_sem, Act.eval, k0]
          exact hR.op 3 21 v3 rfl (by decide) hl0 (by decide) hc
        · simp at ho
          subst ho
          simp [Region.binds] at hdep
          have k0 : a.tmps.getD 20 undef = _ := (hR.fr.done (i := 2) rfl (by simp_all) (by simp [hT])).trans v2
          have k1 : a.tmps.getD 21 undef = _ := (hR.fr.done (i := 3) rfl (by simp_all) (by simp [hT])).trans v3
          have hc : ∀ j, (4, j) ∈ upCh → l.getD j true = true := by intro j hj; simp [upCh] at hj; rcases hj with rfl <;> exact getD_true (by simp_all)
          clear hi' hdep
          unfold wpOpIn
          simp [Region.wanted]
          unfold Oper.wpIn
          simp [Oper.about, execOp, go_sem, Act.eval, k0, k1, hlI]
          exact hR.op 4 22 v4 rfl (by decide) hl0 (by decide) hc
        · simp at ho
          subst ho
          simp [Region.binds] at hdep
          have k0 : a.tmps.getD 22 undef = _ := (hR.fr.done (i := 4) rfl (by simp_all) (by simp [hT])).trans v4
          have hc : ∀ j, (5, j) ∈ upCh → l.getD j true = true := by intro j hj; simp [upCh] at hj; rcases hj with rfl <;> exact getD_true (by simp_all)
          have hw' := hR.before hl0 (fun hs => (hR.dep 7 5 (by decide) (hR.dep 15 7 (by decide) (hR.dep 17 15 (by decide) hs))))
          subst hw'
          clear hi' hdep
          unfold wpOpIn
          simp [Region.wanted]
          unfold Oper.wpIn
          simp [Oper.about, execOp, go_sem, Act.eval, k0, hx]
          exact hR.op 5 23 v5 rfl (by decide) hl0 (by decide) hc
        · simp at ho
          subst ho
          simp [Region.binds] at hdep
          have k0 : a.tmps.getD 3 undef = _ := (hR.fr.kept rfl (by simp [hT])).trans (by rw [hT]; try rfl)
          have hc : ∀ j, (6, j) ∈ upCh → l.getD j true = true := by intro j hj; simp [upCh] at hj
          have hw' := hR.before hl0 (fun hs => (hR.dep 7 6 (by decide) (hR.dep 15 7 (by decide) (hR.dep 17 15 (by decide) hs))))
          subst hw'
          clear hi' hdep
          unfold wpOpIn
          simp [Region.wanted]
          unfold Oper.wpIn
          simp [Oper.about, execOp, go_sem, Act.eval, k0, c0]
          exact hR.op 6 24 v6 rfl (by decide) hl0 (by decide) hc
        · simp at ho
          subst ho
          simp [Region.binds] at hdep
          have k0 : a.tmps.getD 23 undef = _ := (hR.fr.done (i := 5) rfl (by simp_all) (by simp [hT])).trans v5
          have k1 : a.tmps.getD 24 undef = _ := (hR.fr.done (i := 6) rfl (by simp_all) (by simp [hT])).trans v6
          have hc : ∀ j, (7, j) ∈ upCh → l.getD j true = true := by intro j hj; simp [upCh] at hj; rcases hj with rfl | rfl <;> exact getD_true (by simp_all)
          clear hi' hdep
          unfold wpOpIn
          simp [Region.wanted]
          unfold Oper.wpIn
          simp [Oper.about, execOp, go_sem, Act.eval, k0, k1, q1]
          exact hR.op 7 25 v7 rfl (by decide) hl0 (by decide) hc
        · simp at ho
          subst ho
          simp [Region.binds] at hdep
          have k0 : a.tmps.getD 5 undef = _ := (hR.fr.kept rfl (by simp [hT])).trans (by rw [hT]; try rfl)
          have hc : ∀ j, (8, j) ∈ upCh → l.getD j true = true := by intro j hj; simp [upCh] at hj
          have hw' := hR.before hl0 (fun hs => (hR.dep 11 8 (by decide) (hR.dep 14 11 (by decide) (hR.dep 15 14 (by decide) (hR.dep 17 15 (by decide) hs)))))
          subst hw'
          clear hi' hdep
          unfold wpOpIn
          simp [Region.wanted]
          unfold Oper.wpIn
          simp [Oper.about, execOp, go_sem, Act.eval, k0, c1]
          exact hR.op 8 26 v8 rfl (by decide) hl0 (by decide) hc
        · simp at ho
          subst ho
          simp [Region.binds] at hdep
          have k0 : a.tmps.getD 6 undef = _ := (hR.fr.kept rfl (by simp [hT])).trans (by rw [hT]; try rfl)
          have hc : ∀ j, (9, j) ∈ upCh → l.getD j true = true := by intro j hj; simp [upCh] at hj
          clear hi' hdep
          unfold wpOpIn
          simp [Region.wanted]
          unfold Oper.wpIn
          simp [Oper.about, execOp, go_sem, Act.eval, k0]
          exact hR.op 9 27 v9 rfl (by decide) hl0 (by decide) hc
        · simp at ho
          subst ho
          simp [Region.binds] at hdep
          have k0 : a.tmps.getD 27 undef = _ := (hR.fr.done (i := 9) rfl (by simp_all) (by simp [hT])).trans v9
          have hc : ∀ j, (10, j) ∈ upCh → l.getD j true = true := by intro j hj; simp [upCh] at hj
          clear hi' hdep
          unfold wpOpIn
          simp [Region.wanted]
          unfold Oper.wpIn
          simp [Oper.about, execOp, go_sem, Act.eval, k0, wk]
          exact hR.op 10 28 v10 rfl (by decide) hl0 (by decide) hc
        · simp at ho
          subst ho
          simp [Region.binds] at hdep
          have k0 : a.tmps.getD 26 undef = _ := (hR.fr.done (i := 8) rfl (by simp_all) (by simp [hT])).trans v8
          have k1 : a.tmps.getD 28 undef = _ := (hR.fr.done (i := 10) rfl (by simp_all) (by simp [hT])).trans v10
          have hc : ∀ j, (11, j) ∈ upCh → l.getD j true = true := by intro j hj; simp [upCh] at hj; rcases hj with rfl <;> exact getD_true (by simp_all)
          have hw' := hR.before hl0 (fun hs => (hR.dep 14 11 (by decide) (hR.dep 15 14 (by decide) (hR.dep 17 15 (by decide) hs))))
          subst hw'
          clear hi' hdep
          unfold wpOpIn
          simp [Region.wanted]
          unfold Oper.wpIn
          simp [Oper.about, execOp, go_sem, Act.eval, k0, k1]
          refine ⟨h78, fun _ => h3, (CallsIn.inRound _ hd).mono ?_⟩
          rintro e w'' ⟨rfl, rfl⟩
          exact hR.op 11 29 v11 rfl (by decide) hl0 (by decide) hc
        · simp at ho
          subst ho
          simp [Region.binds] at hdep
          have k0 : a.tmps.getD 3 undef = _ := (hR.fr.kept rfl (by simp [hT])).trans (by rw [hT]; try rfl)
          have hc : ∀ j, (12, j) ∈ upCh → l.getD j true = true := by intro j hj; simp [upCh] at hj
          have hw' := hR.before hl0 (fun hs => (hR.dep 13 12 (by decide) (hR.dep 14 13 (by decide) (hR.dep 15 14 (by decide) (hR.dep 17 15 (by decide) hs)))))
          subst hw'
          clear hi' hdep
          unfold wpOpIn
          simp [Region.wanted]
          unfold Oper.wpIn
          simp [Oper.about, execOp, go_sem, Act.eval, k0, c0]
          exact hR.op 12 30 v12 rfl (by decide) hl0 (by decide) hc
        · simp at ho
          subst ho
          simp [Region.binds] at hdep
          have k0 : a.tmps.getD 30 undef = _ := (hR.fr.done (i := 12) rfl (by simp_all) (by simp [hT])).trans v12
          have hc : ∀ j, (13, j) ∈ upCh → l.getD j true = true := by intro j hj; simp [upCh] at hj; rcases hj with rfl <;> exact getD_true (by simp_all)
          clear hi' hdep
          unfold wpOpIn
          simp [Region.wanted]
          unfold Oper.wpIn
          simp [Oper.about, execOp, go_sem, Act.eval, k0, wt]
          exact hR.op 13 31 v13 rfl (by decide) hl0 (by decide) hc
        · simp at ho
          subst ho
          simp [Region.binds] at hdep
          have k0 : a.tmps.getD 29 undef = _ := (hR.fr.done (i := 11) rfl (by simp_all) (by simp [hT])).trans v11
          have k1 : a.tmps.getD 31 undef = _ := (hR.fr.done (i := 13) rfl (by simp_all) (by simp [hT])).trans v13
          have hc : ∀ j, (14, j) ∈ upCh → l.getD j true = true := by intro j hj; simp [upCh] at hj; rcases hj with rfl | rfl <;> exact getD_true (by simp_all)
          clear hi' hdep
          unfold wpOpIn
          simp [Region.wanted]
          unfold Oper.wpIn
          simp [Oper.about, execOp, go_sem, Act.eval, k0, k1, q2]
          exact hR.op 14 32 v14 rfl (by decide) hl0 (by decide) hc
        · simp at ho
          subst ho
          simp [Region.binds] at hdep
          have k0 : a.tmps.getD 25 undef = _ := (hR.fr.done (i := 7) rfl (by simp_all) (by simp [hT])).trans v7
          have k1 : a.tmps.getD 32 undef = _ := (hR.fr.done (i := 14) rfl (by simp_all) (by simp [hT])).trans v14
          have hc : ∀ j, (15, j) ∈ upCh → l.getD j true = true := by intro j hj; simp [upCh] at hj; rcases hj with rfl | rfl <;> exact getD_true (by simp_all)
          clear hi' hdep
          unfold wpOpIn
          simp [Region.wanted]
          unfold Oper.wpIn
          simp [Oper.about, execOp, go_sem, Act.eval, k0, k1, q3]
          exact hR.op 15 33 v15 rfl (by decide) hl0 (by decide) hc
        · simp at ho
          subst ho
          simp [Region.binds] at hdep
          have k0 : a.tmps.getD 18 undef = _ := (hR.fr.done (i := 0) rfl (by simp_all) (by simp [hT])).trans v0
          have k1 : a.tmps.getD 19 undef = _ := (hR.fr.done (i := 1) rfl (by simp_all) (by simp [hT])).trans v1
          have hc : ∀ j, (16, j) ∈ upCh → l.getD j true = true := by intro j hj; simp [upCh] at hj; rcases hj with rfl <;> exact getD_true (by simp_all)
          clear hi' hdep
          unfold wpOpIn
          simp [Region.wanted]
          unfold Oper.wpIn
          simp [Oper.about, execOp, go_sem, Act.eval, k0, k1, hlI]
          exact hR.op 16 34 v16 rfl (by decide) hl0 (by decide) hc
        · simp at ho
          subst ho
          simp [Region.binds] at hdep
          have k0 : a.tmps.getD 34 undef = _ := (hR.fr.done (i := 16) rfl (by simp_all) (by simp [hT])).trans v16
          have k1 : a.tmps.getD 33 undef = _ := (hR.fr.done (i := 15) rfl (by simp_all) (by simp [hT])).trans v15
          have hc : ∀ j, (17, j) ∈ upCh → l.getD j true = true := by intro j hj; simp [upCh] at hj; rcases hj with rfl | rfl <;> exact getD_true (by simp_all)
          have hw' := hR.before hl0 (fun hs => hs)
          subst hw'
          clear hi' hdep
          unfold wpOpIn
          simp [Region.wanted]
          unfold Oper.wpIn
          simp [Oper.about, execOp, go_sem, Act.eval, k0, k1, hx, hfree]
          exact hR.store rfl hl0 hc undef
    case' finv1 =>
        rintro l a w' hR hz
        have hnot := List.eq_nil_iff_forall_not_mem.1 hz
        have hk : ∀ k, k < 18 → (l.getD k true = false → False) → l.getD k false = true := fun k h12 h => by
          have hs := hR.size
          cases h' : l.getD k true with
          | false => exact (h h').elim
          | true => simp at hs; simp [Array.getD, hs, h12] at h' ⊢; exact h'
        have st0 := hk 0 (by omega) (fun h => hnot 0 (mem_ready.2 ⟨h, _, rfl, by simp [Region.binds]⟩))
        have st1 := hk 1 (by omega) (fun h => hnot 1 (mem_ready.2 ⟨h, _, rfl, by simp [Region.binds]⟩))
        have st2 := hk 2 (by omega) (fun h => hnot 2 (mem_ready.2 ⟨h, _, rfl, by simp [Region.binds]⟩))
        have st3 := hk 3 (by omega) (fun h => hnot 3 (mem_ready.2 ⟨h, _, rfl, by simp [Region.binds]⟩))
        have st4 := hk 4 (by omega) (fun h => hnot 4 (mem_ready.2 ⟨h, _, rfl, by simp [Region.binds] <;> simp_all⟩))
        have st5 := hk 5 (by omega) (fun h => hnot 5 (mem_ready.2 ⟨h, _, rfl, by simp [Region.binds] <;> simp_all⟩))
        have st6 := hk 6 (by omega) (fun h => hnot 6 (mem_ready.2 ⟨h, _, rfl, by simp [Region.binds]⟩))
        have st7 := hk 7 (by omega) (fun h => hnot 7 (mem_ready.2 ⟨h, _, rfl, by simp [Region.binds] <;> simp_all⟩))
        have st8 := hk 8 (by omega) (fun h => hnot 8 (mem_ready.2 ⟨h, _, rfl, by simp [Region.binds]⟩))
        have st9 := hk 9 (by omega) (fun h => hnot 9 (mem_ready.2 ⟨h, _, rfl, by simp [Region.binds]⟩))
        have st10 := hk 10 (by omega) (fun h => hnot 10 (mem_ready.2 ⟨h, _, rfl, by simp [Region.binds] <;> simp_all⟩))
        have st11 := hk 11 (by omega) (fun h => hnot 11 (mem_ready.2 ⟨h, _, rfl, by simp [Region.binds] <;> simp_all⟩))
        have st12 := hk 12 (by omega) (fun h => hnot 12 (mem_ready.2 ⟨h, _, rfl, by simp [Region.binds]⟩))
        have st13 := hk 13 (by omega) (fun h => hnot 13 (mem_ready.2 ⟨h, _, rfl, by simp [Region.binds] <;> simp_all⟩))
        have st14 := hk 14 (by omega) (fun h => hnot 14 (mem_ready.2 ⟨h, _, rfl, by simp [Region.binds] <;> simp_all⟩))
        have st15 := hk 15 (by omega) (fun h => hnot 15 (mem_ready.2 ⟨h, _, rfl, by simp [Region.binds] <;> simp_all⟩))
        have st16 := hk 16 (by omega) (fun h => hnot 16 (mem_ready.2 ⟨h, _, rfl, by simp [Region.binds] <;> simp_all⟩))
        have st17 := hk 17 (by omega) (fun h => hnot 17 (mem_ready.2 ⟨h, _, rfl, by simp [Region.binds] <;> simp_all⟩))
        have hall : ∀ i, i < 18 → l.getD i true = true := fun i hi => by
          rcases (show i = 0 ∨ i = 1 ∨ i = 2 ∨ i = 3 ∨ i = 4 ∨ i = 5 ∨ i = 6 ∨ i = 7 ∨ i = 8 ∨ i = 9 ∨ i = 10 ∨ i = 11 ∨ i = 12 ∨ i = 13 ∨ i = 14 ∨ i = 15 ∨ i = 16 ∨ i = 17 by omega) with rfl | rfl | rfl | rfl | rfl | rfl | rfl | rfl | rfl | rfl | rfl | rfl | rfl | rfl | rfl | rfl | rfl | rfl
          · exact getD_true st0
          · exact getD_true st1
          · exact getD_true st2
          · exact getD_true st3
          · exact getD_true st4
          · exact getD_true st5
          · exact getD_true st6
          · exact getD_true st7
          · exact getD_true st8
          · exact getD_true st9
          · exact getD_true st10
          · exact getD_true st11
          · exact getD_true st12
          · exact getD_true st13
          · exact getD_true st14
          · exact getD_true st15
          · exact getD_true st16
          · exact getD_true st17
        clear st0 st1 st2 st3 st4 st5 st6 st7 st8 st9 st10 st11 st12 st13 st14 st15 st16 st17 hk hnot hz
        have hTs : T.size = 36 := by rw [hT]; rfl
        obtain ⟨ha, hw'⟩ := hR.all (T' := (((((((((((((((((T.setIfInBounds 18 (vals 0)).setIfInBounds 19 (vals 1)).setIfInBounds 20 (vals 2)).setIfInBounds 21 (vals 3)).setIfInBounds 22 (vals 4)).setIfInBounds 23 (vals 5)).setIfInBounds 24 (vals 6)).setIfInBounds 25 (vals 7)).setIfInBounds 26 (vals 8)).setIfInBounds 27 (vals 9)).setIfInBounds 28 (vals 10)).setIfInBounds 29 (vals 11)).setIfInBounds 30 (vals 12)).setIfInBounds 31 (vals 13)).setIfInBounds 32 (vals 14)).setIfInBounds 33 (vals 15)).setIfInBounds 34 (vals 16))) (fun i hi => hall i (by simpa using hi)) (by decide) (by simp) (fun j hj => by
          by_cases h1 : j = 18 ∨ j = 19 ∨ j = 20 ∨ j = 21 ∨ j = 22 ∨ j = 23 ∨ j = 24 ∨ j = 25 ∨ j = 26 ∨ j = 27 ∨ j = 28 ∨ j = 29 ∨ j = 30 ∨ j = 31 ∨ j = 32 ∨ j = 33 ∨ j = 34
          · rcases h1 with rfl | rfl | rfl | rfl | rfl | rfl | rfl | rfl | rfl | rfl | rfl | rfl | rfl | rfl | rfl | rfl | rfl <;> simp [rv_sets, tOwn, List.findIdx?, List.findIdx?.go, hTs]
          · simp only [not_or] at h1
            obtain ⟨m18, m19, m20, m21, m22, m23, m24, m25, m26, m27, m28, m29, m30, m31, m32, m33, m34⟩ := h1
            have e : tOwn [some 18, some 19, some 20, some 21, some 22, some 23, some 24, some 25, some 26, some 27, some 28, some 29, some 30, some 31, some 32, some 33, some 34, none] vals j = none := by
              unfold tOwn
              simp [List.findIdx?, List.findIdx?.go, Ne.symm m18, Ne.symm m19, Ne.symm m20, Ne.symm m21, Ne.symm m22, Ne.symm m23, Ne.symm m24, Ne.symm m25, Ne.symm m26, Ne.symm m27, Ne.symm m28, Ne.symm m29, Ne.symm m30, Ne.symm m31, Ne.symm m32, Ne.symm m33, Ne.symm m34]
            rw [e]
            simp only [rv_sets]
            repeat rw [if_neg (by omega)])
        subst ha hw'
        clear hR hall hTs
        rw [v0, v1, v2, v3, v4, v5, v6, v7, v8, v9, v10, v11, v12, v13, v14, v15, v16, hT]
        simp only [List.setIfInBounds_toArray, List.set_cons_succ, List.set_cons_zero]
        clear v0 v1 v2 v3 v4 v5 v6 v7 v8 v9 v10 v11 v12 v13 v14 v15 v16 vals hT T
    gi_wp2
    refine ⟨?_, HNX.out⟩
    exact KeepsFrom.trans' ((⟨Nat.le_refl _, fun _ _ h _ => h⟩ : KeepsOthers W W.drew).trans (KeepsOthers.setCell _ _ _)) 0 _
  case done =>
    intro D W hD hI hK
    obtain ⟨zs, e1, e2⟩ := hI.ex
    rw [Nat.sub_self] at e1
    have hv := raising_end e1
    have hz : zs.length = n + 1 := e1.1.trans hxl
    have hc1 := hI.c1
    have hbl2 := hI.bl
    rw [show val (ds ++ [0]) = val ds from val_snoc0 ds] at hv
    have HE := Lib.hid e1.2.1
    have HR := Lib.hid e2
    clear e1 e2 hI HC hI0 HW4
    gi_wp2
    refine ⟨by simp, .inl ⟨_, _, rfl, run_takeDeferred hK, ?_⟩⟩
    refine ⟨_, results_tmp rfl _ _ _, w.heap.size + 1, zs, rfl, Nat.le_succ _, ?_, hz, HE.out, hv, ?_⟩
    · exact ((grownBy_putObj' W D (.deferred none)).block _ HR.out.lt (fun e => by cases e; omega)).trans HR.out
    · exact hbl2.trans (belowK_b (w := w) (Nat.le_refl _) W D _ _ (by omega) hK rfl rfl)

theorem raised_any {w : World} {ao : Option Addr} {cap n s t : Nat} {ds : List Nat} (ha : Sl w (.slice ao n cap) ds) (hn0 : n ≠ 0) (hst : s + t = 32) (hl : n ≤ 1000000) (hs32 : s < 32) :
    Calls Tryz.prog 102 #[.slice ao n cap, .int .i64 s] w (RaisE w n (val ds * 2 ^ s)) :=
  callsIn_wide.1 (raised_in Fence.wide 5 trivial trivial trivial trivial (fun k W v zs j h => callsIn_wide.2 (digit_any h j)) rfl (by omega) ha hn0 hst hl hs32)

end Go.Proofs.YtdgmjmckeeeljaaGreatDoor

namespace Go.Proofs.YtdgmjmckeeeljaaGreatDoor
open Go Go.RowKit

structure RH (W0 : World) (T : Array Value) (ds : List (Option Nat)) (ok : Nat → Value → World → Prop) (df : List Deferred) (vals : Nat → Value) (l : Array Bool) (a : Act) (w : World) : Prop where
  size : l.size = ds.length
  fr : Fr (tOwn ds vals) T l ⟨a.tmps, []⟩
  df : a.defers = df
  bl : Below W0.heap.size W0 w
  val : ∀ i, i < ds.length → l.getD i true = true → ok i (vals i) w

section
variable {W0 : World} {T : Array Value} {ds : List (Option Nat)} {ok : Nat → Value → World → Prop} {df : List Deferred} {vals : Nat → Value} {l : Array Bool} {a : Act} {w : World}

theorem RH.op (h : RH W0 T ds ok df vals l a w) (hok : ∀ i v w w', ok i v w → Below w.heap.size w w' → ok i v w') (i d : Nat) {v : Value} (hd : ds.findIdx? (fun x => x == some d) = some i) (hi : i < ds.length) (hl : l.getD i true = false) {w' : World} (hb : Below w.heap.size w w') (hv : ok i v w') :
    RH W0 T ds ok df (fun u => if u = i then v else vals u) (l.setIfInBounds i true) (a.put (some d) v) w' := by
  refine ⟨by rw [Array.size_setIfInBounds]; exact h.size, h.fr.stepT hd (by rw [h.size]; exact hi) hl v, h.df, h.bl.trans (hb.mono h.bl.size), fun k hk h1 => ?_⟩
  by_cases e : k = i
  · subst e
    simp only [if_true]
    exact hv
  · simp only [e, if_false]
    rcases gset_true h1 with e2 | h1
    · exact absurd e2 e
    · exact hok _ _ _ _ (h.val k hk h1) hb

theorem RH.start (hT : l = Array.replicate ds.length false) (hb : Below W0.heap.size W0 w) : RH W0 T ds ok df vals l ⟨T, df⟩ w := by
  have hf : ∀ j, j < ds.length → l.getD j true = false := fun j hj => by rw [hT]; simp [Array.getD, hj]
  refine ⟨by rw [hT]; simp, Fr.start _ _ _ (fun j i v h => hf i ?_), rfl, hb, fun i hi h => ?_⟩
  · obtain ⟨h1, _⟩ := tOwn_inv h
    exact (List.getElem?_eq_some_iff.1 h1).1
  · rw [hf _ hi] at h; cases h

theorem RH.all (h : RH W0 T ds ok df vals l a w) (hl : ∀ i, i < ds.length → l.getD i true = true) {T' : Array Value} (hT : T'.size = T.size)
    (ht : ∀ j, j < T.size → T'.getD j undef = match tOwn ds vals j with | some (_, v) => v | none => T.getD j undef) : a = ⟨T', df⟩ := by
  have e := h.fr.all (fun j i v hj => hl i (List.getElem?_eq_some_iff.1 (tOwn_inv hj).1).1) hT ht
  have e2 := h.df
  obtain ⟨t, d⟩ := a
  simp only [] at e e2
  injection e with e3 _
  subst e2 e3
  rfl
end

theorem frame_namedD {F : Fence} {n : Nat} {P : Program} {c : Code} {Q : Exit → Act → World → Prop} {T0 : Array Value} {df : List Deferred} {w : World} (h : ∀ T, T = T0 → c.wpIn F n P Q ⟨T, df⟩ w) : c.wpIn F n P Q ⟨T0, df⟩ w := h T0 rfl

end Go.Proofs.YtdgmjmckeeeljaaGreatDoor

namespace Go.Proofs.YtdgmjmckeeeljaaGreatDoor
open Go.RowKit

/-- Room above a number whose highest digit is moved up. -/
theorem norm_room {y m s L : Nat} (hl : (digs y).length = m + 2) (hL : (digs y).getD (m + 1) 0 < 2 ^ L) (hs : s + L = 32) : y * 2 ^ s < 4294967296 ^ (m + 2) := by
  have e := val_take_drop (digs y) (m := m + 1) (by omega)
  rw [val_digs, drop_val (by omega), List.drop_eq_nil_of_le (by omega)] at e
  simp only [val, Nat.mul_zero, Nat.add_zero] at e
  have h3 := take_lt (bd_digs y) (m := m + 1) (by omega)
  have h4 : y < 2 ^ L * 4294967296 ^ (m + 1) := by
    have := Nat.mul_le_mul_right (4294967296 ^ (m + 1)) (show (digs y).getD (m + 1) 0 + 1 ≤ 2 ^ L by omega)
    rw [Nat.add_mul, Nat.one_mul, Nat.mul_comm] at this
    omega
  have h5 : 2 ^ L * 2 ^ s = 4294967296 := by rw [Nat.mul_comm]; exact pow_parts hs
  have h6 : y * 2 ^ s < 2 ^ L * 4294967296 ^ (m + 1) * 2 ^ s := Nat.mul_lt_mul_of_pos_right h4 (Nat.pow_pos (by omega))
  rw [show 2 ^ L * 4294967296 ^ (m + 1) * 2 ^ s = (2 ^ L * 2 ^ s) * 4294967296 ^ (m + 1) by grind, h5] at h6
  rw [Nat.pow_succ, Nat.mul_comm (4294967296 ^ (m + 1))]
  exact h6

theorem norm_len {y m s : Nat} (hl : (digs y).length = m + 2) (h : y * 2 ^ s < 4294967296 ^ (m + 2)) : (digs (y * 2 ^ s)).length = m + 2 := by
  have h1 := digs_length_le.2 h
  have h2 : (digs y).length ≤ (digs (y * 2 ^ s)).length := digs_length_le.2 (Nat.lt_of_le_of_lt (Nat.le_mul_of_pos_right y (Nat.pow_pos (by omega))) (digs_length_le.1 (Nat.le_refl _)))
  omega

theorem last_ne {y m : Nat} (h : (digs y).length = m + 2) : (digs y).getD (m + 1) 0 ≠ 0 := by
  have hl := digs_last y
  rw [List.getLast?_eq_getElem?, h, show m + 2 - 1 = m + 1 by omega, List.getElem?_eq_getElem (by omega)] at hl
  rw [List.getD_eq_getElem?_getD, List.getElem?_eq_getElem (by omega)]
  intro e
  exact hl (congrArg some e)
theorem bitLen_facts {t : Nat} (h0 : t ≠ 0) (h : t < 4294967296) : 1 ≤ Lib.bitLen t ∧ Lib.bitLen t ≤ 32 ∧ t < 2 ^ Lib.bitLen t := by
  obtain ⟨b1, b2, b3⟩ := Lib.bitLenAux_bounds 64 t (Nat.lt_trans h (by decide)) h0
  refine ⟨b1, ?_, b3⟩
  have h2 : 2 ^ (Lib.bitLenAux 64 t - 1) < 2 ^ 32 := Nat.lt_of_le_of_lt b2 h
  have := (Nat.pow_lt_pow_iff_right (show 1 < 2 by omega)).1 h2
  show Lib.bitLenAux 64 t ≤ 32
  omega

/-- What holds when k digits of the quotient are reckoned. -/
structure DivI (w : World) (A B la m Q g1 g2 p7 z : Nat) (ys : List Nat) (k : Nat) (W : World) : Prop where
  c7 : W.cell? ⟨p7, 0, none⟩ = some (.slice (some ⟨g1, 0, none⟩) (la + 1) (la + 1))
  c8 : W.cell? ⟨z, 0, none⟩ = some (.slice (some ⟨g2, 0, none⟩) (m + 2) (m + 2 + 1))
  c9 : W.cell? ⟨z + 1, 0, none⟩ = some (.int .i64 ((m : Int) + 2))
  c10 : W.cell? ⟨z + 1 + 1 + 1, 0, none⟩ = some (.slice (some ⟨z + 1 + 1, 0, none⟩) Q Q)
  c11 : W.cell? ⟨z + 1 + 1 + 1 + 1, 0, none⟩ = some (.slice (some ⟨z + 1 + 1, 0, none⟩) Q Q)
  ex : ∃ qs rs, Dividing A B (m + 2) qs rs (Q - k) ∧ qs.length = Q ∧ (∀ j, j < Q - k → qs.getD j 0 = 0) ∧ Row W (z + 1 + 1) qs ∧ Row W g1 rs
  rowb : Row W g2 ys
  bl : Below w.heap.size w W

theorem divI_own {w w0 : World} {A B la m Q g1 g2 p7 z : Nat} {ys : List Nat} (h1 : z + 1 + 1 + 1 + 1 < w0.heap.size) (hg : g1 < p7) (hp : p7 < g2) (hz : g2 < z) (hw : w.heap.size ≤ w0.heap.size) : OwnFrom w0.heap.size (DivI w A B la m Q g1 g2 p7 z ys) := by
  intro k W W' row hs hg2 hr
  have hr' : ∀ r, row = some r → ∃ o : Obj, W.heap[r]? = some o ∧ o.isCells = false := fun r e => (hr r e).2
  obtain ⟨qs, rs, e1, e2, e3, e4, e5⟩ := hs.ex
  refine ⟨cell_kept hs.c7 hg2 hr', cell_kept hs.c8 hg2 hr', cell_kept hs.c9 hg2 hr', cell_kept hs.c10 hg2 hr', cell_kept hs.c11 hg2 hr', ⟨qs, rs, e1, e2, e3, ?_, ?_⟩, ?_, ?_⟩
  · exact (hg2.block _ e4.lt (fun e => by have := (hr _ e.symm).1; omega)).trans e4
  · exact (hg2.block _ e5.lt (fun e => by have := (hr _ e.symm).1; omega)).trans e5
  · exact (hg2.block _ hs.rowb.lt (fun e => by have := (hr _ e.symm).1; omega)).trans hs.rowb
  · exact hs.bl.grown hg2 hs.bl.size (fun r e => Nat.le_trans hw (hr r e).1)

theorem divI_next {w W W' : World} {A B la m Q g1 g2 p7 z k : Nat} {ys : List Nat} (hI : DivI w A B la m Q g1 g2 p7 z ys k W) (hg : g1 < p7) (hp : p7 < g2) (hz : g2 < z) (ho : ∀ b, b ≠ g1 → b ≠ z + 1 + 1 → W'.heap[b]? = W.heap[b]?) (hbl : Below w.heap.size W W')
    (hex : ∃ qs rs, Dividing A B (m + 2) qs rs (Q - (k + 1)) ∧ qs.length = Q ∧ (∀ j, j < Q - (k + 1) → qs.getD j 0 = 0) ∧ Row W' (z + 1 + 1) qs ∧ Row W' g1 rs) : DivI w A B la m Q g1 g2 p7 z ys (k + 1) W' :=
  ⟨(cell_of_block (ho _ (by dsimp only; omega) (by dsimp only; omega))).trans hI.c7, (cell_of_block (ho _ (by dsimp only; omega) (by dsimp only; omega))).trans hI.c8, (cell_of_block (ho _ (by dsimp only; omega) (by dsimp only; omega))).trans hI.c9,
    (cell_of_block (ho _ (by dsimp only; omega) (by dsimp only; omega))).trans hI.c10, (cell_of_block (ho _ (by dsimp only; omega) (by dsimp only; omega))).trans hI.c11, hex, (ho _ (by omega) (by omega)).trans hI.rowb, hI.bl.trans hbl⟩

theorem div_room {x y la m Q s : Nat} (hla : (digs x).length = la) (hlb : (digs y).length = m + 2) (hQ : Q + (m + 2) = la + 1) (h : y * 2 ^ s < 4294967296 ^ (m + 2)) : x * 2 ^ s < y * 2 ^ s * 4294967296 ^ Q := by
  have hb : 4294967296 ^ (m + 2 - 1) ≤ y := by
    rcases Nat.lt_or_ge y (4294967296 ^ (m + 2 - 1)) with h2 | h2
    · have := digs_length_le.2 h2
      omega
    · exact h2
  exact raised_lt (digs_length_le.1 (Nat.le_of_eq hla)) hb (by omega) (Nat.le_refl _) (by omega) h

theorem rep_getD (Q j : Nat) : (List.replicate Q 0).getD j 0 = 0 := by
  simp only [List.getD_eq_getElem?_getD, List.getElem?_replicate]
  split <;> rfl

/-- The worlds in which the boxes of a division are laid. -/
theorem div_worlds (w2 : World) {m Q g2 : Nat} (W5 : World) (hW : W5 = (((((w2.alloc (.cells #[.slice (some ⟨g2, 0, none⟩) (m + 2) (m + 2 + 1)] 25)).alloc (.cells #[.int .i64 ((m : Int) + 2)] 3)).alloc (.cells (Array.replicate Q (u32v 0)) 59)).alloc
      (.cells #[.slice (some ⟨w2.heap.size + 1 + 1, 0, none⟩) Q Q] 25)).alloc (.cells #[.slice (some ⟨w2.heap.size + 1 + 1, 0, none⟩) Q Q] 25))) :
    Below w2.heap.size w2 W5 ∧ W5.heap.size = w2.heap.size + 1 + 1 + 1 + 1 + 1 ∧ W5.cell? ⟨w2.heap.size, 0, none⟩ = some (.slice (some ⟨g2, 0, none⟩) (m + 2) (m + 2 + 1)) ∧ W5.cell? ⟨w2.heap.size + 1, 0, none⟩ = some (.int .i64 ((m : Int) + 2)) ∧
      W5.cell? ⟨w2.heap.size + 1 + 1 + 1, 0, none⟩ = some (.slice (some ⟨w2.heap.size + 1 + 1, 0, none⟩) Q Q) ∧ W5.cell? ⟨w2.heap.size + 1 + 1 + 1 + 1, 0, none⟩ = some (.slice (some ⟨w2.heap.size + 1 + 1, 0, none⟩) Q Q) ∧ Row W5 (w2.heap.size + 1 + 1) (List.replicate Q 0) := by
  have b0 := Boxed.new w2 25 (.slice (some ⟨g2, 0, none⟩) (m + 2) (m + 2 + 1))
  have b1 := Boxed.new (w2.alloc (.cells #[.slice (some ⟨g2, 0, none⟩) (m + 2) (m + 2 + 1)] 25)) 3 (.int .i64 ((m : Int) + 2))
  obtain ⟨V, hV⟩ : ∃ V, V = ((w2.alloc (.cells #[.slice (some ⟨g2, 0, none⟩) (m + 2) (m + 2 + 1)] 25)).alloc (.cells #[.int .i64 ((m : Int) + 2)] 3)) := ⟨_, rfl⟩
  rw [← hV] at hW
  have hVs : V.heap.size = w2.heap.size + 1 + 1 := by rw [hV]; simp
  have hrow : Row (V.alloc (.cells (Array.replicate Q (u32v 0)) 59)) (w2.heap.size + 1 + 1) (List.replicate Q 0) := by
    have := row_new V (List.replicate Q 0)
    rw [hVs] at this
    simpa using this
  have b3 := Boxed.new (V.alloc (.cells (Array.replicate Q (u32v 0)) 59)) 25 (.slice (some ⟨w2.heap.size + 1 + 1, 0, none⟩) Q Q)
  have b4 := Boxed.new ((V.alloc (.cells (Array.replicate Q (u32v 0)) 59)).alloc (.cells #[.slice (some ⟨w2.heap.size + 1 + 1, 0, none⟩) Q Q] 25)) 25 (.slice (some ⟨w2.heap.size + 1 + 1, 0, none⟩) Q Q)
  simp only [World.size_alloc, hVs] at b1 b3 b4
  have b0' := (b0.alloc (.cells #[.int .i64 ((m : Int) + 2)] 3))
  rw [← hV] at b0' b1
  refine ⟨?_, by rw [hW]; simp [hVs], by rw [hW]; exact (((b0'.alloc _).alloc _).alloc _).cell, by rw [hW]; exact (((b1.alloc _).alloc _).alloc _).cell, by rw [hW]; exact (b3.alloc _).cell, by rw [hW]; exact b4.cell, by rw [hW]; exact (hrow.alloc _).alloc _⟩
  rw [hW, hV]
  go_grown

theorem part_split (rs : List Nat) (i k : Nat) : rs = rs.take i ++ (rs.drop i).take k ++ rs.drop (i + k) := by
  rw [List.append_assoc, ← List.drop_drop, List.take_append_drop, List.take_append_drop]

theorem only_keeps {g : Nat} {w w' : World} {o : Array Value} {t : TypeId} {fr : Nat × Nat} (h : Only g w w') (hg : w.heap[g]? = some (.cells o t fr)) : KeepsOthers w w' :=
  ⟨by rw [h.size]; exact Nat.le_refl _, fun k ob hk ho => by
    by_cases e : k = g
    · subst e
      rw [hg] at hk
      cases hk
      cases ho
    · exact (h.oth k e).trans hk⟩

/-- Digits in memory of one's own, the slice named. -/
def SwD (B n : Nat) (v : Value) (W : World) : Prop := ∃ ao cap, v = .slice ao (digs n).length cap ∧ Sw B W (.slice ao (digs n).length cap) (digs n)
theorem swD_mk {B B' n : Nat} {v : Value} {W : World} (h : Sw B' W v (digs n)) (hB : B ≤ B') : SwD B n v W := by
  obtain ⟨ao, cap, rfl⟩ := h.sl.mk'
  exact ⟨ao, cap, rfl, h.mono hB⟩
/-- What each operation of the last region returns. -/
def okDL (B g3 g1 la m Q s q r : Nat) (i : Nat) (v : Value) (W : World) : Prop :=
  match i with
  | 0 => v = .slice (some ⟨g3, 0, none⟩) Q Q
  | 1 => v = .slice (some ⟨g3, 0, none⟩) (digs q).length Q
  | 2 => v = .slice (some ⟨g1, 0, none⟩) (la + 1) (la + 1)
  | 3 => v = .int .i64 ((m : Int) + 2)
  | 4 => v = .slice (some ⟨g1, 0, none⟩) (m + 2) (la + 1)
  | 5 => v = .int .i64 (s : Nat)
  | 7 => v = .slice (some ⟨g3, 0, none⟩) (digs q).length Q
  | _ => SwD B r v W
theorem okDL_mono {B g3 g1 la m Q s q r : Nat} (i : Nat) (v : Value) (w w' : World) (h : okDL B g3 g1 la m Q s q r i v w) (hb : Below w.heap.size w w') : okDL B g3 g1 la m Q s q r i v w' := by
  unfold okDL at h ⊢
  split at h <;> first | exact h | (obtain ⟨ao, cap, e, hs⟩ := h; exact ⟨ao, cap, e, hs.below hb⟩)
theorem sl_take {W : World} {g n la : Nat} {rs : List Nat} (h : Row W g rs) (hb : Bd rs) (hl : rs.length = la + 1) (hn : n ≤ la + 1) (hla : la ≤ 1000) : Sl W (.slice (some ⟨g, 0, none⟩) n (la + 1)) (rs.take n) := by
  have hlen : (rs.take n).length = n := by rw [List.length_take]; omega
  refine ⟨fun d hd => hb d (List.mem_of_mem_take hd), by unfold maxLen; omega, .inr ⟨g, 0, la + 1, by rw [hlen], by omega, fun j hj => ?_⟩⟩
  rw [Nat.zero_add, h.cell j (by omega), getD_take _ _ _ (by omega)]

attribute [local go_sem] Oper.semAt_some
open Go.Shelf in
set_option maxRecDepth 100000 in
set_option maxHeartbeats 8000000 in
theorem divideLong_in (F : Fence) (m0 : Nat) (hfn : ∀ f, F.fn f) (hw : ∀ k f args W Q, Calls Tryz.prog f args W Q → CallsIn F k Tryz.prog f args W Q)
    (hro : F.round = none) (hm0 : 5 ≤ m0) {w : World} {va vb : Value} {x y la m : Nat} (ha : Sl w va (digs x)) (hb : Sl w vb (digs y)) (hla : (digs x).length = la) (hlb : (digs y).length = m + 2) (hle : la ≤ 256) (hml : m + 2 ≤ la) (hxy : y ≤ x) :
    CallsIn F m0 Tryz.prog 77 #[va, vb] w (DivRes w x y) := by
  have h1 : 1 ≤ m0 := by omega
  obtain ⟨ao, ca, rfl⟩ := ha.mk'
  obtain ⟨bo, cb, rfl⟩ := hb.mk'
  rw [hla] at ha ⊢
  rw [hlb] at hb ⊢
  obtain ⟨bb, boff, rfl, hcapb, hbb, hclb⟩ := hb.at (by omega)
  have htop := hclb (m + 1) (by omega)
  have htl : (digs y).getD (m + 1) 0 < 4294967296 := by rw [val_digit (bd_digs y)]; exact Nat.mod_lt _ (by omega)
  have ht0 : (digs y).getD (m + 1) 0 ≠ 0 := last_ne hlb
  have hLB := bitLen_facts ht0 htl
  obtain ⟨top, htp⟩ : ∃ t, t = (digs y).getD (m + 1) 0 := ⟨_, rfl⟩
  rw [← htp] at htop htl hLB
  obtain ⟨L, hL⟩ : ∃ L, L = Lib.bitLen top := ⟨_, rfl⟩
  have hlz := Tryz.bits_LeadingZeros32 (top : Int) w (by omega) (by omega)
  rw [Int.toNat_natCast, ← hL] at hlz
  rw [← hL] at hLB
  obtain ⟨hL1, hL32, hLt⟩ := hLB
  obtain ⟨s, hs⟩ : ∃ s, s = 32 - L := ⟨_, rfl⟩
  have hst : s + L = 32 := by omega
  have hs32 : s < 32 := by omega
  rw [show (32 : Int) - (L : Int) = (s : Nat) by omega] at hlz
  have HROOM := Lib.hid (norm_room hlb (by rw [← htp]; exact hLt) hst)
  have HLEN := Lib.hid (norm_len hlb HROOM.out)
  have hra := fun W (h : Below w.heap.size w W) => raised_any (ha.below h) (by omega) hst (by omega) hs32
  have hrb := fun W (h : Below w.heap.size w W) => raised_any (hb.below h) (by omega) hst (by omega) hs32
  rw [val_digs] at hra hrb
  have HRA := Lib.hid hra
  have HRB := Lib.hid hrb
  have HTP := Lib.hid htp
  have HSS := Lib.hid hs
  have HST := Lib.hid hst
  have HLL := Lib.hid hL
  have HLA := Lib.hid hla
  have HLB := Lib.hid hlb
  obtain ⟨Q, hQ⟩ : ∃ Q, Q + (m + 2) = la + 1 := ⟨la + 1 - (m + 2), by omega⟩
  have hQ0 : 1 ≤ Q := by omega
  have wsub : IntKind.i64.wrap ((la : Int) + 1 - ((m : Int) + 2)) = (Q : Int) := by rw [IntKind.wrap_i64]; omega
  have HQ := Lib.hid hQ
  have hQl : Q ≤ 1000 := by omega
  clear hra hrb htp hs hst hL hla hlb ha hb hclb htl ht0 hLt hs32 hL1 hL32 hQ
  refine callsIn_of_wp_marks Tryz.func77 rfl (hfn 77) ?_ hro
  simp only [Tryz.ntmps77, List.size_toArray, List.length_cons, List.length_nil, Nat.reduceAdd, Nat.reduceSub, Array.replicate_succ, Array.replicate_zero, List.push_toArray, List.append_toArray, List.nil_append, List.cons_append]
  have hmk := fun W => run_make_row W Q (by omega)
  have hlz2 := hw (m0 - 1) _ _ _ _ hlz
  clear hlz
  gi_wp2_with (first
    | (gi_at_call 101; (with_reducible refine hlz2.mono ?_); rintro e w' ⟨rfl, rfl⟩; clear hlz2))
  have hhA := hw (m0 - 1) _ _ _ _ (HRA.out _ (Below.refl _ _))
  (with_reducible refine hhA.mono ?_)
  rintro e w1 ⟨g1, xs, rfl, hg1, hr1, hz1, hb1, hv1, hbl1⟩
  have HR1 := Lib.hid hr1
  have HZ1 := Lib.hid hz1
  have HB1 := Lib.hid hb1
  have HV1 := Lib.hid hv1
  have HBL1 := Lib.hid hbl1
  clear hr1 hz1 hb1 hv1 hbl1 hhA
  gi_wp2_with fail
  have hhB := hw (m0 - 1) _ _ _ _ (HRB.out _ (HBL1.out.trans ((alloc_b w1 (.cells #[.slice (some ⟨g1, 0, none⟩) (la + 1) (la + 1)] 25)).mono HBL1.out.size)))
  (with_reducible refine hhB.mono ?_)
  rintro e w2 ⟨g2, ys, rfl, hg2, hr2, hz2, hb2, hv2, hbl2⟩
  have ht := hw (m0 - 1) _ _ _ _ (trim_any (w := w2) (some ⟨g2, 0, none⟩) (m + 2 + 1) (m + 2 + 1) (hr2.sw' (B := 0) (Nat.zero_le _) hb2 hz2 (by unfold maxLen; omega)).sl)
  rw [hv2, HLEN.out] at ht
  have HR2 := Lib.hid hr2
  have HZ2 := Lib.hid hz2
  have HB2 := Lib.hid hb2
  have HV2 := Lib.hid hv2
  have HBL2 := Lib.hid hbl2
  clear hr2 hz2 hb2 hv2 hbl2 hhB
  have c7 : w2.cell? ⟨w1.heap.size, 0, none⟩ = some (.slice (some ⟨g1, 0, none⟩) (la + 1) (la + 1)) := (HBL2.out.cell (p := ⟨w1.heap.size, 0, none⟩) (by simp)).trans (Boxed.new w1 25 _).cell
  have hz12 : w1.heap.size < w2.heap.size := by have := HBL2.out.size; rw [World.size_alloc] at this; omega
  have c7b : ((w2.alloc (.cells #[.slice (some ⟨g2, 0, none⟩) (m + 2) (m + 2 + 1)] 25)).alloc (.cells #[.int .i64 ((m : Int) + 2)] 3)).cell? ⟨w1.heap.size, 0, none⟩ = some (.slice (some ⟨g1, 0, none⟩) (la + 1) (la + 1)) :=
    ((by go_grown : Below w2.heap.size w2 ((w2.alloc (.cells #[.slice (some ⟨g2, 0, none⟩) (m + 2) (m + 2 + 1)] 25)).alloc (.cells #[.int .i64 ((m : Int) + 2)] 3))).cell (p := ⟨w1.heap.size, 0, none⟩) hz12).trans c7
  gi_wp2_with (gi_at_call 76; (with_reducible refine ht.mono ?_); rintro e w3 ⟨rfl, rfl⟩; clear ht)
  gi_wp2_with (gi_at_call 58; (with_reducible refine (backward_in F (m0 - 1) (hfn 58) hro _ _ _ _).mono ?_); rintro e w5 ⟨rfl, rfl⟩)
  clear c7b hmk wsub
  obtain ⟨W5, hW5⟩ : ∃ W5, W5 = (((((w3.alloc (.cells #[.slice (some ⟨g2, 0, none⟩) (m + 2) (m + 2 + 1)] 25)).alloc (.cells #[.int .i64 ((m : Int) + 2)] 3)).alloc (.cells (Array.replicate Q (u32v 0)) 59)).alloc
      (.cells #[.slice (some ⟨w3.heap.size + 1 + 1, 0, none⟩) Q Q] 25)).alloc (.cells #[.slice (some ⟨w3.heap.size + 1 + 1, 0, none⟩) Q Q] 25)) := ⟨_, rfl⟩
  have HDW := Lib.hid (div_worlds w3 W5 hW5)
  rw [← hW5]
  clear hW5
  obtain ⟨d1, d2, d3, d4, d5, d6, d7⟩ := HDW.out
  have hg1l : g1 < w1.heap.size := HR1.out.lt
  have hg2l : g2 < w3.heap.size := HR2.out.lt
  have hg12 : w1.heap.size < g2 := by rw [World.size_alloc] at hg2; omega
  have hb15 : Below w1.heap.size w1 W5 := ((alloc_b w1 _).trans (HBL2.out.mono (alloc_b w1 _).size)).trans (d1.mono (by omega))
  have hI0 : DivI w' (x * 2 ^ s) (y * 2 ^ s) la m Q g1 g2 w1.heap.size w3.heap.size ys 0 W5 := ⟨(d1.cell (p := ⟨w1.heap.size, 0, none⟩) hz12).trans c7, d3, d4, d5, d6,
    ⟨List.replicate Q 0, xs, by have := dividing_start (A := x * 2 ^ s) (B := y * 2 ^ s) (n := m + 2) (qs := List.replicate Q 0) (rs := xs) (by simp) HB1.out (by rw [List.length_replicate, HZ1.out, HQ.out]) HV1.out (by rw [List.length_replicate]; exact div_room HLA.out HLB.out HQ.out HROOM.out); rwa [List.length_replicate] at this,
      by simp, fun j hj => rep_getD Q j, d7, HR1.out.below hb15⟩, HR2.out.below d1, HBL1.out.trans (hb15.mono HBL1.out.size)⟩
  have hz5 := d2
  have hB5 : w'.heap.size ≤ W5.heap.size := (HBL1.out.trans (hb15.mono HBL1.out.size)).size
  clear d1 d2 d3 d4 d5 d6 d7 hb15 c7
  have HC := backward_counts F (m0 - 1) (hfn 90) hro (by omega) (w3.heap.size + 1 + 1 + 1 + 1) (some ⟨w3.heap.size + 1 + 1, 0, none⟩) Q (List.replicate Q 0) (by rw [List.length_replicate]; omega) (DivI w' (x * 2 ^ s) (y * 2 ^ s) la m Q g1 g2 w1.heap.size w3.heap.size ys) (fun k W h => by rw [List.length_replicate]; exact h.c11) (fun k W h hk => ?hcell)
  rw [List.length_replicate] at HC
  refine rangeFunc_counts hro h1 (gf := 90) (lb := #[.pointer (some ⟨w3.heap.size + 1 + 1 + 1 + 1, 0, none⟩)]) rfl (hfn 90) (enters_of Tryz.func90 (by kernel_rfl) rfl)
    HC (fun _ => rfl) (divI_own (by omega) hg1l hg12 hg2l hB5) hI0
    (fun k => { tmps := #[.slice ao la ca, .slice (some ⟨bb, boff, none⟩) (m + 2) cb, undef, undef, .slice none 0 0, .slice none 0 0, .int .i64 (s : Nat), .pointer (some ⟨w1.heap.size, 0, none⟩), .pointer (some ⟨w3.heap.size, 0, none⟩), .pointer (some ⟨w3.heap.size + 1, 0, none⟩), .pointer (some ⟨w3.heap.size + 1 + 1 + 1, 0, none⟩), .int .i64 ((Q - 1 - k : Nat) : Int), undef, undef, .slice (some ⟨bb, boff, none⟩) (m + 2) cb, .slice (some ⟨bb, boff, none⟩) (m + 2) cb, .int .i64 ((m : Int) + 2), .int .i64 ((m : Int) + 2 - 1), .pointer (some ⟨bb, boff + (m + 1), none⟩), .int .u32 (top : Nat), .int .i64 (s : Nat), .slice ao la ca, .int .i64 (s : Nat), .slice (some ⟨g1, 0, none⟩) (la + 1) (la + 1), .slice (some ⟨bb, boff, none⟩) (m + 2) cb, .int .i64 (s : Nat), .slice (some ⟨g2, 0, none⟩) (m + 2 + 1) (m + 2 + 1), .slice (some ⟨g2, 0, none⟩) (m + 2) (m + 2 + 1), .slice (some ⟨g2, 0, none⟩) (m + 2) (m + 2 + 1), .int .i64 ((m : Int) + 2), .slice (some ⟨g1, 0, none⟩) (la + 1) (la + 1), .int .i64 ((la : Int) + 1), .int .i64 ((m : Int) + 2), .int .i64 (Q : Nat), .slice (some ⟨w3.heap.size + 1 + 1, 0, none⟩) Q Q, .slice (some ⟨w3.heap.size + 1 + 1, 0, none⟩) Q Q, .func (.func 90) #[] #[.pointer (some ⟨w3.heap.size + 1 + 1 + 1 + 1, 0, none⟩)], .int .i64 ((Q - 1 - k : Nat) : Int), .int .u32 (((List.replicate Q 0).getD (Q - 1 - k) 0 : Nat) : Int), undef, undef, undef, undef, undef, undef, undef, undef, undef, undef, undef, undef, undef, undef, undef, undef, undef, undef, undef, undef, undef, undef, undef, undef, undef, undef, undef, undef, undef, undef], defers := [] }) ?assign ?body ?done
  case hcell =>
    obtain ⟨qs, rs, e1, e2, e3, e4, e5⟩ := h.ex
    rw [List.length_replicate] at hk
    refine ⟨w3.heap.size + 1 + 1, 0, rfl, ?_⟩
    rw [List.length_replicate, Nat.zero_add, e4.cell _ (by omega), e3 _ (by omega), rep_getD]
  case assign =>
    intro l k W K hK
    unfold backArgs
    rw [List.length_replicate]
    obtain ⟨i, hi⟩ : ∃ i, i = Q - 1 - k := ⟨_, rfl⟩
    obtain ⟨v, hv⟩ : ∃ v, v = (List.replicate Q 0).getD (Q - 1 - k) 0 := ⟨_, rfl⟩
    rw [← hv, ← hi] at hK ⊢
    clear hi hv HC hI0
    gi_wp2
    exact hK
  case body =>
    intro l k W hk hI
    obtain ⟨qs, rs, e1, e2, e3, e4, e5⟩ := hI.ex
    have c7 := hI.c7
    have c8 := hI.c8
    have c9 := hI.c9
    have c10 := hI.c10
    obtain ⟨i, hi⟩ : ∃ i, i = Q - 1 - k := ⟨_, rfl⟩
    have hik : Q - k = i + 1 := by omega
    have hik2 : Q - (k + 1) = i := by omega
    rw [hik] at e1 e3
    obtain ⟨p1, p2, p3⟩ := dividing_part e1 HROOM.out (by omega)
    have hrl : rs.length = Q + (m + 2) := by rw [e1.2.2.1, e2]
    have hbr := e1.2.1
    obtain ⟨pre, hpre⟩ : ∃ pre, pre = rs.take i := ⟨_, rfl⟩
    obtain ⟨ms, hms⟩ : ∃ ms, ms = (rs.drop i).take (m + 2 + 1) := ⟨_, rfl⟩
    obtain ⟨post, hpost⟩ : ∃ post, post = rs.drop (i + (m + 2 + 1)) := ⟨_, rfl⟩
    have hpl : pre.length = i := by rw [hpre, List.length_take]; omega
    have hml2 : ms.length = m + 3 := by rw [hms]; exact p3
    have hbm : Bd ms := by rw [hms]; exact fun d hd => hbr d (List.mem_of_mem_drop (List.mem_of_mem_take hd))
    have hsplit : rs = pre ++ ms ++ post := by rw [hpre, hms, hpost]; exact part_split rs i (m + 2 + 1)
    rw [← hms] at p1
    have e5' : Row W g1 (pre ++ ms ++ post) := by rw [← hsplit]; exact e5
    have hslb : Sl W (.slice (some ⟨g2, 0, none⟩) (m + 2) (m + 2 + 1)) (digs (y * 2 ^ s)) := by
      have := (hI.rowb.sw' (B := 0) (Nat.zero_le _) HB2.out HZ2.out (by unfold maxLen; omega)).sl.trim
      rwa [HV2.out, HLEN.out] at this
    have cpm : Cl W g1 i ms := fun j hj => by
      have := e5'.cell (pre.length + j) (by simp only [List.length_append]; omega)
      rwa [mid_get hj, hpl] at this
    obtain ⟨_, _, eq, _, _, cbm⟩ := hslb.at (by omega)
    cases eq
    have hgs := hw (m0 - 1 - 1 - 1) _ _ _ _ (guessed_any (pc := la + 1 - i) (bc := m + 2 + 1) (m := m) hml2 HLEN.out cpm cbm (by omega) hbm (bd_digs _) (last_ne HLEN.out) (by rw [val_digs]; exact p1))
    rw [val_digs] at hgs
    have HGS := Lib.hid hgs
    have HSLB := Lib.hid hslb
    have HE1 := Lib.hid e1
    have HE2 := Lib.hid e2
    have HE3 := Lib.hid e3
    have HE4 := Lib.hid e4
    have HE5 := Lib.hid e5'
    have HI := Lib.hid hI
    have HPL := Lib.hid hpl
    have HML := Lib.hid hml2
    have HBM := Lib.hid hbm
    have HP1 := Lib.hid p1
    have HPRE := Lib.hid hpre
    have HMS := Lib.hid hms
    have HPOST := Lib.hid hpost
    have hiQ : i < Q := by omega
    have hil : i + (m + 3) ≤ la + 1 := by have := HQ.out; omega
    rw [← hi]
    have HII := Lib.hid hi
    have HK2 := Lib.hid hik2
    clear hgs hslb e1 e2 e3 e4 e5 e5' hI hpl hml2 hbm p1 p2 p3 hpre hms hpost hsplit hrl hbr cpm cbm hi hik hik2 HC hI0
    have h3 : 1 ≤ m0 - 1 - 1 := by omega
    gi_wp2_with fail
    rw [show i + (m + 2) + 1 - i = m + 3 by omega]
    refine (CallsIn.inRound l HGS.out).mono ?_
    rintro e w9 ⟨q, rfl, hg, nn, rfl⟩
    have hq := hg.1
    have hOff : Off g1 (.slice (some ⟨g2, 0, none⟩) (m + 2) (m + 2 + 1)) := by intro b off n cap e _; cases e; omega
    have hta : CallsIn F (m0 - 1 - 1 - 1) Tryz.prog 104 #[.slice (some ⟨g1, i, none⟩) (m + 3) (la + 1 - i), .slice (some ⟨g2, 0, none⟩) (m + 2) (m + 2 + 1), .int .u32 (q : Nat)] (W.drewN nn) (TakeE (W.drewN nn) g1 q (m + 2 + 1) pre ms post (digs (y * 2 ^ s))) :=
      hw _ _ _ _ _ (takeAway_any (w := W.drewN nn) (n := m + 2) (cap := la + 1 - i) HE5.out HML.out (by omega) HPL.out HBM.out (HSLB.out.below (below_drewN' (Below.refl _ _) nn)) (by rw [HLEN.out]; exact Nat.le_refl _) hOff hq)
    have HTA := Lib.hid hta
    have HG := Lib.hid hg
    have HOFF := Lib.hid hOff
    have HGC : Hid (∃ o, W.heap[g1]? = some (.cells o 59 (0, 0))) := Lib.hid ⟨_, HE5.out⟩
    clear hg hta hOff HGS
    gi_wp2_with fail
    refine (CallsIn.inRound l HTA.out).mono ?_
    rintro e w10 ⟨bo, zs, rfl, hzl, hbz, hbo, hv, hrz, hon⟩
    have hz1 : w3.heap.size ≠ g1 := by omega
    have hz2 : w3.heap.size + 1 + 1 + 1 ≠ g1 := by omega
    have hz3 : w3.heap.size + 1 + 1 ≠ g1 := by omega
    have c8b : w10.cell? ⟨w3.heap.size, 0, none⟩ = some (.slice (some ⟨g2, 0, none⟩) (m + 2) (m + 2 + 1)) := (cell_of_block (hon.oth _ hz1)).trans c8
    have c10b : w10.cell? ⟨w3.heap.size + 1 + 1 + 1, 0, none⟩ = some (.slice (some ⟨w3.heap.size + 1 + 1, 0, none⟩) Q Q) := (cell_of_block (hon.oth _ hz2)).trans c10
    have row3 : Row w10 (w3.heap.size + 1 + 1) qs := (hon.oth _ hz3).trans HE4.out
    have cq := row3.cell i (by rw [HE2.out]; exact hiQ)
    have fq := row3.free i
    rw [val_digs] at hv
    have hZP : val zs < 4294967296 ^ (m + 2 + 1) := by have := val_lt hbz; rwa [hzl] at this
    have hBP : y * 2 ^ s ≤ 4294967296 ^ (m + 2 + 1) := Nat.le_trans (Nat.le_of_lt HROOM.out) (Nat.pow_le_pow_right (by omega) (by omega))
    have HV := Lib.hid hv
    have HZP := Lib.hid hZP
    have HBP := Lib.hid hBP
    have HON := Lib.hid hon
    have HRZ := Lib.hid hrz
    have HZL := Lib.hid hzl
    have HBZ := Lib.hid hbz
    have HR3 := Lib.hid row3
    obtain ⟨old, hold⟩ : ∃ old, old = qs.getD i 0 := ⟨_, rfl⟩
    rw [← hold] at cq
    clear hv hZP hBP hon hrz hzl hbz row3 hold c8 c10 HTA
    rcases (show bo = 0 ∨ bo = 1 by omega) with rfl | rfl
    · gi_wp2_with fail
      have hdr := digit_right HG.out HV.out HZP.out HBP.out rfl
      have hds := dividing_step HE1.out HROOM.out (by omega) hq HZL.out HBZ.out (by rw [hdr.1, HMS.out]) hdr.2
      rw [← HPRE.out, ← HPOST.out] at hds
      refine ⟨KeepsOthers.from (((⟨Nat.le_refl _, fun _ _ h _ => h⟩ : KeepsOthers W (W.drewN nn)).trans (only_keeps HON.out HGC.out.choose_spec)).trans (KeepsOthers.setCell _ _ _)) _, ?_⟩
      refine divI_next HI.out hg1l hg12 hg2l (fun b b1 b2 => ?_) ?_ ⟨qs.set i q, _, by rw [HK2.out]; exact hds, by rw [List.length_set]; exact HE2.out, fun j hj => ?_, HR3.out.set i q, HRZ.out.other (by omega) _ _⟩
      · rw [heap_setCell_other _ _ _ _ (by dsimp only; omega)]
        exact HON.out.oth b b1
      · exact ((below_drewN' (Below.refl _ _) nn).trans (HON.out.bel.mono (by omega))).setCell (p := ⟨w3.heap.size + 1 + 1, i, none⟩) (by dsimp only; omega) _
      · rw [HK2.out] at hj
        have h9 := HE3.out j (by omega)
        simp only [List.getD_eq_getElem?_getD] at h9 ⊢
        rw [List.getElem?_set_ne (by omega)]
        exact h9
    · have hq1 : 1 ≤ q := by
        rcases Nat.eq_zero_or_pos q with e | e
        · have h1 := HV.out
          have h2 := HZP.out
          rw [e, Nat.zero_mul] at h1
          omega
        · exact e
      have hgb : CallsIn F (m0 - 1 - 1 - 1) Tryz.prog 105 #[.slice (some ⟨g1, i, none⟩) (m + 3) (la + 1 - i), .slice (some ⟨g2, 0, none⟩) (m + 2) (m + 2 + 1)] w10 (GiveE w10 g1 (m + 2 + 1) pre zs post (digs (y * 2 ^ s))) :=
        hw _ _ _ _ _ (giveBack_any (w := w10) (n := m + 2) (cap := la + 1 - i) HRZ.out HZL.out (by omega) HPL.out HBZ.out ((HSLB.out.below (below_drewN' (Below.refl _ _) nn)).only HOFF.out HON.out) (by rw [HLEN.out]; exact Nat.le_refl _) HOFF.out)
      have HGB := Lib.hid hgb
      clear hgb
      gi_wp2_with fail
      refine (CallsIn.inRound l HGB.out).mono ?_
      rintro e w11 ⟨c, us, rfl, hul, hbu, hc, hv2, hru, hon2⟩
      have c10c : w11.cell? ⟨w3.heap.size + 1 + 1 + 1, 0, none⟩ = some (.slice (some ⟨w3.heap.size + 1 + 1, 0, none⟩) Q Q) := (cell_of_block (hon2.oth _ hz2)).trans c10b
      have row4 : Row w11 (w3.heap.size + 1 + 1) qs := (hon2.oth _ hz3).trans HR3.out
      have cq2 : w11.cell? ⟨w3.heap.size + 1 + 1, i, none⟩ = _ := (cell_of_block (hon2.oth _ hz3)).trans cq
      have fq2 := row4.free i
      rw [val_digs] at hv2
      have HV2' := Lib.hid hv2
      have HON2 := Lib.hid hon2
      have HRU := Lib.hid hru
      have HUL := Lib.hid hul
      have HBU := Lib.hid hbu
      have HR4 := Lib.hid row4
      have HC1 := Lib.hid hc
      clear hv2 hon2 hru hul hbu row4 hc cq fq c10b c8b
      gi_wp2_with fail
      have hUP : val us < 4294967296 ^ (m + 2 + 1) := by have := val_lt HBU.out; rwa [HUL.out] at this
      have hSP : val ms < 4294967296 ^ (m + 2 + 1) := by have := val_lt HBM.out; rwa [HML.out] at this
      have hdl := digit_less HG.out HV.out HZP.out HV2'.out hUP HC1.out HBP.out hSP
      have hds := dividing_step HE1.out HROOM.out (by omega) (show q - 1 < 4294967296 by omega) HUL.out HBU.out (by rw [hdl.2.1, HMS.out]) hdl.2.2
      rw [← HPRE.out, ← HPOST.out] at hds
      have hset : (.int .u32 ((q : Int) - 1) : Value) = .int .u32 ((q - 1 : Nat) : Int) := by congr 1; omega
      rw [hset]
      refine ⟨KeepsOthers.from ((((⟨Nat.le_refl _, fun _ _ h _ => h⟩ : KeepsOthers W (W.drewN nn)).trans (only_keeps HON.out HGC.out.choose_spec)).trans (only_keeps HON2.out HRZ.out)).trans (KeepsOthers.setCell _ _ _)) _, ?_⟩
      refine divI_next HI.out hg1l hg12 hg2l (fun b b1 b2 => ?_) ?_ ⟨qs.set i (q - 1), _, by rw [HK2.out]; exact hds, by rw [List.length_set]; exact HE2.out, fun j hj => ?_, HR4.out.set i (q - 1), HRU.out.other (by omega) _ _⟩
      · rw [heap_setCell_other _ _ _ _ (by dsimp only; omega)]
        exact (HON2.out.oth b b1).trans (HON.out.oth b b1)
      · exact (((below_drewN' (Below.refl _ _) nn).trans (HON.out.bel.mono (by omega))).trans (HON2.out.bel.mono (by omega))).setCell (p := ⟨w3.heap.size + 1 + 1, i, none⟩) (by dsimp only; omega) _
      · rw [HK2.out] at hj
        have h9 := HE3.out j (by omega)
        simp only [List.getD_eq_getElem?_getD] at h9 ⊢
        rw [List.getElem?_set_ne (by omega)]
        exact h9
  case done =>
    intro D W hD hI hK
    obtain ⟨qs, rs, e1, e2, e3, e4, e5⟩ := hI.ex
    rw [Nat.sub_self] at e1
    have hend := dividing_end e1 HROOM.out
    have hsb := shift_back hend.1 hend.2.1
    have hbl2 := hI.bl
    have c7 := hI.c7
    have c9 := hI.c9
    have c10 := hI.c10
    have hrl : rs.length = la + 1 := by rw [e1.2.2.1, e2]; exact HQ.out
    have hDs : W5.heap.size ≤ D := hD
    have HSB := Lib.hid hsb
    have HEND := Lib.hid hend
    have HE1 := Lib.hid e1
    have HE2 := Lib.hid e2
    have HE4 := Lib.hid e4
    have HE5 := Lib.hid e5
    have HRL := Lib.hid hrl
    clear hsb hend e1 e2 e3 e4 e5 hrl hI HC hI0
    gi_wp2
    have hqv := HEND.out.1
    have hsq : Sl W (.slice (some ⟨w3.heap.size + 1 + 1, 0, none⟩) Q Q) qs := (HE4.out.sw' (B := 0) (Nat.zero_le _) HE1.out.1 HE2.out (by unfold maxLen; omega)).sl
    have HTR : Hid (∀ V, Below W.heap.size W V → CallsIn F (m0 - 1) Tryz.prog 76 #[.slice (some ⟨w3.heap.size + 1 + 1, 0, none⟩) Q Q] V fun e w'' => e = .returned (.slice (some ⟨w3.heap.size + 1 + 1, 0, none⟩) (digs (x / y)).length Q) ∧ Below V.heap.size V w'') := Lib.hid (fun V hV => hw _ _ _ _ _ ((trim_any (some ⟨w3.heap.size + 1 + 1, 0, none⟩) Q Q (hsq.below hV)).mono (fun e w'' h => by
      obtain ⟨h1, h2⟩ := h
      rw [HSB.out.1] at h1
      subst h2
      exact ⟨h1, Below.refl _ _⟩)))
    have hsa : Sl W (.slice (some ⟨g1, 0, none⟩) (m + 2) (la + 1)) (rs.take (m + 2)) := sl_take HE5.out HE1.out.2.1 HRL.out (by omega) (by omega)
    have HLO : Hid (∀ V, Below W.heap.size W V → CallsIn F (m0 - 1) Tryz.prog 106 #[.slice (some ⟨g1, 0, none⟩) (m + 2) (la + 1), .int .i64 (s : Nat)] V fun e w'' => ∃ v, e = .returned v ∧ SwD w'.heap.size (x % y) v w'' ∧ Below V.heap.size V w'') := Lib.hid (fun V hV => hw _ _ _ _ _ ((lowered_any (hsa.below hV) HST.out (by rw [List.length_take]; omega)).mono (fun e w'' h => by
      obtain ⟨v, e1, e2, e3⟩ := h
      rw [HEND.out.2.2, HSB.out.2] at e2
      exact ⟨v, e1, swD_mk e2 (Nat.le_trans (hbl2.size) hV.size), e3⟩)))
    clear hsq hsa hqv
    have hlI : (m : Int) + 2 ≤ (la : Int) + 1 := by omega
    refine frame_namedD ?_
    intro T hT
    refine region_inv (by kernel_rfl) (fun l a wq => ∃ vals, RH W T [some 62, some 63, some 64, some 65, some 66, some 67, some 68, some 4, some 5] (okDL w'.heap.size (w3.heap.size + 1 + 1) g1 la m Q s (x / y) (x % y)) [{ target := .collected D, args := #[] }] vals l a wq) ?h0h1 ?steph1 ?finh1
    case h0h1 => exact ⟨fun _ => undef, RH.start rfl (show Below W.heap.size W W.drew from ⟨rfl, rfl, rfl, Nat.le_refl _, fun _ _ => rfl⟩)⟩
    case steph1 =>
      rintro l a wq i' ⟨vals, hR⟩ hi'
      obtain ⟨hl0, o, ho, hdep⟩ := mem_ready.1 hi'
      have h15 : i' < 9 := by
        have := (Array.getElem?_eq_some_iff.1 ho).1
        simpa using this
      have hbl := hR.bl
      have c10q := (hbl.cell (p := ⟨w3.heap.size + 1 + 1 + 1, 0, none⟩) (block_lt_of_cell c10)).trans c10
      have c7q := (hbl.cell (p := ⟨w1.heap.size, 0, none⟩) (block_lt_of_cell c7)).trans c7
      have c9q := (hbl.cell (p := ⟨w3.heap.size + 1, 0, none⟩) (block_lt_of_cell c9)).trans c9
      rcases (show i' = 0 ∨ i' = 1 ∨ i' = 2 ∨ i' = 3 ∨ i' = 4 ∨ i' = 5 ∨ i' = 6 ∨ i' = 7 ∨ i' = 8 by omega) with rfl | rfl | rfl | rfl | rfl | rfl | rfl | rfl | rfl
      · simp at ho
        subst ho
        simp [Region.binds] at hdep
        have k0 : a.tmps.getD 10 undef = _ := (hR.fr.kept rfl (by simp [hT])).trans (by rw [hT]; try rfl)
        clear hi' hdep
        unfold wpOpIn
        simp [Region.wanted]
        unfold Oper.wpIn
        simp [Oper.about, hro, execOp, go_sem, Act.eval, k0, c10q]
        exact ⟨_, hR.op okDL_mono 0 62 rfl (by decide) hl0 (Below.refl _ _) rfl⟩
      · simp at ho
        subst ho
        simp [Region.binds] at hdep
        have k0 : a.tmps.getD 62 undef = vals 0 := hR.fr.done (i := 0) rfl (by simp_all) (by simp [hT])
        have u0 := hR.val 0 (by decide) (getD_true (by simp_all))
        have u0 : vals 0 = .slice (some ⟨w3.heap.size + 1 + 1, 0, none⟩) Q Q := u0
        rw [u0] at k0
        clear hi' hdep
        unfold wpOpIn
        simp [Region.wanted]
        unfold Oper.wpIn
        simp [Oper.about, hro, execOp, go_sem, Act.eval, k0]
        refine ⟨hfn 76, fun _ => h1, (HTR.out _ hbl).mono ?_⟩
        rintro e w'' ⟨rfl, hb⟩
        exact ⟨_, hR.op okDL_mono 1 63 rfl (by decide) hl0 hb rfl⟩
      · simp at ho
        subst ho
        simp [Region.binds] at hdep
        have k0 : a.tmps.getD 7 undef = _ := (hR.fr.kept rfl (by simp [hT])).trans (by rw [hT]; try rfl)
        clear hi' hdep
        unfold wpOpIn
        simp [Region.wanted]
        unfold Oper.wpIn
        simp [Oper.about, hro, execOp, go_sem, Act.eval, k0, c7q]
        exact ⟨_, hR.op okDL_mono 2 64 rfl (by decide) hl0 (Below.refl _ _) rfl⟩
      · simp at ho
        subst ho
        simp [Region.binds] at hdep
        have k0 : a.tmps.getD 9 undef = _ := (hR.fr.kept rfl (by simp [hT])).trans (by rw [hT]; try rfl)
        clear hi' hdep
        unfold wpOpIn
        simp [Region.wanted]
        unfold Oper.wpIn
        simp [Oper.about, hro, execOp, go_sem, Act.eval, k0, c9q]
        exact ⟨_, hR.op okDL_mono 3 65 rfl (by decide) hl0 (Below.refl _ _) rfl⟩
      · simp at ho
        subst ho
        simp [Region.binds] at hdep
        have k0 : a.tmps.getD 64 undef = vals 2 := hR.fr.done (i := 2) rfl (by simp_all) (by simp [hT])
        have u0 := hR.val 2 (by decide) (getD_true (by simp_all))
        have u0 : vals 2 = .slice (some ⟨g1, 0, none⟩) (la + 1) (la + 1) := u0
        rw [u0] at k0
        have k1 : a.tmps.getD 65 undef = vals 3 := hR.fr.done (i := 3) rfl (by simp_all) (by simp [hT])
        have u1 := hR.val 3 (by decide) (getD_true (by simp_all))
        have u1 : vals 3 = .int .i64 ((m : Int) + 2) := u1
        rw [u1] at k1
        clear hi' hdep
        unfold wpOpIn
        simp [Region.wanted]
        unfold Oper.wpIn
        simp [Oper.about, hro, execOp, go_sem, Act.eval, k0, k1, hlI]
        exact ⟨_, hR.op okDL_mono 4 66 rfl (by decide) hl0 (Below.refl _ _) rfl⟩
      · simp at ho
        subst ho
        simp [Region.binds] at hdep
        have k0 : a.tmps.getD 6 undef = _ := (hR.fr.kept rfl (by simp [hT])).trans (by rw [hT]; try rfl)
        clear hi' hdep
        unfold wpOpIn
        simp [Region.wanted]
        unfold Oper.wpIn
        simp [Oper.about, hro, execOp, go_sem, Act.eval, k0]
        exact ⟨_, hR.op okDL_mono 5 67 rfl (by decide) hl0 (Below.refl _ _) rfl⟩
      · simp at ho
        subst ho
        simp [Region.binds] at hdep
        have k0 : a.tmps.getD 66 undef = vals 4 := hR.fr.done (i := 4) rfl (by simp_all) (by simp [hT])
        have u0 := hR.val 4 (by decide) (getD_true (by simp_all))
        have u0 : vals 4 = .slice (some ⟨g1, 0, none⟩) (m + 2) (la + 1) := u0
        rw [u0] at k0
        have k1 : a.tmps.getD 67 undef = vals 5 := hR.fr.done (i := 5) rfl (by simp_all) (by simp [hT])
        have u1 := hR.val 5 (by decide) (getD_true (by simp_all))
        have u1 : vals 5 = .int .i64 (s : Nat) := u1
        rw [u1] at k1
        clear hi' hdep
        unfold wpOpIn
        simp [Region.wanted]
        unfold Oper.wpIn
        simp [Oper.about, hro, execOp, go_sem, Act.eval, k0, k1]
        refine ⟨hfn 106, fun _ => h1, (HLO.out _ hbl).mono ?_⟩
        rintro e w'' ⟨v, rfl, hv, hb⟩
        exact ⟨_, hR.op okDL_mono 6 68 rfl (by decide) hl0 hb hv⟩
      · simp at ho
        subst ho
        simp [Region.binds] at hdep
        have k0 : a.tmps.getD 63 undef = vals 1 := hR.fr.done (i := 1) rfl (by simp_all) (by simp [hT])
        have u0 := hR.val 1 (by decide) (getD_true (by simp_all))
        have u0 : vals 1 = .slice (some ⟨w3.heap.size + 1 + 1, 0, none⟩) (digs (x / y)).length Q := u0
        rw [u0] at k0
        clear hi' hdep
        unfold wpOpIn
        simp [Region.wanted]
        unfold Oper.wpIn
        simp [Oper.about, hro, execOp, go_sem, Act.eval, k0]
        exact ⟨_, hR.op okDL_mono 7 4 rfl (by decide) hl0 (Below.refl _ _) rfl⟩
      · simp at ho
        subst ho
        simp [Region.binds] at hdep
        have k0 : a.tmps.getD 68 undef = vals 6 := hR.fr.done (i := 6) rfl (by simp_all) (by simp [hT])
        have u0 := hR.val 6 (by decide) (getD_true (by simp_all))
        clear hi' hdep
        unfold wpOpIn
        simp [Region.wanted]
        unfold Oper.wpIn
        simp [Oper.about, hro, execOp, go_sem, Act.eval, k0]
        exact ⟨_, hR.op okDL_mono 8 5 rfl (by decide) hl0 (Below.refl _ _) u0⟩
    case' finh1 =>
      rintro l a wz ⟨vals, hR⟩ hz
      have hnot := List.eq_nil_iff_forall_not_mem.1 hz
      have hk : ∀ k, k < 9 → (l.getD k true = false → False) → l.getD k false = true := fun k h12 h => by
        have hs := hR.size
        cases h' : l.getD k true with
        | false => exact (h h').elim
        | true => simp at hs; simp [Array.getD, hs, h12] at h' ⊢; exact h'
      have st0 := hk 0 (by omega) (fun h => hnot 0 (mem_ready.2 ⟨h, _, rfl, by simp [Region.binds] <;> simp_all⟩))
      have st1 := hk 1 (by omega) (fun h => hnot 1 (mem_ready.2 ⟨h, _, rfl, by simp [Region.binds] <;> simp_all⟩))
      have st2 := hk 2 (by omega) (fun h => hnot 2 (mem_ready.2 ⟨h, _, rfl, by simp [Region.binds] <;> simp_all⟩))
      have st3 := hk 3 (by omega) (fun h => hnot 3 (mem_ready.2 ⟨h, _, rfl, by simp [Region.binds] <;> simp_all⟩))
      have st4 := hk 4 (by omega) (fun h => hnot 4 (mem_ready.2 ⟨h, _, rfl, by simp [Region.binds] <;> simp_all⟩))
      have st5 := hk 5 (by omega) (fun h => hnot 5 (mem_ready.2 ⟨h, _, rfl, by simp [Region.binds] <;> simp_all⟩))
      have st6 := hk 6 (by omega) (fun h => hnot 6 (mem_ready.2 ⟨h, _, rfl, by simp [Region.binds] <;> simp_all⟩))
      have st7 := hk 7 (by omega) (fun h => hnot 7 (mem_ready.2 ⟨h, _, rfl, by simp [Region.binds] <;> simp_all⟩))
      have st8 := hk 8 (by omega) (fun h => hnot 8 (mem_ready.2 ⟨h, _, rfl, by simp [Region.binds] <;> simp_all⟩))
      have hall : ∀ i, i < 9 → l.getD i true = true := fun i hi => by
        rcases (show i = 0 ∨ i = 1 ∨ i = 2 ∨ i = 3 ∨ i = 4 ∨ i = 5 ∨ i = 6 ∨ i = 7 ∨ i = 8 by omega) with rfl | rfl | rfl | rfl | rfl | rfl | rfl | rfl | rfl
        · exact getD_true st0
        · exact getD_true st1
        · exact getD_true st2
        · exact getD_true st3
        · exact getD_true st4
        · exact getD_true st5
        · exact getD_true st6
        · exact getD_true st7
        · exact getD_true st8
      clear st0 st1 st2 st3 st4 st5 st6 st7 st8 hk hnot hz
      have hTs : T.size = 69 := by rw [hT]; rfl
      have ha := hR.all (T' := (((((((((T.setIfInBounds 62 (vals 0)).setIfInBounds 63 (vals 1)).setIfInBounds 64 (vals 2)).setIfInBounds 65 (vals 3)).setIfInBounds 66 (vals 4)).setIfInBounds 67 (vals 5)).setIfInBounds 68 (vals 6)).setIfInBounds 4 (vals 7)).setIfInBounds 5 (vals 8))) (fun i hi => hall i (by simpa using hi)) (by simp) (fun j hj => by
        by_cases h1 : j = 62 ∨ j = 63 ∨ j = 64 ∨ j = 65 ∨ j = 66 ∨ j = 67 ∨ j = 68 ∨ j = 4 ∨ j = 5
        · rcases h1 with rfl | rfl | rfl | rfl | rfl | rfl | rfl | rfl | rfl <;> simp [rv_sets, tOwn, List.findIdx?, List.findIdx?.go, hTs]
        · simp only [not_or] at h1
          obtain ⟨m62, m63, m64, m65, m66, m67, m68, m4, m5⟩ := h1
          have e : tOwn [some 62, some 63, some 64, some 65, some 66, some 67, some 68, some 4, some 5] vals j = none := by
            unfold tOwn
            simp [List.findIdx?, List.findIdx?.go, Ne.symm m62, Ne.symm m63, Ne.symm m64, Ne.symm m65, Ne.symm m66, Ne.symm m67, Ne.symm m68, Ne.symm m4, Ne.symm m5]
          rw [e]
          simp only [rv_sets]
          repeat rw [if_neg (by omega)])
      have hbl := hR.bl
      have ev0 : vals 0 = .slice (some ⟨w3.heap.size + 1 + 1, 0, none⟩) Q Q := hR.val 0 (by decide) (hall 0 (by decide))
      have ev1 : vals 1 = .slice (some ⟨w3.heap.size + 1 + 1, 0, none⟩) (digs (x / y)).length Q := hR.val 1 (by decide) (hall 1 (by decide))
      have ev2 : vals 2 = .slice (some ⟨g1, 0, none⟩) (la + 1) (la + 1) := hR.val 2 (by decide) (hall 2 (by decide))
      have ev3 : vals 3 = .int .i64 ((m : Int) + 2) := hR.val 3 (by decide) (hall 3 (by decide))
      have ev4 : vals 4 = .slice (some ⟨g1, 0, none⟩) (m + 2) (la + 1) := hR.val 4 (by decide) (hall 4 (by decide))
      have ev5 : vals 5 = .int .i64 (s : Nat) := hR.val 5 (by decide) (hall 5 (by decide))
      have ev6 := hR.val 6 (by decide) (hall 6 (by decide))
      have ev7 : vals 7 = .slice (some ⟨w3.heap.size + 1 + 1, 0, none⟩) (digs (x / y)).length Q := hR.val 7 (by decide) (hall 7 (by decide))
      have ev8 := hR.val 8 (by decide) (hall 8 (by decide))
      subst ha
      clear hR hall hTs
      rw [ev0, ev1, ev2, ev3, ev4, ev5, ev7, hT]
      simp only [List.setIfInBounds_toArray, List.set_cons_succ, List.set_cons_zero]
      clear ev0 ev1 ev2 ev3 ev4 ev5 ev7 hT T
    gi_wp2
    refine ⟨by simp, .inl ⟨_, _, rfl, run_takeDeferred ((hbl.block _ (Array.getElem?_eq_some_iff.1 hK).1).trans hK), ?_⟩⟩
    obtain ⟨ar, cr, er, hsr⟩ : SwD w'.heap.size (x % y) (vals 8) wz := ev8
    rw [er]
    have hKz : wz.heap[D]? = some (.deferred (some [])) := (hbl.block _ (Array.getElem?_eq_some_iff.1 hK).1).trans hK
    have hrq : Row wz (w3.heap.size + 1 + 1) qs := HE4.out.below hbl
    have hsq := (hrq.sw' (B := w'.heap.size) (by omega) HE1.out.1 HE2.out (by unfold maxLen; omega)).trim
    rw [HSB.out.1] at hsq
    have hsq2 := hsq.keptBy (grownBy_putObj' wz D (.deferred none)) (fun r e => by cases e; exact ⟨_, hKz, rfl⟩)
    have hsr2 := hsr.keptBy (grownBy_putObj' wz D (.deferred none)) (fun r e => by cases e; exact ⟨_, hKz, rfl⟩)
    have hbe : Below w'.heap.size w' (wz.putObj D (.deferred none)) := (hbl2.trans (hbl.mono hbl2.size)).trans (belowK_b (w := w') (Nat.le_refl _) wz D _ _ (by omega) hKz rfl rfl)
    exact ⟨_, results_tmp2 rfl _ _ _, _, Q, ar, cr, rfl, hsq2, hsr2, hbe⟩

theorem divideLong_any {w : World} {va vb : Value} {x y : Nat} (ha : Sl w va (digs x)) (hb : Sl w vb (digs y)) (hle : (digs x).length ≤ 256) (h2 : 4294967296 ≤ y) (hxy : y ≤ x) : Calls Tryz.prog 77 #[va, vb] w (DivRes w x y) := by
  have hl2 : 2 ≤ (digs y).length := by
    rcases Nat.lt_or_ge (digs y).length 2 with h | h
    · have := (digs_length_le (n := y) (k := 1)).1 (by omega)
      omega
    · exact h
  have hll : (digs y).length ≤ (digs x).length := digs_mono hxy
  exact callsIn_wide.1 (divideLong_in Fence.wide 5 (fun _ => trivial) (fun k f args W Q h => callsIn_wide.2 h) rfl (by omega) ha hb (m := (digs y).length - 2) rfl (by omega) hle (by omega) hxy)

end Go.Proofs.YtdgmjmckeeeljaaGreatDoor

namespace Go.Proofs.YtdgmjmckeeeljaaGreatDoor
open Go.RowKit

set_option maxRecDepth 10000 in
set_option maxHeartbeats 1000000 in
theorem divide_long {w : World} {va vb : Value} {x y : Nat} (ha : Sl w va (digs x)) (hb : Sl w vb (digs y)) (h2 : 4294967296 ≤ y) (h : y ≤ x) (hla : (digs x).length ≤ 256) :
    Calls Tryz.prog 44 #[va, vb] w (DivRes w x y) := by
  have hll : (digs y).length ≤ (digs x).length := digs_mono h
  have hc := compare_any ha hb (by omega) (by omega)
  have hcm : 0 ≤ cmpN x y := by unfold cmpN; rw [if_neg (by omega)]; split <;> decide
  have hl2 : 2 ≤ (digs y).length := by
    rcases Nat.lt_or_ge (digs y).length 2 with h | h
    · have := (digs_length_le (n := y) (k := 1)).1 (by omega)
      omega
    · exact h
  have HDL : Hid (∀ W, Below w.heap.size w W → Calls Tryz.prog 77 #[va, vb] W (DivRes W x y)) := Lib.hid (fun W hW => divideLong_any (ha.below hW) (hb.below hW) hla h2 h)
  obtain ⟨ab, cb, rfl⟩ := hb.mk'
  obtain ⟨n, hn⟩ : ∃ n, n = (digs y).length := ⟨_, rfl⟩
  rw [← hn] at hl2 hc HDL ⊢
  have hn1 : ((n : Int) == 1) = false := by simp; omega
  have HC := Lib.hid hc
  clear hc hn hll hb ha h2 h hla
  go_enter Tryz.func44, Tryz.ntmps44
  go_wp2_with (first | (go_at_call 68; refine HC.out.mono ?_; rintro e W1 ⟨rfl, hb1⟩; have HB1 := Lib.hid hb1; clear hb1) | (go_at_call 77; refine (HDL.out _ HB1.out).mono ?_; rintro e W2 ⟨aq, cq, ar, cr, rfl, hq, hr, hb2⟩; have HQ := Lib.hid hq; have HR := Lib.hid hr; have HB2 := Lib.hid hb2; clear hq hr hb2))
  go_ret2
  exact ⟨aq, cq, ar, cr, rfl, HQ.out.mono HB1.out.size, HR.out.mono HB1.out.size, HB1.out.trans (HB2.out.mono HB1.out.size)⟩

theorem divide_all {w : World} {va vb : Value} {x y : Nat} (ha : Sl w va (digs x)) (hb : Sl w vb (digs y)) (h0 : y ≠ 0) (hla : (digs x).length ≤ 256) (hlb : (digs y).length ≤ 256) :
    Calls Tryz.prog 44 #[va, vb] w (DivRes w x y) := by
  rcases Nat.lt_or_ge x y with h | h
  · exact divide_less ha hb h hla hlb
  · rcases Nat.lt_or_ge y 4294967296 with h2 | h2
    · exact divide_one ha hb h0 h h2 hla
    · exact divide_long ha hb h2 h hla

/-- num.Div of right numbers. -/
theorem div_all {w : World} {x y : Value} {a b : Int} (hx : Nu w x a) (hy : Nu w y b) (hb0 : b ≠ 0) : Calls Tryz.prog 15 #[x, y] w (DivOut w a b) := by
  obtain ⟨_, _, _, hl1⟩ := id hx
  obtain ⟨_, _, _, hl2⟩ := id hy
  exact div_any hx hy hb0 (fun W va vb h1 h2 => divide_all h1 h2 (by omega) hl1 hl2)

end Go.Proofs.YtdgmjmckeeeljaaGreatDoor

namespace Go.Proofs.YtdgmjmckeeeljaaGreatDoor

/-- The signs of the factors, their determinant, and that they grow. -/
def Sg (ax ay bx c : Int) : Prop :=
  (0 ≤ ax ∧ ay ≤ 0 ∧ bx ≤ 0 ∧ 0 ≤ c ∧ ax * c - ay * bx = 1) ∨ (ax ≤ 0 ∧ 0 ≤ ay ∧ 0 ≤ bx ∧ c ≤ 0 ∧ ax * c - ay * bx = -1)

/-- What holds of the factors and of the leading digits that they make. -/
structure Leh (x0 y0 X Y ax ay bx c : Int) : Prop where
  hX : X = ax * x0 + ay * y0
  hY : Y = bx * x0 + c * y0
  sg : Sg ax ay bx c
  v1 : 0 ≤ Y + bx
  v2 : 0 ≤ Y + c
  u1 : 0 ≤ X + ax
  u2 : 0 ≤ X + ay
  y0 : 0 ≤ Y
  yx : Y ≤ X

/-- What holds behind a step. -/
structure Lst (X Y ax ay bx c : Int) : Prop where
  s1 : Y + bx < X + ax
  s2 : Y + c < X + ay
  m : (0 ≤ ax ∧ ax ≤ -ay ∧ -bx ≤ c ∧ -ay ≤ c ∧ 0 ≤ c) ∨ (ax ≤ 0 ∧ -ax ≤ ay ∧ bx ≤ -c ∧ ay ≤ -c ∧ c ≤ 0)

theorem leh_start {x0 y0 : Int} (h0 : 0 ≤ y0) (h : y0 ≤ x0) : Leh x0 y0 x0 y0 1 0 0 1 :=
  ⟨by omega, by omega, .inl ⟨by omega, by omega, by omega, by omega, by omega⟩, by omega, by omega, by omega, by omega, h0, h⟩

theorem mul_le_left {q a b : Int} (hq : 0 ≤ q) (h : a ≤ b) : q * a ≤ q * b := Int.mul_le_mul_of_nonneg_left h hq

theorem leh_step {x0 y0 X Y ax ay bx c q : Int} (h : Leh x0 y0 X Y ax ay bx c) (hq : 0 ≤ q) (a1 : q * (Y + bx) ≤ X + ax) (a2 : X + ax < q * (Y + bx) + (Y + bx)) (b1 : q * (Y + c) ≤ X + ay) (b2 : X + ay < q * (Y + c) + (Y + c)) :
    Leh x0 y0 Y (X - q * Y) bx c (ax - q * bx) (ay - q * c) ∧ (X - q * Y) + (ax - q * bx) < Y + bx ∧ (X - q * Y) + (ay - q * c) < Y + c := by
  obtain ⟨hX, hY, sg, v1, v2, u1, u2, hy0, hyx⟩ := h
  have e1 : (X - q * Y) + (ax - q * bx) = (X + ax) - q * (Y + bx) := by grind
  have e2 : (X - q * Y) + (ay - q * c) = (X + ay) - q * (Y + c) := by grind
  have g1 : 0 ≤ (X - q * Y) + (ax - q * bx) := by rw [e1]; omega
  have g2 : 0 ≤ (X - q * Y) + (ay - q * c) := by rw [e2]; omega
  have l1 : (X - q * Y) + (ax - q * bx) < Y + bx := by rw [e1]; omega
  have l2 : (X - q * Y) + (ay - q * c) < Y + c := by rw [e2]; omega
  have hd : bx * (ay - q * c) - c * (ax - q * bx) = -(ax * c - ay * bx) := by grind
  refine ⟨⟨hY, ?_, ?_, g1, g2, v1, v2, ?_, ?_⟩, l1, l2⟩
  · rw [hX]
    conv => lhs; rw [hY]
    grind
  · rcases sg with ⟨s1, s2, s3, s4, s5⟩ | ⟨s1, s2, s3, s4, s5⟩
    · have k1 := mul_le_left hq s3
      have k2 := mul_le_left hq s4
      rw [Int.mul_zero] at k1 k2
      exact .inr ⟨s3, s4, by omega, by omega, by rw [hd, s5]⟩
    · have k1 := mul_le_left hq s3
      have k2 := mul_le_left hq s4
      rw [Int.mul_zero] at k1 k2
      exact .inl ⟨s3, s4, by omega, by omega, by rw [hd, s5]; rfl⟩
  · rcases sg with ⟨s1, s2, s3, s4, s5⟩ | ⟨s1, s2, s3, s4, s5⟩
    · have k2 := mul_le_left hq s4
      rw [Int.mul_zero] at k2
      omega
    · have k1 := mul_le_left hq s3
      rw [Int.mul_zero] at k1
      omega
  · rcases sg with ⟨s1, s2, s3, s4, s5⟩ | ⟨s1, s2, s3, s4, s5⟩
    · have k1 := mul_le_left hq s3
      rw [Int.mul_zero] at k1
      omega
    · have k2 := mul_le_left hq s4
      rw [Int.mul_zero] at k2
      omega

/-- The first step. -/
theorem lst_first {x0 y0 q : Int} (h0 : 0 ≤ y0) (h : y0 ≤ x0) (hq : 0 ≤ q) (a1 : q * (y0 + 0) ≤ x0 + 1) (a2 : x0 + 1 < q * (y0 + 0) + (y0 + 0)) (b1 : q * (y0 + 1) ≤ x0 + 0) (b2 : x0 + 0 < q * (y0 + 1) + (y0 + 1)) :
    Lst y0 (x0 - q * y0) 0 1 (1 - q * 0) (0 - q * 1) := by
  have hs := leh_step (leh_start h0 h) hq a1 a2 b1 b2
  have hq1 : 1 ≤ q := by
    rcases Int.lt_or_le q 1 with e | e
    · have : q = 0 := by omega
      subst this
      omega
    · exact e
  exact ⟨hs.2.1, hs.2.2, .inr ⟨by omega, by omega, by omega, by omega, by omega⟩⟩

theorem sg_first {ax ay bx c : Int} (g1 : 0 ≤ ax) (g2 : ay ≤ 0) (g4 : 0 ≤ c) (g5 : ax * c - ay * bx = 1) (hm : (0 ≤ ax ∧ ax ≤ -ay ∧ -bx ≤ c ∧ -ay ≤ c ∧ 0 ≤ c) ∨ (ax ≤ 0 ∧ -ax ≤ ay ∧ bx ≤ -c ∧ ay ≤ -c ∧ c ≤ 0)) : ax ≤ -ay ∧ -bx ≤ c ∧ -ay ≤ c := by
  rcases hm with h | ⟨m1, m2, m3, m4, m5⟩
  · exact ⟨h.2.1, h.2.2.1, h.2.2.2.1⟩
  · have hc0 : c = 0 := by omega
    have hay0 : ay = 0 := by omega
    rw [hc0, hay0] at g5
    simp at g5
theorem sg_second {ax ay bx c : Int} (g1 : ax ≤ 0) (g2 : 0 ≤ ay) (g4 : c ≤ 0) (g5 : ax * c - ay * bx = -1) (hm : (0 ≤ ax ∧ ax ≤ -ay ∧ -bx ≤ c ∧ -ay ≤ c ∧ 0 ≤ c) ∨ (ax ≤ 0 ∧ -ax ≤ ay ∧ bx ≤ -c ∧ ay ≤ -c ∧ c ≤ 0)) : -ax ≤ ay ∧ bx ≤ -c ∧ ay ≤ -c := by
  rcases hm with ⟨m1, m2, m3, m4, m5⟩ | h
  · have hc0 : c = 0 := by omega
    have hay0 : ay = 0 := by omega
    rw [hc0, hay0] at g5
    simp at g5
  · exact ⟨h.2.1, h.2.2.1, h.2.2.2.1⟩

/-- A further step. -/
theorem lst_step {x0 y0 X Y ax ay bx c q : Int} (h : Leh x0 y0 X Y ax ay bx c) (hl : Lst X Y ax ay bx c) (hq : 0 ≤ q) (a1 : q * (Y + bx) ≤ X + ax) (a2 : X + ax < q * (Y + bx) + (Y + bx)) (b1 : q * (Y + c) ≤ X + ay) (b2 : X + ay < q * (Y + c) + (Y + c)) :
    Lst Y (X - q * Y) bx c (ax - q * bx) (ay - q * c) := by
  have hs := leh_step h hq a1 a2 b1 b2
  obtain ⟨s1, s2, hm⟩ := hl
  have hq1 : 1 ≤ q := by
    rcases Int.lt_or_le q 1 with e | e
    · have : q = 0 := by omega
      subst this
      omega
    · exact e
  refine ⟨hs.2.1, hs.2.2, ?_⟩
  rcases h.sg with ⟨g1, g2, g3, g4, g5⟩ | ⟨g1, g2, g3, g4, g5⟩
  · right
    obtain ⟨m2, m3, m4⟩ := sg_first g1 g2 g4 g5 hm
    have k1 := mul_le_left hq m3
    have k2 := Int.mul_le_mul_of_nonneg_right hq1 g4
    rw [Int.one_mul] at k2
    rw [Int.mul_neg] at k1
    have hbx : bx ≤ 0 := g3
    exact ⟨hbx, m3, by omega, by omega, by omega⟩
  · left
    obtain ⟨m2, m3, m4⟩ := sg_second g1 g2 g4 g5 hm
    have k1 := mul_le_left hq m3
    have k2 := Int.mul_le_mul_of_nonneg_right hq1 (show 0 ≤ -c by omega)
    rw [Int.one_mul] at k2
    rw [Int.mul_neg] at k1 k2
    have hbx : 0 ≤ bx := g3
    exact ⟨hbx, by omega, by omega, by omega, by omega⟩

/-- The factors are small. -/
theorem leh_small {x0 y0 X Y ax ay bx c : Int} (h : Leh x0 y0 X Y ax ay bx c) (hl : Lst X Y ax ay bx c) (hx : x0 < 1152921504606846976) :
    (-1073741824 < ax ∧ ax < 1073741824) ∧ (-1073741824 < ay ∧ ay < 1073741824) ∧ (-1073741824 < bx ∧ bx < 1073741824) ∧ (-1073741824 < c ∧ c < 1073741824) := by
  obtain ⟨hX, hY, sg, v1, v2, u1, u2, hy0, hyx⟩ := h
  obtain ⟨s1, s2, hm⟩ := hl
  have hid : c * X - ay * Y = (ax * c - ay * bx) * x0 := by rw [hX, hY]; grind
  rcases sg with ⟨g1, g2, g3, g4, g5⟩ | ⟨g1, g2, g3, g4, g5⟩
  · rw [g5, Int.one_mul] at hid
    have k1 : c * c ≤ c * X := mul_le_left g4 (by omega)
    have k2 : 0 ≤ (-ay) * Y := Int.mul_nonneg (by omega) hy0
    rw [Int.neg_mul] at k2
    have hc : c < 1073741824 := by
      rcases Int.lt_or_le c 1073741824 with e | e
      · exact e
      · have k3 : 1073741824 * 1073741824 ≤ c * c := Int.mul_le_mul e e (by omega) (by omega)
        omega
    obtain ⟨m1, m2, m3⟩ := sg_first g1 g2 g4 g5 hm
    omega
  · rw [g5] at hid
    have k1 : (-c) * (-c) ≤ (-c) * X := mul_le_left (by omega) (by omega)
    have k2 : 0 ≤ ay * Y := Int.mul_nonneg g2 hy0
    rw [Int.neg_mul c X] at k1
    have hc : -c < 1073741824 := by
      rcases Int.lt_or_le (-c) 1073741824 with e | e
      · exact e
      · have k3 : 1073741824 * 1073741824 ≤ (-c) * (-c) := Int.mul_le_mul e e (by omega) (by omega)
        omega
    obtain ⟨m1, m2, m3⟩ := sg_second g1 g2 g4 g5 hm
    omega

/-- What the factors make of the numbers themselves. -/
theorem leh_real {x0 y0 X Y ax ay bx c E ra rb : Int} (h : Leh x0 y0 X Y ax ay bx c) (hl : Lst X Y ax ay bx c) (hE : 0 < E) (a0 : 0 ≤ ra) (a1 : ra < E) (b0 : 0 ≤ rb) (b1 : rb < E) :
    0 ≤ ax * (x0 * E + ra) + ay * (y0 * E + rb) ∧ 0 ≤ bx * (x0 * E + ra) + c * (y0 * E + rb) ∧ bx * (x0 * E + ra) + c * (y0 * E + rb) < ax * (x0 * E + ra) + ay * (y0 * E + rb) := by
  obtain ⟨hX, hY, sg, v1, v2, u1, u2, hy0, hyx⟩ := h
  obtain ⟨s1, s2, _⟩ := hl
  have e1 : ax * (x0 * E + ra) + ay * (y0 * E + rb) = X * E + ax * ra + ay * rb := by rw [hX]; grind
  have e2 : bx * (x0 * E + ra) + c * (y0 * E + rb) = Y * E + bx * ra + c * rb := by rw [hY]; grind
  rw [e1, e2]
  clear e1 e2 hX hY
  have up : ∀ f r : Int, 0 ≤ f → 0 ≤ r → 0 ≤ f * r := fun f r hf hr => Int.mul_nonneg hf hr
  have dn : ∀ f r : Int, f ≤ 0 → r < E → f * E ≤ f * r := fun f r hf hr => Int.mul_le_mul_of_nonpos_left hf (Int.le_of_lt hr)
  rcases sg with ⟨g1, g2, g3, g4, _⟩ | ⟨g1, g2, g3, g4, _⟩
  · have k1 := up ax ra g1 a0
    have k2 := dn ay rb g2 b1
    have k3 := dn bx ra g3 a1
    have k4 := up c rb g4 b0
    have k5 := Int.mul_nonneg u2 (Int.le_of_lt hE)
    have k6 := Int.mul_nonneg v1 (Int.le_of_lt hE)
    have k7 := up (ax - bx) ra (by omega) a0
    have k8 := dn (ay - c) rb (by omega) b1
    have k9 : 0 < ((X + ay) - (Y + c)) * E := Int.mul_pos (by omega) hE
    rw [Int.add_mul] at k5 k6
    rw [Int.sub_mul] at k7 k8 k9
    rw [Int.sub_mul] at k8
    rw [Int.add_mul, Int.add_mul] at k9
    refine ⟨by omega, by omega, by omega⟩
  · have k1 := dn ax ra g1 a1
    have k2 := up ay rb g2 b0
    have k3 := up bx ra g3 a0
    have k4 := dn c rb g4 b1
    have k5 := Int.mul_nonneg u1 (Int.le_of_lt hE)
    have k6 := Int.mul_nonneg v2 (Int.le_of_lt hE)
    have k7 := dn (ax - bx) ra (by omega) a1
    have k8 := up (ay - c) rb (by omega) b0
    have k9 : 0 < ((X + ax) - (Y + bx)) * E := Int.mul_pos (by omega) hE
    rw [Int.add_mul] at k5 k6
    rw [Int.sub_mul] at k7 k8 k9
    rw [Int.sub_mul] at k7
    rw [Int.add_mul, Int.add_mul] at k9
    refine ⟨by omega, by omega, by omega⟩

/-- What the factors make of the numbers: numbers with the same greatest common divisor. -/
def Made2 (a b : Nat) (ax ay bx c : Int) (N M : Nat) : Prop :=
  (N : Int) = ax * a + ay * b ∧ (M : Int) = bx * a + c * b ∧ Nat.gcd N M = Nat.gcd a b ∧ N ≤ a ∧ M ≤ b

theorem made2_start (a b : Nat) : Made2 a b 1 0 0 1 a b := ⟨by omega, by omega, rfl, Nat.le_refl _, Nat.le_refl _⟩

theorem made2_step {a b N M : Nat} {ax ay bx c q : Int} (h : Made2 a b ax ay bx c N M) (hab : b ≤ a) (hq : 0 ≤ q) (h0 : 0 ≤ (ax - q * bx) * a + (ay - q * c) * b) (hlt : (ax - q * bx) * a + (ay - q * c) * b < bx * a + c * b) :
    ∃ M', Made2 a b bx c (ax - q * bx) (ay - q * c) M M' ∧ M' < M := by
  obtain ⟨h1, h2, h3, h4, h5⟩ := h
  obtain ⟨M', hM⟩ : ∃ M' : Nat, (M' : Int) = (ax - q * bx) * a + (ay - q * c) * b := ⟨((ax - q * bx) * a + (ay - q * c) * b).toNat, by omega⟩
  obtain ⟨k, rfl⟩ : ∃ k : Nat, q = k := ⟨q.toNat, by omega⟩
  have e : N = M' + k * M := by
    have : (N : Int) = M' + k * M := by rw [h1, h2, hM]; grind
    exact_mod_cast this
  have hlt2 : M' < M := by rw [← hM, ← h2] at hlt; omega
  refine ⟨M', ⟨h2, hM, ?_, by omega, by omega⟩, hlt2⟩
  rw [← h3, e, Nat.gcd_comm (M' + k * M), Nat.gcd_add_mul_right_right]

end Go.Proofs.YtdgmjmckeeeljaaGreatDoor

namespace Go.Proofs.YtdgmjmckeeeljaaGreatDoor
open Go.RowKit

theorem shr_u64 (n k : Nat) (hk : k ≤ 64) : binOp BinOp.shr 69 (.int .u64 (n : Int)) (.int .i64 (k : Int)) = (pure (.int .u64 ((n / 2 ^ k : Nat) : Int)) : Sem Value) := by
  have e : binOp BinOp.shr 69 (.int .u64 (n : Int)) (.int .i64 (k : Int)) = Op.shift .shr .u64 (n : Int) .i64 (k : Int) := rfl
  have h0 : ¬ ((k : Int) < 0) := by omega
  have hm : min ((k : Int)).toNat (IntKind.bits .u64) = k := by
    rw [show IntKind.bits .u64 = 64 from rfl, Int.toNat_natCast]; omega
  rw [e]
  unfold Op.shift
  rw [if_neg h0]
  simp only [hm]
  congr 2
  rw [Int.fdiv_eq_ediv_of_nonneg _ (by exact Int.pow_nonneg (by omega))]
  simp

theorem shl_u64 (n k : Nat) (hk : k ≤ 64) (h : n * 2 ^ k / 4294967296 < 4294967296) : binOp BinOp.shl 69 (.int .u64 (n : Int)) (.int .i64 (k : Int)) = (pure (.int .u64 ((n * 2 ^ k : Nat) : Int)) : Sem Value) := by
  have e : binOp BinOp.shl 69 (.int .u64 (n : Int)) (.int .i64 (k : Int)) = Op.shift .shl .u64 (n : Int) .i64 (k : Int) := rfl
  have h0 : ¬ ((k : Int) < 0) := by omega
  have hm : min ((k : Int)).toNat (IntKind.bits .u64) = k := by
    rw [show IntKind.bits .u64 = 64 from rfl, Int.toNat_natCast]; omega
  rw [e]
  unfold Op.shift
  rw [if_neg h0]
  simp only [hm]
  congr 2
  obtain ⟨z, hz⟩ : ∃ z, z = n * 2 ^ k := ⟨_, rfl⟩
  have e2 : (n : Int) * 2 ^ k = (z : Int) := by rw [hz]; push_cast; rfl
  rw [e2, ← hz, IntKind.wrap_u64]
  rw [← hz] at h
  omega

theorem or_u64 (a b : Nat) (ha : a / 4294967296 < 4294967296) (hb : b / 4294967296 < 4294967296) : binOp BinOp.or 69 (.int .u64 (a : Int)) (.int .u64 (b : Int)) = (pure (.int .u64 ((a ||| b : Nat) : Int)) : Sem Value) := by
  have e : binOp BinOp.or 69 (.int .u64 (a : Int)) (.int .u64 (b : Int)) = (pure (.int .u64 (bits .or .u64 (a : Int) (b : Int))) : Sem Value) := rfl
  rw [e, u64_or_nat a b (by omega) (by omega)]

theorem below_drewK (w : World) (m : Nat) : Below w.heap.size w (w.drewN m) := ⟨rfl, rfl, rfl, Nat.le_refl _, fun _ _ => rfl⟩

/-- The digits of a number moved up, from the second highest place on. -/
theorem top_join {V s t k d1 d2 d3 : Nat} (h : s + t = 32) (e1 : d1 = V / 4294967296 ^ (k + 2) % 4294967296) (e2 : d2 = V / 4294967296 ^ (k + 1) % 4294967296) (e3 : d3 = V / 4294967296 ^ k % 4294967296) (hV : V * 2 ^ s < 4294967296 ^ (k + 3)) :
    (d2 + 4294967296 * d1) * 2 ^ s / 4294967296 < 4294967296 ∧ ((d2 + 4294967296 * d1) * 2 ^ s ||| d3 / 2 ^ t) = V * 2 ^ s / 4294967296 ^ (k + 1) ∧ V * 2 ^ s / 4294967296 ^ (k + 1) / 4294967296 < 4294967296 := by
  have hB := pow_parts h
  have hS : 0 < 2 ^ s := Nat.pow_pos (by omega)
  have hT : 0 < 2 ^ t := Nat.pow_pos (by omega)
  have hP : 0 < 4294967296 ^ k := Nat.pow_pos (by omega)
  have h3 : (4294967296 : Nat) ^ (k + 3) = 4294967296 ^ k * 4294967296 * 4294967296 * 4294967296 := by rw [Nat.pow_succ, Nat.pow_succ, Nat.pow_succ]
  have h2 : (4294967296 : Nat) ^ (k + 2) = 4294967296 ^ k * 4294967296 * 4294967296 := by rw [Nat.pow_succ, Nat.pow_succ]
  have h1 : (4294967296 : Nat) ^ (k + 1) = 4294967296 ^ k * 4294967296 := by rw [Nat.pow_succ]
  rw [h3] at hV
  rw [h2] at e1
  rw [h1] at e2
  rw [h1]
  obtain ⟨P, hPe⟩ : ∃ P, P = 4294967296 ^ k := ⟨_, rfl⟩
  rw [← hPe] at hP hV e1 e2 e3 ⊢
  obtain ⟨S, hSe⟩ : ∃ S, S = 2 ^ s := ⟨_, rfl⟩
  obtain ⟨T, hTe⟩ : ∃ T, T = 2 ^ t := ⟨_, rfl⟩
  rw [← hSe, ← hTe] at hB
  rw [← hSe] at hS hV
  rw [← hTe] at hT
  rw [← hSe, ← hTe]
  have hVb : V < P * 4294967296 * 4294967296 * 4294967296 := Nat.lt_of_le_of_lt (Nat.le_mul_of_pos_right V hS) hV
  -- the word
  obtain ⟨X, hX⟩ : ∃ X, X = V / P := ⟨_, rfl⟩
  have d1e : d1 = X / 4294967296 / 4294967296 := by
    rw [e1, ← Nat.div_div_eq_div_mul, ← Nat.div_div_eq_div_mul, ← hX, Nat.mod_eq_of_lt]
    rw [hX, Nat.div_div_eq_div_mul, Nat.div_div_eq_div_mul, ← Nat.mul_assoc]
    exact Nat.div_lt_of_lt_mul hVb
  have d2e : d2 = X / 4294967296 % 4294967296 := by rw [e2, ← Nat.div_div_eq_div_mul, ← hX]
  have d3e : d3 = X % 4294967296 := by rw [e3, ← hX]
  have hW : d2 + 4294967296 * d1 = X / 4294967296 := by rw [d1e, d2e]; omega
  have e0 : V * S / (P * 4294967296) = X / T := by
    rw [hX, ← hB, Nat.div_div_eq_div_mul, show P * (S * T) = (P * T) * S by grind, Nat.mul_div_mul_right _ _ hS]
  have hd : d3 / T < S := Nat.div_lt_of_lt_mul (by rw [Nat.mul_comm, hB, d3e]; exact Nat.mod_lt _ (by omega))
  have eX : X / T = d3 / T + S * (X / 4294967296) := by
    have e2 : X = d3 + T * (S * (X / 4294967296)) := by rw [← Nat.mul_assoc, Nat.mul_comm T S, hB, d3e]; omega
    rw [show X / T = (d3 + T * (S * (X / 4294967296))) / T by rw [← e2], Nat.add_mul_div_left _ _ hT]
  have hlt : V * S / (P * 4294967296) / 4294967296 < 4294967296 := by
    rw [Nat.div_div_eq_div_mul]
    exact Nat.div_lt_of_lt_mul hV
  rw [hW]
  refine ⟨?_, ?_, hlt⟩
  · rw [e0, eX] at hlt
    exact Nat.lt_of_le_of_lt (Nat.div_le_div_right (by rw [Nat.mul_comm]; exact Nat.le_add_left _ _)) hlt
  · rw [e0, eX, Nat.mul_comm (X / 4294967296) S, nat_join s _ _ (by rw [← hSe]; exact Nat.mul_mod_right _ _) (by rw [← hSe]; exact hd)]
    omega

set_option maxRecDepth 10000 in
set_option maxHeartbeats 2000000 in
theorem highest_any {w : World} {v : Value} {ds : List Nat} {n k s t : Nat} (h : Sl w v ds) (hn : n = k + 3) (hst : s + t = 32) (hn2 : n ≤ 1000) (hroom : val ds * 2 ^ s < 4294967296 ^ (k + 3)) :
    Calls Tryz.prog 107 #[v, .int .i64 n, .int .i64 s] w fun e w' => e = .returned (.int .i64 ((val ds * 2 ^ s / 4294967296 ^ (k + 1) / 16 : Nat) : Int)) ∧ ∃ m, w' = w.drewN m := by
  have c1 := digit_any h ((n : Int) - 1)
  have c2 := digit_any h ((n : Int) - 2)
  have c3 := fun m => digit_any (h.below (below_drewK w m)) ((n : Int) - 3)
  have e1 : dg ds ((n : Int) - 1) = val ds / 4294967296 ^ (k + 2) % 4294967296 := by rw [show (n : Int) - 1 = ((k + 2 : Nat) : Int) by omega]; exact dg_nat h.bd _
  have e2 : dg ds ((n : Int) - 2) = val ds / 4294967296 ^ (k + 1) % 4294967296 := by rw [show (n : Int) - 2 = ((k + 1 : Nat) : Int) by omega]; exact dg_nat h.bd _
  have e3 : dg ds ((n : Int) - 3) = val ds / 4294967296 ^ k % 4294967296 := by rw [show (n : Int) - 3 = ((k : Nat) : Int) by omega]; exact dg_nat h.bd _
  obtain ⟨d1, h1⟩ : ∃ d, d = dg ds ((n : Int) - 1) := ⟨_, rfl⟩
  obtain ⟨d2, h2⟩ : ∃ d, d = dg ds ((n : Int) - 2) := ⟨_, rfl⟩
  obtain ⟨d3, h3⟩ : ∃ d, d = dg ds ((n : Int) - 3) := ⟨_, rfl⟩
  rw [← h1] at c1 e1
  rw [← h2] at c2 e2
  rw [← h3] at c3 e3
  have l1 : d1 < 4294967296 := by rw [e1]; exact Nat.mod_lt _ (by omega)
  have l2 : d2 < 4294967296 := by rw [e2]; exact Nat.mod_lt _ (by omega)
  have l3 : d3 < 4294967296 := by rw [e3]; exact Nat.mod_lt _ (by omega)
  obtain ⟨j1, j2, j3⟩ := top_join hst e1 e2 e3 hroom
  have hj := or_join d1 d2 l1 l2
  obtain ⟨W, hW⟩ : ∃ W, W = d2 + 4294967296 * d1 := ⟨_, rfl⟩
  rw [← hW] at hj j1 j2
  have q1 := shl_u64 W s (by omega) j1
  have q2 := shr_u64 d3 t (by omega)
  obtain ⟨W1, hW1⟩ : ∃ W1, W1 = W * 2 ^ s := ⟨_, rfl⟩
  obtain ⟨y1, hy1⟩ : ∃ y1, y1 = d3 / 2 ^ t := ⟨_, rfl⟩
  rw [← hW1] at q1 j1 j2
  rw [← hy1] at q2 j2
  have ly : y1 / 4294967296 < 4294967296 := by
    have : y1 ≤ d3 := by rw [hy1]; exact Nat.div_le_self _ _
    omega
  have q3 := or_u64 W1 y1 j1 ly
  rw [j2] at q3
  obtain ⟨Z, hZ⟩ : ∃ Z, Z = val ds * 2 ^ s / 4294967296 ^ (k + 1) := ⟨_, rfl⟩
  rw [← hZ] at q3 j3 ⊢
  obtain ⟨R, hR⟩ : ∃ R, R = Z / 16 := ⟨_, rfl⟩
  have zr : (Z : Int) / 16 = (R : Int) := by rw [hR]; rfl
  have wr2 : IntKind.i64.wrap (R : Int) = (R : Int) := by rw [IntKind.wrap_i64]; omega
  have w1 : IntKind.i64.wrap ((n : Int) - 1) = (n : Int) - 1 := by rw [IntKind.wrap_i64]; omega
  have w2 : IntKind.i64.wrap ((n : Int) - 2) = (n : Int) - 2 := by rw [IntKind.wrap_i64]; omega
  have w3 : IntKind.i64.wrap ((n : Int) - 3) = (n : Int) - 3 := by rw [IntKind.wrap_i64]; omega
  have wt : IntKind.i64.wrap (32 - (s : Int)) = (t : Int) := by rw [IntKind.wrap_i64]; omega
  rw [← hR]
  have HC1 := Lib.hid c1
  have HC2 := Lib.hid c2
  have HC3 := Lib.hid c3
  clear c1 c2 c3 e1 e2 e3 h1 h2 h3 hW hW1 hy1 hZ hR j2 hroom hn h hst j1 ly j3
  go_enter Tryz.func107, Tryz.ntmps107
  go_wp2_with (first | (go_at_call 78; (with_reducible refine HC1.out.mono ?_); rintro e w' ⟨rfl, rfl⟩) | (go_at_call 78; (with_reducible refine HC2.out.mono ?_); rintro e w' ⟨rfl, rfl⟩))
  go_quiet ((go_at_call 78; exact Calls.quiet_of_same (HC3.out _)))
  go_wp2
  go_ret
  exact ⟨rfl, _, rfl⟩

end Go.Proofs.YtdgmjmckeeeljaaGreatDoor

namespace Go.Proofs.YtdgmjmckeeeljaaGreatDoor
open Go.RowKit

/-- k digits of the sum are reckoned. -/
def Mixing (f g : Int) (xs ys zs : List Nat) (k : Nat) (c : Int) : Prop :=
  zs.length = xs.length ∧ Bd zs ∧ -2147483648 ≤ c ∧ c ≤ 2147483648 ∧ (val (zs.take k) : Int) + 4294967296 ^ k * c = f * val (xs.take k) + g * val (ys.take k)

theorem mixing_start {f g : Int} {xs ys zs : List Nat} (h1 : zs.length = xs.length) (h2 : Bd zs) : Mixing f g xs ys zs 0 0 := ⟨h1, h2, by omega, by omega, by simp [val]⟩

theorem mixing_step {f g c T : Int} {xs ys zs : List Nat} {k d : Nat} (h : Mixing f g xs ys zs k c) (hk : k < xs.length) (hT : T = c + (f * (xs.getD k 0 : Nat) + g * (ys.getD k 0 : Nat))) (hd : (d : Int) = T % 4294967296) (hb1 : -2147483648 ≤ T / 4294967296) (hb2 : T / 4294967296 ≤ 2147483648) :
    Mixing f g xs ys (zs.set k d) (k + 1) (T / 4294967296) := by
  obtain ⟨h1, h2, h3, h4, h5⟩ := h
  have hdl : d < 4294967296 := by omega
  refine ⟨by rw [List.length_set]; exact h1, h2.set _ hdl, hb1, hb2, ?_⟩
  rw [take_set (by omega), take_next, take_next]
  have e : (4294967296 : Int) ^ (k + 1) * (T / 4294967296) = 4294967296 ^ k * (4294967296 * (T / 4294967296)) := by rw [Int.pow_succ, Int.mul_assoc]
  have e2 : 4294967296 * (T / 4294967296) = T - d := by omega
  rw [e, e2]
  obtain ⟨P, hP⟩ : ∃ P : Nat, P = 4294967296 ^ k := ⟨_, rfl⟩
  have hPi : (4294967296 : Int) ^ k = P := by rw [hP, Int.natCast_pow]; rfl
  rw [hPi] at h5 ⊢
  rw [← hP]
  push_cast
  rw [hT]
  grind

theorem mixing_end {f g c : Int} {xs ys zs : List Nat} {N n : Nat} (h : Mixing f g xs ys zs n c) (hn : xs.length = n) (hys : ys.length ≤ n) (hN : (N : Int) = f * val xs + g * val ys) (hlt : N < 4294967296 ^ n) : val zs = N := by
  obtain ⟨h1, h2, h3, h4, h5⟩ := h
  rw [List.take_of_length_le (by omega), List.take_of_length_le (by omega), List.take_of_length_le (by omega), ← hN] at h5
  have hz := val_lt h2
  rw [h1, hn] at hz
  obtain ⟨P, hP⟩ : ∃ P : Nat, P = 4294967296 ^ n := ⟨_, rfl⟩
  have hPi : (4294967296 : Int) ^ n = P := by rw [hP, Int.natCast_pow]; rfl
  rw [hPi] at h5
  rw [← hP] at hz hlt
  have hc : c = 0 := by
    rcases Int.lt_trichotomy c 0 with e | e | e
    · have k1 : (P : Int) * c ≤ P * (-1) := Int.mul_le_mul_of_nonneg_left (by omega) (by omega)
      omega
    · exact e
    · have k1 : (P : Int) * 1 ≤ P * c := Int.mul_le_mul_of_nonneg_left (by omega) (by omega)
      omega
  subst hc
  omega

/-- The bounds of a factor times a digit. -/
theorem fac_bound {f : Int} {x : Nat} (h1 : -1073741824 < f) (h2 : f < 1073741824) (hx : x < 4294967296) : -4611686013058678786 < f * (x : Int) ∧ f * (x : Int) < 4611686013058678786 := by
  have k1 : f * (x : Int) ≤ 1073741823 * x := Int.mul_le_mul_of_nonneg_right (by omega) (by omega)
  have k2 : (-1073741823) * (x : Int) ≤ f * x := Int.mul_le_mul_of_nonneg_right (by omega) (by omega)
  omega

def MixR (w : World) (f g : Int) (xs ys : List Nat) (n gb : Nat) (cv kv : Value) (wr : World) : Prop :=
  ∃ (k : Nat) (c : Int) (zs : List Nat), k ≤ n ∧ cv = .int .i64 c ∧ kv = .int .i64 k ∧ Mixing f g xs ys zs k c ∧ Row wr gb zs ∧ Below gb w wr

theorem w64 (n : Int) (h1 : -9223372036854775808 ≤ n) (h2 : n ≤ 9223372036854775807) : wrap64 n = n := by unfold wrap64; omega

theorem shr_32 (T : Int) : binOp BinOp.shr 2 (.int .i64 T) (.int .u64 32) = (pure (.int .i64 (T / 4294967296)) : Sem Value) := by
  have e : binOp BinOp.shr 2 (.int .i64 T) (.int .u64 32) = Op.shift .shr .i64 T .u64 32 := rfl
  rw [e]
  unfold Op.shift
  rw [if_neg (by omega)]
  show (pure (.int .i64 (T.fdiv (2 ^ (min (Int.toNat 32) (IntKind.bits .i64))))) : Sem Value) = _
  rw [show min (Int.toNat 32) (IntKind.bits .i64) = 32 from rfl, Int.fdiv_eq_ediv_of_nonneg _ (by decide)]
  rfl

set_option maxRecDepth 10000 in
set_option maxHeartbeats 4000000 in
theorem mixed_any {w : World} {va vb : Value} {xs ys : List Nat} {f g : Int} {N : Nat} (ha : Sl w va xs) (hb : Sl w vb ys) (hl : xs.length ≤ 1000) (hll : ys.length ≤ xs.length) (f1 : -1073741824 < f) (f2 : f < 1073741824) (g1 : -1073741824 < g) (g2 : g < 1073741824)
    (hN : (N : Int) = f * val xs + g * val ys) (hlt : N < 4294967296 ^ xs.length) : Calls Tryz.prog 108 #[.int .i64 f, va, .int .i64 g, vb] w (NewDigs w N) := by
  obtain ⟨aa, ca, rfl⟩ := ha.mk'
  obtain ⟨n, hn⟩ : ∃ n : Nat, n = xs.length := ⟨_, rfl⟩
  have HEND := Lib.hid (fun c zs (h : Mixing f g xs ys zs n c) => mixing_end h hn.symm (by omega) hN (by rw [hn]; exact hlt))
  have HN := Lib.hid hn
  have HA := Lib.hid ha
  have HB := Lib.hid hb
  rw [← hn] at hl ⊢
  clear hN hlt hn ha hb hll
  go_enter Tryz.func108, Tryz.ntmps108
  go_wp2_with (at_make; go_must (refine wpList_make_row _ rfl _ _ rfl _ _ _ _ n rfl rfl (by omega) (by omega) (by omega) ?_; intro w1 hrow hbel))
  have HROW := Lib.hid hrow
  have HBEL := Lib.hid hbel
  clear hrow hbel
  go_loopw [10, 17] (fun cv kv wr => MixR w f g xs ys n w.heap.size cv kv wr) (fun _ kv _ => (n - intOf kv).toNat)
  case atStart => exact ⟨0, 0, List.replicate n 0, by omega, rfl, rfl, mixing_start (by rw [List.length_replicate, HN.out]) (fun x hx => by have := List.eq_of_mem_replicate hx; omega), HROW.out, HBEL.out⟩
  case round =>
    obtain ⟨k, c, zs, hk, rfl, rfl, hM, hr, hbl⟩ := hrel
    clear HROW HBEL
    by_cases hlt : k < n
    · obtain ⟨b, off, rfl, hcap, hbs, hcl⟩ := HA.out.at (by rw [← HN.out]; omega)
      have hca := hcl.at hbl hbs k (by rw [← HN.out]; exact hlt)
      have hdB : ∀ m, Calls Tryz.prog 78 #[vb, .int .i64 (k : Nat)] (wr.drewN m) fun e w' => e = .returned (.int .u32 (ys.getD k 0 : Nat)) ∧ w' = wr.drewN m := fun m => digit_any (HB.out.below (hbl.trans (show Below w.heap.size wr (wr.drewN m) from ⟨rfl, rfl, rfl, Nat.le_refl _, fun _ _ => rfl⟩))) k
      have hxl : xs.getD k 0 < 4294967296 := by rw [val_digit HA.out.bd]; exact Nat.mod_lt _ (by omega)
      have hyl : ys.getD k 0 < 4294967296 := by rw [val_digit HB.out.bd]; exact Nat.mod_lt _ (by omega)
      have hstep := fun T d h1 h2 h3 h4 => mixing_step (T := T) (d := d) hM (by rw [← HN.out]; exact hlt) h1 h2 h3 h4
      have hc1 := hM.2.2.1
      have hc2 := hM.2.2.2.1
      have hzl := hM.1
      obtain ⟨x, hxx⟩ : ∃ x, x = xs.getD k 0 := ⟨_, rfl⟩
      obtain ⟨y, hyy⟩ : ∃ y, y = ys.getD k 0 := ⟨_, rfl⟩
      rw [← hxx] at hca hxl hstep
      rw [← hyy] at hdB hyl hstep
      have hfx := fac_bound f1 f2 hxl
      have hgy := fac_bound g1 g2 hyl
      obtain ⟨FX, hFX⟩ : ∃ FX, FX = f * (x : Int) := ⟨_, rfl⟩
      obtain ⟨GY, hGY⟩ : ∃ GY, GY = g * (y : Int) := ⟨_, rfl⟩
      rw [← hFX] at hfx hstep
      rw [← hGY] at hgy hstep
      obtain ⟨T, hT⟩ : ∃ T, T = c + (FX + GY) := ⟨_, rfl⟩
      obtain ⟨d, hd⟩ : ∃ d : Nat, (d : Int) = T % 4294967296 := ⟨(T % 4294967296).toNat, by omega⟩
      have HNX := Lib.hid (hstep T d hT hd (by omega) (by omega))
      have wf : IntKind.i64.wrap (f * (x : Int)) = FX := by rw [← hFX, IntKind.wrap_i64]; omega
      have wg : IntKind.i64.wrap (g * (y : Int)) = GY := by rw [← hGY, IntKind.wrap_i64]; omega
      have wfg : IntKind.i64.wrap (FX + GY) = FX + GY := by rw [IntKind.wrap_i64]; omega
      have wc : IntKind.i64.wrap (c + (FX + GY)) = T := by rw [IntKind.wrap_i64]; omega
      have wd : IntKind.u32.wrap T = (d : Int) := by rw [IntKind.wrap_u32]; omega
      have wd2 : T % 4294967296 = (d : Int) := hd.symm
      have H64 : Hid (wrap64 (c + wrap64 (wrap64 (f * wrap64 (x : Int)) + wrap64 (g * wrap64 (y : Int)))) = T) := Lib.hid (by
        rw [w64 (x : Int) (by omega) (by omega), w64 (y : Int) (by omega) (by omega), ← hFX, ← hGY, w64 FX (by omega) (by omega), w64 GY (by omega) (by omega), w64 (FX + GY) (by omega) (by omega), ← hT, w64 T (by omega) (by omega)])
      have HWD := Lib.hid wd2
      have hc := hr.cell k (by rw [hzl, ← HN.out]; exact hlt)
      have hf := hr.free k
      obtain ⟨old, hold⟩ : ∃ old, old = zs.getD k 0 := ⟨_, rfl⟩
      rw [← hold] at hc
      have HDB := Lib.hid hdB
      have HR := Lib.hid hr
      clear hdB hcl hxx hyy hFX hGY hT hd hfx hgy hstep hM hr hc1 hc2 hzl hold f1 f2 g1 g2 hxl hyl
      go_wp2
      go_quiet ((go_at_call 78; exact Calls.quiet_of_same (HDB.out _)))
      go_wp2
      rw [H64.out, HWD.out]
      go_roundw
      case rel => exact ⟨k + 1, T / 4294967296, zs.set k d, by omega, by first | rfl | go_num, by first | rfl | go_num, HNX.out, Row.set (show Row (wr.drewN nq) w.heap.size zs from HR.out) k d, (hbl.trans (show Below w.heap.size wr (wr.drewN nq) from ⟨rfl, rfl, rfl, Nat.le_refl _, fun _ _ => rfl⟩)).setCell (p := ⟨w.heap.size, k, none⟩) (Nat.le_refl _) _⟩
      case measure => simp [intOf]; omega
    · obtain rfl : k = n := by omega
      have hend := HEND.out c zs hM
      have hz : zs.length = k := by rw [hM.1, HN.out]
      have hsw := hr.sw' (Nat.le_refl _) hM.2.1 hz (by unfold maxLen; omega)
      have ht := trim_any _ _ _ hsw.sl
      have hu := hsw.trim
      rw [hend] at ht hu
      have HE := Lib.hid hu
      have HBL := Lib.hid hbl
      clear hz hend hsw hu hM hr hbl
      go_wp2_with (go_at_call 76; refine ht.mono ?_; rintro e w' ⟨rfl, rfl⟩)
      go_ret
      exact ⟨_, rfl, HE.out, HBL.out⟩

end Go.Proofs.YtdgmjmckeeeljaaGreatDoor
