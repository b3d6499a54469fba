/- Contract: leaves of digest. Condition: at most 2^20 strings, of lengths that Go permits. -/
import Derived.Test.YtkkbjkjmhjgaiaaO
namespace Go.Proofs.Ytkkbjkjmhjgaiaa
open Go.RowKit

theorem wid_le {n : Nat} (h : n ≤ 1048576) : n ≤ wid n ∧ wid n ≤ 1048576 ∧ 1 ≤ wid n := by
  obtain ⟨m, h1, h2, h3⟩ := wid_pow n
  rw [h1]
  refine ⟨h2, ?_, Nat.one_le_two_pow⟩
  have : m ≤ 20 := by
    by_cases hm : m = 0
    · omega
    · by_cases h20 : m ≤ 20
      · exact h20
      · have h4 := h3 (by omega)
        have h5 : 2 ^ 20 ≤ 2 ^ (m - 1) := Nat.pow_le_pow_right (by omega) (by omega)
        omega
  calc 2 ^ m ≤ 2 ^ 20 := Nat.pow_le_pow_right (by omega) this
    _ = 1048576 := by decide

theorem size52 (W : World) : (Go.sizeOf 52).run Try.prog W = .ok 8 W := by
  obtain ⟨i, hi, hz0, hz1, hz2⟩ := info_parts Try.info52
  simp [Go.sizeOf, typeInfo, hi, hz1]

/-- level[n:] -/
theorem run_from57 (g N n : Nat) (h : n ≤ N) (q : Nat) (hq : q = if N = n then 0 else n * 8) (W : World) : (Instr.slice 57 (.slice (some ⟨g, 0, none⟩) N N) (some (.int .i64 (n : Int))) none none).run Try.prog W = .ok (.slice (some ⟨g, q, none⟩) (N - n) (N - n)) W := by
  have h1 : (0 : Int) ≤ n ∧ (n : Int) ≤ N := by omega
  have hs := size52
  subst hq
  by_cases hn : N = n <;> simp [Instr.slice, Instr.sliceBounds, Instr.sliceBound, run_underlying Try.underlying57, asIntOf, hs, h, hn, Addr.add_lit]

/-- What is in level 0 behind k of the strings. -/
def lv (l : List ByteArray) (N k : Nat) : List Dg := (l.map fun s => leafD (by' s)).take k ++ List.replicate (N - k) zero8
/-- And behind j of the places that stay empty. -/
def lw (l : List ByteArray) (N j : Nat) : List Dg := (l.map fun s => leafD (by' s)) ++ (List.replicate j noneD ++ List.replicate (N - l.length - j) zero8)

theorem lv_len {l : List ByteArray} {N : Nat} (h : l.length ≤ N) {k : Nat} (hk : k ≤ l.length) : (lv l N k).length = N := by
  simp [lv]; omega
theorem lw_len {l : List ByteArray} {N : Nat} (h : l.length ≤ N) {j : Nat} (hj : j ≤ N - l.length) : (lw l N j).length = N := by
  simp [lw]; omega
theorem lv_end (l : List ByteArray) (N : Nat) : lv l N l.length = lw l N 0 := by
  unfold lv lw
  rw [List.take_of_length_le (by simp), List.replicate_zero, List.nil_append, Nat.sub_zero]
theorem lv_set {l : List ByteArray} {N : Nat} (h : l.length ≤ N) {k : Nat} (hk : k < l.length) : (lv l N k).set k (leafD (by' (l.getD k ⟨#[]⟩))) = lv l N (k + 1) := by
  have hl : (l.map fun s => leafD (by' s)).length = l.length := by simp
  have hkl : k < (l.map fun s => leafD (by' s)).length := by omega
  have e : leafD (by' (l.getD k ⟨#[]⟩)) = (l.map fun s => leafD (by' s))[k] := by simp [List.getD, hk]
  rw [e]
  unfold lv
  rw [List.set_append_right _ _ (by simp; omega), List.length_take, hl, show k - min k l.length = 0 by omega, show N - k = (N - (k + 1)) + 1 by omega, List.replicate_succ, List.set_cons_zero]
  rw [List.take_add_one (i := k), List.getElem?_eq_getElem hkl, List.append_assoc]
  rfl
theorem lw_set {l : List ByteArray} {N : Nat} {j : Nat} (hj : j < N - l.length) : (lw l N j).set (l.length + j) noneD = lw l N (j + 1) := by
  unfold lw
  rw [List.set_append_right _ _ (by simp), List.length_map, show l.length + j - l.length = j by omega]
  rw [List.set_append_right _ _ (by simp), List.length_replicate, Nat.sub_self, show N - l.length - j = (N - l.length - (j + 1)) + 1 by omega, List.replicate_succ, List.set_cons_zero]
  rw [List.replicate_succ' (n := j), List.append_assoc]
  rfl
theorem lw_end {l : List ByteArray} {N : Nat} (hN : N = wid l.length) : lw l N (N - l.length) = leavesD (l.map by') := by
  unfold lw leavesD
  rw [Nat.sub_self, List.replicate_zero, List.append_nil, List.map_map, List.length_map, ← hN]
  rfl

structure LwI (w : World) (l : List ByteArray) (N j x : Nat) (d0 d1 d2 d3 d4 d5 d6 d7 : Int) (wr : World) : Prop where
  row : RowD wr w.heap.size (lw l N j)
  bl : Below w.heap.size w wr
  box : row8 wr x d0 d1 d2 d3 d4 d5 d6 d7
  lt : w.heap.size < x

structure LvI (w : World) (l : List ByteArray) (N k : Nat) (wr : World) : Prop where
  row : RowD wr w.heap.size (lv l N k)
  bl : Below w.heap.size w wr

abbrev box0 : Obj := .cells #[.int .u8 0, .int .u8 0, .int .u8 0, .int .u8 0, .int .u8 0, .int .u8 0, .int .u8 0, .int .u8 0] 52
theorem boxA (X : World) (o : Obj) : ((X.alloc box0).alloc o).heap[X.heap.size]? = some box0 := (Below.heap_alloc _ _ _ (by simp)).trans (heap_alloc_new X _)
theorem boxB (X : World) (o : Obj) : ((X.alloc o).alloc box0).heap[X.heap.size + 1]? = some box0 := by
  have := heap_alloc_new (X.alloc o) box0
  rwa [World.size_alloc] at this
theorem armA {W0 w1 : World} {x : Nat} (h : W0.heap[x]? = some box0) (hb : Below W0.heap.size W0 w1) : row8 w1 x 0 0 0 0 0 0 0 0 := (hb.block x (Array.getElem?_eq_some_iff.1 h).1).trans h

theorem lw_next {w wr : World} {l : List ByteArray} {N j x p : Nat} {d0 d1 d2 d3 d4 d5 d6 d7 : Int} (h : LwI w l N j x d0 d1 d2 d3 d4 d5 d6 d7 wr) (hj : j < N - l.length) (hn : l.length ≤ N) (hp : p = (l.length + j) * 8)
    (hd : dval noneD = .agg #[.int .u8 d0, .int .u8 d1, .int .u8 d2, .int .u8 d3, .int .u8 d4, .int .u8 d5, .int .u8 d6, .int .u8 d7]) : LwI w l N (j + 1) x d0 d1 d2 d3 d4 d5 d6 d7 (put8o wr w.heap.size p d0 d1 d2 d3 d4 d5 d6 d7) := by
  have hlt := h.lt
  have hb : ∀ (a : World) (o : Nat) (v : Value), (a.setCell ⟨w.heap.size, o, none⟩ v).heap[x]? = a.heap[x]? := fun a o v => heap_setCell_other _ _ _ _ (by simp; omega)
  refine ⟨by rw [← lw_set hj]; exact h.row.put (by rw [lw_len hn (by omega)]; omega) hp hd, put8o_below h.bl (Nat.le_refl _), ?_, hlt⟩
  unfold put8o
  show (_ : World).heap[x]? = _
  rw [hb, hb, hb, hb, hb, hb, hb, hb]
  exact h.box

set_option maxRecDepth 10000 in
set_option maxHeartbeats 2000000 in
/-- leaves -/
theorem leaves_any {w : World} {v : Value} {l : List ByteArray} (hX : Sx w v l) (hn : l.length ≤ 1048576) (hs : ∀ k, (l.getD k ⟨#[]⟩).size ≤ 140737488355000) : Calls Try.prog 46 #[v] w fun e w' => ∃ v', e = .returned v' ∧ Dx w' v' (leavesD (l.map by')) ∧ Below w.heap.size w w' := by
  obtain ⟨ao, cap, rfl⟩ := hX.mk'
  obtain ⟨n, hln⟩ : ∃ n, n = l.length := ⟨_, rfl⟩
  rw [← hln] at hn ⊢
  obtain ⟨n1, n2, n3⟩ := wid_le hn
  obtain ⟨N, hN⟩ : ∃ N, N = wid n := ⟨_, rfl⟩
  have HW : Hid (∀ W, Calls Try.prog 48 #[.int .i64 n] W fun e w' => e = .returned (.int .i64 (N : Nat)) ∧ W = w') := fun W => by rw [hN]; exact (width_any n hn W).mono fun e w' h => ⟨h.1, h.2.symm⟩
  rw [← hN] at n1 n2 n3
  obtain ⟨i, hi, hz0, hz1, hz2⟩ := info_parts Try.info52
  have hmk := fun W => run_make (P := Try.prog) W 57 52 i _ Try.underlying57 hi hz0 .i64 .i64 (N : Int) (N : Int) (by omega) (Int.le_refl _) (by rw [hz2]; omega) (by omega)
  simp only [Int.toNat_natCast, hz1] at hmk
  have hr0 := RowD.make w N
  have hb0 : Below w.heap.size w (w.alloc (.cells (madeCells (Value.agg #[.int .u8 0, .int .u8 0, .int .u8 0, .int .u8 0, .int .u8 0, .int .u8 0, .int .u8 0, .int .u8 0]).cells (N * 8)) 52)) := Below.alloc (Below.refl _ _) (Nat.le_refl _) _
  obtain ⟨W1, hW1⟩ : ∃ W1, W1 = w.alloc (.cells (madeCells (Value.agg #[.int .u8 0, .int .u8 0, .int .u8 0, .int .u8 0, .int .u8 0, .int .u8 0, .int .u8 0, .int .u8 0]).cells (N * 8)) 52) := ⟨_, rfl⟩
  have hmk1 := hmk w
  rw [← hW1] at hmk1 hr0 hb0
  have HI0 : Hid (LvI w l N 0 W1) := Lib.hid ⟨by show RowD W1 w.heap.size (lv l N 0); unfold lv; rw [List.take_zero, Nat.sub_zero]; exact hr0, hb0⟩
  have HX := Lib.hid hX
  have HS := Lib.hid hs
  have HLN := Lib.hid hln
  have HNN := Lib.hid hN
  have HL : Hid (∀ s : ByteArray, s.size ≤ 140737488355000 → ∀ W, Calls Try.prog 41 #[.string s] W fun e w' => e = .returned (dval (leafD (by' s))) ∧ Below W.heap.size W w') := fun s h W => leafOf_any s (by omega) W
  clear hmk hi hz0 hz1 hz2 hW1 hr0 hb0 hX hs hln hN
  go_enter Try.func46, Try.ntmps46
  go_wp2_with (go_at_call 48; refine (HW.out _).mono ?_; rintro e w' ⟨rfl, rfl⟩)
  go_loopw [15] (fun iv wr => ∃ k : Nat, k ≤ n ∧ iv = .int .i64 (k : Nat) ∧ Hid (LvI w l N k wr)) (fun iv _ => n - (intOf iv).toNat)
  case atStart => exact ⟨0, by omega, rfl, HI0⟩
  case round =>
    obtain ⟨k, hk, rfl, hJ⟩ := hrel
    by_cases hkm : k = n
    · subst hkm
      obtain ⟨q, hq⟩ : ∃ q, q = if N = k then 0 else k * 8 := ⟨_, rfl⟩
      obtain ⟨M, hM⟩ : ∃ M, M = N - k := ⟨_, rfl⟩
      have hsl := run_from57 w.heap.size N k n1 q hq
      rw [← hM] at hsl
      have HM := Lib.hid hM
      have hMb : M ≤ 1048576 := by omega
      have HJ : Hid (RowD wr w.heap.size (lw l N 0)) := by rw [← lv_end, ← HLN.out]; exact hJ.out.row
      have HBJ := Lib.hid hJ.out.bl
      have HRT := Lib.hid hJ.out.row.lt
      have HQ := Lib.hid hq
      obtain ⟨d0, d1, d2, d3, d4, d5, d6, d7, ed⟩ := dval_eight (d := noneD) (dig_len _)
      have HO : Hid (∀ W x, W.cell? ⟨x, 0, none⟩ = some (.string ⟨#[3]⟩) → x < W.heap.size → Calls Try.prog 32 #[.slice (some ⟨x, 0, none⟩) 1 1] W fun e w' => e = .returned (.agg #[.int .u8 d0, .int .u8 d1, .int .u8 d2, .int .u8 d3, .int .u8 d4, .int .u8 d5, .int .u8 d6, .int .u8 d7]) ∧ Below W.heap.size W w') := fun W x h1 h2 => by
        rw [← ed]
        have := of_any (w := W) (v := .slice (some ⟨x, 0, none⟩) 1 1) (l := [⟨#[3]⟩]) ⟨by unfold maxLen; simp, .inr ⟨x, 0, 1, rfl, by simp, h2, fun j hj => by
          have : j = 0 := by simpa using hj
          subst this
          exact h1⟩⟩ (small_getD (m := 140737488355328) (fun s hs => by rw [List.mem_singleton] at hs; subst hs; show 1 ≤ _; omega))
        exact this
      have HED := Lib.hid ed
      clear hq ed hM hJ
      go_wp2_with fail
      go_region_held3 (fun _ => True ∧ True) (exact ⟨trivial, trivial⟩)
        ((first | (go_at_call 32; refine (HO.out _ _ (by simp) (by first | (simp; done) | (simp; omega))).mono ?_; rintro e w1 ⟨rfl, hb⟩; (first | (have r1 : row8 w1 wr.heap.size 0 0 0 0 0 0 0 0 := armA (boxA wr.drew _) hb; obtain ⟨c0, c1, c2, c3, c4, c5, c6, c7⟩ := row8_cells r1; obtain ⟨f0, f1, f2, f3, f4, f5, f6, f7⟩ := row8_free r1; have R1 := Lib.hid r1; clear r1) | (have r1 : row8 w1 (wr.heap.size + 1) 0 0 0 0 0 0 0 0 := armA (boxB wr.drew _) hb; obtain ⟨c0, c1, c2, c3, c4, c5, c6, c7⟩ := row8_cells r1; obtain ⟨f0, f1, f2, f3, f4, f5, f6, f7⟩ := row8_free r1; have R1 := Lib.hid r1; clear r1) | skip); have hb' : Below wr.heap.size wr w1 := Below.trans (by go_grown) (hb.mono (by first | (simp; done) | (simp; omega))); have HRW1 := Lib.hid (HJ.out.below hb' HRT.out); have HBW1 := Lib.hid (HBJ.out.trans (hb'.mono HBJ.out.size)); have HS1 := Lib.hid hb'.size; clear hb hb')))
      · obtain ⟨W3, hW3⟩ : ∃ W3, W3 = w1.alloc (.cells #[.int .u8 d0, .int .u8 d1, .int .u8 d2, .int .u8 d3, .int .u8 d4, .int .u8 d5, .int .u8 d6, .int .u8 d7] 52) := ⟨_, rfl⟩
        rw [← hW3]
        obtain ⟨x, hx⟩ : ∃ x, x = w1.heap.size := ⟨_, rfl⟩
        rw [← hx]
        have hlt : w.heap.size < x := by have := HRT.out; have := HS1.out; omega
        have HI : Hid (LwI w l N 0 x d0 d1 d2 d3 d4 d5 d6 d7 W3) := Lib.hid (by
          rw [hW3, hx]
          exact ⟨HRW1.out.below (Below.alloc (Below.refl w1.heap.size _) (Nat.le_refl _) _) HRW1.out.lt, HBW1.out.alloc HBW1.out.size _, heap_alloc_new _ _, by rw [← hx]; exact hlt⟩)
        clear hW3 hx hlt
        go_wp2
        go_loopw [34] (fun iv w2 => ∃ j : Nat, j ≤ M ∧ iv = .int .i64 (j : Nat) ∧ Hid (LwI w l N j x d0 d1 d2 d3 d4 d5 d6 d7 w2)) (fun iv _ => M - (intOf iv).toNat)
        case atStart => exact ⟨0, by omega, rfl, HI⟩
        case round =>
          obtain ⟨j, hj, rfl, hJ2⟩ := hrel
          by_cases hjm : j = M
          · subst hjm
            go_wp2
            go_ret
            exact ⟨_, rfl, RowD.dx (L := leavesD (l.map by')) (by have e := lw_end (l := l) (N := N) (by rw [← HLN.out]; exact HNN.out); rw [← e, ← HLN.out, ← HM.out]; exact hJ2.out.row) (by rw [leavesD_len, List.length_map, ← HLN.out]; exact HNN.out) (all8_leaves _), hJ2.out.bl⟩
          · have hjM : j < M := by omega
            obtain ⟨p, hp⟩ : ∃ p, p = q + j * 8 := ⟨_, rfl⟩
            have hpk : p = (l.length + j) * 8 := by
              have h1 := HQ.out
              rw [if_neg (by have := HM.out; omega)] at h1
              rw [hp, h1, HLN.out]; omega
            have hi2 := run_at57 w.heap.size q M M j hjM (j : Int) rfl p hp
            have hjl : j < N - l.length := by rw [← HLN.out, ← HM.out]; exact hjM
            have hnl : l.length ≤ N := by rw [← HLN.out]; exact n1
            obtain ⟨o0, o1, o2, o3, o4, o5, o6, o7, k0, k1, k2, k3, k4, k5, k6, k7⟩ := hJ2.out.row.cells (k := l.length + j) (by rw [lw_len hnl (by omega)]; omega) hpk
            have f0 := hJ2.out.row.free p
            have f1 := hJ2.out.row.free (p + 1)
            have f2 := hJ2.out.row.free (p + 2)
            have f3 := hJ2.out.row.free (p + 3)
            have f4 := hJ2.out.row.free (p + 4)
            have f5 := hJ2.out.row.free (p + 5)
            have f6 := hJ2.out.row.free (p + 6)
            have f7 := hJ2.out.row.free (p + 7)
            obtain ⟨c0, c1, c2, c3, c4, c5, c6, c7⟩ := row8_cells hJ2.out.box
            have HPK := Lib.hid hpk
            have HJL := Lib.hid hjl
            have HNL := Lib.hid hnl
            clear hp hpk hjl hnl
            go_wp2
            go_roundw
            case rel => exact ⟨j + 1, by omega, by go_num, Lib.hid (lw_next hJ2.out HJL.out HNL.out HPK.out HED.out)⟩
            case measure => simp [intOf]; omega
      · obtain ⟨W3, hW3⟩ : ∃ W3, W3 = put8 w1 (wr.heap.size + 1) d0 d1 d2 d3 d4 d5 d6 d7 := ⟨_, rfl⟩
        obtain ⟨x, hx⟩ : ∃ x, x = wr.heap.size + 1 := ⟨_, rfl⟩
        have hlt : w.heap.size < x := by have := HRT.out; omega
        have HI : Hid (LwI w l N 0 x d0 d1 d2 d3 d4 d5 d6 d7 W3) := Lib.hid (by
          rw [hW3, hx]
          rw [hx] at hlt
          exact ⟨HRW1.out.below (put8_below (Below.refl _ w1) (Nat.le_refl _)) hlt, put8_below HBW1.out (Nat.le_of_lt hlt), put8_row R1.out, hlt⟩)
        unfold put8 at hW3
        rw [← hW3]
        rw [← hx]
        clear hW3 hlt hx
        go_wp2
        go_loopw [34] (fun iv w2 => ∃ j : Nat, j ≤ M ∧ iv = .int .i64 (j : Nat) ∧ Hid (LwI w l N j x d0 d1 d2 d3 d4 d5 d6 d7 w2)) (fun iv _ => M - (intOf iv).toNat)
        case atStart => exact ⟨0, by omega, rfl, HI⟩
        case round =>
          obtain ⟨j, hj, rfl, hJ2⟩ := hrel
          by_cases hjm : j = M
          · subst hjm
            go_wp2
            go_ret
            exact ⟨_, rfl, RowD.dx (L := leavesD (l.map by')) (by have e := lw_end (l := l) (N := N) (by rw [← HLN.out]; exact HNN.out); rw [← e, ← HLN.out, ← HM.out]; exact hJ2.out.row) (by rw [leavesD_len, List.length_map, ← HLN.out]; exact HNN.out) (all8_leaves _), hJ2.out.bl⟩
          · have hjM : j < M := by omega
            obtain ⟨p, hp⟩ : ∃ p, p = q + j * 8 := ⟨_, rfl⟩
            have hpk : p = (l.length + j) * 8 := by
              have h1 := HQ.out
              rw [if_neg (by have := HM.out; omega)] at h1
              rw [hp, h1, HLN.out]; omega
            have hi2 := run_at57 w.heap.size q M M j hjM (j : Int) rfl p hp
            have hjl : j < N - l.length := by rw [← HLN.out, ← HM.out]; exact hjM
            have hnl : l.length ≤ N := by rw [← HLN.out]; exact n1
            obtain ⟨o0, o1, o2, o3, o4, o5, o6, o7, k0, k1, k2, k3, k4, k5, k6, k7⟩ := hJ2.out.row.cells (k := l.length + j) (by rw [lw_len hnl (by omega)]; omega) hpk
            have f0 := hJ2.out.row.free p
            have f1 := hJ2.out.row.free (p + 1)
            have f2 := hJ2.out.row.free (p + 2)
            have f3 := hJ2.out.row.free (p + 3)
            have f4 := hJ2.out.row.free (p + 4)
            have f5 := hJ2.out.row.free (p + 5)
            have f6 := hJ2.out.row.free (p + 6)
            have f7 := hJ2.out.row.free (p + 7)
            obtain ⟨c0, c1, c2, c3, c4, c5, c6, c7⟩ := row8_cells hJ2.out.box
            have HPK := Lib.hid hpk
            have HJL := Lib.hid hjl
            have HNL := Lib.hid hnl
            clear hp hpk hjl hnl
            go_wp2
            go_roundw
            case rel => exact ⟨j + 1, by omega, by go_num, Lib.hid (lw_next hJ2.out HJL.out HNL.out HPK.out HED.out)⟩
            case measure => simp [intOf]; omega
      · obtain ⟨W3, hW3⟩ : ∃ W3, W3 = put8 w1 (wr.heap.size) d0 d1 d2 d3 d4 d5 d6 d7 := ⟨_, rfl⟩
        obtain ⟨x, hx⟩ : ∃ x, x = wr.heap.size := ⟨_, rfl⟩
        have hlt : w.heap.size < x := by have := HRT.out; omega
        have HI : Hid (LwI w l N 0 x d0 d1 d2 d3 d4 d5 d6 d7 W3) := Lib.hid (by
          rw [hW3, hx]
          rw [hx] at hlt
          exact ⟨HRW1.out.below (put8_below (Below.refl _ w1) (Nat.le_refl _)) hlt, put8_below HBW1.out (Nat.le_of_lt hlt), put8_row R1.out, hlt⟩)
        unfold put8 at hW3
        rw [← hW3]
        rw [← hx]
        clear hW3 hlt hx
        go_wp2
        go_loopw [34] (fun iv w2 => ∃ j : Nat, j ≤ M ∧ iv = .int .i64 (j : Nat) ∧ Hid (LwI w l N j x d0 d1 d2 d3 d4 d5 d6 d7 w2)) (fun iv _ => M - (intOf iv).toNat)
        case atStart => exact ⟨0, by omega, rfl, HI⟩
        case round =>
          obtain ⟨j, hj, rfl, hJ2⟩ := hrel
          by_cases hjm : j = M
          · subst hjm
            go_wp2
            go_ret
            exact ⟨_, rfl, RowD.dx (L := leavesD (l.map by')) (by have e := lw_end (l := l) (N := N) (by rw [← HLN.out]; exact HNN.out); rw [← e, ← HLN.out, ← HM.out]; exact hJ2.out.row) (by rw [leavesD_len, List.length_map, ← HLN.out]; exact HNN.out) (all8_leaves _), hJ2.out.bl⟩
          · have hjM : j < M := by omega
            obtain ⟨p, hp⟩ : ∃ p, p = q + j * 8 := ⟨_, rfl⟩
            have hpk : p = (l.length + j) * 8 := by
              have h1 := HQ.out
              rw [if_neg (by have := HM.out; omega)] at h1
              rw [hp, h1, HLN.out]; omega
            have hi2 := run_at57 w.heap.size q M M j hjM (j : Int) rfl p hp
            have hjl : j < N - l.length := by rw [← HLN.out, ← HM.out]; exact hjM
            have hnl : l.length ≤ N := by rw [← HLN.out]; exact n1
            obtain ⟨o0, o1, o2, o3, o4, o5, o6, o7, k0, k1, k2, k3, k4, k5, k6, k7⟩ := hJ2.out.row.cells (k := l.length + j) (by rw [lw_len hnl (by omega)]; omega) hpk
            have f0 := hJ2.out.row.free p
            have f1 := hJ2.out.row.free (p + 1)
            have f2 := hJ2.out.row.free (p + 2)
            have f3 := hJ2.out.row.free (p + 3)
            have f4 := hJ2.out.row.free (p + 4)
            have f5 := hJ2.out.row.free (p + 5)
            have f6 := hJ2.out.row.free (p + 6)
            have f7 := hJ2.out.row.free (p + 7)
            obtain ⟨c0, c1, c2, c3, c4, c5, c6, c7⟩ := row8_cells hJ2.out.box
            have HPK := Lib.hid hpk
            have HJL := Lib.hid hjl
            have HNL := Lib.hid hnl
            clear hp hpk hjl hnl
            go_wp2
            go_roundw
            case rel => exact ⟨j + 1, by omega, by go_num, Lib.hid (lw_next hJ2.out HJL.out HNL.out HPK.out HED.out)⟩
            case measure => simp [intOf]; omega
    · have hkn : k < n := by omega
      rcases HX.out.is with ⟨rfl, _⟩ | ⟨b, off, cap', hv, hcap, hlt, hcl⟩
      · have := HLN.out
        simp at this
        omega
      · have hkl : k < l.length := by rw [← HLN.out]; exact hkn
        have hc1 := hcl k hkl
        injection hv with hv1 hv2 hv3
        subst hv1 hv3
        have hsz := HS.out k
        have hset := lv_set (l := l) (N := N) (by rw [← HLN.out]; exact n1) hkl
        have hll := lv_len (l := l) (N := N) (by rw [← HLN.out]; exact n1) (k := k) (by omega)
        obtain ⟨s, hsv⟩ : ∃ s, s = l.getD k ⟨#[]⟩ := ⟨_, rfl⟩
        rw [← hsv] at hc1 hsz hset
        have hc : wr.cell? ⟨b, off + k, none⟩ = some (.string s) := (hJ.out.bl.cell (p := ⟨b, off + k, none⟩) hlt).trans hc1
        obtain ⟨d0, d1, d2, d3, d4, d5, d6, d7, ed⟩ := dval_eight (d := leafD (by' s)) (dig_len _)
        have HLs := Lib.hid (HL.out s hsz)
        rw [ed] at HLs
        obtain ⟨p, hp⟩ : ∃ p, p = k * 8 := ⟨_, rfl⟩
        have hi2 := run_at57 w.heap.size 0 N N k (by omega) (k : Int) rfl p (by omega)
        have HP := Lib.hid hp
        have HED := Lib.hid ed
        have HSET := Lib.hid hset
        have HLL := Lib.hid hll
        have HJ := Lib.hid hJ.out.row
        have HBJ := Lib.hid hJ.out.bl
        clear hp ed hset hll hsv hc1 hcl hv2 hkl hJ
        go_wp2_with (go_at_call 41; refine (HLs.out _).mono ?_; rintro e w1 ⟨rfl, hb⟩; have HR1 := Lib.hid (HJ.out.below hb HJ.out.lt); have HB1 := Lib.hid (HBJ.out.trans (hb.mono HBJ.out.size)); clear hb; obtain ⟨o0, o1, o2, o3, o4, o5, o6, o7, k0, k1, k2, k3, k4, k5, k6, k7⟩ := HR1.out.cells (by rw [HLL.out]; omega) HP.out; have f0 := HR1.out.free p; have f1 := HR1.out.free (p + 1); have f2 := HR1.out.free (p + 2); have f3 := HR1.out.free (p + 3); have f4 := HR1.out.free (p + 4); have f5 := HR1.out.free (p + 5); have f6 := HR1.out.free (p + 6); have f7 := HR1.out.free (p + 7))
        go_roundw
        case rel => exact ⟨k + 1, by omega, by go_num, Lib.hid ⟨by rw [← HSET.out]; exact HR1.out.put (by rw [HLL.out]; omega) HP.out HED.out, put8o_below HB1.out (Nat.le_refl _)⟩⟩
        case measure => simp [intOf]; omega

end Go.Proofs.Ytkkbjkjmhjgaiaa
