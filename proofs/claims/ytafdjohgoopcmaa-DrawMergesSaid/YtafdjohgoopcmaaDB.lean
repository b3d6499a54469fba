/- Contract: the digest of parts. No condition but that the slice reads as strings of lengths that Go permits. -/
import Derived.Test.YtafdjohgoopcmaaDA
namespace Go.Proofs.Ytafdjohgoopcmaa
open Go.RowKit

theorem bytes_below (w : World) (e : TypeId) (s : ByteArray) : Below w.heap.size w (Lib.bytesWorld w e s) := ⟨rfl, rfl, rfl, by rw [Lib.bytesWorld_size]; omega, fun j hj => Lib.bytesWorld_at_old w e s j hj⟩

theorem dval_dig (x y : Nat) : dval (be4 x ++ be4 y) = .agg #[.int .u8 ((x / 16777216 % 256 : Nat) : Int), .int .u8 ((x / 65536 % 256 : Nat) : Int), .int .u8 ((x / 256 % 256 : Nat) : Int), .int .u8 ((x % 256 : Nat) : Int), .int .u8 ((y / 16777216 % 256 : Nat) : Int), .int .u8 ((y / 65536 % 256 : Nat) : Int), .int .u8 ((y / 256 % 256 : Nat) : Int), .int .u8 ((y % 256 : Nat) : Int)] := by
  simp [dval, be4]

/-- An array that is the one result. -/
theorem results_cell {fn : Func} {t ty g : Nat} {tmps : Array Value} {w : World} {cs : Array Value} (h : fn.results = #[.cell t 62]) (hp : tmps.getD t undef = .pointer (some ⟨g, 0, none⟩)) (hg : w.heap[g]? = some (.cells cs ty (0, 0))) (hs : cs.size = 8 := by rfl) :
    (results fn tmps).run Try.prog w = .ok (.agg cs) w := by
  have h1 := run_loadVar_row (P := Try.prog) w g ty 62 cs (0, 0) _ hg Try.underlying62 rfl (by rw [hs]; kernel_rfl)
  have hp' : tmps[t]?.getD undef = .pointer (some ⟨g, 0, none⟩) := by simpa [Array.getD_eq_getD_getElem?] using hp
  simp [results, h, hp', h1, asAddr]

/-- What holds when k parts are done. -/
structure OfI (w1 : World) (l : List ByteArray) (k : Nat) (xv yv : Value) (wr : World) : Prop where
  x : xv = .int .u64 (xat l k 0 : Nat)
  y : yv = .int .u64 (yat l k 0 : Nat)
  bl : Below w1.heap.size w1 wr

set_option maxRecDepth 10000 in
set_option maxHeartbeats 2000000 in
theorem of_any {w : World} {v : Value} {l : List ByteArray} (h : Sx w v l) (hs : ∀ k, (l.getD k ⟨#[]⟩).size ≤ 140737488355328) :
    Calls Try.prog 39 #[v] w fun e w' => e = .returned (dval (dig (cat l))) ∧ Below w.heap.size w w' := by
  obtain ⟨ao, cap, rfl⟩ := h.mk'
  have hlen := h.len
  unfold maxLen at hlen
  obtain ⟨n, hn⟩ : ∃ n, n = l.length := ⟨_, rfl⟩
  obtain ⟨r, hr⟩ : ∃ r, r = dval (dig (cat l)) := ⟨_, rfl⟩
  rw [← hr]
  have HR := Lib.hid hr
  clear hr
  obtain ⟨W1, hW1⟩ : ∃ W1, W1 = w.alloc (.cells #[.int .u8 0, .int .u8 0, .int .u8 0, .int .u8 0, .int .u8 0, .int .u8 0, .int .u8 0, .int .u8 0] 62) := ⟨_, rfl⟩
  have HW1 := Lib.hid hW1
  have HS := Lib.hid hs
  have HX := Lib.hid h
  have HN := Lib.hid hn
  rw [← hn] at hlen ⊢
  clear h hs hn hW1
  go_enter Try.func39, Try.ntmps39
  go_wp2
  go_loopw [3, 4, 13] (fun xv yv iv wr => ∃ k : Nat, k ≤ n ∧ iv = .int .i64 (k : Nat) ∧ Hid (OfI W1 l k xv yv wr)) (fun _ _ iv _ => n - (intOf iv).toNat)
  case atStart => exact ⟨0, by omega, rfl, Lib.hid ⟨rfl, rfl, by rw [HW1.out]; exact Below.refl _ _⟩⟩
  case round =>
    obtain ⟨k, hk, rfl, hJ⟩ := hrel
    obtain ⟨rfl, rfl, hbl⟩ := hJ.out
    have HBL := Lib.hid hbl
    clear hJ hbl
    by_cases hkn : k = n
    · subst hkn
      have ed : dval (dig (cat l)) = dval (be4 (xat l k 0) ++ be4 (yat l k 0)) := by rw [HN.out, xat_end, yat_end]; rfl
      rw [dval_dig] at ed
      have lx := xat_lt l k 0
      have ly := yat_lt l k 0
      obtain ⟨x, hx⟩ : ∃ x, x = xat l k 0 := ⟨_, rfl⟩
      obtain ⟨y, hy⟩ : ∃ y, y = yat l k 0 := ⟨_, rfl⟩
      rw [← hx] at lx ed ⊢
      rw [← hy] at ly ed ⊢
      have hb : wr.heap[w.heap.size]? = some (.cells #[.int .u8 0, .int .u8 0, .int .u8 0, .int .u8 0, .int .u8 0, .int .u8 0, .int .u8 0, .int .u8 0] 62 (0, 0)) := by
        have hW := HW1.out
        refine (HBL.out.block _ (by rw [hW]; simp)).trans ?_
        rw [hW]
        exact heap_alloc_new _ _
      have ed2 := HR.out.trans ed
      have HED := Lib.hid ed2
      have hlt : w.heap.size < wr.heap.size := (Array.getElem?_eq_some_iff.1 hb).1
      clear hx hy ed ed2
      go_wp2
      refine wp_loop_rounds 5 ?_
      rw [rounds_succ]
      go_wp2
      rw [rounds_succ]
      go_wp2
      rw [rounds_succ]
      go_wp2
      rw [rounds_succ]
      go_wp2
      obtain ⟨Wd, hWd⟩ : ∃ Wd, Wd = wr.alloc (.cells #[.int .u8 (x / 16777216), .int .u8 (x / 65536 % 256), .int .u8 (x / 256 % 256), .int .u8 (x % 256), .int .u8 (y / 16777216), .int .u8 (y / 65536 % 256), .int .u8 (y / 256 % 256), .int .u8 (y % 256)] 62) := ⟨_, rfl⟩
      rw [← hWd]
      obtain ⟨a0, h0⟩ : ∃ a : Int, a = (x : Int) / 16777216 := ⟨_, rfl⟩
      obtain ⟨a1, h1⟩ : ∃ a : Int, a = (x : Int) / 65536 % 256 := ⟨_, rfl⟩
      obtain ⟨a2, h2⟩ : ∃ a : Int, a = (x : Int) / 256 % 256 := ⟨_, rfl⟩
      obtain ⟨a3, h3⟩ : ∃ a : Int, a = (x : Int) % 256 := ⟨_, rfl⟩
      obtain ⟨a4, h4⟩ : ∃ a : Int, a = (y : Int) / 16777216 := ⟨_, rfl⟩
      obtain ⟨a5, h5⟩ : ∃ a : Int, a = (y : Int) / 65536 % 256 := ⟨_, rfl⟩
      obtain ⟨a6, h6⟩ : ∃ a : Int, a = (y : Int) / 256 % 256 := ⟨_, rfl⟩
      obtain ⟨a7, h7⟩ : ∃ a : Int, a = (y : Int) % 256 := ⟨_, rfl⟩
      rw [← h0, ← h1, ← h2, ← h3, ← h4, ← h5, ← h6, ← h7] at hWd
      have hd : Wd.heap[wr.heap.size]? = some (.cells #[.int .u8 a0, .int .u8 a1, .int .u8 a2, .int .u8 a3, .int .u8 a4, .int .u8 a5, .int .u8 a6, .int .u8 a7] 62 (0, 0)) := by rw [hWd]; exact heap_alloc_new _ _
      have hb' : Wd.heap[w.heap.size]? = some (.cells #[.int .u8 0, .int .u8 0, .int .u8 0, .int .u8 0, .int .u8 0, .int .u8 0, .int .u8 0, .int .u8 0] 62 (0, 0)) := by rw [hWd]; exact (Below.heap_alloc _ _ _ hlt).trans hb
      have d0 : Wd.cell? ⟨wr.heap.size, 0, none⟩ = some (.int .u8 a0) := by rw [cell_of_row _ _ _ _ _ _ hd]; rfl
      have d1 : Wd.cell? ⟨wr.heap.size, 1, none⟩ = some (.int .u8 a1) := by rw [cell_of_row _ _ _ _ _ _ hd]; rfl
      have d2 : Wd.cell? ⟨wr.heap.size, 2, none⟩ = some (.int .u8 a2) := by rw [cell_of_row _ _ _ _ _ _ hd]; rfl
      have d3 : Wd.cell? ⟨wr.heap.size, 3, none⟩ = some (.int .u8 a3) := by rw [cell_of_row _ _ _ _ _ _ hd]; rfl
      have d4 : Wd.cell? ⟨wr.heap.size, 4, none⟩ = some (.int .u8 a4) := by rw [cell_of_row _ _ _ _ _ _ hd]; rfl
      have d5 : Wd.cell? ⟨wr.heap.size, 5, none⟩ = some (.int .u8 a5) := by rw [cell_of_row _ _ _ _ _ _ hd]; rfl
      have d6 : Wd.cell? ⟨wr.heap.size, 6, none⟩ = some (.int .u8 a6) := by rw [cell_of_row _ _ _ _ _ _ hd]; rfl
      have d7 : Wd.cell? ⟨wr.heap.size, 7, none⟩ = some (.int .u8 a7) := by rw [cell_of_row _ _ _ _ _ _ hd]; rfl
      have c0 : Wd.cell? ⟨w.heap.size, 0, none⟩ = some (.int .u8 0) := by rw [cell_of_row _ _ _ _ _ _ hb']; rfl
      have c1 : Wd.cell? ⟨w.heap.size, 1, none⟩ = some (.int .u8 0) := by rw [cell_of_row _ _ _ _ _ _ hb']; rfl
      have c2 : Wd.cell? ⟨w.heap.size, 2, none⟩ = some (.int .u8 0) := by rw [cell_of_row _ _ _ _ _ _ hb']; rfl
      have c3 : Wd.cell? ⟨w.heap.size, 3, none⟩ = some (.int .u8 0) := by rw [cell_of_row _ _ _ _ _ _ hb']; rfl
      have c4 : Wd.cell? ⟨w.heap.size, 4, none⟩ = some (.int .u8 0) := by rw [cell_of_row _ _ _ _ _ _ hb']; rfl
      have c5 : Wd.cell? ⟨w.heap.size, 5, none⟩ = some (.int .u8 0) := by rw [cell_of_row _ _ _ _ _ _ hb']; rfl
      have c6 : Wd.cell? ⟨w.heap.size, 6, none⟩ = some (.int .u8 0) := by rw [cell_of_row _ _ _ _ _ _ hb']; rfl
      have c7 : Wd.cell? ⟨w.heap.size, 7, none⟩ = some (.int .u8 0) := by rw [cell_of_row _ _ _ _ _ _ hb']; rfl
      have f0 : Wd.frozen? ⟨w.heap.size, 0, none⟩ = false := frozen_of_row _ _ _ _ _ hb'
      have f1 : Wd.frozen? ⟨w.heap.size, 1, none⟩ = false := frozen_of_row _ _ _ _ _ hb'
      have f2 : Wd.frozen? ⟨w.heap.size, 2, none⟩ = false := frozen_of_row _ _ _ _ _ hb'
      have f3 : Wd.frozen? ⟨w.heap.size, 3, none⟩ = false := frozen_of_row _ _ _ _ _ hb'
      have f4 : Wd.frozen? ⟨w.heap.size, 4, none⟩ = false := frozen_of_row _ _ _ _ _ hb'
      have f5 : Wd.frozen? ⟨w.heap.size, 5, none⟩ = false := frozen_of_row _ _ _ _ _ hb'
      have f6 : Wd.frozen? ⟨w.heap.size, 6, none⟩ = false := frozen_of_row _ _ _ _ _ hb'
      have f7 : Wd.frozen? ⟨w.heap.size, 7, none⟩ = false := frozen_of_row _ _ _ _ _ hb'
      have HWD := Lib.hid hWd
      have HA := Lib.hid (And.intro h0 (And.intro h1 (And.intro h2 (And.intro h3 (And.intro h4 (And.intro h5 (And.intro h6 h7)))))))
      have HB := Lib.hid hb
      have HLT := Lib.hid hlt
      have HBB := Lib.hid hb'
      clear hWd h0 h1 h2 h3 h4 h5 h6 h7 hd hb' hb hlt
      obtain ⟨B0, hB0⟩ : ∃ B0, B0 = w.heap.size := ⟨_, rfl⟩
      rw [rounds_succ]
      go_wp2
      have k0 := heap_setCell_same Wd w.heap.size 0 _ 62 (.int .u8 a0) HBB.out
      have k1 := heap_setCell_same _ w.heap.size 1 _ 62 (.int .u8 a1) k0
      have k2 := heap_setCell_same _ w.heap.size 2 _ 62 (.int .u8 a2) k1
      have k3 := heap_setCell_same _ w.heap.size 3 _ 62 (.int .u8 a3) k2
      have k4 := heap_setCell_same _ w.heap.size 4 _ 62 (.int .u8 a4) k3
      have k5 := heap_setCell_same _ w.heap.size 5 _ 62 (.int .u8 a5) k4
      have k6 := heap_setCell_same _ w.heap.size 6 _ 62 (.int .u8 a6) k5
      have k7 := heap_setCell_same _ w.heap.size 7 _ 62 (.int .u8 a7) k6
      obtain ⟨Wf, hWf⟩ : ∃ Wf, Wf = ((((((((Wd.setCell ⟨w.heap.size, 0, none⟩ (.int .u8 a0)).setCell ⟨w.heap.size, 1, none⟩ (.int .u8 a1)).setCell ⟨w.heap.size, 2, none⟩ (.int .u8 a2)).setCell ⟨w.heap.size, 3, none⟩ (.int .u8 a3)).setCell ⟨w.heap.size, 4, none⟩ (.int .u8 a4)).setCell ⟨w.heap.size, 5, none⟩ (.int .u8 a5)).setCell ⟨w.heap.size, 6, none⟩ (.int .u8 a6)).setCell ⟨w.heap.size, 7, none⟩ (.int .u8 a7)) := ⟨_, rfl⟩
      rw [← hWf] at k7 ⊢
      have k8 : Wf.heap[w.heap.size]? = some (.cells #[.int .u8 a0, .int .u8 a1, .int .u8 a2, .int .u8 a3, .int .u8 a4, .int .u8 a5, .int .u8 a6, .int .u8 a7] 62 (0, 0)) := k7
      have HWF := Lib.hid hWf
      clear hWf k0 k1 k2 k3 k4 k5 k6 k7 c0 c1 c2 c3 c4 c5 c6 c7 d0 d1 d2 d3 d4 d5 d6 d7 f0 f1 f2 f3 f4 f5 f6 f7
      refine bodyPost_ret (results_cell (t := 2) rfl rfl k8) rfl ⟨?_, ?_⟩
      · obtain ⟨h0, h1, h2, h3, h4, h5, h6, h7⟩ := HA.out
        rw [HED.out, h0, h1, h2, h3, h4, h5, h6, h7]
        have q1 : x / 16777216 % 256 = x / 16777216 := Nat.mod_eq_of_lt (by omega)
        have q2 : y / 16777216 % 256 = y / 16777216 := Nat.mod_eq_of_lt (by omega)
        rw [q1, q2]
        simp
      · have hlt := HLT.out
        rw [HWF.out, HWD.out]
        have hW := HW1.out
        have hb0 : Below w.heap.size w wr := by
          have := HBL.out
          rw [hW] at this
          exact (Below.alloc (Below.refl _ _) (Nat.le_refl _) _).trans (this.mono (by simp))
        exact ((((((((hb0.alloc (by omega) _).setCell (by simp) _).setCell (by simp) _).setCell (by simp) _).setCell (by simp) _).setCell (by simp) _).setCell (by simp) _).setCell (by simp) _).setCell (by simp) _
    · have hX := HX.out
      have hkl : k < l.length := by rw [← HN.out]; omega
      rcases hX.is with ⟨rfl, _⟩ | ⟨b, off, cap', hv, hcap, hlt, hcl⟩
      · simp at hkl
      · have hc1 := hcl k hkl
        injection hv with hv1 hv2 hv3
        subst hv1
        obtain ⟨s, hsv⟩ : ∃ s, s = l.getD k ⟨#[]⟩ := ⟨_, rfl⟩
        have hsz := HS.out k
        rw [← hsv] at hc1 hsz
        have hc : wr.cell? ⟨b, off + k, none⟩ = some (.string s) := by
          have hW := HW1.out
          refine (HBL.out.cell (p := ⟨b, off + k, none⟩) (by rw [hW]; simp; omega)).trans ?_
          rw [hW]
          exact cell_later (Below.alloc (Below.refl _ _) (Nat.le_refl _) _) hc1
        have hconv := Lib.run_convert_string_bytes (P := Try.prog) wr 9 42 5 s Try.underlying9 Try.underlying42 Try.underlying5
        have HC : Hid (∀ j, j < s.size → (Lib.bytesWorld wr 5 s).cell? ⟨wr.heap.size, j, none⟩ = some (.int .u8 (s.data.toList.getD j 0).toNat)) := fun j hj => Lib.bytesWorld_cell wr 5 s j hj
        have HBW : Hid (Below wr.heap.size wr (Lib.bytesWorld wr 5 s)) := bytes_below _ _ _
        obtain ⟨W, hW⟩ : ∃ W, W = Lib.bytesWorld wr 5 s := ⟨_, rfl⟩
        have hcap2 : s.size ≤ grownCap wr s.size 0 5 := grownCap_ge _ _ _ _
        obtain ⟨cap2, hcp⟩ : ∃ c, c = grownCap wr s.size 0 5 := ⟨_, rfl⟩
        obtain ⟨m, hm⟩ : ∃ m, m = s.size := ⟨_, rfl⟩
        rw [← hW] at HC HBW hconv
        rw [← hm] at hconv hsz HC hcap2 hcp
        rw [← hcp] at hconv hcap2
        have HSV := Lib.hid hsv
        have HM := Lib.hid hm
        have hx1 := xat_lt l k 0
        have hy1 := yat_lt l k 0
        obtain ⟨x0, hx0⟩ : ∃ x0, x0 = xat l k 0 := ⟨_, rfl⟩
        obtain ⟨y0, hy0⟩ : ∃ y0, y0 = yat l k 0 := ⟨_, rfl⟩
        rw [← hx0, ← hy0]
        rw [← hx0] at hx1
        rw [← hy0] at hy1
        have HX0 := Lib.hid hx0
        have HY0 := Lib.hid hy0
        have hn0 : k < n := by omega
        clear hX hcl hc1 hsv hW hcp hm hx0 hy0 hv2 hv3 hlt hcap hkl hkn
        go_wp2
        go_loop [3, 4, 20] (fun xv yv iv => ∃ j : Nat, j ≤ m ∧ iv = .int .i64 (j : Nat) ∧ xv = .int .u64 (xat l k j : Nat) ∧ yv = .int .u64 (yat l k j : Nat)) (fun _ _ iv => m - (intOf iv).toNat)
        case atStart => exact ⟨0, by omega, rfl, by rw [HX0.out], by rw [HY0.out]⟩
        case round =>
          obtain ⟨j, hj, rfl, rfl, rfl⟩ := hrel
          by_cases hjm : j = m
          · subst hjm
            have e1 := xat_next l k (by rw [← HN.out]; exact hn0)
            have e2 := yat_next l k (by rw [← HN.out]; exact hn0)
            rw [← HSV.out, ← HM.out] at e1 e2
            rw [e1, e2]
            obtain ⟨x1, hx1⟩ : ∃ x1, x1 = xat l (k + 1) 0 := ⟨_, rfl⟩
            obtain ⟨y1, hy1⟩ : ∃ y1, y1 = yat l (k + 1) 0 := ⟨_, rfl⟩
            rw [← hx1, ← hy1]
            have HX1 := Lib.hid hx1
            have HY1 := Lib.hid hy1
            clear e1 e2 hx1 hy1
            go_wp2
            go_roundw
            case rel => exact ⟨k + 1, by omega, by go_num, Lib.hid ⟨by rw [HX1.out], by rw [HY1.out], HBL.out.trans (HBW.out.mono HBL.out.size)⟩⟩
            case measure => simp [intOf]; omega
          · have hcj := HC.out j (by omega)
            have ex := xat_step l k j (by rw [← HSV.out, ← HM.out]; omega)
            have ey := yat_step l k j (by rw [← HSV.out, ← HM.out]; omega)
            rw [← HSV.out] at ex ey
            have lx := xat_lt l k j
            have ly := yat_lt l k j
            have lc := (s.data.toList.getD j 0).toNat_lt
            obtain ⟨c, hcc⟩ : ∃ c, c = (s.data.toList.getD j 0).toNat := ⟨_, rfl⟩
            rw [← hcc] at hcj ex ey lc
            obtain ⟨x, hx⟩ : ∃ x, x = xat l k j := ⟨_, rfl⟩
            obtain ⟨y, hy⟩ : ∃ y, y = yat l k j := ⟨_, rfl⟩
            rw [← hx] at lx ex ⊢
            rw [← hy] at ly ey ⊢
            have EX := Lib.hid ex
            have EY := Lib.hid ey
            clear ex ey hx hy hcc
            go_wp2
            go_round
            case rel => exact ⟨j + 1, by omega, by go_num, by rw [EX.out]; go_num, by rw [EY.out]; go_num⟩
            case measure => simp [intOf]; omega

end Go.Proofs.Ytafdjohgoopcmaa
