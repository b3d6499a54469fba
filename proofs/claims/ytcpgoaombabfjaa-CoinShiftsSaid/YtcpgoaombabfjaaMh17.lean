/- The law CoinShifts, walked. Condition: the slices read as ints; the three numbers are bytes. -/
import Derived.Test.YtcpgoaombabfjaaMh16
import Derived.Test.YtcpgoaombabfjaaMh15
namespace Go.Proofs.Ytcpgoaombabfjaa
open Go Go.RowKit
attribute [local go_sem ↓] appI_rw

def shCh : List (Nat × Nat) := [(1, 0), (2, 1), (3, 1), (4, 2), (4, 3), (4, 1), (5, 1), (6, 1), (7, 5), (7, 6), (7, 1), (8, 4), (8, 7), (8, 1), (9, 1), (9, 8), (10, 9), (11, 10), (12, 10), (13, 11), (13, 12), (13, 10), (14, 10), (15, 10), (16, 14), (16, 15), (16, 10), (17, 13), (17, 16), (17, 10), (18, 10), (18, 17), (19, 18), (20, 19), (21, 19), (22, 19), (23, 20), (23, 21), (23, 22), (23, 19), (24, 19), (25, 19), (26, 19), (27, 24), (27, 25), (27, 26), (27, 19), (28, 23), (28, 27), (28, 19), (29, 19), (29, 28), (30, 29), (31, 30), (32, 30), (33, 30), (34, 31), (34, 32), (34, 33), (34, 30), (35, 30), (36, 30), (37, 30), (38, 35), (38, 36), (38, 37), (38, 30), (39, 34), (39, 38), (39, 30), (40, 30), (40, 39), (41, 40)]
def mkCh : List (Nat × Nat) := [(1, 0), (2, 1), (3, 2), (5, 4), (6, 5), (7, 6), (8, 3), (9, 7)]
def stCh : List (Nat × Nat) := [(2, 0), (2, 1), (3, 2), (5, 4), (6, 5), (8, 7), (10, 8), (10, 9), (11, 10), (12, 6), (12, 11), (13, 3), (13, 12), (14, 0), (14, 1), (15, 14), (15, 13), (15, 3), (15, 5), (15, 8), (15, 11)]
theorem un6 {r row : List Int} (h : RowOk r row) (j : Nat) : 0 ≤ (unV r row).getD j 0 ∧ (unV r row).getD j 0 ≤ 6 := by
  by_cases h0 : row.length = 0
  · rw [unV_get0 h0]; omega
  · rw [unV_row h0]; exact h.2 j

theorem gD {T : Array Value} {j : Nat} {v : Value} (h : T.getD j undef = v) : T[j]?.getD undef = v := by rw [Array.getD_eq_getD_getElem?] at h; exact h
set_option linter.unusedSimpArgs false in
set_option linter.unusedVariables false in
set_option maxRecDepth 100000 in
set_option maxHeartbeats 8000000 in
theorem coinShifts_any {W : World} {ao bo co : Option Addr} {n m k cap dap eap : Nat} {l s t : List Int} (hl : Ix W (.slice ao n cap) l) (hs : Ix W (.slice bo m dap) s) (ht : Ix W (.slice co k eap) t) {c1 c2 cl : Int} (h1 : 0 ≤ c1 ∧ c1 ≤ 255) (h2 : 0 ≤ c2 ∧ c2 ≤ 255) (h3 : 0 ≤ cl ∧ cl ≤ 255) :
  Calls Try.prog 7 #[.agg #[.slice ao n cap, .slice bo m dap, .slice co k eap], .agg #[.int .u8 c1, .int .u8 c2], .int .u8 cl] W fun e w' => e = .returned (.bool true) ∧ Below W.heap.size W w' := by
 have hb : Below W.heap.size W ((W.alloc (.cells #[.slice ao n cap, .slice bo m dap, .slice co k eap] 24)).alloc (.cells #[.int .u8 c1, .int .u8 c2] 53)) := ((Below.refl _ _).alloc (Nat.le_refl _) _).alloc (by simp) _
 have x0 : CsBox ((W.alloc (.cells #[.slice ao n cap, .slice bo m dap, .slice co k eap] 24)).alloc (.cells #[.int .u8 c1, .int .u8 c2] 53)) W.heap.size (.slice ao n cap) (.slice bo m dap) (.slice co k eap) := ((Below.refl _ _).alloc (Nat.le_refl _) _ |>.block W.heap.size (by simp)).trans (heap_alloc_new _ _)
 have x1 : ((W.alloc (.cells #[.slice ao n cap, .slice bo m dap, .slice co k eap] 24)).alloc (.cells #[.int .u8 c1, .int .u8 c2] 53)).heap[W.heap.size + 1]? = some (.cells #[.int .u8 c1, .int .u8 c2] 53 (0, 0)) := by
  have h := heap_alloc_new (W.alloc (.cells #[.slice ao n cap, .slice bo m dap, .slice co k eap] 24)) (.cells #[.int .u8 c1, .int .u8 c2] 53)
  rw [World.size_alloc] at h
  exact h
 have wc1 : IntKind.i64.wrap c1 = c1 := IntWalk.i64_in _ (by omega)
 have wc2 : IntKind.i64.wrap c2 = c2 := IntWalk.i64_in _ (by omega)
 have wc3 : IntKind.i64.wrap cl = cl := IntWalk.i64_in _ (by omega)
 have HBX := Lib.hid hb
 have HS := Lib.hid (sanity_any (W := ((W.alloc (.cells #[.slice ao n cap, .slice bo m dap, .slice co k eap] 24)).alloc (.cells #[.int .u8 c1, .int .u8 c2] 53))))
 have HCC : Hid (∀ w, Below ((W.alloc (.cells #[.slice ao n cap, .slice bo m dap, .slice co k eap] 24)).alloc (.cells #[.int .u8 c1, .int .u8 c2] 53)).heap.size ((W.alloc (.cells #[.slice ao n cap, .slice bo m dap, .slice co k eap] 24)).alloc (.cells #[.int .u8 c1, .int .u8 c2] 53)) w → (w.cell? ⟨W.heap.size, 0, none⟩ = some (.slice ao n cap) ∧ w.cell? ⟨W.heap.size, 1, none⟩ = some (.slice bo m dap) ∧ w.cell? ⟨W.heap.size, 2, none⟩ = some (.slice co k eap)) ∧ w.cell? ⟨W.heap.size + 1, 0, none⟩ = some (.int .u8 c1) ∧ w.cell? ⟨W.heap.size + 1, 1, none⟩ = some (.int .u8 c2)) := Lib.hid (fun w hb => by
  have h : CsBox w W.heap.size (.slice ao n cap) (.slice bo m dap) (.slice co k eap) := (hb.block _ (Array.getElem?_eq_some_iff.1 x0).1).trans x0
  have h2 := (hb.block _ (Array.getElem?_eq_some_iff.1 x1).1).trans x1
  exact ⟨⟨cell_of_row _ _ _ _ _ _ h, cell_of_row _ _ _ _ _ _ h, cell_of_row _ _ _ _ _ _ h⟩, cell_of_row _ _ _ _ _ _ h2, cell_of_row _ _ _ _ _ _ h2⟩)
 have HCA := Lib.hid (fun w (hbw : Below ((W.alloc (.cells #[.slice ao n cap, .slice bo m dap, .slice co k eap] 24)).alloc (.cells #[.int .u8 c1, .int .u8 c2] 53)).heap.size ((W.alloc (.cells #[.slice ao n cap, .slice bo m dap, .slice co k eap] 24)).alloc (.cells #[.int .u8 c1, .int .u8 c2] 53)) w) => case_any (W := w) (hl.below (hb.trans (hbw.mono hb.size))) (hs.below (hb.trans (hbw.mono hb.size))) (ht.below (hb.trans (hbw.mono hb.size))))
 clear hl hs ht hb x0 x1
 go_enter Try.func7, Try.ntmps7
 go_wp2_with (first
  | (go_at_call 9; (with_reducible refine HS.out.mono ?_); rintro e w1 ⟨rfl, hb1⟩; have HB1 := Lib.hid hb1; obtain ⟨⟨c0, c1', c2'⟩, -, -⟩ := HCC.out _ hb1; clear hb1)
  | (go_at_call 10; (with_reducible refine (HCA.out _ HB1.out).mono ?_); rintro e w2 ⟨ar, nr, cr, r, cn, cd, so, ns, cs, row, tt, nt, ct, row2, rfl, hix, hok, hrw, hb2⟩; have HIX := Lib.hid hix; have HOK := Lib.hid hok; have HRW := Lib.hid hrw; have HBY := Lib.hid (HB1.out.trans (hb2.mono HB1.out.size)); have HB2 := Lib.hid (HBX.out.trans ((HB1.out.trans (hb2.mono HB1.out.size)).mono HBX.out.size)); clear hix hok hrw hb2 c0 c1' c2'))
 have HD0 : Hid (DBox (w2.alloc (.cells #[.int .i64 4, .slice ar nr cr, .slice none 0 0, .int .i64 0, .int .i64 (cn : Int), .int .i64 (cd : Int)] 30)) w2.heap.size 4 (.slice ar nr cr) (cn : Int) (cd : Int)) := Lib.hid (dbox_is w2 4 (.slice ar nr cr) cn cd)
 have HB0 : Hid (Below W.heap.size W (w2.alloc (.cells #[.int .i64 4, .slice ar nr cr, .slice none 0 0, .int .i64 0, .int .i64 (cn : Int), .int .i64 (cd : Int)] 30))) := Lib.hid (HB2.out.alloc HB2.out.size _)
 have hbd := dbox_below w2 4 (.slice ar nr cr) cn cd
 have HI0 : Hid (Ix (w2.alloc (.cells #[.int .i64 4, .slice ar nr cr, .slice none 0 0, .int .i64 0, .int .i64 (cn : Int), .int .i64 (cd : Int)] 30)) (.slice ar nr cr) r ∧ Ix (w2.alloc (.cells #[.int .i64 4, .slice ar nr cr, .slice none 0 0, .int .i64 0, .int .i64 (cn : Int), .int .i64 (cd : Int)] 30)) (.slice so ns cs) row ∧ Ix (w2.alloc (.cells #[.int .i64 4, .slice ar nr cr, .slice none 0 0, .int .i64 0, .int .i64 (cn : Int), .int .i64 (cd : Int)] 30)) (.slice tt nt ct) row2) := Lib.hid ⟨HIX.out.1.below hbd, HIX.out.2.1.below hbd, HIX.out.2.2.below hbd⟩
 clear hbd
 have HCX : Hid (∀ w, Below (w2.alloc (.cells #[.int .i64 4, .slice ar nr cr, .slice none 0 0, .int .i64 0, .int .i64 (cn : Int), .int .i64 (cd : Int)] 30)).heap.size (w2.alloc (.cells #[.int .i64 4, .slice ar nr cr, .slice none 0 0, .int .i64 0, .int .i64 (cn : Int), .int .i64 (cd : Int)] 30)) w → w.cell? ⟨W.heap.size + 1, 0, none⟩ = some (.int .u8 c1) ∧ w.cell? ⟨W.heap.size + 1, 1, none⟩ = some (.int .u8 c2)) := Lib.hid (fun w hb => (HCC.out w (HBY.out.trans (((dbox_below w2 4 (.slice ar nr cr) cn cd).trans (hb.mono (by simp))).mono HBY.out.size))).2)
 generalize (w2.alloc (.cells #[.int .i64 4, .slice ar nr cr, .slice none 0 0, .int .i64 0, .int .i64 (cn : Int), .int .i64 (cd : Int)] 30)) = W0 at HD0 HB0 HI0 HCX ⊢
 generalize w2.heap.size = Bd at HD0 ⊢
 have HNR := Lib.hid HI0.out.1.size
 have hn2 : 2 ≤ nr := by have := HOK.out.l2; have := HNR.out; omega
 have hn4 : nr ≤ 4 := by have := HOK.out.l4; have := HNR.out; omega
 have HRR := Lib.hid HOK.out.rr
 clear HIX HB2 HB1 HS HCA HCC HBX HBY
 have HCL : Hid (∀ w', Below W0.heap.size W0 w' → w'.cell? ⟨Bd, 0, none⟩ = some (.int .i64 4) ∧ w'.cell? ⟨Bd, 1, none⟩ = some (.slice ar nr cr) ∧ w'.cell? ⟨Bd, 2, none⟩ = some (.slice none 0 0) ∧ w'.cell? ⟨Bd, 3, none⟩ = some (.int .i64 0) ∧ w'.cell? ⟨Bd, 4, none⟩ = some (.int .i64 (cn : Int)) ∧ w'.cell? ⟨Bd, 5, none⟩ = some (.int .i64 (cd : Int))) := Lib.hid (fun w' hb => (HD0.out.below hb).cells)
 have HCLD : Hid (∀ w', Below W0.drew.heap.size W0.drew w' → Below W0.heap.size W0 w') := Lib.hid (fun w' hb => (Below.refl _ _).drew.trans hb)
 refine (wpIn_wide (n := 6)).1 ?_
 refine frame_namedIn ?_
 intro T hT
 obtain ⟨R, hRd⟩ : ∃ R : Array Bool → Act → World → Prop, R = (fun l a w' => ∃ vals, RH mkCh T [some 21, some 22, some 23, some 24, some 25, some 26, some 27, some 28, some 11, some 12] (MK W0.drew nr) (fun i u _ => match i with | 0 => u = .pointer (some ⟨Bd, 1, none⟩) | 1 => u = .slice ar nr cr | 2 => u = .int .i64 (nr : Int) | 4 => u = .pointer (some ⟨Bd, 1, none⟩) | 5 => u = .slice ar nr cr | 6 => u = .int .i64 (nr : Int) | _ => True) vals l a w') := ⟨_, rfl⟩
 refine region_inv (by kernel_rfl) R ?h0r1 ?stepr1 ?finr1
 case h0r1 => rw [hRd]; exact RH.start rfl (fun i j h => by simp [mkCh] at h; simp only [List.length_cons, List.length_nil]; omega) (by exact ⟨Below.refl _ _, fun h => absurd h (by decide), fun h => absurd h (by decide), fun h => absurd h (by decide), fun h => absurd h (by decide), fun h => absurd h (by decide)⟩)
 case stepr1 =>
  rintro l a w' i' hR0 hi'
  have hR1 := hR0
  rw [hRd] at hR1
  obtain ⟨vals, hR⟩ := hR1
  obtain ⟨hl0, o, ho, hdep⟩ := mem_ready.1 hi'
  have h15 : i' < 10 := by
   have := (Array.getElem?_eq_some_iff.1 ho).1
   simpa using this
  rcases (show i' = 0 ∨ i' = 1 ∨ i' = 2 ∨ i' = 3 ∨ i' = 4 ∨ i' = 5 ∨ i' = 6 ∨ i' = 7 ∨ i' = 8 ∨ i' = 9 by omega) with rfl | rfl | rfl | rfl | rfl | rfl | rfl | rfl | rfl | rfl
  ·simp at ho
   subst ho
   simp [Region.binds] at hdep
   have k0 : a.tmps.getD 8 undef = .pointer (some ⟨Bd, 0, none⟩) := (hR.fr.kept rfl (by simp [hT])).trans (by rw [hT]; try rfl)
   have hc : ∀ j, (0, j) ∈ mkCh → l.getD j true = true := by intro j hj; simp [mkCh] at hj
   clear hi' hdep
   have k0g := gD k0
   unfold wpOpIn; simp [Region.wanted]; unfold Oper.wpIn
   simp [Oper.about, execOp, go_sem, Act.eval, k0, k0g]
   rw [hRd]
   exact hR.op 0 21 _ rfl (by decide) hl0 hc (MK.const hR.wd (by decide) _) (fun _ _ h => h) (rfl)
  ·simp at ho
   subst ho
   simp [Region.binds] at hdep
   have d0 : l.getD 0 true = true := getD_true (by simp_all)
   have k0 : a.tmps.getD 21 undef = vals 0 := hR.get rfl (by simp_all) (by simp [hT])
   have e0 : vals 0 = .pointer (some ⟨Bd, 1, none⟩) := hR.vl 0 (by decide) d0
   rw [e0] at k0
   have hc : ∀ j, (1, j) ∈ mkCh → l.getD j true = true := by intro j hj; simp [mkCh] at hj; rcases hj with rfl <;> exact getD_true (by simp_all)
   clear hi' hdep
   obtain ⟨d0, d1, d2, d3, d4, d5⟩ := HCL.out _ (HCLD.out _ hR.wd.b)
   have k0g := gD k0
   unfold wpOpIn; simp [Region.wanted]; unfold Oper.wpIn
   simp [Oper.about, execOp, go_sem, Act.eval, k0, k0g, d1]
   rw [hRd]
   exact hR.op 1 22 _ rfl (by decide) hl0 hc (MK.const hR.wd (by decide) _) (fun _ _ h => h) (rfl)
  ·simp at ho
   subst ho
   simp [Region.binds] at hdep
   have d0 : l.getD 1 true = true := getD_true (by simp_all)
   have k0 : a.tmps.getD 22 undef = vals 1 := hR.get rfl (by simp_all) (by simp [hT])
   have e0 : vals 1 = .slice ar nr cr := hR.vl 1 (by decide) d0
   rw [e0] at k0
   have hc : ∀ j, (2, j) ∈ mkCh → l.getD j true = true := by intro j hj; simp [mkCh] at hj; rcases hj with rfl <;> exact getD_true (by simp_all)
   clear hi' hdep
   have k0g := gD k0
   unfold wpOpIn; simp [Region.wanted]; unfold Oper.wpIn
   simp [Oper.about, execOp, go_sem, Act.eval, k0, k0g]
   rw [hRd]
   exact hR.op 2 23 _ rfl (by decide) hl0 hc (MK.const hR.wd (by decide) _) (fun _ _ h => h) (rfl)
  ·simp at ho
   subst ho
   simp [Region.binds] at hdep
   have d0 : l.getD 2 true = true := getD_true (by simp_all)
   have k0 : a.tmps.getD 23 undef = vals 2 := hR.get rfl (by simp_all) (by simp [hT])
   have e0 : vals 2 = .int .i64 (nr : Int) := hR.vl 2 (by decide) d0
   rw [e0] at k0
   have hc : ∀ j, (3, j) ∈ mkCh → l.getD j true = true := by intro j hj; simp [mkCh] at hj; rcases hj with rfl <;> exact getD_true (by simp_all)
   have n8 := hR.no (s := 8) hl0 (fun hs => (hR.dep 8 3 (by decide) hs))
   clear hi' hdep
   have hmk := made_full nr (by omega) w'
   have k0g := gD k0
   unfold wpOpIn; simp [Region.wanted]; unfold Oper.wpIn
   simp [Oper.about, execOp, go_sem, Act.eval, k0, k0g, hmk]
   rw [hRd]
   exact hR.op 3 24 _ rfl (by decide) hl0 hc (MK.make3 hR.wd n8) (fun _ _ h => h) (trivial)
  ·simp at ho
   subst ho
   simp [Region.binds] at hdep
   have k0 : a.tmps.getD 8 undef = .pointer (some ⟨Bd, 0, none⟩) := (hR.fr.kept rfl (by simp [hT])).trans (by rw [hT]; try rfl)
   have hc : ∀ j, (4, j) ∈ mkCh → l.getD j true = true := by intro j hj; simp [mkCh] at hj
   clear hi' hdep
   have k0g := gD k0
   unfold wpOpIn; simp [Region.wanted]; unfold Oper.wpIn
   simp [Oper.about, execOp, go_sem, Act.eval, k0, k0g]
   rw [hRd]
   exact hR.op 4 25 _ rfl (by decide) hl0 hc (MK.const hR.wd (by decide) _) (fun _ _ h => h) (rfl)
  ·simp at ho
   subst ho
   simp [Region.binds] at hdep
   have d0 : l.getD 4 true = true := getD_true (by simp_all)
   have k0 : a.tmps.getD 25 undef = vals 4 := hR.get rfl (by simp_all) (by simp [hT])
   have e0 : vals 4 = .pointer (some ⟨Bd, 1, none⟩) := hR.vl 4 (by decide) d0
   rw [e0] at k0
   have hc : ∀ j, (5, j) ∈ mkCh → l.getD j true = true := by intro j hj; simp [mkCh] at hj; rcases hj with rfl <;> exact getD_true (by simp_all)
   clear hi' hdep
   obtain ⟨d0, d1, d2, d3, d4, d5⟩ := HCL.out _ (HCLD.out _ hR.wd.b)
   have k0g := gD k0
   unfold wpOpIn; simp [Region.wanted]; unfold Oper.wpIn
   simp [Oper.about, execOp, go_sem, Act.eval, k0, k0g, d1]
   rw [hRd]
   exact hR.op 5 26 _ rfl (by decide) hl0 hc (MK.const hR.wd (by decide) _) (fun _ _ h => h) (rfl)
  ·simp at ho
   subst ho
   simp [Region.binds] at hdep
   have d0 : l.getD 5 true = true := getD_true (by simp_all)
   have k0 : a.tmps.getD 26 undef = vals 5 := hR.get rfl (by simp_all) (by simp [hT])
   have e0 : vals 5 = .slice ar nr cr := hR.vl 5 (by decide) d0
   rw [e0] at k0
   have hc : ∀ j, (6, j) ∈ mkCh → l.getD j true = true := by intro j hj; simp [mkCh] at hj; rcases hj with rfl <;> exact getD_true (by simp_all)
   clear hi' hdep
   have k0g := gD k0
   unfold wpOpIn; simp [Region.wanted]; unfold Oper.wpIn
   simp [Oper.about, execOp, go_sem, Act.eval, k0, k0g]
   rw [hRd]
   exact hR.op 6 27 _ rfl (by decide) hl0 hc (MK.const hR.wd (by decide) _) (fun _ _ h => h) (rfl)
  ·simp at ho
   subst ho
   simp [Region.binds] at hdep
   have d0 : l.getD 6 true = true := getD_true (by simp_all)
   have k0 : a.tmps.getD 27 undef = vals 6 := hR.get rfl (by simp_all) (by simp [hT])
   have e0 : vals 6 = .int .i64 (nr : Int) := hR.vl 6 (by decide) d0
   rw [e0] at k0
   have hc : ∀ j, (7, j) ∈ mkCh → l.getD j true = true := by intro j hj; simp [mkCh] at hj; rcases hj with rfl <;> exact getD_true (by simp_all)
   have n9 := hR.no (s := 9) hl0 (fun hs => (hR.dep 9 7 (by decide) hs))
   clear hi' hdep
   have hmk := made_full nr (by omega) w'
   have k0g := gD k0
   unfold wpOpIn; simp [Region.wanted]; unfold Oper.wpIn
   simp [Oper.about, execOp, go_sem, Act.eval, k0, k0g, hmk]
   rw [hRd]
   exact hR.op 7 28 _ rfl (by decide) hl0 hc (MK.make7 hR.wd n9) (fun _ _ h => h) (trivial)
  ·simp at ho
   subst ho
   simp [Region.binds] at hdep
   have d0 : l.getD 3 true = true := getD_true (by simp_all)
   have k0 : a.tmps.getD 24 undef = vals 3 := hR.get rfl (by simp_all) (by simp [hT])
   have g0 := hR.wd.p3 d0
   obtain ⟨g, e0, hg, hib⟩ := g0
   rw [e0] at k0
   have hc : ∀ j, (8, j) ∈ mkCh → l.getD j true = true := by intro j hj; simp [mkCh] at hj; rcases hj with rfl <;> exact getD_true (by simp_all)
   clear hi' hdep
   have k0g := gD k0
   unfold wpOpIn; simp [Region.wanted]; unfold Oper.wpIn
   simp [Oper.about, execOp, go_sem, Act.eval, k0, k0g]
   rw [hRd]
   exact hR.op 8 11 _ rfl (by decide) hl0 hc (MK.put8 hR.wd e0.symm) (fun _ _ h => h) (trivial)
  ·simp at ho
   subst ho
   simp [Region.binds] at hdep
   have d0 : l.getD 7 true = true := getD_true (by simp_all)
   have k0 : a.tmps.getD 28 undef = vals 7 := hR.get rfl (by simp_all) (by simp [hT])
   have g0 := hR.wd.p7 d0
   obtain ⟨g, e0, hg, hib⟩ := g0
   rw [e0] at k0
   have hc : ∀ j, (9, j) ∈ mkCh → l.getD j true = true := by intro j hj; simp [mkCh] at hj; rcases hj with rfl <;> exact getD_true (by simp_all)
   clear hi' hdep
   have k0g := gD k0
   unfold wpOpIn; simp [Region.wanted]; unfold Oper.wpIn
   simp [Oper.about, execOp, go_sem, Act.eval, k0, k0g]
   rw [hRd]
   exact hR.op 9 12 _ rfl (by decide) hl0 hc (MK.put9 hR.wd e0.symm) (fun _ _ h => h) (trivial)
 case' finr1 =>
  rintro l a w' hR0 hz
  rw [hRd] at hR0
  obtain ⟨vals, hR⟩ := hR0
  clear hRd R
  have hnot := List.eq_nil_iff_forall_not_mem.1 hz
  have hk : ∀ k, k < 10 → (l.getD k true = false → False) → l.getD k false = true := fun k h12 h => by
   have hs := hR.size
   cases h' : l.getD k true with
   | false => exact (h h').elim
   | true => simp at hs; simp [Array.getD, hs, h12] at h' ⊢; exact h'
  have st0 := hk 0 (by omega) (fun h => hnot 0 (mem_ready.2 ⟨h, _, rfl, by simp [Region.binds]⟩))
  have st1 := hk 1 (by omega) (fun h => hnot 1 (mem_ready.2 ⟨h, _, rfl, by simp [Region.binds] <;> simp_all⟩))
  have st2 := hk 2 (by omega) (fun h => hnot 2 (mem_ready.2 ⟨h, _, rfl, by simp [Region.binds] <;> simp_all⟩))
  have st3 := hk 3 (by omega) (fun h => hnot 3 (mem_ready.2 ⟨h, _, rfl, by simp [Region.binds] <;> simp_all⟩))
  have st4 := hk 4 (by omega) (fun h => hnot 4 (mem_ready.2 ⟨h, _, rfl, by simp [Region.binds]⟩))
  have st5 := hk 5 (by omega) (fun h => hnot 5 (mem_ready.2 ⟨h, _, rfl, by simp [Region.binds] <;> simp_all⟩))
  have st6 := hk 6 (by omega) (fun h => hnot 6 (mem_ready.2 ⟨h, _, rfl, by simp [Region.binds] <;> simp_all⟩))
  have st7 := hk 7 (by omega) (fun h => hnot 7 (mem_ready.2 ⟨h, _, rfl, by simp [Region.binds] <;> simp_all⟩))
  have st8 := hk 8 (by omega) (fun h => hnot 8 (mem_ready.2 ⟨h, _, rfl, by simp [Region.binds] <;> simp_all⟩))
  have st9 := hk 9 (by omega) (fun h => hnot 9 (mem_ready.2 ⟨h, _, rfl, by simp [Region.binds] <;> simp_all⟩))
  have hall : ∀ i, i < 10 → l.getD i true = true := fun i hi => by
   rcases (show i = 0 ∨ i = 1 ∨ i = 2 ∨ i = 3 ∨ i = 4 ∨ i = 5 ∨ i = 6 ∨ i = 7 ∨ i = 8 ∨ i = 9 by omega) with rfl | rfl | rfl | rfl | rfl | rfl | rfl | rfl | rfl | rfl
   ·exact getD_true st0
   ·exact getD_true st1
   ·exact getD_true st2
   ·exact getD_true st3
   ·exact getD_true st4
   ·exact getD_true st5
   ·exact getD_true st6
   ·exact getD_true st7
   ·exact getD_true st8
   ·exact getD_true st9
  clear st0 st1 st2 st3 st4 st5 st6 st7 st8 st9 hk hnot hz
  have hTs : T.size = 141 := by rw [hT]; rfl
  have ha := hR.all (T' := ((((((((((T.setIfInBounds 21 (vals 0)).setIfInBounds 22 (vals 1)).setIfInBounds 23 (vals 2)).setIfInBounds 24 (vals 3)).setIfInBounds 25 (vals 4)).setIfInBounds 26 (vals 5)).setIfInBounds 27 (vals 6)).setIfInBounds 28 (vals 7)).setIfInBounds 11 (vals 8)).setIfInBounds 12 (vals 9))) (fun i hi => hall i (by simpa using hi)) (by simp) (fun j hj => by
   by_cases h1 : j = 21 ∨ j = 22 ∨ j = 23 ∨ j = 24 ∨ j = 25 ∨ j = 26 ∨ j = 27 ∨ j = 28 ∨ j = 11 ∨ j = 12
   ·rcases h1 with rfl | rfl | rfl | rfl | rfl | rfl | rfl | rfl | rfl | rfl <;> simp [rv_sets, tOwn, List.findIdx?, List.findIdx?.go, hTs]
   ·simp only [not_or] at h1
    obtain ⟨m21, m22, m23, m24, m25, m26, m27, m28, m11, m12⟩ := h1
    have e : tOwn [some 21, some 22, some 23, some 24, some 25, some 26, some 27, some 28, some 11, some 12] vals j = none := by
     unfold tOwn
     simp [List.findIdx?, List.findIdx?.go, Ne.symm m21, Ne.symm m22, Ne.symm m23, Ne.symm m24, Ne.symm m25, Ne.symm m26, Ne.symm m27, Ne.symm m28, Ne.symm m11, Ne.symm m12]
    rw [e]
    simp only [rv_sets]
    repeat rw [if_neg (by omega)])
  have v0 : vals 0 = .pointer (some ⟨Bd, 1, none⟩) := hR.vl 0 (by decide) (hall 0 (by decide))
  have v1 : vals 1 = .slice ar nr cr := hR.vl 1 (by decide) (hall 1 (by decide))
  have v2 : vals 2 = .int .i64 (nr : Int) := hR.vl 2 (by decide) (hall 2 (by decide))
  have v4 : vals 4 = .pointer (some ⟨Bd, 1, none⟩) := hR.vl 4 (by decide) (hall 4 (by decide))
  have v5 : vals 5 = .slice ar nr cr := hR.vl 5 (by decide) (hall 5 (by decide))
  have v6 : vals 6 = .int .i64 (nr : Int) := hR.vl 6 (by decide) (hall 6 (by decide))
  obtain ⟨g1, e3, hg1, hu⟩ := hR.wd.p3 (hall 3 (by decide))
  obtain ⟨g2, e7, hg2, hv⟩ := hR.wd.p7 (hall 7 (by decide))
  have hne : g1 ≠ g2 := fun e => hR.wd.ne (hall 3 (by decide)) (hall 7 (by decide)) (by rw [e3, e7, e])
  have e8 := hR.wd.s8 (hall 8 (by decide))
  have e9 := hR.wd.s9 (hall 9 (by decide))
  rw [e3] at e8
  rw [e7] at e9
  have HMK := Lib.hid (And.intro hR.wd.b (And.intro hu (And.intro hv (And.intro hg1 hg2))))
  clear hu hv hg1 hg2
  subst ha
  clear hR hall hTs
  rw [v0, v1, v2, v4, v5, v6, hT]
  simp only [List.setIfInBounds_toArray, List.set_cons_succ, List.set_cons_zero]
  clear v0 v1 v2 v4 v5 v6 hT T
 rw [e8, e9, e3, e7]
 obtain ⟨W3, hW3⟩ : ∃ W3, W3 = w' := ⟨_, rfl⟩
 rw [← hW3] at HMK ⊢
 clear hW3 e8 e9 e3 e7
 have HB3 : Hid (Below W0.heap.size W0 W3) := Lib.hid (HCLD.out _ HMK.out.1)
 have HGG : Hid (W0.heap.size ≤ g1 ∧ W0.heap.size ≤ g2) := Lib.hid ⟨HMK.out.2.2.2.1, HMK.out.2.2.2.2⟩
 have HSH : Hid (ShI W0 W3 g1 g2 r (unV r row) (unV r row2) c1 c2 cl nr 0 (List.replicate nr 0) (List.replicate nr 0)) := Lib.hid ⟨HMK.out.2.1, HMK.out.2.2.1, HB3.out, by simp, by simp, fun j hj => by simp [List.getD, hj], fun j hj => by simp [List.getD, hj]⟩
 obtain ⟨d0, d1, d2, d3, d4, d5⟩ := HCL.out _ HB3.out
 clear HMK HCLD
 go_wp2
 clear d0 d1 d2 d3 d4 d5
 go_loopw [13, 32] (fun _ kv wr => ∃ (k : Nat) (L M : List Int), k ≤ nr ∧ kv = .int .i64 (k : Nat) ∧ Hid (ShI W0 wr g1 g2 r (unV r row) (unV r row2) c1 c2 cl nr k L M)) (fun _ kv _ => nr - (intOf kv).toNat)
 case atStart => exact ⟨0, _, _, by omega, rfl, HSH⟩
 case round =>
  obtain ⟨w, hw⟩ : ∃ w, w = wr := ⟨_, rfl⟩
  subst hw
  obtain ⟨k, L, M, hk, rfl, HI⟩ := hrel
  by_cases hkm : k = nr
  ·subst hkm
   have hsh := HI.out.sh HNR.out
   have hbL := hsh.1.bound HRR.out (un6 HRW.out.1) h1 h3
   have hbM := hsh.2.bound HRR.out (un6 HRW.out.2) h2 (by omega)
   have HALL := Lib.hid (shifts_all HOK.out HRW.out.1 HRW.out.2 hsh.1 hsh.2 hbL hbM)
   have HXL : Hid (Ix w.drew (.slice (some ⟨g1, 0, none⟩) k k) L) := Lib.hid (by have h := (show IB w.drew g1 L from HI.out.u).ix (cap := k) (by rw [HI.out.lu]; omega) (by rw [HI.out.lu]; omega) (fun j => by have := hbL j; exact ⟨by omega, by omega⟩); rwa [HI.out.lu] at h)
   have HXM : Hid (Ix w.drew (.slice (some ⟨g2, 0, none⟩) k k) M) := Lib.hid (by have h := (show IB w.drew g2 M from HI.out.v).ix (cap := k) (by rw [HI.out.lv]; omega) (by rw [HI.out.lv]; omega) (fun j => by have := hbM j; exact ⟨by omega, by omega⟩); rwa [HI.out.lv] at h)
   have HBD : Hid (∀ w', Below w.drew.heap.size w.drew w' → Below W0.heap.size W0 w') := Lib.hid (fun w' hb => HI.out.b.drew.trans (hb.mono HI.out.b.size))
   have H16 : Hid (∀ w', Below w.drew.heap.size w.drew w' → w'.cell? ⟨Bd, 0, none⟩ = some (.int .i64 4) ∧ w'.cell? ⟨Bd, 1, none⟩ = some (.slice ar k cr) ∧ w'.cell? ⟨Bd, 2, none⟩ = some (.slice none 0 0) ∧ w'.cell? ⟨Bd, 3, none⟩ = some (.int .i64 0) ∧ w'.cell? ⟨Bd, 4, none⟩ = some (.int .i64 (cn : Int)) ∧ w'.cell? ⟨Bd, 5, none⟩ = some (.int .i64 (cd : Int))) := Lib.hid (fun w' hb => HCL.out w' (HBD.out w' hb))
   obtain ⟨p, hp⟩ : ∃ p, p = uneV r row := ⟨_, rfl⟩
   obtain ⟨q, hq⟩ : ∃ q, q = uneV r row2 := ⟨_, rfl⟩
   obtain ⟨P, hP⟩ : ∃ P, P = prfV r row row2 := ⟨_, rfl⟩
   obtain ⟨C, hC⟩ : ∃ C, C = chV r row row2 (cn : Int) (cd : Int) := ⟨_, rfl⟩
   have HA1 : Hid (∀ w', Below w.drew.heap.size w.drew w' → Calls Try.prog 12 #[DV 4 (.slice ar k cr) (cn : Int) (cd : Int), .slice so ns cs] w' fun e w2 => e = .returned (.int .i64 p) ∧ Below w'.heap.size w' w2) := Lib.hid (fun w' hb => by rw [hp]; exact uneven_any (HI0.out.1.below (HBD.out _ hb)) (HI0.out.2.1.below (HBD.out _ hb)) (by have := HOK.out.l4; omega) 4 _ _)
   have HA2 : Hid (∀ w', Below w.drew.heap.size w.drew w' → Calls Try.prog 12 #[DV 4 (.slice ar k cr) (cn : Int) (cd : Int), .slice (some ⟨g1, 0, none⟩) k k] w' fun e w2 => e = .returned (.int .i64 p) ∧ Below w'.heap.size w' w2) := Lib.hid (fun w' hb => by rw [hp, ← HALL.out.1]; exact uneven_any (HI0.out.1.below (HBD.out _ hb)) (HXL.out.below hb) (by have := HOK.out.l4; omega) 4 _ _)
   have HA3 : Hid (∀ w', Below w.drew.heap.size w.drew w' → Calls Try.prog 12 #[DV 4 (.slice ar k cr) (cn : Int) (cd : Int), .slice tt nt ct] w' fun e w2 => e = .returned (.int .i64 q) ∧ Below w'.heap.size w' w2) := Lib.hid (fun w' hb => by rw [hq]; exact uneven_any (HI0.out.1.below (HBD.out _ hb)) (HI0.out.2.2.below (HBD.out _ hb)) (by have := HOK.out.l4; omega) 4 _ _)
   have HA4 : Hid (∀ w', Below w.drew.heap.size w.drew w' → Calls Try.prog 12 #[DV 4 (.slice ar k cr) (cn : Int) (cd : Int), .slice (some ⟨g2, 0, none⟩) k k] w' fun e w2 => e = .returned (.int .i64 q) ∧ Below w'.heap.size w' w2) := Lib.hid (fun w' hb => by rw [hq, ← HALL.out.2.1]; exact uneven_any (HI0.out.1.below (HBD.out _ hb)) (HXM.out.below hb) (by have := HOK.out.l4; omega) 4 _ _)
   have HPF : Hid (∀ (w' : World) ao n cap, OwI w' w.drew.heap.size (.slice ao n cap) n P → Ix w' (.slice ao n cap) P) := Lib.hid (fun w' ao n cap h => h.ix (by have h1 := owI_len h; have h2 := prf_len r row row2; rw [← hP] at h2; have := HOK.out.l4; omega) (fun j => by rw [hP]; exact prf_fit HOK.out j))
   have HB1 : Hid (∀ w', Below w.drew.heap.size w.drew w' → Calls Try.prog 18 #[DV 4 (.slice ar k cr) (cn : Int) (cd : Int), .slice so ns cs, .slice tt nt ct] w' fun e w2 => ∃ ao n cap, e = .returned (.slice ao n cap) ∧ Ix w2 (.slice ao n cap) P ∧ Below w'.heap.size w' w2) := Lib.hid (fun w' hb => by
    have h := preferred_any (HI0.out.1.below (HBD.out _ hb)) (HI0.out.2.1.below (HBD.out _ hb)) (HI0.out.2.2.below (HBD.out _ hb)) (by have := HOK.out.l4; omega) 4 (cn : Int) (cd : Int)
    rw [← hP] at h
    exact h.mono fun e w2 h => by obtain ⟨ao, n, cap, h1, h2, h3⟩ := h; exact ⟨ao, n, cap, h1, HPF.out _ _ _ _ (owns_mono h2 hb.size), h3⟩)
   have HB2 : Hid (∀ w', Below w.drew.heap.size w.drew w' → Calls Try.prog 18 #[DV 4 (.slice ar k cr) (cn : Int) (cd : Int), .slice (some ⟨g1, 0, none⟩) k k, .slice (some ⟨g2, 0, none⟩) k k] w' fun e w2 => ∃ ao n cap, e = .returned (.slice ao n cap) ∧ Ix w2 (.slice ao n cap) P ∧ Below w'.heap.size w' w2) := Lib.hid (fun w' hb => by
    have h := preferred_any (HI0.out.1.below (HBD.out _ hb)) (HXL.out.below hb) (HXM.out.below hb) (by have := HOK.out.l4; omega) 4 (cn : Int) (cd : Int)
    rw [HALL.out.2.2.1, ← hP] at h
    exact h.mono fun e w2 h => by obtain ⟨ao, n, cap, h1, h2, h3⟩ := h; exact ⟨ao, n, cap, h1, HPF.out _ _ _ _ (owns_mono h2 hb.size), h3⟩)
   have HB3 : Hid (∀ w' (a b : Option Addr) (n m c d : Nat), Below w.drew.heap.size w.drew w' → Ix w' (.slice a n c) P → Ix w' (.slice b m d) P → Calls Try.prog 17 #[.slice a n c, .slice b m d] w' fun e w2 => e = .returned (.bool true) ∧ Below w'.heap.size w' w2) := Lib.hid (fun w' a b n m c d hb h1 h2 => by
    have h := sameInts_any h1 h2
    rwa [decide_eq_true rfl] at h)
   have HD1 : Hid (∀ w', Below w.drew.heap.size w.drew w' → Calls Try.prog 21 #[DV 4 (.slice ar k cr) (cn : Int) (cd : Int), .slice so ns cs, .slice tt nt ct] w' fun e w2 => ∃ ao n cap, e = .returned (.slice ao n cap) ∧ Cx w2 (.slice ao n cap) C ∧ Below w'.heap.size w' w2) := Lib.hid (fun w' hb => by
    have h := choices_any (HI0.out.1.below (HBD.out _ hb)) (HI0.out.2.1.below (HBD.out _ hb)) (HI0.out.2.2.below (HBD.out _ hb)) (by have := HOK.out.l4; omega) 4 cn cd (by rcases HOK.out.coin with ⟨a, b⟩ | ⟨a, b⟩ | ⟨a, b⟩ | ⟨a, b⟩ <;> omega) (by rcases HOK.out.coin with ⟨a, b⟩ | ⟨a, b⟩ | ⟨a, b⟩ | ⟨a, b⟩ <;> omega)
    refine h.mono fun e w2 h => ?_
    obtain ⟨ao, n, cap, h1, h2, h3⟩ := h
    exact ⟨ao, n, cap, h1, by rw [hC]; exact h2.cx (by have := owC_len h2; have := chV_len4 (s := row) (t := row2) HOK.out; omega) (chV_fit HOK.out), h3⟩)
   have HD2 : Hid (∀ w', Below w.drew.heap.size w.drew w' → Calls Try.prog 21 #[DV 4 (.slice ar k cr) (cn : Int) (cd : Int), .slice (some ⟨g1, 0, none⟩) k k, .slice (some ⟨g2, 0, none⟩) k k] w' fun e w2 => ∃ ao n cap, e = .returned (.slice ao n cap) ∧ Cx w2 (.slice ao n cap) C ∧ Below w'.heap.size w' w2) := Lib.hid (fun w' hb => by
    have h := choices_any (HI0.out.1.below (HBD.out _ hb)) (HXL.out.below hb) (HXM.out.below hb) (by have := HOK.out.l4; omega) 4 cn cd (by rcases HOK.out.coin with ⟨a, b⟩ | ⟨a, b⟩ | ⟨a, b⟩ | ⟨a, b⟩ <;> omega) (by rcases HOK.out.coin with ⟨a, b⟩ | ⟨a, b⟩ | ⟨a, b⟩ | ⟨a, b⟩ <;> omega)
    refine h.mono fun e w2 h => ?_
    obtain ⟨ao, n, cap, h1, h2, h3⟩ := h
    exact ⟨ao, n, cap, h1, by rw [hC, ← HALL.out.2.2.2]; exact h2.cx (by have := owC_len h2; have := chV_len4 (s := L) (t := M) HOK.out; omega) (chV_fit HOK.out), h3⟩)
   have HD3 : Hid (∀ w' (a b : Option Addr) (n m c d : Nat), Below w.drew.heap.size w.drew w' → Cx w' (.slice a n c) C → Cx w' (.slice b m d) C → Calls Try.prog 20 #[.slice a n c, .slice b m d] w' fun e w2 => e = .returned (.bool true) ∧ Below w'.heap.size w' w2) := Lib.hid (fun w' a b n m c d hb h1 h2 => by
    have h := same_any h1 h2
    rwa [decide_eq_true rfl] at h)
   clear hsh hbL hbM hp hq hP hC
   go_wp2
   refine (wpIn_wide (n := 6)).1 ?_
   refine frame_namedIn ?_
   intro T hT
   obtain ⟨R, hRd⟩ : ∃ R : Array Bool → Act → World → Prop, R = (fun l a w' => ∃ vals, RH shCh T [some 100, some 101, some 102, some 103, some 104, some 105, some 106, some 107, some 108, some 109, some 110, some 111, some 112, some 113, some 114, some 115, some 116, some 117, some 118, some 119, some 120, some 121, some 122, some 123, some 124, some 125, some 126, some 127, some 128, some 129, some 130, some 131, some 132, some 133, some 134, some 135, some 136, some 137, some 138, some 139, some 140, some 6] (fun _ _ w' => Below w.drew.heap.size w.drew w') (SV (DV 4 (.slice ar k cr) (cn : Int) (cd : Int)) (.slice so ns cs) (.slice tt nt ct) (.slice (some ⟨g1, 0, none⟩) k k) (.slice (some ⟨g2, 0, none⟩) k k) p q P C) vals l a w') := ⟨_, rfl⟩
   refine region_inv (by kernel_rfl) R ?h0r4 ?stepr4 ?finr4
   case h0r4 => rw [hRd]; exact RH.start rfl (fun i j h => by simp [shCh] at h; simp only [List.length_cons, List.length_nil]; omega) (by exact (Below.refl _ _))
   case stepr4 =>
    rintro l a w' i' hR0 hi'
    have hR1 := hR0
    rw [hRd] at hR1
    obtain ⟨vals, hR⟩ := hR1
    obtain ⟨hl0, o, ho, hdep⟩ := mem_ready.1 hi'
    have h15 : i' < 42 := by
     have := (Array.getElem?_eq_some_iff.1 ho).1
     simpa using this
    rcases (show i' = 0 ∨ i' = 1 ∨ i' = 2 ∨ i' = 3 ∨ i' = 4 ∨ i' = 5 ∨ i' = 6 ∨ i' = 7 ∨ i' = 8 ∨ i' = 9 ∨ i' = 10 ∨ i' = 11 ∨ i' = 12 ∨ i' = 13 ∨ i' = 14 ∨ i' = 15 ∨ i' = 16 ∨ i' = 17 ∨ i' = 18 ∨ i' = 19 ∨ i' = 20 ∨ i' = 21 ∨ i' = 22 ∨ i' = 23 ∨ i' = 24 ∨ i' = 25 ∨ i' = 26 ∨ i' = 27 ∨ i' = 28 ∨ i' = 29 ∨ i' = 30 ∨ i' = 31 ∨ i' = 32 ∨ i' = 33 ∨ i' = 34 ∨ i' = 35 ∨ i' = 36 ∨ i' = 37 ∨ i' = 38 ∨ i' = 39 ∨ i' = 40 ∨ i' = 41 by omega) with rfl | rfl | rfl | rfl | rfl | rfl | rfl | rfl | rfl | rfl | rfl | rfl | rfl | rfl | rfl | rfl | rfl | rfl | rfl | rfl | rfl | rfl | rfl | rfl | rfl | rfl | rfl | rfl | rfl | rfl | rfl | rfl | rfl | rfl | rfl | rfl | rfl | rfl | rfl | rfl | rfl | rfl
    ·simp at ho
     subst ho
     simp [Region.binds] at hdep
     have k0 : a.tmps.getD 7 undef = .bool true := (hR.fr.kept rfl (by simp [hT])).trans (by rw [hT]; try rfl)
     have hc : ∀ j, (0, j) ∈ shCh → l.getD j true = true := by intro j hj; simp [shCh] at hj
     clear hi' hdep
     have k0g := gD k0
     unfold wpOpIn; simp [Region.wanted]; unfold Oper.wpIn
     simp [Oper.about, execOp, go_sem, Act.eval, k0, k0g]
     rw [hRd]
     exact hR.op 0 100 _ rfl (by decide) hl0 hc (hR.wd) (fun _ _ h => h) (rfl)
    ·simp at ho
     subst ho
     simp [Region.binds] at hdep
     have d0 : l.getD 0 true = true := getD_true (by simp_all)
     have k0 : a.tmps.getD 100 undef = vals 0 := hR.get rfl (by simp_all) (by simp [hT])
     have e0 : vals 0 = .bool true := hR.vl 0 (by decide) d0
     rw [e0] at k0
     have hc : ∀ j, (1, j) ∈ shCh → l.getD j true = true := by intro j hj; simp [shCh] at hj; rcases hj with rfl <;> exact getD_true (by simp_all)
     clear hi' hdep
     have k0g := gD k0
     unfold wpOpIn; simp [Region.wanted]; unfold Oper.wpIn
     simp [Oper.about, execOp, go_sem, Act.eval, k0, k0g]
     rw [hRd]
     exact hR.op 1 101 _ rfl (by decide) hl0 hc (hR.wd) (fun _ _ h => h) (rfl)
    ·simp at ho
     subst ho
     simp [Region.binds] at hdep
     have k0 : a.tmps.getD 8 undef = .pointer (some ⟨Bd, 0, none⟩) := (hR.fr.kept rfl (by simp [hT])).trans (by rw [hT]; try rfl)
     have d1 : l.getD 1 true = true := getD_true (by simp_all)
     have k1 : a.tmps.getD 101 undef = vals 1 := hR.get rfl (by simp_all) (by simp [hT])
     have e1 : vals 1 = .bool true := hR.vl 1 (by decide) d1
     rw [e1] at k1
     have hc : ∀ j, (2, j) ∈ shCh → l.getD j true = true := by intro j hj; simp [shCh] at hj; rcases hj with rfl <;> exact getD_true (by simp_all)
     clear hi' hdep
     obtain ⟨d0, d1, d2, d3, d4, d5⟩ := H16.out _ hR.wd
     have k0g := gD k0
     have k1g := gD k1
     have gt := got_true k1
     unfold wpOpIn; simp [Region.wanted, yielded, gt]; unfold Oper.wpIn
     simp [Oper.about, execOp, go_sem, Act.eval, k0, k1, k0g, k1g, d0, d1, d2, d3, d4, d5]
     rw [hRd]
     exact hR.op 2 102 _ rfl (by decide) hl0 hc (hR.wd) (fun _ _ h => h) (rfl)
    ·simp at ho
     subst ho
     simp [Region.binds] at hdep
     have k0 : a.tmps.getD 9 undef = .slice so ns cs := (hR.fr.kept rfl (by simp [hT])).trans (by rw [hT]; try rfl)
     have d1 : l.getD 1 true = true := getD_true (by simp_all)
     have k1 : a.tmps.getD 101 undef = vals 1 := hR.get rfl (by simp_all) (by simp [hT])
     have e1 : vals 1 = .bool true := hR.vl 1 (by decide) d1
     rw [e1] at k1
     have hc : ∀ j, (3, j) ∈ shCh → l.getD j true = true := by intro j hj; simp [shCh] at hj; rcases hj with rfl <;> exact getD_true (by simp_all)
     clear hi' hdep
     have k0g := gD k0
     have k1g := gD k1
     have gt := got_true k1
     unfold wpOpIn; simp [Region.wanted, yielded, gt]; unfold Oper.wpIn
     simp [Oper.about, execOp, go_sem, Act.eval, k0, k1, k0g, k1g]
     rw [hRd]
     exact hR.op 3 103 _ rfl (by decide) hl0 hc (hR.wd) (fun _ _ h => h) (rfl)
    ·simp at ho
     subst ho
     simp [Region.binds] at hdep
     have d0 : l.getD 2 true = true := getD_true (by simp_all)
     have k0 : a.tmps.getD 102 undef = vals 2 := hR.get rfl (by simp_all) (by simp [hT])
     have e0 : vals 2 = DV 4 (.slice ar k cr) (cn : Int) (cd : Int) := hR.vl 2 (by decide) d0
     rw [e0] at k0
     have d1 : l.getD 3 true = true := getD_true (by simp_all)
     have k1 : a.tmps.getD 103 undef = vals 3 := hR.get rfl (by simp_all) (by simp [hT])
     have e1 : vals 3 = .slice so ns cs := hR.vl 3 (by decide) d1
     rw [e1] at k1
     have d2 : l.getD 1 true = true := getD_true (by simp_all)
     have k2 : a.tmps.getD 101 undef = vals 1 := hR.get rfl (by simp_all) (by simp [hT])
     have e2 : vals 1 = .bool true := hR.vl 1 (by decide) d2
     rw [e2] at k2
     have hc : ∀ j, (4, j) ∈ shCh → l.getD j true = true := by intro j hj; simp [shCh] at hj; rcases hj with rfl | rfl | rfl <;> exact getD_true (by simp_all)
     clear hi' hdep
     have k0g := gD k0
     have k1g := gD k1
     have k2g := gD k2
     have gt := got_true k2
     unfold wpOpIn; simp [Region.wanted, yielded, gt]; unfold Oper.wpIn
     simp [Oper.about, execOp, go_sem, Act.eval, k0, k1, k2, k0g, k1g, k2g]
     refine ⟨trivial, (callsIn_wide.2 (HA1.out _ hR.wd)).mono ?_⟩
     rintro e w'' ⟨rfl, hb⟩
     rw [hRd]
     exact hR.op 4 104 _ rfl (by decide) hl0 hc (hR.wd.trans (hb.mono hR.wd.size)) (SV.below hb) (rfl)
    ·simp at ho
     subst ho
     simp [Region.binds] at hdep
     have k0 : a.tmps.getD 8 undef = .pointer (some ⟨Bd, 0, none⟩) := (hR.fr.kept rfl (by simp [hT])).trans (by rw [hT]; try rfl)
     have d1 : l.getD 1 true = true := getD_true (by simp_all)
     have k1 : a.tmps.getD 101 undef = vals 1 := hR.get rfl (by simp_all) (by simp [hT])
     have e1 : vals 1 = .bool true := hR.vl 1 (by decide) d1
     rw [e1] at k1
     have hc : ∀ j, (5, j) ∈ shCh → l.getD j true = true := by intro j hj; simp [shCh] at hj; rcases hj with rfl <;> exact getD_true (by simp_all)
     clear hi' hdep
     obtain ⟨d0, d1, d2, d3, d4, d5⟩ := H16.out _ hR.wd
     have k0g := gD k0
     have k1g := gD k1
     have gt := got_true k1
     unfold wpOpIn; simp [Region.wanted, yielded, gt]; unfold Oper.wpIn
     simp [Oper.about, execOp, go_sem, Act.eval, k0, k1, k0g, k1g, d0, d1, d2, d3, d4, d5]
     rw [hRd]
     exact hR.op 5 105 _ rfl (by decide) hl0 hc (hR.wd) (fun _ _ h => h) (rfl)
    ·simp at ho
     subst ho
     simp [Region.binds] at hdep
     have k0 : a.tmps.getD 11 undef = .slice (some ⟨g1, 0, none⟩) k k := (hR.fr.kept rfl (by simp [hT])).trans (by rw [hT]; try rfl)
     have d1 : l.getD 1 true = true := getD_true (by simp_all)
     have k1 : a.tmps.getD 101 undef = vals 1 := hR.get rfl (by simp_all) (by simp [hT])
     have e1 : vals 1 = .bool true := hR.vl 1 (by decide) d1
     rw [e1] at k1
     have hc : ∀ j, (6, j) ∈ shCh → l.getD j true = true := by intro j hj; simp [shCh] at hj; rcases hj with rfl <;> exact getD_true (by simp_all)
     clear hi' hdep
     have k0g := gD k0
     have k1g := gD k1
     have gt := got_true k1
     unfold wpOpIn; simp [Region.wanted, yielded, gt]; unfold Oper.wpIn
     simp [Oper.about, execOp, go_sem, Act.eval, k0, k1, k0g, k1g]
     rw [hRd]
     exact hR.op 6 106 _ rfl (by decide) hl0 hc (hR.wd) (fun _ _ h => h) (rfl)
    ·simp at ho
     subst ho
     simp [Region.binds] at hdep
     have d0 : l.getD 5 true = true := getD_true (by simp_all)
     have k0 : a.tmps.getD 105 undef = vals 5 := hR.get rfl (by simp_all) (by simp [hT])
     have e0 : vals 5 = DV 4 (.slice ar k cr) (cn : Int) (cd : Int) := hR.vl 5 (by decide) d0
     rw [e0] at k0
     have d1 : l.getD 6 true = true := getD_true (by simp_all)
     have k1 : a.tmps.getD 106 undef = vals 6 := hR.get rfl (by simp_all) (by simp [hT])
     have e1 : vals 6 = .slice (some ⟨g1, 0, none⟩) k k := hR.vl 6 (by decide) d1
     rw [e1] at k1
     have d2 : l.getD 1 true = true := getD_true (by simp_all)
     have k2 : a.tmps.getD 101 undef = vals 1 := hR.get rfl (by simp_all) (by simp [hT])
     have e2 : vals 1 = .bool true := hR.vl 1 (by decide) d2
     rw [e2] at k2
     have hc : ∀ j, (7, j) ∈ shCh → l.getD j true = true := by intro j hj; simp [shCh] at hj; rcases hj with rfl | rfl | rfl <;> exact getD_true (by simp_all)
     clear hi' hdep
     have k0g := gD k0
     have k1g := gD k1
     have k2g := gD k2
     have gt := got_true k2
     unfold wpOpIn; simp [Region.wanted, yielded, gt]; unfold Oper.wpIn
     simp [Oper.about, execOp, go_sem, Act.eval, k0, k1, k2, k0g, k1g, k2g]
     refine ⟨trivial, (callsIn_wide.2 (HA2.out _ hR.wd)).mono ?_⟩
     rintro e w'' ⟨rfl, hb⟩
     rw [hRd]
     exact hR.op 7 107 _ rfl (by decide) hl0 hc (hR.wd.trans (hb.mono hR.wd.size)) (SV.below hb) (rfl)
    ·simp at ho
     subst ho
     simp [Region.binds] at hdep
     have d0 : l.getD 4 true = true := getD_true (by simp_all)
     have k0 : a.tmps.getD 104 undef = vals 4 := hR.get rfl (by simp_all) (by simp [hT])
     have e0 : vals 4 = .int .i64 p := hR.vl 4 (by decide) d0
     rw [e0] at k0
     have d1 : l.getD 7 true = true := getD_true (by simp_all)
     have k1 : a.tmps.getD 107 undef = vals 7 := hR.get rfl (by simp_all) (by simp [hT])
     have e1 : vals 7 = .int .i64 p := hR.vl 7 (by decide) d1
     rw [e1] at k1
     have d2 : l.getD 1 true = true := getD_true (by simp_all)
     have k2 : a.tmps.getD 101 undef = vals 1 := hR.get rfl (by simp_all) (by simp [hT])
     have e2 : vals 1 = .bool true := hR.vl 1 (by decide) d2
     rw [e2] at k2
     have hc : ∀ j, (8, j) ∈ shCh → l.getD j true = true := by intro j hj; simp [shCh] at hj; rcases hj with rfl | rfl | rfl <;> exact getD_true (by simp_all)
     clear hi' hdep
     have k0g := gD k0
     have k1g := gD k1
     have k2g := gD k2
     have gt := got_true k2
     unfold wpOpIn; simp [Region.wanted, yielded, gt]; unfold Oper.wpIn
     simp [Oper.about, execOp, go_sem, Act.eval, k0, k1, k2, k0g, k1g, k2g]
     rw [hRd]
     exact hR.op 8 108 _ rfl (by decide) hl0 hc (hR.wd) (fun _ _ h => h) (rfl)
    ·simp at ho
     subst ho
     simp [Region.binds] at hdep
     have d0 : l.getD 1 true = true := getD_true (by simp_all)
     have k0 : a.tmps.getD 101 undef = vals 1 := hR.get rfl (by simp_all) (by simp [hT])
     have e0 : vals 1 = .bool true := hR.vl 1 (by decide) d0
     rw [e0] at k0
     have d1 : l.getD 8 true = true := getD_true (by simp_all)
     have k1 : a.tmps.getD 108 undef = vals 8 := hR.get rfl (by simp_all) (by simp [hT])
     have e1 : vals 8 = .bool true := hR.vl 8 (by decide) d1
     rw [e1] at k1
     have hc : ∀ j, (9, j) ∈ shCh → l.getD j true = true := by intro j hj; simp [shCh] at hj; rcases hj with rfl | rfl <;> exact getD_true (by simp_all)
     clear hi' hdep
     have k0g := gD k0
     have k1g := gD k1
     unfold wpOpIn; simp [Region.wanted]; unfold Oper.wpIn
     simp [Oper.about, execOp, go_sem, Act.eval, k0, k1, k0g, k1g]
     rw [hRd]
     exact hR.op 9 109 _ rfl (by decide) hl0 hc (hR.wd) (fun _ _ h => h) (rfl)
    ·simp at ho
     subst ho
     simp [Region.binds] at hdep
     have d0 : l.getD 9 true = true := getD_true (by simp_all)
     have k0 : a.tmps.getD 109 undef = vals 9 := hR.get rfl (by simp_all) (by simp [hT])
     have e0 : vals 9 = .bool true := hR.vl 9 (by decide) d0
     rw [e0] at k0
     have hc : ∀ j, (10, j) ∈ shCh → l.getD j true = true := by intro j hj; simp [shCh] at hj; rcases hj with rfl <;> exact getD_true (by simp_all)
     clear hi' hdep
     have k0g := gD k0
     unfold wpOpIn; simp [Region.wanted]; unfold Oper.wpIn
     simp [Oper.about, execOp, go_sem, Act.eval, k0, k0g]
     rw [hRd]
     exact hR.op 10 110 _ rfl (by decide) hl0 hc (hR.wd) (fun _ _ h => h) (rfl)
    ·simp at ho
     subst ho
     simp [Region.binds] at hdep
     have k0 : a.tmps.getD 8 undef = .pointer (some ⟨Bd, 0, none⟩) := (hR.fr.kept rfl (by simp [hT])).trans (by rw [hT]; try rfl)
     have d1 : l.getD 10 true = true := getD_true (by simp_all)
     have k1 : a.tmps.getD 110 undef = vals 10 := hR.get rfl (by simp_all) (by simp [hT])
     have e1 : vals 10 = .bool true := hR.vl 10 (by decide) d1
     rw [e1] at k1
     have hc : ∀ j, (11, j) ∈ shCh → l.getD j true = true := by intro j hj; simp [shCh] at hj; rcases hj with rfl <;> exact getD_true (by simp_all)
     clear hi' hdep
     obtain ⟨d0, d1, d2, d3, d4, d5⟩ := H16.out _ hR.wd
     have k0g := gD k0
     have k1g := gD k1
     have gt := got_true k1
     unfold wpOpIn; simp [Region.wanted, yielded, gt]; unfold Oper.wpIn
     simp [Oper.about, execOp, go_sem, Act.eval, k0, k1, k0g, k1g, d0, d1, d2, d3, d4, d5]
     rw [hRd]
     exact hR.op 11 111 _ rfl (by decide) hl0 hc (hR.wd) (fun _ _ h => h) (rfl)
    ·simp at ho
     subst ho
     simp [Region.binds] at hdep
     have k0 : a.tmps.getD 10 undef = .slice tt nt ct := (hR.fr.kept rfl (by simp [hT])).trans (by rw [hT]; try rfl)
     have d1 : l.getD 10 true = true := getD_true (by simp_all)
     have k1 : a.tmps.getD 110 undef = vals 10 := hR.get rfl (by simp_all) (by simp [hT])
     have e1 : vals 10 = .bool true := hR.vl 10 (by decide) d1
     rw [e1] at k1
     have hc : ∀ j, (12, j) ∈ shCh → l.getD j true = true := by intro j hj; simp [shCh] at hj; rcases hj with rfl <;> exact getD_true (by simp_all)
     clear hi' hdep
     have k0g := gD k0
     have k1g := gD k1
     have gt := got_true k1
     unfold wpOpIn; simp [Region.wanted, yielded, gt]; unfold Oper.wpIn
     simp [Oper.about, execOp, go_sem, Act.eval, k0, k1, k0g, k1g]
     rw [hRd]
     exact hR.op 12 112 _ rfl (by decide) hl0 hc (hR.wd) (fun _ _ h => h) (rfl)
    ·simp at ho
     subst ho
     simp [Region.binds] at hdep
     have d0 : l.getD 11 true = true := getD_true (by simp_all)
     have k0 : a.tmps.getD 111 undef = vals 11 := hR.get rfl (by simp_all) (by simp [hT])
     have e0 : vals 11 = DV 4 (.slice ar k cr) (cn : Int) (cd : Int) := hR.vl 11 (by decide) d0
     rw [e0] at k0
     have d1 : l.getD 12 true = true := getD_true (by simp_all)
     have k1 : a.tmps.getD 112 undef = vals 12 := hR.get rfl (by simp_all) (by simp [hT])
     have e1 : vals 12 = .slice tt nt ct := hR.vl 12 (by decide) d1
     rw [e1] at k1
     have d2 : l.getD 10 true = true := getD_true (by simp_all)
     have k2 : a.tmps.getD 110 undef = vals 10 := hR.get rfl (by simp_all) (by simp [hT])
     have e2 : vals 10 = .bool true := hR.vl 10 (by decide) d2
     rw [e2] at k2
     have hc : ∀ j, (13, j) ∈ shCh → l.getD j true = true := by intro j hj; simp [shCh] at hj; rcases hj with rfl | rfl | rfl <;> exact getD_true (by simp_all)
     clear hi' hdep
     have k0g := gD k0
     have k1g := gD k1
     have k2g := gD k2
     have gt := got_true k2
     unfold wpOpIn; simp [Region.wanted, yielded, gt]; unfold Oper.wpIn
     simp [Oper.about, execOp, go_sem, Act.eval, k0, k1, k2, k0g, k1g, k2g]
     refine ⟨trivial, (callsIn_wide.2 (HA3.out _ hR.wd)).mono ?_⟩
     rintro e w'' ⟨rfl, hb⟩
     rw [hRd]
     exact hR.op 13 113 _ rfl (by decide) hl0 hc (hR.wd.trans (hb.mono hR.wd.size)) (SV.below hb) (rfl)
    ·simp at ho
     subst ho
     simp [Region.binds] at hdep
     have k0 : a.tmps.getD 8 undef = .pointer (some ⟨Bd, 0, none⟩) := (hR.fr.kept rfl (by simp [hT])).trans (by rw [hT]; try rfl)
     have d1 : l.getD 10 true = true := getD_true (by simp_all)
     have k1 : a.tmps.getD 110 undef = vals 10 := hR.get rfl (by simp_all) (by simp [hT])
     have e1 : vals 10 = .bool true := hR.vl 10 (by decide) d1
     rw [e1] at k1
     have hc : ∀ j, (14, j) ∈ shCh → l.getD j true = true := by intro j hj; simp [shCh] at hj; rcases hj with rfl <;> exact getD_true (by simp_all)
     clear hi' hdep
     obtain ⟨d0, d1, d2, d3, d4, d5⟩ := H16.out _ hR.wd
     have k0g := gD k0
     have k1g := gD k1
     have gt := got_true k1
     unfold wpOpIn; simp [Region.wanted, yielded, gt]; unfold Oper.wpIn
     simp [Oper.about, execOp, go_sem, Act.eval, k0, k1, k0g, k1g, d0, d1, d2, d3, d4, d5]
     rw [hRd]
     exact hR.op 14 114 _ rfl (by decide) hl0 hc (hR.wd) (fun _ _ h => h) (rfl)
    ·simp at ho
     subst ho
     simp [Region.binds] at hdep
     have k0 : a.tmps.getD 12 undef = .slice (some ⟨g2, 0, none⟩) k k := (hR.fr.kept rfl (by simp [hT])).trans (by rw [hT]; try rfl)
     have d1 : l.getD 10 true = true := getD_true (by simp_all)
     have k1 : a.tmps.getD 110 undef = vals 10 := hR.get rfl (by simp_all) (by simp [hT])
     have e1 : vals 10 = .bool true := hR.vl 10 (by decide) d1
     rw [e1] at k1
     have hc : ∀ j, (15, j) ∈ shCh → l.getD j true = true := by intro j hj; simp [shCh] at hj; rcases hj with rfl <;> exact getD_true (by simp_all)
     clear hi' hdep
     have k0g := gD k0
     have k1g := gD k1
     have gt := got_true k1
     unfold wpOpIn; simp [Region.wanted, yielded, gt]; unfold Oper.wpIn
     simp [Oper.about, execOp, go_sem, Act.eval, k0, k1, k0g, k1g]
     rw [hRd]
     exact hR.op 15 115 _ rfl (by decide) hl0 hc (hR.wd) (fun _ _ h => h) (rfl)
    ·simp at ho
     subst ho
     simp [Region.binds] at hdep
     have d0 : l.getD 14 true = true := getD_true (by simp_all)
     have k0 : a.tmps.getD 114 undef = vals 14 := hR.get rfl (by simp_all) (by simp [hT])
     have e0 : vals 14 = DV 4 (.slice ar k cr) (cn : Int) (cd : Int) := hR.vl 14 (by decide) d0
     rw [e0] at k0
     have d1 : l.getD 15 true = true := getD_true (by simp_all)
     have k1 : a.tmps.getD 115 undef = vals 15 := hR.get rfl (by simp_all) (by simp [hT])
     have e1 : vals 15 = .slice (some ⟨g2, 0, none⟩) k k := hR.vl 15 (by decide) d1
     rw [e1] at k1
     have d2 : l.getD 10 true = true := getD_true (by simp_all)
     have k2 : a.tmps.getD 110 undef = vals 10 := hR.get rfl (by simp_all) (by simp [hT])
     have e2 : vals 10 = .bool true := hR.vl 10 (by decide) d2
     rw [e2] at k2
     have hc : ∀ j, (16, j) ∈ shCh → l.getD j true = true := by intro j hj; simp [shCh] at hj; rcases hj with rfl | rfl | rfl <;> exact getD_true (by simp_all)
     clear hi' hdep
     have k0g := gD k0
     have k1g := gD k1
     have k2g := gD k2
     have gt := got_true k2
     unfold wpOpIn; simp [Region.wanted, yielded, gt]; unfold Oper.wpIn
     simp [Oper.about, execOp, go_sem, Act.eval, k0, k1, k2, k0g, k1g, k2g]
     refine ⟨trivial, (callsIn_wide.2 (HA4.out _ hR.wd)).mono ?_⟩
     rintro e w'' ⟨rfl, hb⟩
     rw [hRd]
     exact hR.op 16 116 _ rfl (by decide) hl0 hc (hR.wd.trans (hb.mono hR.wd.size)) (SV.below hb) (rfl)
    ·simp at ho
     subst ho
     simp [Region.binds] at hdep
     have d0 : l.getD 13 true = true := getD_true (by simp_all)
     have k0 : a.tmps.getD 113 undef = vals 13 := hR.get rfl (by simp_all) (by simp [hT])
     have e0 : vals 13 = .int .i64 q := hR.vl 13 (by decide) d0
     rw [e0] at k0
     have d1 : l.getD 16 true = true := getD_true (by simp_all)
     have k1 : a.tmps.getD 116 undef = vals 16 := hR.get rfl (by simp_all) (by simp [hT])
     have e1 : vals 16 = .int .i64 q := hR.vl 16 (by decide) d1
     rw [e1] at k1
     have d2 : l.getD 10 true = true := getD_true (by simp_all)
     have k2 : a.tmps.getD 110 undef = vals 10 := hR.get rfl (by simp_all) (by simp [hT])
     have e2 : vals 10 = .bool true := hR.vl 10 (by decide) d2
     rw [e2] at k2
     have hc : ∀ j, (17, j) ∈ shCh → l.getD j true = true := by intro j hj; simp [shCh] at hj; rcases hj with rfl | rfl | rfl <;> exact getD_true (by simp_all)
     clear hi' hdep
     have k0g := gD k0
     have k1g := gD k1
     have k2g := gD k2
     have gt := got_true k2
     unfold wpOpIn; simp [Region.wanted, yielded, gt]; unfold Oper.wpIn
     simp [Oper.about, execOp, go_sem, Act.eval, k0, k1, k2, k0g, k1g, k2g]
     rw [hRd]
     exact hR.op 17 117 _ rfl (by decide) hl0 hc (hR.wd) (fun _ _ h => h) (rfl)
    ·simp at ho
     subst ho
     simp [Region.binds] at hdep
     have d0 : l.getD 10 true = true := getD_true (by simp_all)
     have k0 : a.tmps.getD 110 undef = vals 10 := hR.get rfl (by simp_all) (by simp [hT])
     have e0 : vals 10 = .bool true := hR.vl 10 (by decide) d0
     rw [e0] at k0
     have d1 : l.getD 17 true = true := getD_true (by simp_all)
     have k1 : a.tmps.getD 117 undef = vals 17 := hR.get rfl (by simp_all) (by simp [hT])
     have e1 : vals 17 = .bool true := hR.vl 17 (by decide) d1
     rw [e1] at k1
     have hc : ∀ j, (18, j) ∈ shCh → l.getD j true = true := by intro j hj; simp [shCh] at hj; rcases hj with rfl | rfl <;> exact getD_true (by simp_all)
     clear hi' hdep
     have k0g := gD k0
     have k1g := gD k1
     unfold wpOpIn; simp [Region.wanted]; unfold Oper.wpIn
     simp [Oper.about, execOp, go_sem, Act.eval, k0, k1, k0g, k1g]
     rw [hRd]
     exact hR.op 18 118 _ rfl (by decide) hl0 hc (hR.wd) (fun _ _ h => h) (rfl)
    ·simp at ho
     subst ho
     simp [Region.binds] at hdep
     have d0 : l.getD 18 true = true := getD_true (by simp_all)
     have k0 : a.tmps.getD 118 undef = vals 18 := hR.get rfl (by simp_all) (by simp [hT])
     have e0 : vals 18 = .bool true := hR.vl 18 (by decide) d0
     rw [e0] at k0
     have hc : ∀ j, (19, j) ∈ shCh → l.getD j true = true := by intro j hj; simp [shCh] at hj; rcases hj with rfl <;> exact getD_true (by simp_all)
     clear hi' hdep
     have k0g := gD k0
     unfold wpOpIn; simp [Region.wanted]; unfold Oper.wpIn
     simp [Oper.about, execOp, go_sem, Act.eval, k0, k0g]
     rw [hRd]
     exact hR.op 19 119 _ rfl (by decide) hl0 hc (hR.wd) (fun _ _ h => h) (rfl)
    ·simp at ho
     subst ho
     simp [Region.binds] at hdep
     have k0 : a.tmps.getD 8 undef = .pointer (some ⟨Bd, 0, none⟩) := (hR.fr.kept rfl (by simp [hT])).trans (by rw [hT]; try rfl)
     have d1 : l.getD 19 true = true := getD_true (by simp_all)
     have k1 : a.tmps.getD 119 undef = vals 19 := hR.get rfl (by simp_all) (by simp [hT])
     have e1 : vals 19 = .bool true := hR.vl 19 (by decide) d1
     rw [e1] at k1
     have hc : ∀ j, (20, j) ∈ shCh → l.getD j true = true := by intro j hj; simp [shCh] at hj; rcases hj with rfl <;> exact getD_true (by simp_all)
     clear hi' hdep
     obtain ⟨d0, d1, d2, d3, d4, d5⟩ := H16.out _ hR.wd
     have k0g := gD k0
     have k1g := gD k1
     have gt := got_true k1
     unfold wpOpIn; simp [Region.wanted, yielded, gt]; unfold Oper.wpIn
     simp [Oper.about, execOp, go_sem, Act.eval, k0, k1, k0g, k1g, d0, d1, d2, d3, d4, d5]
     rw [hRd]
     exact hR.op 20 120 _ rfl (by decide) hl0 hc (hR.wd) (fun _ _ h => h) (rfl)
    ·simp at ho
     subst ho
     simp [Region.binds] at hdep
     have k0 : a.tmps.getD 9 undef = .slice so ns cs := (hR.fr.kept rfl (by simp [hT])).trans (by rw [hT]; try rfl)
     have d1 : l.getD 19 true = true := getD_true (by simp_all)
     have k1 : a.tmps.getD 119 undef = vals 19 := hR.get rfl (by simp_all) (by simp [hT])
     have e1 : vals 19 = .bool true := hR.vl 19 (by decide) d1
     rw [e1] at k1
     have hc : ∀ j, (21, j) ∈ shCh → l.getD j true = true := by intro j hj; simp [shCh] at hj; rcases hj with rfl <;> exact getD_true (by simp_all)
     clear hi' hdep
     have k0g := gD k0
     have k1g := gD k1
     have gt := got_true k1
     unfold wpOpIn; simp [Region.wanted, yielded, gt]; unfold Oper.wpIn
     simp [Oper.about, execOp, go_sem, Act.eval, k0, k1, k0g, k1g]
     rw [hRd]
     exact hR.op 21 121 _ rfl (by decide) hl0 hc (hR.wd) (fun _ _ h => h) (rfl)
    ·simp at ho
     subst ho
     simp [Region.binds] at hdep
     have k0 : a.tmps.getD 10 undef = .slice tt nt ct := (hR.fr.kept rfl (by simp [hT])).trans (by rw [hT]; try rfl)
     have d1 : l.getD 19 true = true := getD_true (by simp_all)
     have k1 : a.tmps.getD 119 undef = vals 19 := hR.get rfl (by simp_all) (by simp [hT])
     have e1 : vals 19 = .bool true := hR.vl 19 (by decide) d1
     rw [e1] at k1
     have hc : ∀ j, (22, j) ∈ shCh → l.getD j true = true := by intro j hj; simp [shCh] at hj; rcases hj with rfl <;> exact getD_true (by simp_all)
     clear hi' hdep
     have k0g := gD k0
     have k1g := gD k1
     have gt := got_true k1
     unfold wpOpIn; simp [Region.wanted, yielded, gt]; unfold Oper.wpIn
     simp [Oper.about, execOp, go_sem, Act.eval, k0, k1, k0g, k1g]
     rw [hRd]
     exact hR.op 22 122 _ rfl (by decide) hl0 hc (hR.wd) (fun _ _ h => h) (rfl)
    ·simp at ho
     subst ho
     simp [Region.binds] at hdep
     have d0 : l.getD 20 true = true := getD_true (by simp_all)
     have k0 : a.tmps.getD 120 undef = vals 20 := hR.get rfl (by simp_all) (by simp [hT])
     have e0 : vals 20 = DV 4 (.slice ar k cr) (cn : Int) (cd : Int) := hR.vl 20 (by decide) d0
     rw [e0] at k0
     have d1 : l.getD 21 true = true := getD_true (by simp_all)
     have k1 : a.tmps.getD 121 undef = vals 21 := hR.get rfl (by simp_all) (by simp [hT])
     have e1 : vals 21 = .slice so ns cs := hR.vl 21 (by decide) d1
     rw [e1] at k1
     have d2 : l.getD 22 true = true := getD_true (by simp_all)
     have k2 : a.tmps.getD 122 undef = vals 22 := hR.get rfl (by simp_all) (by simp [hT])
     have e2 : vals 22 = .slice tt nt ct := hR.vl 22 (by decide) d2
     rw [e2] at k2
     have d3 : l.getD 19 true = true := getD_true (by simp_all)
     have k3 : a.tmps.getD 119 undef = vals 19 := hR.get rfl (by simp_all) (by simp [hT])
     have e3 : vals 19 = .bool true := hR.vl 19 (by decide) d3
     rw [e3] at k3
     have hc : ∀ j, (23, j) ∈ shCh → l.getD j true = true := by intro j hj; simp [shCh] at hj; rcases hj with rfl | rfl | rfl | rfl <;> exact getD_true (by simp_all)
     clear hi' hdep
     have k0g := gD k0
     have k1g := gD k1
     have k2g := gD k2
     have k3g := gD k3
     have gt := got_true k3
     unfold wpOpIn; simp [Region.wanted, yielded, gt]; unfold Oper.wpIn
     simp [Oper.about, execOp, go_sem, Act.eval, k0, k1, k2, k3, k0g, k1g, k2g, k3g]
     refine ⟨trivial, (callsIn_wide.2 (HB1.out _ hR.wd)).mono ?_⟩
     rintro e w'' ⟨ao, n, cap, rfl, hi, hb⟩
     rw [hRd]
     exact hR.op 23 123 _ rfl (by decide) hl0 hc (hR.wd.trans (hb.mono hR.wd.size)) (SV.below hb) (⟨_, _, _, rfl, hi⟩)
    ·simp at ho
     subst ho
     simp [Region.binds] at hdep
     have k0 : a.tmps.getD 8 undef = .pointer (some ⟨Bd, 0, none⟩) := (hR.fr.kept rfl (by simp [hT])).trans (by rw [hT]; try rfl)
     have d1 : l.getD 19 true = true := getD_true (by simp_all)
     have k1 : a.tmps.getD 119 undef = vals 19 := hR.get rfl (by simp_all) (by simp [hT])
     have e1 : vals 19 = .bool true := hR.vl 19 (by decide) d1
     rw [e1] at k1
     have hc : ∀ j, (24, j) ∈ shCh → l.getD j true = true := by intro j hj; simp [shCh] at hj; rcases hj with rfl <;> exact getD_true (by simp_all)
     clear hi' hdep
     obtain ⟨d0, d1, d2, d3, d4, d5⟩ := H16.out _ hR.wd
     have k0g := gD k0
     have k1g := gD k1
     have gt := got_true k1
     unfold wpOpIn; simp [Region.wanted, yielded, gt]; unfold Oper.wpIn
     simp [Oper.about, execOp, go_sem, Act.eval, k0, k1, k0g, k1g, d0, d1, d2, d3, d4, d5]
     rw [hRd]
     exact hR.op 24 124 _ rfl (by decide) hl0 hc (hR.wd) (fun _ _ h => h) (rfl)
    ·simp at ho
     subst ho
     simp [Region.binds] at hdep
     have k0 : a.tmps.getD 11 undef = .slice (some ⟨g1, 0, none⟩) k k := (hR.fr.kept rfl (by simp [hT])).trans (by rw [hT]; try rfl)
     have d1 : l.getD 19 true = true := getD_true (by simp_all)
     have k1 : a.tmps.getD 119 undef = vals 19 := hR.get rfl (by simp_all) (by simp [hT])
     have e1 : vals 19 = .bool true := hR.vl 19 (by decide) d1
     rw [e1] at k1
     have hc : ∀ j, (25, j) ∈ shCh → l.getD j true = true := by intro j hj; simp [shCh] at hj; rcases hj with rfl <;> exact getD_true (by simp_all)
     clear hi' hdep
     have k0g := gD k0
     have k1g := gD k1
     have gt := got_true k1
     unfold wpOpIn; simp [Region.wanted, yielded, gt]; unfold Oper.wpIn
     simp [Oper.about, execOp, go_sem, Act.eval, k0, k1, k0g, k1g]
     rw [hRd]
     exact hR.op 25 125 _ rfl (by decide) hl0 hc (hR.wd) (fun _ _ h => h) (rfl)
    ·simp at ho
     subst ho
     simp [Region.binds] at hdep
     have k0 : a.tmps.getD 12 undef = .slice (some ⟨g2, 0, none⟩) k k := (hR.fr.kept rfl (by simp [hT])).trans (by rw [hT]; try rfl)
     have d1 : l.getD 19 true = true := getD_true (by simp_all)
     have k1 : a.tmps.getD 119 undef = vals 19 := hR.get rfl (by simp_all) (by simp [hT])
     have e1 : vals 19 = .bool true := hR.vl 19 (by decide) d1
     rw [e1] at k1
     have hc : ∀ j, (26, j) ∈ shCh → l.getD j true = true := by intro j hj; simp [shCh] at hj; rcases hj with rfl <;> exact getD_true (by simp_all)
     clear hi' hdep
     have k0g := gD k0
     have k1g := gD k1
     have gt := got_true k1
     unfold wpOpIn; simp [Region.wanted, yielded, gt]; unfold Oper.wpIn
     simp [Oper.about, execOp, go_sem, Act.eval, k0, k1, k0g, k1g]
     rw [hRd]
     exact hR.op 26 126 _ rfl (by decide) hl0 hc (hR.wd) (fun _ _ h => h) (rfl)
    ·simp at ho
     subst ho
     simp [Region.binds] at hdep
     have d0 : l.getD 24 true = true := getD_true (by simp_all)
     have k0 : a.tmps.getD 124 undef = vals 24 := hR.get rfl (by simp_all) (by simp [hT])
     have e0 : vals 24 = DV 4 (.slice ar k cr) (cn : Int) (cd : Int) := hR.vl 24 (by decide) d0
     rw [e0] at k0
     have d1 : l.getD 25 true = true := getD_true (by simp_all)
     have k1 : a.tmps.getD 125 undef = vals 25 := hR.get rfl (by simp_all) (by simp [hT])
     have e1 : vals 25 = .slice (some ⟨g1, 0, none⟩) k k := hR.vl 25 (by decide) d1
     rw [e1] at k1
     have d2 : l.getD 26 true = true := getD_true (by simp_all)
     have k2 : a.tmps.getD 126 undef = vals 26 := hR.get rfl (by simp_all) (by simp [hT])
     have e2 : vals 26 = .slice (some ⟨g2, 0, none⟩) k k := hR.vl 26 (by decide) d2
     rw [e2] at k2
     have d3 : l.getD 19 true = true := getD_true (by simp_all)
     have k3 : a.tmps.getD 119 undef = vals 19 := hR.get rfl (by simp_all) (by simp [hT])
     have e3 : vals 19 = .bool true := hR.vl 19 (by decide) d3
     rw [e3] at k3
     have hc : ∀ j, (27, j) ∈ shCh → l.getD j true = true := by intro j hj; simp [shCh] at hj; rcases hj with rfl | rfl | rfl | rfl <;> exact getD_true (by simp_all)
     clear hi' hdep
     have k0g := gD k0
     have k1g := gD k1
     have k2g := gD k2
     have k3g := gD k3
     have gt := got_true k3
     unfold wpOpIn; simp [Region.wanted, yielded, gt]; unfold Oper.wpIn
     simp [Oper.about, execOp, go_sem, Act.eval, k0, k1, k2, k3, k0g, k1g, k2g, k3g]
     refine ⟨trivial, (callsIn_wide.2 (HB2.out _ hR.wd)).mono ?_⟩
     rintro e w'' ⟨ao, n, cap, rfl, hi, hb⟩
     rw [hRd]
     exact hR.op 27 127 _ rfl (by decide) hl0 hc (hR.wd.trans (hb.mono hR.wd.size)) (SV.below hb) (⟨_, _, _, rfl, hi⟩)
    ·simp at ho
     subst ho
     simp [Region.binds] at hdep
     have d0 : l.getD 23 true = true := getD_true (by simp_all)
     have k0 : a.tmps.getD 123 undef = vals 23 := hR.get rfl (by simp_all) (by simp [hT])
     obtain ⟨ao0, n0, cap0, e0, hi0⟩ : ∃ ao n cap, vals 23 = .slice ao n cap ∧ Ix w' (.slice ao n cap) P := hR.vl 23 (by decide) d0
     rw [e0] at k0
     have d1 : l.getD 27 true = true := getD_true (by simp_all)
     have k1 : a.tmps.getD 127 undef = vals 27 := hR.get rfl (by simp_all) (by simp [hT])
     obtain ⟨ao1, n1, cap1, e1, hi1⟩ : ∃ ao n cap, vals 27 = .slice ao n cap ∧ Ix w' (.slice ao n cap) P := hR.vl 27 (by decide) d1
     rw [e1] at k1
     have d2 : l.getD 19 true = true := getD_true (by simp_all)
     have k2 : a.tmps.getD 119 undef = vals 19 := hR.get rfl (by simp_all) (by simp [hT])
     have e2 : vals 19 = .bool true := hR.vl 19 (by decide) d2
     rw [e2] at k2
     have hc : ∀ j, (28, j) ∈ shCh → l.getD j true = true := by intro j hj; simp [shCh] at hj; rcases hj with rfl | rfl | rfl <;> exact getD_true (by simp_all)
     clear hi' hdep
     have k0g := gD k0
     have k1g := gD k1
     have k2g := gD k2
     have gt := got_true k2
     unfold wpOpIn; simp [Region.wanted, yielded, gt]; unfold Oper.wpIn
     simp [Oper.about, execOp, go_sem, Act.eval, k0, k1, k2, k0g, k1g, k2g]
     refine ⟨trivial, (callsIn_wide.2 (HB3.out _ _ _ _ _ _ _ hR.wd hi0 hi1)).mono ?_⟩
     rintro e w'' ⟨rfl, hb⟩
     rw [hRd]
     exact hR.op 28 128 _ rfl (by decide) hl0 hc (hR.wd.trans (hb.mono hR.wd.size)) (SV.below hb) (rfl)
    ·simp at ho
     subst ho
     simp [Region.binds] at hdep
     have d0 : l.getD 19 true = true := getD_true (by simp_all)
     have k0 : a.tmps.getD 119 undef = vals 19 := hR.get rfl (by simp_all) (by simp [hT])
     have e0 : vals 19 = .bool true := hR.vl 19 (by decide) d0
     rw [e0] at k0
     have d1 : l.getD 28 true = true := getD_true (by simp_all)
     have k1 : a.tmps.getD 128 undef = vals 28 := hR.get rfl (by simp_all) (by simp [hT])
     have e1 : vals 28 = .bool true := hR.vl 28 (by decide) d1
     rw [e1] at k1
     have hc : ∀ j, (29, j) ∈ shCh → l.getD j true = true := by intro j hj; simp [shCh] at hj; rcases hj with rfl | rfl <;> exact getD_true (by simp_all)
     clear hi' hdep
     have k0g := gD k0
     have k1g := gD k1
     unfold wpOpIn; simp [Region.wanted]; unfold Oper.wpIn
     simp [Oper.about, execOp, go_sem, Act.eval, k0, k1, k0g, k1g]
     rw [hRd]
     exact hR.op 29 129 _ rfl (by decide) hl0 hc (hR.wd) (fun _ _ h => h) (rfl)
    ·simp at ho
     subst ho
     simp [Region.binds] at hdep
     have d0 : l.getD 29 true = true := getD_true (by simp_all)
     have k0 : a.tmps.getD 129 undef = vals 29 := hR.get rfl (by simp_all) (by simp [hT])
     have e0 : vals 29 = .bool true := hR.vl 29 (by decide) d0
     rw [e0] at k0
     have hc : ∀ j, (30, j) ∈ shCh → l.getD j true = true := by intro j hj; simp [shCh] at hj; rcases hj with rfl <;> exact getD_true (by simp_all)
     clear hi' hdep
     have k0g := gD k0
     unfold wpOpIn; simp [Region.wanted]; unfold Oper.wpIn
     simp [Oper.about, execOp, go_sem, Act.eval, k0, k0g]
     rw [hRd]
     exact hR.op 30 130 _ rfl (by decide) hl0 hc (hR.wd) (fun _ _ h => h) (rfl)
    ·simp at ho
     subst ho
     simp [Region.binds] at hdep
     have k0 : a.tmps.getD 8 undef = .pointer (some ⟨Bd, 0, none⟩) := (hR.fr.kept rfl (by simp [hT])).trans (by rw [hT]; try rfl)
     have d1 : l.getD 30 true = true := getD_true (by simp_all)
     have k1 : a.tmps.getD 130 undef = vals 30 := hR.get rfl (by simp_all) (by simp [hT])
     have e1 : vals 30 = .bool true := hR.vl 30 (by decide) d1
     rw [e1] at k1
     have hc : ∀ j, (31, j) ∈ shCh → l.getD j true = true := by intro j hj; simp [shCh] at hj; rcases hj with rfl <;> exact getD_true (by simp_all)
     clear hi' hdep
     obtain ⟨d0, d1, d2, d3, d4, d5⟩ := H16.out _ hR.wd
     have k0g := gD k0
     have k1g := gD k1
     have gt := got_true k1
     unfold wpOpIn; simp [Region.wanted, yielded, gt]; unfold Oper.wpIn
     simp [Oper.about, execOp, go_sem, Act.eval, k0, k1, k0g, k1g, d0, d1, d2, d3, d4, d5]
     rw [hRd]
     exact hR.op 31 131 _ rfl (by decide) hl0 hc (hR.wd) (fun _ _ h => h) (rfl)
    ·simp at ho
     subst ho
     simp [Region.binds] at hdep
     have k0 : a.tmps.getD 9 undef = .slice so ns cs := (hR.fr.kept rfl (by simp [hT])).trans (by rw [hT]; try rfl)
     have d1 : l.getD 30 true = true := getD_true (by simp_all)
     have k1 : a.tmps.getD 130 undef = vals 30 := hR.get rfl (by simp_all) (by simp [hT])
     have e1 : vals 30 = .bool true := hR.vl 30 (by decide) d1
     rw [e1] at k1
     have hc : ∀ j, (32, j) ∈ shCh → l.getD j true = true := by intro j hj; simp [shCh] at hj; rcases hj with rfl <;> exact getD_true (by simp_all)
     clear hi' hdep
     have k0g := gD k0
     have k1g := gD k1
     have gt := got_true k1
     unfold wpOpIn; simp [Region.wanted, yielded, gt]; unfold Oper.wpIn
     simp [Oper.about, execOp, go_sem, Act.eval, k0, k1, k0g, k1g]
     rw [hRd]
     exact hR.op 32 132 _ rfl (by decide) hl0 hc (hR.wd) (fun _ _ h => h) (rfl)
    ·simp at ho
     subst ho
     simp [Region.binds] at hdep
     have k0 : a.tmps.getD 10 undef = .slice tt nt ct := (hR.fr.kept rfl (by simp [hT])).trans (by rw [hT]; try rfl)
     have d1 : l.getD 30 true = true := getD_true (by simp_all)
     have k1 : a.tmps.getD 130 undef = vals 30 := hR.get rfl (by simp_all) (by simp [hT])
     have e1 : vals 30 = .bool true := hR.vl 30 (by decide) d1
     rw [e1] at k1
     have hc : ∀ j, (33, j) ∈ shCh → l.getD j true = true := by intro j hj; simp [shCh] at hj; rcases hj with rfl <;> exact getD_true (by simp_all)
     clear hi' hdep
     have k0g := gD k0
     have k1g := gD k1
     have gt := got_true k1
     unfold wpOpIn; simp [Region.wanted, yielded, gt]; unfold Oper.wpIn
     simp [Oper.about, execOp, go_sem, Act.eval, k0, k1, k0g, k1g]
     rw [hRd]
     exact hR.op 33 133 _ rfl (by decide) hl0 hc (hR.wd) (fun _ _ h => h) (rfl)
    ·simp at ho
     subst ho
     simp [Region.binds] at hdep
     have d0 : l.getD 31 true = true := getD_true (by simp_all)
     have k0 : a.tmps.getD 131 undef = vals 31 := hR.get rfl (by simp_all) (by simp [hT])
     have e0 : vals 31 = DV 4 (.slice ar k cr) (cn : Int) (cd : Int) := hR.vl 31 (by decide) d0
     rw [e0] at k0
     have d1 : l.getD 32 true = true := getD_true (by simp_all)
     have k1 : a.tmps.getD 132 undef = vals 32 := hR.get rfl (by simp_all) (by simp [hT])
     have e1 : vals 32 = .slice so ns cs := hR.vl 32 (by decide) d1
     rw [e1] at k1
     have d2 : l.getD 33 true = true := getD_true (by simp_all)
     have k2 : a.tmps.getD 133 undef = vals 33 := hR.get rfl (by simp_all) (by simp [hT])
     have e2 : vals 33 = .slice tt nt ct := hR.vl 33 (by decide) d2
     rw [e2] at k2
     have d3 : l.getD 30 true = true := getD_true (by simp_all)
     have k3 : a.tmps.getD 130 undef = vals 30 := hR.get rfl (by simp_all) (by simp [hT])
     have e3 : vals 30 = .bool true := hR.vl 30 (by decide) d3
     rw [e3] at k3
     have hc : ∀ j, (34, j) ∈ shCh → l.getD j true = true := by intro j hj; simp [shCh] at hj; rcases hj with rfl | rfl | rfl | rfl <;> exact getD_true (by simp_all)
     clear hi' hdep
     have k0g := gD k0
     have k1g := gD k1
     have k2g := gD k2
     have k3g := gD k3
     have gt := got_true k3
     unfold wpOpIn; simp [Region.wanted, yielded, gt]; unfold Oper.wpIn
     simp [Oper.about, execOp, go_sem, Act.eval, k0, k1, k2, k3, k0g, k1g, k2g, k3g]
     refine ⟨trivial, (callsIn_wide.2 (HD1.out _ hR.wd)).mono ?_⟩
     rintro e w'' ⟨ao, n, cap, rfl, hi, hb⟩
     rw [hRd]
     exact hR.op 34 134 _ rfl (by decide) hl0 hc (hR.wd.trans (hb.mono hR.wd.size)) (SV.below hb) (⟨_, _, _, rfl, hi⟩)
    ·simp at ho
     subst ho
     simp [Region.binds] at hdep
     have k0 : a.tmps.getD 8 undef = .pointer (some ⟨Bd, 0, none⟩) := (hR.fr.kept rfl (by simp [hT])).trans (by rw [hT]; try rfl)
     have d1 : l.getD 30 true = true := getD_true (by simp_all)
     have k1 : a.tmps.getD 130 undef = vals 30 := hR.get rfl (by simp_all) (by simp [hT])
     have e1 : vals 30 = .bool true := hR.vl 30 (by decide) d1
     rw [e1] at k1
     have hc : ∀ j, (35, j) ∈ shCh → l.getD j true = true := by intro j hj; simp [shCh] at hj; rcases hj with rfl <;> exact getD_true (by simp_all)
     clear hi' hdep
     obtain ⟨d0, d1, d2, d3, d4, d5⟩ := H16.out _ hR.wd
     have k0g := gD k0
     have k1g := gD k1
     have gt := got_true k1
     unfold wpOpIn; simp [Region.wanted, yielded, gt]; unfold Oper.wpIn
     simp [Oper.about, execOp, go_sem, Act.eval, k0, k1, k0g, k1g, d0, d1, d2, d3, d4, d5]
     rw [hRd]
     exact hR.op 35 135 _ rfl (by decide) hl0 hc (hR.wd) (fun _ _ h => h) (rfl)
    ·simp at ho
     subst ho
     simp [Region.binds] at hdep
     have k0 : a.tmps.getD 11 undef = .slice (some ⟨g1, 0, none⟩) k k := (hR.fr.kept rfl (by simp [hT])).trans (by rw [hT]; try rfl)
     have d1 : l.getD 30 true = true := getD_true (by simp_all)
     have k1 : a.tmps.getD 130 undef = vals 30 := hR.get rfl (by simp_all) (by simp [hT])
     have e1 : vals 30 = .bool true := hR.vl 30 (by decide) d1
     rw [e1] at k1
     have hc : ∀ j, (36, j) ∈ shCh → l.getD j true = true := by intro j hj; simp [shCh] at hj; rcases hj with rfl <;> exact getD_true (by simp_all)
     clear hi' hdep
     have k0g := gD k0
     have k1g := gD k1
     have gt := got_true k1
     unfold wpOpIn; simp [Region.wanted, yielded, gt]; unfold Oper.wpIn
     simp [Oper.about, execOp, go_sem, Act.eval, k0, k1, k0g, k1g]
     rw [hRd]
     exact hR.op 36 136 _ rfl (by decide) hl0 hc (hR.wd) (fun _ _ h => h) (rfl)
    ·simp at ho
     subst ho
     simp [Region.binds] at hdep
     have k0 : a.tmps.getD 12 undef = .slice (some ⟨g2, 0, none⟩) k k := (hR.fr.kept rfl (by simp [hT])).trans (by rw [hT]; try rfl)
     have d1 : l.getD 30 true = true := getD_true (by simp_all)
     have k1 : a.tmps.getD 130 undef = vals 30 := hR.get rfl (by simp_all) (by simp [hT])
     have e1 : vals 30 = .bool true := hR.vl 30 (by decide) d1
     rw [e1] at k1
     have hc : ∀ j, (37, j) ∈ shCh → l.getD j true = true := by intro j hj; simp [shCh] at hj; rcases hj with rfl <;> exact getD_true (by simp_all)
     clear hi' hdep
     have k0g := gD k0
     have k1g := gD k1
     have gt := got_true k1
     unfold wpOpIn; simp [Region.wanted, yielded, gt]; unfold Oper.wpIn
     simp [Oper.about, execOp, go_sem, Act.eval, k0, k1, k0g, k1g]
     rw [hRd]
     exact hR.op 37 137 _ rfl (by decide) hl0 hc (hR.wd) (fun _ _ h => h) (rfl)
    ·simp at ho
     subst ho
     simp [Region.binds] at hdep
     have d0 : l.getD 35 true = true := getD_true (by simp_all)
     have k0 : a.tmps.getD 135 undef = vals 35 := hR.get rfl (by simp_all) (by simp [hT])
     have e0 : vals 35 = DV 4 (.slice ar k cr) (cn : Int) (cd : Int) := hR.vl 35 (by decide) d0
     rw [e0] at k0
     have d1 : l.getD 36 true = true := getD_true (by simp_all)
     have k1 : a.tmps.getD 136 undef = vals 36 := hR.get rfl (by simp_all) (by simp [hT])
     have e1 : vals 36 = .slice (some ⟨g1, 0, none⟩) k k := hR.vl 36 (by decide) d1
     rw [e1] at k1
     have d2 : l.getD 37 true = true := getD_true (by simp_all)
     have k2 : a.tmps.getD 137 undef = vals 37 := hR.get rfl (by simp_all) (by simp [hT])
     have e2 : vals 37 = .slice (some ⟨g2, 0, none⟩) k k := hR.vl 37 (by decide) d2
     rw [e2] at k2
     have d3 : l.getD 30 true = true := getD_true (by simp_all)
     have k3 : a.tmps.getD 130 undef = vals 30 := hR.get rfl (by simp_all) (by simp [hT])
     have e3 : vals 30 = .bool true := hR.vl 30 (by decide) d3
     rw [e3] at k3
     have hc : ∀ j, (38, j) ∈ shCh → l.getD j true = true := by intro j hj; simp [shCh] at hj; rcases hj with rfl | rfl | rfl | rfl <;> exact getD_true (by simp_all)
     clear hi' hdep
     have k0g := gD k0
     have k1g := gD k1
     have k2g := gD k2
     have k3g := gD k3
     have gt := got_true k3
     unfold wpOpIn; simp [Region.wanted, yielded, gt]; unfold Oper.wpIn
     simp [Oper.about, execOp, go_sem, Act.eval, k0, k1, k2, k3, k0g, k1g, k2g, k3g]
     refine ⟨trivial, (callsIn_wide.2 (HD2.out _ hR.wd)).mono ?_⟩
     rintro e w'' ⟨ao, n, cap, rfl, hi, hb⟩
     rw [hRd]
     exact hR.op 38 138 _ rfl (by decide) hl0 hc (hR.wd.trans (hb.mono hR.wd.size)) (SV.below hb) (⟨_, _, _, rfl, hi⟩)
    ·simp at ho
     subst ho
     simp [Region.binds] at hdep
     have d0 : l.getD 34 true = true := getD_true (by simp_all)
     have k0 : a.tmps.getD 134 undef = vals 34 := hR.get rfl (by simp_all) (by simp [hT])
     obtain ⟨ao0, n0, cap0, e0, hi0⟩ : ∃ ao n cap, vals 34 = .slice ao n cap ∧ Cx w' (.slice ao n cap) C := hR.vl 34 (by decide) d0
     rw [e0] at k0
     have d1 : l.getD 38 true = true := getD_true (by simp_all)
     have k1 : a.tmps.getD 138 undef = vals 38 := hR.get rfl (by simp_all) (by simp [hT])
     obtain ⟨ao1, n1, cap1, e1, hi1⟩ : ∃ ao n cap, vals 38 = .slice ao n cap ∧ Cx w' (.slice ao n cap) C := hR.vl 38 (by decide) d1
     rw [e1] at k1
     have d2 : l.getD 30 true = true := getD_true (by simp_all)
     have k2 : a.tmps.getD 130 undef = vals 30 := hR.get rfl (by simp_all) (by simp [hT])
     have e2 : vals 30 = .bool true := hR.vl 30 (by decide) d2
     rw [e2] at k2
     have hc : ∀ j, (39, j) ∈ shCh → l.getD j true = true := by intro j hj; simp [shCh] at hj; rcases hj with rfl | rfl | rfl <;> exact getD_true (by simp_all)
     clear hi' hdep
     have k0g := gD k0
     have k1g := gD k1
     have k2g := gD k2
     have gt := got_true k2
     unfold wpOpIn; simp [Region.wanted, yielded, gt]; unfold Oper.wpIn
     simp [Oper.about, execOp, go_sem, Act.eval, k0, k1, k2, k0g, k1g, k2g]
     refine ⟨trivial, (callsIn_wide.2 (HD3.out _ _ _ _ _ _ _ hR.wd hi0 hi1)).mono ?_⟩
     rintro e w'' ⟨rfl, hb⟩
     rw [hRd]
     exact hR.op 39 139 _ rfl (by decide) hl0 hc (hR.wd.trans (hb.mono hR.wd.size)) (SV.below hb) (rfl)
    ·simp at ho
     subst ho
     simp [Region.binds] at hdep
     have d0 : l.getD 30 true = true := getD_true (by simp_all)
     have k0 : a.tmps.getD 130 undef = vals 30 := hR.get rfl (by simp_all) (by simp [hT])
     have e0 : vals 30 = .bool true := hR.vl 30 (by decide) d0
     rw [e0] at k0
     have d1 : l.getD 39 true = true := getD_true (by simp_all)
     have k1 : a.tmps.getD 139 undef = vals 39 := hR.get rfl (by simp_all) (by simp [hT])
     have e1 : vals 39 = .bool true := hR.vl 39 (by decide) d1
     rw [e1] at k1
     have hc : ∀ j, (40, j) ∈ shCh → l.getD j true = true := by intro j hj; simp [shCh] at hj; rcases hj with rfl | rfl <;> exact getD_true (by simp_all)
     clear hi' hdep
     have k0g := gD k0
     have k1g := gD k1
     unfold wpOpIn; simp [Region.wanted]; unfold Oper.wpIn
     simp [Oper.about, execOp, go_sem, Act.eval, k0, k1, k0g, k1g]
     rw [hRd]
     exact hR.op 40 140 _ rfl (by decide) hl0 hc (hR.wd) (fun _ _ h => h) (rfl)
    ·simp at ho
     subst ho
     simp [Region.binds] at hdep
     have d0 : l.getD 40 true = true := getD_true (by simp_all)
     have k0 : a.tmps.getD 140 undef = vals 40 := hR.get rfl (by simp_all) (by simp [hT])
     have e0 : vals 40 = .bool true := hR.vl 40 (by decide) d0
     rw [e0] at k0
     have hc : ∀ j, (41, j) ∈ shCh → l.getD j true = true := by intro j hj; simp [shCh] at hj; rcases hj with rfl <;> exact getD_true (by simp_all)
     clear hi' hdep
     have k0g := gD k0
     unfold wpOpIn; simp [Region.wanted]; unfold Oper.wpIn
     simp [Oper.about, execOp, go_sem, Act.eval, k0, k0g]
     rw [hRd]
     exact hR.op 41 6 _ rfl (by decide) hl0 hc (hR.wd) (fun _ _ h => h) (rfl)
   case' finr4 =>
    rintro l a w' hR0 hz
    rw [hRd] at hR0
    obtain ⟨vals, hR⟩ := hR0
    clear hRd R
    have hnot := List.eq_nil_iff_forall_not_mem.1 hz
    have hk : ∀ k, k < 42 → (l.getD k true = false → False) → l.getD k false = true := fun k h12 h => by
     have hs := hR.size
     cases h' : l.getD k true with
     | false => exact (h h').elim
     | true => simp at hs; simp [Array.getD, hs, h12] at h' ⊢; exact h'
    have st0 := hk 0 (by omega) (fun h => hnot 0 (mem_ready.2 ⟨h, _, rfl, by simp [Region.binds]⟩))
    have st1 := hk 1 (by omega) (fun h => hnot 1 (mem_ready.2 ⟨h, _, rfl, by simp [Region.binds] <;> simp_all⟩))
    have st2 := hk 2 (by omega) (fun h => hnot 2 (mem_ready.2 ⟨h, _, rfl, by simp [Region.binds] <;> simp_all⟩))
    have st3 := hk 3 (by omega) (fun h => hnot 3 (mem_ready.2 ⟨h, _, rfl, by simp [Region.binds] <;> simp_all⟩))
    have st4 := hk 4 (by omega) (fun h => hnot 4 (mem_ready.2 ⟨h, _, rfl, by simp [Region.binds] <;> simp_all⟩))
    have st5 := hk 5 (by omega) (fun h => hnot 5 (mem_ready.2 ⟨h, _, rfl, by simp [Region.binds] <;> simp_all⟩))
    have st6 := hk 6 (by omega) (fun h => hnot 6 (mem_ready.2 ⟨h, _, rfl, by simp [Region.binds] <;> simp_all⟩))
    have st7 := hk 7 (by omega) (fun h => hnot 7 (mem_ready.2 ⟨h, _, rfl, by simp [Region.binds] <;> simp_all⟩))
    have st8 := hk 8 (by omega) (fun h => hnot 8 (mem_ready.2 ⟨h, _, rfl, by simp [Region.binds] <;> simp_all⟩))
    have st9 := hk 9 (by omega) (fun h => hnot 9 (mem_ready.2 ⟨h, _, rfl, by simp [Region.binds] <;> simp_all⟩))
    have st10 := hk 10 (by omega) (fun h => hnot 10 (mem_ready.2 ⟨h, _, rfl, by simp [Region.binds] <;> simp_all⟩))
    have st11 := hk 11 (by omega) (fun h => hnot 11 (mem_ready.2 ⟨h, _, rfl, by simp [Region.binds] <;> simp_all⟩))
    have st12 := hk 12 (by omega) (fun h => hnot 12 (mem_ready.2 ⟨h, _, rfl, by simp [Region.binds] <;> simp_all⟩))
    have st13 := hk 13 (by omega) (fun h => hnot 13 (mem_ready.2 ⟨h, _, rfl, by simp [Region.binds] <;> simp_all⟩))
    have st14 := hk 14 (by omega) (fun h => hnot 14 (mem_ready.2 ⟨h, _, rfl, by simp [Region.binds] <;> simp_all⟩))
    have st15 := hk 15 (by omega) (fun h => hnot 15 (mem_ready.2 ⟨h, _, rfl, by simp [Region.binds] <;> simp_all⟩))
    have st16 := hk 16 (by omega) (fun h => hnot 16 (mem_ready.2 ⟨h, _, rfl, by simp [Region.binds] <;> simp_all⟩))
    have st17 := hk 17 (by omega) (fun h => hnot 17 (mem_ready.2 ⟨h, _, rfl, by simp [Region.binds] <;> simp_all⟩))
    have st18 := hk 18 (by omega) (fun h => hnot 18 (mem_ready.2 ⟨h, _, rfl, by simp [Region.binds] <;> simp_all⟩))
    have st19 := hk 19 (by omega) (fun h => hnot 19 (mem_ready.2 ⟨h, _, rfl, by simp [Region.binds] <;> simp_all⟩))
    have st20 := hk 20 (by omega) (fun h => hnot 20 (mem_ready.2 ⟨h, _, rfl, by simp [Region.binds] <;> simp_all⟩))
    have st21 := hk 21 (by omega) (fun h => hnot 21 (mem_ready.2 ⟨h, _, rfl, by simp [Region.binds] <;> simp_all⟩))
    have st22 := hk 22 (by omega) (fun h => hnot 22 (mem_ready.2 ⟨h, _, rfl, by simp [Region.binds] <;> simp_all⟩))
    have st23 := hk 23 (by omega) (fun h => hnot 23 (mem_ready.2 ⟨h, _, rfl, by simp [Region.binds] <;> simp_all⟩))
    have st24 := hk 24 (by omega) (fun h => hnot 24 (mem_ready.2 ⟨h, _, rfl, by simp [Region.binds] <;> simp_all⟩))
    have st25 := hk 25 (by omega) (fun h => hnot 25 (mem_ready.2 ⟨h, _, rfl, by simp [Region.binds] <;> simp_all⟩))
    have st26 := hk 26 (by omega) (fun h => hnot 26 (mem_ready.2 ⟨h, _, rfl, by simp [Region.binds] <;> simp_all⟩))
    have st27 := hk 27 (by omega) (fun h => hnot 27 (mem_ready.2 ⟨h, _, rfl, by simp [Region.binds] <;> simp_all⟩))
    have st28 := hk 28 (by omega) (fun h => hnot 28 (mem_ready.2 ⟨h, _, rfl, by simp [Region.binds] <;> simp_all⟩))
    have st29 := hk 29 (by omega) (fun h => hnot 29 (mem_ready.2 ⟨h, _, rfl, by simp [Region.binds] <;> simp_all⟩))
    have st30 := hk 30 (by omega) (fun h => hnot 30 (mem_ready.2 ⟨h, _, rfl, by simp [Region.binds] <;> simp_all⟩))
    have st31 := hk 31 (by omega) (fun h => hnot 31 (mem_ready.2 ⟨h, _, rfl, by simp [Region.binds] <;> simp_all⟩))
    have st32 := hk 32 (by omega) (fun h => hnot 32 (mem_ready.2 ⟨h, _, rfl, by simp [Region.binds] <;> simp_all⟩))
    have st33 := hk 33 (by omega) (fun h => hnot 33 (mem_ready.2 ⟨h, _, rfl, by simp [Region.binds] <;> simp_all⟩))
    have st34 := hk 34 (by omega) (fun h => hnot 34 (mem_ready.2 ⟨h, _, rfl, by simp [Region.binds] <;> simp_all⟩))
    have st35 := hk 35 (by omega) (fun h => hnot 35 (mem_ready.2 ⟨h, _, rfl, by simp [Region.binds] <;> simp_all⟩))
    have st36 := hk 36 (by omega) (fun h => hnot 36 (mem_ready.2 ⟨h, _, rfl, by simp [Region.binds] <;> simp_all⟩))
    have st37 := hk 37 (by omega) (fun h => hnot 37 (mem_ready.2 ⟨h, _, rfl, by simp [Region.binds] <;> simp_all⟩))
    have st38 := hk 38 (by omega) (fun h => hnot 38 (mem_ready.2 ⟨h, _, rfl, by simp [Region.binds] <;> simp_all⟩))
    have st39 := hk 39 (by omega) (fun h => hnot 39 (mem_ready.2 ⟨h, _, rfl, by simp [Region.binds] <;> simp_all⟩))
    have st40 := hk 40 (by omega) (fun h => hnot 40 (mem_ready.2 ⟨h, _, rfl, by simp [Region.binds] <;> simp_all⟩))
    have st41 := hk 41 (by omega) (fun h => hnot 41 (mem_ready.2 ⟨h, _, rfl, by simp [Region.binds] <;> simp_all⟩))
    have hall : ∀ i, i < 42 → l.getD i true = true := fun i hi => by
     rcases (show i = 0 ∨ i = 1 ∨ i = 2 ∨ i = 3 ∨ i = 4 ∨ i = 5 ∨ i = 6 ∨ i = 7 ∨ i = 8 ∨ i = 9 ∨ i = 10 ∨ i = 11 ∨ i = 12 ∨ i = 13 ∨ i = 14 ∨ i = 15 ∨ i = 16 ∨ i = 17 ∨ i = 18 ∨ i = 19 ∨ i = 20 ∨ i = 21 ∨ i = 22 ∨ i = 23 ∨ i = 24 ∨ i = 25 ∨ i = 26 ∨ i = 27 ∨ i = 28 ∨ i = 29 ∨ i = 30 ∨ i = 31 ∨ i = 32 ∨ i = 33 ∨ i = 34 ∨ i = 35 ∨ i = 36 ∨ i = 37 ∨ i = 38 ∨ i = 39 ∨ i = 40 ∨ i = 41 by omega) with rfl | rfl | rfl | rfl | rfl | rfl | rfl | rfl | rfl | rfl | rfl | rfl | rfl | rfl | rfl | rfl | rfl | rfl | rfl | rfl | rfl | rfl | rfl | rfl | rfl | rfl | rfl | rfl | rfl | rfl | rfl | rfl | rfl | rfl | rfl | rfl | rfl | rfl | rfl | rfl | rfl | rfl
     ·exact getD_true st0
     ·exact getD_true st1
     ·exact getD_true st2
     ·exact getD_true st3
     ·exact getD_true st4
     ·exact getD_true st5
     ·exact getD_true st6
     ·exact getD_true st7
     ·exact getD_true st8
     ·exact getD_true st9
     ·exact getD_true st10
     ·exact getD_true st11
     ·exact getD_true st12
     ·exact getD_true st13
     ·exact getD_true st14
     ·exact getD_true st15
     ·exact getD_true st16
     ·exact getD_true st17
     ·exact getD_true st18
     ·exact getD_true st19
     ·exact getD_true st20
     ·exact getD_true st21
     ·exact getD_true st22
     ·exact getD_true st23
     ·exact getD_true st24
     ·exact getD_true st25
     ·exact getD_true st26
     ·exact getD_true st27
     ·exact getD_true st28
     ·exact getD_true st29
     ·exact getD_true st30
     ·exact getD_true st31
     ·exact getD_true st32
     ·exact getD_true st33
     ·exact getD_true st34
     ·exact getD_true st35
     ·exact getD_true st36
     ·exact getD_true st37
     ·exact getD_true st38
     ·exact getD_true st39
     ·exact getD_true st40
     ·exact getD_true st41
    clear st0 st1 st2 st3 st4 st5 st6 st7 st8 st9 st10 st11 st12 st13 st14 st15 st16 st17 st18 st19 st20 st21 st22 st23 st24 st25 st26 st27 st28 st29 st30 st31 st32 st33 st34 st35 st36 st37 st38 st39 st40 st41 hk hnot hz
    have hTs : T.size = 141 := by rw [hT]; rfl
    have ha := hR.all (T' := ((((((((((((((((((((((((((((((((((((((((((T.setIfInBounds 100 (vals 0)).setIfInBounds 101 (vals 1)).setIfInBounds 102 (vals 2)).setIfInBounds 103 (vals 3)).setIfInBounds 104 (vals 4)).setIfInBounds 105 (vals 5)).setIfInBounds 106 (vals 6)).setIfInBounds 107 (vals 7)).setIfInBounds 108 (vals 8)).setIfInBounds 109 (vals 9)).setIfInBounds 110 (vals 10)).setIfInBounds 111 (vals 11)).setIfInBounds 112 (vals 12)).setIfInBounds 113 (vals 13)).setIfInBounds 114 (vals 14)).setIfInBounds 115 (vals 15)).setIfInBounds 116 (vals 16)).setIfInBounds 117 (vals 17)).setIfInBounds 118 (vals 18)).setIfInBounds 119 (vals 19)).setIfInBounds 120 (vals 20)).setIfInBounds 121 (vals 21)).setIfInBounds 122 (vals 22)).setIfInBounds 123 (vals 23)).setIfInBounds 124 (vals 24)).setIfInBounds 125 (vals 25)).setIfInBounds 126 (vals 26)).setIfInBounds 127 (vals 27)).setIfInBounds 128 (vals 28)).setIfInBounds 129 (vals 29)).setIfInBounds 130 (vals 30)).setIfInBounds 131 (vals 31)).setIfInBounds 132 (vals 32)).setIfInBounds 133 (vals 33)).setIfInBounds 134 (vals 34)).setIfInBounds 135 (vals 35)).setIfInBounds 136 (vals 36)).setIfInBounds 137 (vals 37)).setIfInBounds 138 (vals 38)).setIfInBounds 139 (vals 39)).setIfInBounds 140 (vals 40)).setIfInBounds 6 (vals 41))) (fun i hi => hall i (by simpa using hi)) (by simp) (fun j hj => by
     by_cases h1 : j = 100 ∨ j = 101 ∨ j = 102 ∨ j = 103 ∨ j = 104 ∨ j = 105 ∨ j = 106 ∨ j = 107 ∨ j = 108 ∨ j = 109 ∨ j = 110 ∨ j = 111 ∨ j = 112 ∨ j = 113 ∨ j = 114 ∨ j = 115 ∨ j = 116 ∨ j = 117 ∨ j = 118 ∨ j = 119 ∨ j = 120 ∨ j = 121 ∨ j = 122 ∨ j = 123 ∨ j = 124 ∨ j = 125 ∨ j = 126 ∨ j = 127 ∨ j = 128 ∨ j = 129 ∨ j = 130 ∨ j = 131 ∨ j = 132 ∨ j = 133 ∨ j = 134 ∨ j = 135 ∨ j = 136 ∨ j = 137 ∨ j = 138 ∨ j = 139 ∨ j = 140 ∨ j = 6
     ·rcases h1 with rfl | rfl | rfl | rfl | rfl | rfl | rfl | rfl | rfl | rfl | rfl | rfl | rfl | rfl | rfl | rfl | rfl | rfl | rfl | rfl | rfl | rfl | rfl | rfl | rfl | rfl | rfl | rfl | rfl | rfl | rfl | rfl | rfl | rfl | rfl | rfl | rfl | rfl | rfl | rfl | rfl | rfl <;> simp [rv_sets, tOwn, List.findIdx?, List.findIdx?.go, hTs]
     ·simp only [not_or] at h1
      obtain ⟨m100, m101, m102, m103, m104, m105, m106, m107, m108, m109, m110, m111, m112, m113, m114, m115, m116, m117, m118, m119, m120, m121, m122, m123, m124, m125, m126, m127, m128, m129, m130, m131, m132, m133, m134, m135, m136, m137, m138, m139, m140, m6⟩ := h1
      have e : tOwn [some 100, some 101, some 102, some 103, some 104, some 105, some 106, some 107, some 108, some 109, some 110, some 111, some 112, some 113, some 114, some 115, some 116, some 117, some 118, some 119, some 120, some 121, some 122, some 123, some 124, some 125, some 126, some 127, some 128, some 129, some 130, some 131, some 132, some 133, some 134, some 135, some 136, some 137, some 138, some 139, some 140, some 6] vals j = none := by
       unfold tOwn
       simp [List.findIdx?, List.findIdx?.go, Ne.symm m100, Ne.symm m101, Ne.symm m102, Ne.symm m103, Ne.symm m104, Ne.symm m105, Ne.symm m106, Ne.symm m107, Ne.symm m108, Ne.symm m109, Ne.symm m110, Ne.symm m111, Ne.symm m112, Ne.symm m113, Ne.symm m114, Ne.symm m115, Ne.symm m116, Ne.symm m117, Ne.symm m118, Ne.symm m119, Ne.symm m120, Ne.symm m121, Ne.symm m122, Ne.symm m123, Ne.symm m124, Ne.symm m125, Ne.symm m126, Ne.symm m127, Ne.symm m128, Ne.symm m129, Ne.symm m130, Ne.symm m131, Ne.symm m132, Ne.symm m133, Ne.symm m134, Ne.symm m135, Ne.symm m136, Ne.symm m137, Ne.symm m138, Ne.symm m139, Ne.symm m140, Ne.symm m6]
      rw [e]
      simp only [rv_sets]
      repeat rw [if_neg (by omega)])
    have v0 : vals 0 = .bool true := hR.vl 0 (by decide) (hall 0 (by decide))
    have v1 : vals 1 = .bool true := hR.vl 1 (by decide) (hall 1 (by decide))
    have v2 : vals 2 = DV 4 (.slice ar k cr) (cn : Int) (cd : Int) := hR.vl 2 (by decide) (hall 2 (by decide))
    have v3 : vals 3 = .slice so ns cs := hR.vl 3 (by decide) (hall 3 (by decide))
    have v4 : vals 4 = .int .i64 p := hR.vl 4 (by decide) (hall 4 (by decide))
    have v5 : vals 5 = DV 4 (.slice ar k cr) (cn : Int) (cd : Int) := hR.vl 5 (by decide) (hall 5 (by decide))
    have v6 : vals 6 = .slice (some ⟨g1, 0, none⟩) k k := hR.vl 6 (by decide) (hall 6 (by decide))
    have v7 : vals 7 = .int .i64 p := hR.vl 7 (by decide) (hall 7 (by decide))
    have v8 : vals 8 = .bool true := hR.vl 8 (by decide) (hall 8 (by decide))
    have v9 : vals 9 = .bool true := hR.vl 9 (by decide) (hall 9 (by decide))
    have v10 : vals 10 = .bool true := hR.vl 10 (by decide) (hall 10 (by decide))
    have v11 : vals 11 = DV 4 (.slice ar k cr) (cn : Int) (cd : Int) := hR.vl 11 (by decide) (hall 11 (by decide))
    have v12 : vals 12 = .slice tt nt ct := hR.vl 12 (by decide) (hall 12 (by decide))
    have v13 : vals 13 = .int .i64 q := hR.vl 13 (by decide) (hall 13 (by decide))
    have v14 : vals 14 = DV 4 (.slice ar k cr) (cn : Int) (cd : Int) := hR.vl 14 (by decide) (hall 14 (by decide))
    have v15 : vals 15 = .slice (some ⟨g2, 0, none⟩) k k := hR.vl 15 (by decide) (hall 15 (by decide))
    have v16 : vals 16 = .int .i64 q := hR.vl 16 (by decide) (hall 16 (by decide))
    have v17 : vals 17 = .bool true := hR.vl 17 (by decide) (hall 17 (by decide))
    have v18 : vals 18 = .bool true := hR.vl 18 (by decide) (hall 18 (by decide))
    have v19 : vals 19 = .bool true := hR.vl 19 (by decide) (hall 19 (by decide))
    have v20 : vals 20 = DV 4 (.slice ar k cr) (cn : Int) (cd : Int) := hR.vl 20 (by decide) (hall 20 (by decide))
    have v21 : vals 21 = .slice so ns cs := hR.vl 21 (by decide) (hall 21 (by decide))
    have v22 : vals 22 = .slice tt nt ct := hR.vl 22 (by decide) (hall 22 (by decide))
    have v24 : vals 24 = DV 4 (.slice ar k cr) (cn : Int) (cd : Int) := hR.vl 24 (by decide) (hall 24 (by decide))
    have v25 : vals 25 = .slice (some ⟨g1, 0, none⟩) k k := hR.vl 25 (by decide) (hall 25 (by decide))
    have v26 : vals 26 = .slice (some ⟨g2, 0, none⟩) k k := hR.vl 26 (by decide) (hall 26 (by decide))
    have v28 : vals 28 = .bool true := hR.vl 28 (by decide) (hall 28 (by decide))
    have v29 : vals 29 = .bool true := hR.vl 29 (by decide) (hall 29 (by decide))
    have v30 : vals 30 = .bool true := hR.vl 30 (by decide) (hall 30 (by decide))
    have v31 : vals 31 = DV 4 (.slice ar k cr) (cn : Int) (cd : Int) := hR.vl 31 (by decide) (hall 31 (by decide))
    have v32 : vals 32 = .slice so ns cs := hR.vl 32 (by decide) (hall 32 (by decide))
    have v33 : vals 33 = .slice tt nt ct := hR.vl 33 (by decide) (hall 33 (by decide))
    have v35 : vals 35 = DV 4 (.slice ar k cr) (cn : Int) (cd : Int) := hR.vl 35 (by decide) (hall 35 (by decide))
    have v36 : vals 36 = .slice (some ⟨g1, 0, none⟩) k k := hR.vl 36 (by decide) (hall 36 (by decide))
    have v37 : vals 37 = .slice (some ⟨g2, 0, none⟩) k k := hR.vl 37 (by decide) (hall 37 (by decide))
    have v39 : vals 39 = .bool true := hR.vl 39 (by decide) (hall 39 (by decide))
    have v40 : vals 40 = .bool true := hR.vl 40 (by decide) (hall 40 (by decide))
    have v41 : vals 41 = .bool true := hR.vl 41 (by decide) (hall 41 (by decide))
    have HWD : Hid (Below w.drew.heap.size w.drew w') := Lib.hid hR.wd
    subst ha
    clear hR hall hTs
    rw [v0, v1, v2, v3, v4, v5, v6, v7, v8, v9, v10, v11, v12, v13, v14, v15, v16, v17, v18, v19, v20, v21, v22, v24, v25, v26, v28, v29, v30, v31, v32, v33, v35, v36, v37, v39, v40, v41, hT]
    simp only [List.setIfInBounds_toArray, List.set_cons_succ, List.set_cons_zero]
    clear v0 v1 v2 v3 v4 v5 v6 v7 v8 v9 v10 v11 v12 v13 v14 v15 v16 v17 v18 v19 v20 v21 v22 v24 v25 v26 v28 v29 v30 v31 v32 v33 v35 v36 v37 v39 v40 v41 hT T
   go_wp2
   go_ret
   exact ⟨rfl, HB0.out.trans ((HBD.out _ HWD.out).mono HB0.out.size)⟩
  ·have hlt : k < nr := by omega
   have hltI : (k : Int) < (nr : Int) := by omega
   obtain ⟨b, off, rfl, -, -, -, -⟩ := (HI0.out.1.below HI.out.b).at (by omega)
   obtain ⟨x, hx⟩ : ∃ x, x = r.getD k 0 := ⟨_, rfl⟩
   have hx3 : 0 ≤ x ∧ x ≤ 3 := by rw [hx]; exact HRR.out k
   have HCK : Hid (∀ w', Below W0.heap.size W0 w' → w'.cell? ⟨Bd, 1, none⟩ = some (.slice (some ⟨b, off, none⟩) nr cr) ∧ w'.cell? ⟨b, off + k, none⟩ = some (.int .i64 x) ∧ w'.cell? ⟨W.heap.size + 1, 0, none⟩ = some (.int .u8 c1) ∧ w'.cell? ⟨W.heap.size + 1, 1, none⟩ = some (.int .u8 c2)) := Lib.hid (fun w' hb => by
    obtain ⟨b', off', he, -, -, -, hcl⟩ := (HI0.out.1.below hb).at (by omega)
    cases he
    exact ⟨(HCL.out w' hb).2.1, by rw [hx]; exact hcl k hlt, HCX.out w' hb⟩)
   have hS6 : ∀ j, 0 ≤ (unV r row).getD j 0 ∧ (unV r row).getD j 0 ≤ 6 := fun j => un6 HRW.out.1 j
   have hT6 : ∀ j, 0 ≤ (unV r row2).getD j 0 ∧ (unV r row2).getD j 0 ≤ 6 := fun j => un6 HRW.out.2 j
   obtain ⟨y1, hy1⟩ : ∃ y1, y1 = (unV r row).getD k 0 := ⟨_, rfl⟩
   obtain ⟨y2, hy2⟩ : ∃ y2, y2 = (unV r row2).getD k 0 := ⟨_, rfl⟩
   have hy1b := hS6 k
   have hy2b := hT6 k
   rw [← hy1] at hy1b
   rw [← hy2] at hy2b
   clear hS6 hT6
   have HEND : Hid (∀ w', IB w' g1 (L.set k (y1 + c1 * x + if x = 0 then cl else 0)) → IB w' g2 (M.set k (y2 + c2 * x)) → Below W0.heap.size W0 w' → ShI W0 w' g1 g2 r (unV r row) (unV r row2) c1 c2 cl nr (k + 1) (L.set k (y1 + c1 * x + if x = 0 then cl else 0)) (M.set k (y2 + c2 * x))) := Lib.hid (fun w' h1 h2 h3 => by
    have h := HI.out
    refine ⟨h1, h2, h3, by rw [List.length_set]; exact h.lu, by rw [List.length_set]; exact h.lv, fun j hj => ?_, fun j hj => ?_⟩
    ·rw [set_get _ (by rw [h.lu]; exact hlt)]
     by_cases e : j = k
     ·rw [if_pos e, if_pos (show j < k + 1 by omega)]; unfold nwV; rw [e, ← hx, ← hy1]
     ·rw [if_neg e, h.gu j hj]; by_cases e2 : j < k
      ·rw [if_pos e2, if_pos (show j < k + 1 by omega)]
      ·rw [if_neg e2, if_neg (show ¬ j < k + 1 by omega)]
    ·rw [set_get _ (by rw [h.lv]; exact hlt)]
     by_cases e : j = k
     ·rw [if_pos e, if_pos (show j < k + 1 by omega)]; unfold nwV; rw [e, ← hx, ← hy2]; simp
     ·rw [if_neg e, h.gv j hj]; by_cases e2 : j < k
      ·rw [if_pos e2, if_pos (show j < k + 1 by omega)]
      ·rw [if_neg e2, if_neg (show ¬ j < k + 1 by omega)])
   have hLu := HI.out.lu
   have hLv := HI.out.lv
   have HLK : Hid (L.getD k 0 = 0 ∧ M.getD k 0 = 0) := Lib.hid ⟨by rw [HI.out.gu k hlt, if_neg (by omega)], by rw [HI.out.gv k hlt, if_neg (by omega)]⟩
   have HW1 : Hid (W0.heap.size ≤ g1 ∧ W0.heap.size ≤ g2) := HGG
   have hzb1 : 0 ≤ c1 * x ∧ c1 * x ≤ 765 := ⟨Int.mul_nonneg h1.1 hx3.1, Int.le_trans (Int.mul_le_mul h1.2 hx3.2 hx3.1 (by omega)) (by omega)⟩
   have hzb2 : 0 ≤ c2 * x ∧ c2 * x ≤ 765 := ⟨Int.mul_nonneg h2.1 hx3.1, Int.le_trans (Int.mul_le_mul h2.2 hx3.2 hx3.1 (by omega)) (by omega)⟩
   have HZB := Lib.hid (And.intro hzb1 hzb2)
   have cu := HI.out.u.cell (k := k) (by omega)
   have cv := HI.out.v.cell (k := k) (by omega)
   have fu := HI.out.u.free k
   have fv := HI.out.v.free k
   have lu := HI.out.u.lt
   have lv := HI.out.v.lt
   have HRD : Hid ((ns ≠ 0 → ∃ bs os, so = some ⟨bs, os, none⟩ ∧ ∀ w', Below W0.heap.size W0 w' → w'.cell? ⟨bs, os + k, none⟩ = some (.int .i64 y1)) ∧ (nt ≠ 0 → ∃ bs os, tt = some ⟨bs, os, none⟩ ∧ ∀ w', Below W0.heap.size W0 w' → w'.cell? ⟨bs, os + k, none⟩ = some (.int .i64 y2))) := Lib.hid ⟨fun h0 => by
    have hsz := HI0.out.2.1.size
    have hrl := HNR.out
    obtain ⟨bs, os, e, -, -, -, -⟩ := HI0.out.2.1.at h0
    refine ⟨bs, os, e, fun w' hb => ?_⟩
    obtain ⟨b', off', he, -, -, -, hcl⟩ := (HI0.out.2.1.below hb).at h0
    rw [e] at he
    cases he
    rw [hy1, unV_row (by omega)]
    exact hcl k (by have := HRW.out.1.1; omega), fun h0 => by
    have hsz := HI0.out.2.2.size
    have hrl := HNR.out
    obtain ⟨bs, os, e, -, -, -, -⟩ := HI0.out.2.2.at h0
    refine ⟨bs, os, e, fun w' hb => ?_⟩
    obtain ⟨b', off', he, -, -, -, hcl⟩ := (HI0.out.2.2.below hb).at h0
    rw [e] at he
    cases he
    rw [hy2, unV_row (by omega)]
    exact hcl k (by have := HRW.out.2.1; omega)⟩
   have HYZ : Hid ((ns = 0 → y1 = 0) ∧ (nt = 0 → y2 = 0)) := Lib.hid ⟨fun h0 => by rw [hy1, unV_get0 (by have := HI0.out.2.1.size; omega)], fun h0 => by rw [hy2, unV_get0 (by have := HI0.out.2.2.size; omega)]⟩
   clear hx hy1 hy2 hzb1 hzb2
   by_cases hns : ns = 0
   ·by_cases hnt : nt = 0
    ·have hnsI : ¬ (0 : Int) < (ns : Int) := by omega
     have hntI : ¬ (0 : Int) < (nt : Int) := by omega
     have HXX : Hid (IB w g1 (L.set k y1) ∧ IB w g2 (M.set k y2) ∧ Below W0.heap.size W0 w) := Lib.hid ⟨(by rw [HYZ.out.1 hns, ← HLK.out.1, set_id (by omega)]; exact HI.out.u), (by rw [HYZ.out.2 hnt, ← HLK.out.2, set_id (by omega)]; exact HI.out.v), HI.out.b⟩
     clear hns hnt
     go_wp2
     clear cu cv fu fv lu lv hnsI hntI
     have HI9 := HI
     clear HI
     obtain ⟨wX, hwX⟩ : ∃ wX, wX = w := ⟨_, rfl⟩
     subst hwX
     have hL1 : L.set k y1 = L.set k y1 := rfl
     have cu : wX.drew.cell? ⟨g1, k, none⟩ = some (.int .i64 y1) := by have h := HXX.out.1.cell (k := k) (by rw [List.length_set]; omega); rwa [set_get _ (by omega), if_pos rfl] at h
     have fu : wX.drew.frozen? ⟨g1, k, none⟩ = false := HXX.out.1.free k
     have lu : g1 < wX.drew.heap.size := HXX.out.1.lt
     have hcc := HCK.out _ HXX.out.2.2.drew
     have cd1 := hcc.1
     have cx := hcc.2.1
     have ca := hcc.2.2.1
     obtain ⟨z, hz⟩ : ∃ z, z = c1 * x := ⟨_, rfl⟩
     have wz : IntKind.i64.wrap (c1 * x) = z := by rw [hz]; exact IntWalk.i64_in _ (by have := HZB.out; omega)
     obtain ⟨q1, hq1⟩ : ∃ q1, q1 = y1 + z := ⟨_, rfl⟩
     have wq : IntKind.i64.wrap (y1 + z) = q1 := by rw [hq1]; exact IntWalk.i64_in _ (by have := HZB.out; omega)
     have HYY : Hid (IB (wX.drew.setCell ⟨g1, k, none⟩ (.int .i64 q1)) g1 (L.set k q1) ∧ IB (wX.drew.setCell ⟨g1, k, none⟩ (.int .i64 q1)) g2 (M.set k y2) ∧ Below W0.heap.size W0 (wX.drew.setCell ⟨g1, k, none⟩ (.int .i64 q1))) := Lib.hid ⟨by
      have h := (show IB wX.drew g1 (L.set k y1) from HXX.out.1).set (k := k) q1
      rwa [List.set_set] at h, (show IB wX.drew g2 (M.set k y2) from HXX.out.2.1).other (fun e => hne e.symm), HXX.out.2.2.drew.setCell HGG.out.1 _⟩
     have HQ1 : Hid (q1 = y1 + c1 * x) := Lib.hid (by rw [hq1, hz])
     clear hcc hz hq1 hL1
     refine (wpIn_wide (n := 6)).1 ?_
     refine frame_namedIn ?_
     intro T hT
     obtain ⟨R, hRd⟩ : ∃ R : Array Bool → Act → World → Prop, R = (fun l a w' => ∃ vals, RH stCh T [some 55, some 56, some 57, some 58, some 59, some 60, some 61, some 62, some 63, some 64, some 65, some 66, some 67, some 68, some 69, none] (fun l _ w => ST wX.drew (wX.drew.setCell ⟨g1, k, none⟩ (.int .i64 q1)) 15 l w) (fun i u _ => match i with | 0 => u = .slice (some ⟨g1, 0, none⟩) nr nr | 1 => u = .int .i64 (k : Int) | 2 => u = .pointer (some ⟨g1, k, none⟩) | 3 => u = .int .i64 y1 | 4 => u = .pointer (some ⟨W.heap.size + 1, 0, none⟩) | 5 => u = .int .u8 c1 | 6 => u = .int .i64 c1 | 7 => u = .pointer (some ⟨Bd, 1, none⟩) | 8 => u = .slice (some ⟨b, off, none⟩) nr cr | 9 => u = .int .i64 (k : Int) | 10 => u = .pointer (some ⟨b, off + k, none⟩) | 11 => u = .int .i64 x | 12 => u = .int .i64 z | 13 => u = .int .i64 q1 | 14 => u = .pointer (some ⟨g1, k, none⟩) | _ => True) vals l a w') := ⟨_, rfl⟩
     refine region_inv (by kernel_rfl) R ?h0r2b0 ?stepr2b0 ?finr2b0
     case h0r2b0 => rw [hRd]; exact RH.start rfl (fun i j h => by simp [stCh] at h; simp only [List.length_cons, List.length_nil]; omega) (by exact ⟨fun _ => rfl, fun h => absurd h (by decide)⟩)
     case stepr2b0 =>
      rintro l a w' i' hR0 hi'
      have hR1 := hR0
      rw [hRd] at hR1
      obtain ⟨vals, hR⟩ := hR1
      obtain ⟨hl0, o, ho, hdep⟩ := mem_ready.1 hi'
      have h15 : i' < 16 := by
       have := (Array.getElem?_eq_some_iff.1 ho).1
       simpa using this
      rcases (show i' = 0 ∨ i' = 1 ∨ i' = 2 ∨ i' = 3 ∨ i' = 4 ∨ i' = 5 ∨ i' = 6 ∨ i' = 7 ∨ i' = 8 ∨ i' = 9 ∨ i' = 10 ∨ i' = 11 ∨ i' = 12 ∨ i' = 13 ∨ i' = 14 ∨ i' = 15 by omega) with rfl | rfl | rfl | rfl | rfl | rfl | rfl | rfl | rfl | rfl | rfl | rfl | rfl | rfl | rfl | rfl
      ·simp at ho
       subst ho
       simp [Region.binds] at hdep
       have k0 : a.tmps.getD 11 undef = .slice (some ⟨g1, 0, none⟩) nr nr := (hR.fr.kept rfl (by simp [hT])).trans (by rw [hT]; try rfl)
       have hc : ∀ j, (0, j) ∈ stCh → l.getD j true = true := by intro j hj; simp [stCh] at hj
       clear hi' hdep
       have k0g := gD k0
       unfold wpOpIn; simp [Region.wanted]; unfold Oper.wpIn
       simp [Oper.about, execOp, go_sem, Act.eval, k0, k0g]
       rw [hRd]
       exact hR.op 0 55 _ rfl (by decide) hl0 hc (ST.const hR.wd (by decide)) (fun _ _ h => h) (rfl)
      ·simp at ho
       subst ho
       simp [Region.binds] at hdep
       have k0 : a.tmps.getD 13 undef = .int .i64 (k : Int) := (hR.fr.kept rfl (by simp [hT])).trans (by rw [hT]; try rfl)
       have hc : ∀ j, (1, j) ∈ stCh → l.getD j true = true := by intro j hj; simp [stCh] at hj
       clear hi' hdep
       have k0g := gD k0
       unfold wpOpIn; simp [Region.wanted]; unfold Oper.wpIn
       simp [Oper.about, execOp, go_sem, Act.eval, k0, k0g]
       rw [hRd]
       exact hR.op 1 56 _ rfl (by decide) hl0 hc (ST.const hR.wd (by decide)) (fun _ _ h => h) (rfl)
      ·simp at ho
       subst ho
       simp [Region.binds] at hdep
       have d0 : l.getD 0 true = true := getD_true (by simp_all)
       have k0 : a.tmps.getD 55 undef = vals 0 := hR.get rfl (by simp_all) (by simp [hT])
       have e0 : vals 0 = .slice (some ⟨g1, 0, none⟩) nr nr := hR.vl 0 (by decide) d0
       rw [e0] at k0
       have d1 : l.getD 1 true = true := getD_true (by simp_all)
       have k1 : a.tmps.getD 56 undef = vals 1 := hR.get rfl (by simp_all) (by simp [hT])
       have e1 : vals 1 = .int .i64 (k : Int) := hR.vl 1 (by decide) d1
       rw [e1] at k1
       have hc : ∀ j, (2, j) ∈ stCh → l.getD j true = true := by intro j hj; simp [stCh] at hj; rcases hj with rfl | rfl <;> exact getD_true (by simp_all)
       clear hi' hdep
       have k0g := gD k0
       have k1g := gD k1
       unfold wpOpIn; simp [Region.wanted]; unfold Oper.wpIn
       simp [Oper.about, execOp, go_sem, Act.eval, k0, k1, k0g, k1g, hltI]
       rw [hRd]
       exact hR.op 2 57 _ rfl (by decide) hl0 hc (ST.const hR.wd (by decide)) (fun _ _ h => h) (rfl)
      ·simp at ho
       subst ho
       simp [Region.binds] at hdep
       have d0 : l.getD 2 true = true := getD_true (by simp_all)
       have k0 : a.tmps.getD 57 undef = vals 2 := hR.get rfl (by simp_all) (by simp [hT])
       have e0 : vals 2 = .pointer (some ⟨g1, k, none⟩) := hR.vl 2 (by decide) d0
       rw [e0] at k0
       have hc : ∀ j, (3, j) ∈ stCh → l.getD j true = true := by intro j hj; simp [stCh] at hj; rcases hj with rfl <;> exact getD_true (by simp_all)
       have n15 := hR.no (s := 15) hl0 (fun hs => (hR.dep 15 3 (by decide) hs))
       clear hi' hdep
       have hw := hR.wd.a n15
       subst hw
       have k0g := gD k0
       unfold wpOpIn; simp [Region.wanted]; unfold Oper.wpIn
       simp [Oper.about, execOp, go_sem, Act.eval, k0, k0g, cu]
       rw [hRd]
       exact hR.op 3 58 _ rfl (by decide) hl0 hc (ST.const hR.wd (by decide)) (fun _ _ h => h) (rfl)
      ·simp at ho
       subst ho
       simp [Region.binds] at hdep
       have k0 : a.tmps.getD 4 undef = .pointer (some ⟨W.heap.size + 1, 0, none⟩) := (hR.fr.kept rfl (by simp [hT])).trans (by rw [hT]; try rfl)
       have hc : ∀ j, (4, j) ∈ stCh → l.getD j true = true := by intro j hj; simp [stCh] at hj
       clear hi' hdep
       have k0g := gD k0
       unfold wpOpIn; simp [Region.wanted]; unfold Oper.wpIn
       simp [Oper.about, execOp, go_sem, Act.eval, k0, k0g]
       rw [hRd]
       exact hR.op 4 59 _ rfl (by decide) hl0 hc (ST.const hR.wd (by decide)) (fun _ _ h => h) (rfl)
      ·simp at ho
       subst ho
       simp [Region.binds] at hdep
       have d0 : l.getD 4 true = true := getD_true (by simp_all)
       have k0 : a.tmps.getD 59 undef = vals 4 := hR.get rfl (by simp_all) (by simp [hT])
       have e0 : vals 4 = .pointer (some ⟨W.heap.size + 1, 0, none⟩) := hR.vl 4 (by decide) d0
       rw [e0] at k0
       have hc : ∀ j, (5, j) ∈ stCh → l.getD j true = true := by intro j hj; simp [stCh] at hj; rcases hj with rfl <;> exact getD_true (by simp_all)
       have n15 := hR.no (s := 15) hl0 (fun hs => (hR.dep 15 5 (by decide) hs))
       clear hi' hdep
       have hw := hR.wd.a n15
       subst hw
       have k0g := gD k0
       unfold wpOpIn; simp [Region.wanted]; unfold Oper.wpIn
       simp [Oper.about, execOp, go_sem, Act.eval, k0, k0g, ca]
       rw [hRd]
       exact hR.op 5 60 _ rfl (by decide) hl0 hc (ST.const hR.wd (by decide)) (fun _ _ h => h) (rfl)
      ·simp at ho
       subst ho
       simp [Region.binds] at hdep
       have d0 : l.getD 5 true = true := getD_true (by simp_all)
       have k0 : a.tmps.getD 60 undef = vals 5 := hR.get rfl (by simp_all) (by simp [hT])
       have e0 : vals 5 = .int .u8 c1 := hR.vl 5 (by decide) d0
       rw [e0] at k0
       have hc : ∀ j, (6, j) ∈ stCh → l.getD j true = true := by intro j hj; simp [stCh] at hj; rcases hj with rfl <;> exact getD_true (by simp_all)
       clear hi' hdep
       have k0g := gD k0
       unfold wpOpIn; simp [Region.wanted]; unfold Oper.wpIn
       simp [Oper.about, execOp, go_sem, Act.eval, k0, k0g, wc1, wc2]
       rw [hRd]
       exact hR.op 6 61 _ rfl (by decide) hl0 hc (ST.const hR.wd (by decide)) (fun _ _ h => h) (rfl)
      ·simp at ho
       subst ho
       simp [Region.binds] at hdep
       have k0 : a.tmps.getD 8 undef = .pointer (some ⟨Bd, 0, none⟩) := (hR.fr.kept rfl (by simp [hT])).trans (by rw [hT]; try rfl)
       have hc : ∀ j, (7, j) ∈ stCh → l.getD j true = true := by intro j hj; simp [stCh] at hj
       clear hi' hdep
       have k0g := gD k0
       unfold wpOpIn; simp [Region.wanted]; unfold Oper.wpIn
       simp [Oper.about, execOp, go_sem, Act.eval, k0, k0g]
       rw [hRd]
       exact hR.op 7 62 _ rfl (by decide) hl0 hc (ST.const hR.wd (by decide)) (fun _ _ h => h) (rfl)
      ·simp at ho
       subst ho
       simp [Region.binds] at hdep
       have d0 : l.getD 7 true = true := getD_true (by simp_all)
       have k0 : a.tmps.getD 62 undef = vals 7 := hR.get rfl (by simp_all) (by simp [hT])
       have e0 : vals 7 = .pointer (some ⟨Bd, 1, none⟩) := hR.vl 7 (by decide) d0
       rw [e0] at k0
       have hc : ∀ j, (8, j) ∈ stCh → l.getD j true = true := by intro j hj; simp [stCh] at hj; rcases hj with rfl <;> exact getD_true (by simp_all)
       have n15 := hR.no (s := 15) hl0 (fun hs => (hR.dep 15 8 (by decide) hs))
       clear hi' hdep
       have hw := hR.wd.a n15
       subst hw
       have k0g := gD k0
       unfold wpOpIn; simp [Region.wanted]; unfold Oper.wpIn
       simp [Oper.about, execOp, go_sem, Act.eval, k0, k0g, cd1]
       rw [hRd]
       exact hR.op 8 63 _ rfl (by decide) hl0 hc (ST.const hR.wd (by decide)) (fun _ _ h => h) (rfl)
      ·simp at ho
       subst ho
       simp [Region.binds] at hdep
       have k0 : a.tmps.getD 13 undef = .int .i64 (k : Int) := (hR.fr.kept rfl (by simp [hT])).trans (by rw [hT]; try rfl)
       have hc : ∀ j, (9, j) ∈ stCh → l.getD j true = true := by intro j hj; simp [stCh] at hj
       clear hi' hdep
       have k0g := gD k0
       unfold wpOpIn; simp [Region.wanted]; unfold Oper.wpIn
       simp [Oper.about, execOp, go_sem, Act.eval, k0, k0g]
       rw [hRd]
       exact hR.op 9 64 _ rfl (by decide) hl0 hc (ST.const hR.wd (by decide)) (fun _ _ h => h) (rfl)
      ·simp at ho
       subst ho
       simp [Region.binds] at hdep
       have d0 : l.getD 8 true = true := getD_true (by simp_all)
       have k0 : a.tmps.getD 63 undef = vals 8 := hR.get rfl (by simp_all) (by simp [hT])
       have e0 : vals 8 = .slice (some ⟨b, off, none⟩) nr cr := hR.vl 8 (by decide) d0
       rw [e0] at k0
       have d1 : l.getD 9 true = true := getD_true (by simp_all)
       have k1 : a.tmps.getD 64 undef = vals 9 := hR.get rfl (by simp_all) (by simp [hT])
       have e1 : vals 9 = .int .i64 (k : Int) := hR.vl 9 (by decide) d1
       rw [e1] at k1
       have hc : ∀ j, (10, j) ∈ stCh → l.getD j true = true := by intro j hj; simp [stCh] at hj; rcases hj with rfl | rfl <;> exact getD_true (by simp_all)
       clear hi' hdep
       have k0g := gD k0
       have k1g := gD k1
       unfold wpOpIn; simp [Region.wanted]; unfold Oper.wpIn
       simp [Oper.about, execOp, go_sem, Act.eval, k0, k1, k0g, k1g, hltI]
       rw [hRd]
       exact hR.op 10 65 _ rfl (by decide) hl0 hc (ST.const hR.wd (by decide)) (fun _ _ h => h) (rfl)
      ·simp at ho
       subst ho
       simp [Region.binds] at hdep
       have d0 : l.getD 10 true = true := getD_true (by simp_all)
       have k0 : a.tmps.getD 65 undef = vals 10 := hR.get rfl (by simp_all) (by simp [hT])
       have e0 : vals 10 = .pointer (some ⟨b, off + k, none⟩) := hR.vl 10 (by decide) d0
       rw [e0] at k0
       have hc : ∀ j, (11, j) ∈ stCh → l.getD j true = true := by intro j hj; simp [stCh] at hj; rcases hj with rfl <;> exact getD_true (by simp_all)
       have n15 := hR.no (s := 15) hl0 (fun hs => (hR.dep 15 11 (by decide) hs))
       clear hi' hdep
       have hw := hR.wd.a n15
       subst hw
       have k0g := gD k0
       unfold wpOpIn; simp [Region.wanted]; unfold Oper.wpIn
       simp [Oper.about, execOp, go_sem, Act.eval, k0, k0g, cx]
       rw [hRd]
       exact hR.op 11 66 _ rfl (by decide) hl0 hc (ST.const hR.wd (by decide)) (fun _ _ h => h) (rfl)
      ·simp at ho
       subst ho
       simp [Region.binds] at hdep
       have d0 : l.getD 6 true = true := getD_true (by simp_all)
       have k0 : a.tmps.getD 61 undef = vals 6 := hR.get rfl (by simp_all) (by simp [hT])
       have e0 : vals 6 = .int .i64 c1 := hR.vl 6 (by decide) d0
       rw [e0] at k0
       have d1 : l.getD 11 true = true := getD_true (by simp_all)
       have k1 : a.tmps.getD 66 undef = vals 11 := hR.get rfl (by simp_all) (by simp [hT])
       have e1 : vals 11 = .int .i64 x := hR.vl 11 (by decide) d1
       rw [e1] at k1
       have hc : ∀ j, (12, j) ∈ stCh → l.getD j true = true := by intro j hj; simp [stCh] at hj; rcases hj with rfl | rfl <;> exact getD_true (by simp_all)
       clear hi' hdep
       have k0g := gD k0
       have k1g := gD k1
       unfold wpOpIn; simp [Region.wanted]; unfold Oper.wpIn
       simp [Oper.about, execOp, go_sem, Act.eval, k0, k1, k0g, k1g, wz]
       rw [hRd]
       exact hR.op 12 67 _ rfl (by decide) hl0 hc (ST.const hR.wd (by decide)) (fun _ _ h => h) (rfl)
      ·simp at ho
       subst ho
       simp [Region.binds] at hdep
       have d0 : l.getD 3 true = true := getD_true (by simp_all)
       have k0 : a.tmps.getD 58 undef = vals 3 := hR.get rfl (by simp_all) (by simp [hT])
       have e0 : vals 3 = .int .i64 y1 := hR.vl 3 (by decide) d0
       rw [e0] at k0
       have d1 : l.getD 12 true = true := getD_true (by simp_all)
       have k1 : a.tmps.getD 67 undef = vals 12 := hR.get rfl (by simp_all) (by simp [hT])
       have e1 : vals 12 = .int .i64 z := hR.vl 12 (by decide) d1
       rw [e1] at k1
       have hc : ∀ j, (13, j) ∈ stCh → l.getD j true = true := by intro j hj; simp [stCh] at hj; rcases hj with rfl | rfl <;> exact getD_true (by simp_all)
       clear hi' hdep
       have k0g := gD k0
       have k1g := gD k1
       unfold wpOpIn; simp [Region.wanted]; unfold Oper.wpIn
       simp [Oper.about, execOp, go_sem, Act.eval, k0, k1, k0g, k1g, wq]
       rw [hRd]
       exact hR.op 13 68 _ rfl (by decide) hl0 hc (ST.const hR.wd (by decide)) (fun _ _ h => h) (rfl)
      ·simp at ho
       subst ho
       simp [Region.binds] at hdep
       have d0 : l.getD 0 true = true := getD_true (by simp_all)
       have k0 : a.tmps.getD 55 undef = vals 0 := hR.get rfl (by simp_all) (by simp [hT])
       have e0 : vals 0 = .slice (some ⟨g1, 0, none⟩) nr nr := hR.vl 0 (by decide) d0
       rw [e0] at k0
       have d1 : l.getD 1 true = true := getD_true (by simp_all)
       have k1 : a.tmps.getD 56 undef = vals 1 := hR.get rfl (by simp_all) (by simp [hT])
       have e1 : vals 1 = .int .i64 (k : Int) := hR.vl 1 (by decide) d1
       rw [e1] at k1
       have hc : ∀ j, (14, j) ∈ stCh → l.getD j true = true := by intro j hj; simp [stCh] at hj; rcases hj with rfl | rfl <;> exact getD_true (by simp_all)
       clear hi' hdep
       have k0g := gD k0
       have k1g := gD k1
       unfold wpOpIn; simp [Region.wanted]; unfold Oper.wpIn
       simp [Oper.about, execOp, go_sem, Act.eval, k0, k1, k0g, k1g, hltI]
       rw [hRd]
       exact hR.op 14 69 _ rfl (by decide) hl0 hc (ST.const hR.wd (by decide)) (fun _ _ h => h) (rfl)
      ·simp at ho
       subst ho
       simp [Region.binds] at hdep
       have d0 : l.getD 14 true = true := getD_true (by simp_all)
       have k0 : a.tmps.getD 69 undef = vals 14 := hR.get rfl (by simp_all) (by simp [hT])
       have e0 : vals 14 = .pointer (some ⟨g1, k, none⟩) := hR.vl 14 (by decide) d0
       rw [e0] at k0
       have d1 : l.getD 13 true = true := getD_true (by simp_all)
       have k1 : a.tmps.getD 68 undef = vals 13 := hR.get rfl (by simp_all) (by simp [hT])
       have e1 : vals 13 = .int .i64 q1 := hR.vl 13 (by decide) d1
       rw [e1] at k1
       have hc : ∀ j, (15, j) ∈ stCh → l.getD j true = true := by intro j hj; simp [stCh] at hj; rcases hj with rfl | rfl | rfl | rfl | rfl | rfl <;> exact getD_true (by simp_all)
       clear hi' hdep
       have hw := hR.wd.a hl0
       subst hw
       have k0g := gD k0
       have k1g := gD k1
       unfold wpOpIn; simp [Region.wanted]; unfold Oper.wpIn
       simp [Oper.about, execOp, go_sem, Act.eval, k0, k1, k0g, k1g, cu, fu, lu]
       rw [hRd]
       exact hR.bare 15 undef rfl hl0 hc (ST.done) (fun _ _ h => h) (fun _ => trivial)
     case' finr2b0 =>
      rintro l a w' hR0 hz
      rw [hRd] at hR0
      obtain ⟨vals, hR⟩ := hR0
      clear hRd R
      have hnot := List.eq_nil_iff_forall_not_mem.1 hz
      have hk : ∀ k, k < 16 → (l.getD k true = false → False) → l.getD k false = true := fun k h12 h => by
       have hs := hR.size
       cases h' : l.getD k true with
       | false => exact (h h').elim
       | true => simp at hs; simp [Array.getD, hs, h12] at h' ⊢; exact h'
      have st0 := hk 0 (by omega) (fun h => hnot 0 (mem_ready.2 ⟨h, _, rfl, by simp [Region.binds]⟩))
      have st1 := hk 1 (by omega) (fun h => hnot 1 (mem_ready.2 ⟨h, _, rfl, by simp [Region.binds]⟩))
      have st2 := hk 2 (by omega) (fun h => hnot 2 (mem_ready.2 ⟨h, _, rfl, by simp [Region.binds] <;> simp_all⟩))
      have st3 := hk 3 (by omega) (fun h => hnot 3 (mem_ready.2 ⟨h, _, rfl, by simp [Region.binds] <;> simp_all⟩))
      have st4 := hk 4 (by omega) (fun h => hnot 4 (mem_ready.2 ⟨h, _, rfl, by simp [Region.binds]⟩))
      have st5 := hk 5 (by omega) (fun h => hnot 5 (mem_ready.2 ⟨h, _, rfl, by simp [Region.binds] <;> simp_all⟩))
      have st6 := hk 6 (by omega) (fun h => hnot 6 (mem_ready.2 ⟨h, _, rfl, by simp [Region.binds] <;> simp_all⟩))
      have st7 := hk 7 (by omega) (fun h => hnot 7 (mem_ready.2 ⟨h, _, rfl, by simp [Region.binds]⟩))
      have st8 := hk 8 (by omega) (fun h => hnot 8 (mem_ready.2 ⟨h, _, rfl, by simp [Region.binds] <;> simp_all⟩))
      have st9 := hk 9 (by omega) (fun h => hnot 9 (mem_ready.2 ⟨h, _, rfl, by simp [Region.binds]⟩))
      have st10 := hk 10 (by omega) (fun h => hnot 10 (mem_ready.2 ⟨h, _, rfl, by simp [Region.binds] <;> simp_all⟩))
      have st11 := hk 11 (by omega) (fun h => hnot 11 (mem_ready.2 ⟨h, _, rfl, by simp [Region.binds] <;> simp_all⟩))
      have st12 := hk 12 (by omega) (fun h => hnot 12 (mem_ready.2 ⟨h, _, rfl, by simp [Region.binds] <;> simp_all⟩))
      have st13 := hk 13 (by omega) (fun h => hnot 13 (mem_ready.2 ⟨h, _, rfl, by simp [Region.binds] <;> simp_all⟩))
      have st14 := hk 14 (by omega) (fun h => hnot 14 (mem_ready.2 ⟨h, _, rfl, by simp [Region.binds] <;> simp_all⟩))
      have st15 := hk 15 (by omega) (fun h => hnot 15 (mem_ready.2 ⟨h, _, rfl, by simp [Region.binds] <;> simp_all⟩))
      have hall : ∀ i, i < 16 → l.getD i true = true := fun i hi => by
       rcases (show i = 0 ∨ i = 1 ∨ i = 2 ∨ i = 3 ∨ i = 4 ∨ i = 5 ∨ i = 6 ∨ i = 7 ∨ i = 8 ∨ i = 9 ∨ i = 10 ∨ i = 11 ∨ i = 12 ∨ i = 13 ∨ i = 14 ∨ i = 15 by omega) with rfl | rfl | rfl | rfl | rfl | rfl | rfl | rfl | rfl | rfl | rfl | rfl | rfl | rfl | rfl | rfl
       ·exact getD_true st0
       ·exact getD_true st1
       ·exact getD_true st2
       ·exact getD_true st3
       ·exact getD_true st4
       ·exact getD_true st5
       ·exact getD_true st6
       ·exact getD_true st7
       ·exact getD_true st8
       ·exact getD_true st9
       ·exact getD_true st10
       ·exact getD_true st11
       ·exact getD_true st12
       ·exact getD_true st13
       ·exact getD_true st14
       ·exact getD_true st15
      clear st0 st1 st2 st3 st4 st5 st6 st7 st8 st9 st10 st11 st12 st13 st14 st15 hk hnot hz
      have hTs : T.size = 141 := by rw [hT]; rfl
      have ha := hR.all (T' := (((((((((((((((T.setIfInBounds 55 (vals 0)).setIfInBounds 56 (vals 1)).setIfInBounds 57 (vals 2)).setIfInBounds 58 (vals 3)).setIfInBounds 59 (vals 4)).setIfInBounds 60 (vals 5)).setIfInBounds 61 (vals 6)).setIfInBounds 62 (vals 7)).setIfInBounds 63 (vals 8)).setIfInBounds 64 (vals 9)).setIfInBounds 65 (vals 10)).setIfInBounds 66 (vals 11)).setIfInBounds 67 (vals 12)).setIfInBounds 68 (vals 13)).setIfInBounds 69 (vals 14))) (fun i hi => hall i (by simpa using hi)) (by simp) (fun j hj => by
       by_cases h1 : j = 55 ∨ j = 56 ∨ j = 57 ∨ j = 58 ∨ j = 59 ∨ j = 60 ∨ j = 61 ∨ j = 62 ∨ j = 63 ∨ j = 64 ∨ j = 65 ∨ j = 66 ∨ j = 67 ∨ j = 68 ∨ j = 69
       ·rcases h1 with rfl | rfl | rfl | rfl | rfl | rfl | rfl | rfl | rfl | rfl | rfl | rfl | rfl | rfl | rfl <;> simp [rv_sets, tOwn, List.findIdx?, List.findIdx?.go, hTs]
       ·simp only [not_or] at h1
        obtain ⟨m55, m56, m57, m58, m59, m60, m61, m62, m63, m64, m65, m66, m67, m68, m69⟩ := h1
        have e : tOwn [some 55, some 56, some 57, some 58, some 59, some 60, some 61, some 62, some 63, some 64, some 65, some 66, some 67, some 68, some 69, none] vals j = none := by
         unfold tOwn
         simp [List.findIdx?, List.findIdx?.go, Ne.symm m55, Ne.symm m56, Ne.symm m57, Ne.symm m58, Ne.symm m59, Ne.symm m60, Ne.symm m61, Ne.symm m62, Ne.symm m63, Ne.symm m64, Ne.symm m65, Ne.symm m66, Ne.symm m67, Ne.symm m68, Ne.symm m69]
        rw [e]
        simp only [rv_sets]
        repeat rw [if_neg (by omega)])
      have v0 : vals 0 = .slice (some ⟨g1, 0, none⟩) nr nr := hR.vl 0 (by decide) (hall 0 (by decide))
      have v1 : vals 1 = .int .i64 (k : Int) := hR.vl 1 (by decide) (hall 1 (by decide))
      have v2 : vals 2 = .pointer (some ⟨g1, k, none⟩) := hR.vl 2 (by decide) (hall 2 (by decide))
      have v3 : vals 3 = .int .i64 y1 := hR.vl 3 (by decide) (hall 3 (by decide))
      have v4 : vals 4 = .pointer (some ⟨W.heap.size + 1, 0, none⟩) := hR.vl 4 (by decide) (hall 4 (by decide))
      have v5 : vals 5 = .int .u8 c1 := hR.vl 5 (by decide) (hall 5 (by decide))
      have v6 : vals 6 = .int .i64 c1 := hR.vl 6 (by decide) (hall 6 (by decide))
      have v7 : vals 7 = .pointer (some ⟨Bd, 1, none⟩) := hR.vl 7 (by decide) (hall 7 (by decide))
      have v8 : vals 8 = .slice (some ⟨b, off, none⟩) nr cr := hR.vl 8 (by decide) (hall 8 (by decide))
      have v9 : vals 9 = .int .i64 (k : Int) := hR.vl 9 (by decide) (hall 9 (by decide))
      have v10 : vals 10 = .pointer (some ⟨b, off + k, none⟩) := hR.vl 10 (by decide) (hall 10 (by decide))
      have v11 : vals 11 = .int .i64 x := hR.vl 11 (by decide) (hall 11 (by decide))
      have v12 : vals 12 = .int .i64 z := hR.vl 12 (by decide) (hall 12 (by decide))
      have v13 : vals 13 = .int .i64 q1 := hR.vl 13 (by decide) (hall 13 (by decide))
      have v14 : vals 14 = .pointer (some ⟨g1, k, none⟩) := hR.vl 14 (by decide) (hall 14 (by decide))
      have hw := hR.wd.b (hall 15 (by decide))
      subst hw
      subst ha
      clear hR hall hTs
      rw [v0, v1, v2, v3, v4, v5, v6, v7, v8, v9, v10, v11, v12, v13, v14, hT]
      simp only [List.setIfInBounds_toArray, List.set_cons_succ, List.set_cons_zero]
      clear v0 v1 v2 v3 v4 v5 v6 v7 v8 v9 v10 v11 v12 v13 v14 hT T
     clear cu fu lu cd1 cx ca wz wq
     generalize wX.drew.setCell ⟨g1, k, none⟩ (.int .i64 q1) = wY at HYY ⊢
     go_wp2
     have cu : wY.drew.cell? ⟨g2, k, none⟩ = some (.int .i64 y2) := by have h := HYY.out.2.1.cell (k := k) (by rw [List.length_set]; omega); rwa [set_get _ (by omega), if_pos rfl] at h
     have fu : wY.drew.frozen? ⟨g2, k, none⟩ = false := HYY.out.2.1.free k
     have lu : g2 < wY.drew.heap.size := HYY.out.2.1.lt
     have hcc := HCK.out _ HYY.out.2.2.drew
     have cd1 := hcc.1
     have cx := hcc.2.1
     have ca := hcc.2.2.2
     obtain ⟨z2, hz⟩ : ∃ z, z = c2 * x := ⟨_, rfl⟩
     have wz : IntKind.i64.wrap (c2 * x) = z2 := by rw [hz]; exact IntWalk.i64_in _ (by have := HZB.out; omega)
     obtain ⟨q2, hq2⟩ : ∃ q2, q2 = y2 + z2 := ⟨_, rfl⟩
     have wq : IntKind.i64.wrap (y2 + z2) = q2 := by rw [hq2]; exact IntWalk.i64_in _ (by have := HZB.out; omega)
     have HZZ : Hid (IB (wY.drew.setCell ⟨g2, k, none⟩ (.int .i64 q2)) g1 (L.set k q1) ∧ IB (wY.drew.setCell ⟨g2, k, none⟩ (.int .i64 q2)) g2 (M.set k q2) ∧ Below W0.heap.size W0 (wY.drew.setCell ⟨g2, k, none⟩ (.int .i64 q2))) := Lib.hid ⟨(show IB wY.drew g1 (L.set k q1) from HYY.out.1).other hne, by
      have h := (show IB wY.drew g2 (M.set k y2) from HYY.out.2.1).set (k := k) q2
      rwa [List.set_set] at h, HYY.out.2.2.drew.setCell HGG.out.2 _⟩
     have HQ2 : Hid (q2 = y2 + c2 * x) := Lib.hid (by rw [hq2, hz])
     clear hcc hz hq2
     refine (wpIn_wide (n := 6)).1 ?_
     refine frame_namedIn ?_
     intro T hT
     obtain ⟨R, hRd⟩ : ∃ R : Array Bool → Act → World → Prop, R = (fun l a w' => ∃ vals, RH stCh T [some 70, some 71, some 72, some 73, some 74, some 75, some 76, some 77, some 78, some 79, some 80, some 81, some 82, some 83, some 84, none] (fun l _ w => ST wY.drew (wY.drew.setCell ⟨g2, k, none⟩ (.int .i64 q2)) 15 l w) (fun i u _ => match i with | 0 => u = .slice (some ⟨g2, 0, none⟩) nr nr | 1 => u = .int .i64 (k : Int) | 2 => u = .pointer (some ⟨g2, k, none⟩) | 3 => u = .int .i64 y2 | 4 => u = .pointer (some ⟨W.heap.size + 1, 1, none⟩) | 5 => u = .int .u8 c2 | 6 => u = .int .i64 c2 | 7 => u = .pointer (some ⟨Bd, 1, none⟩) | 8 => u = .slice (some ⟨b, off, none⟩) nr cr | 9 => u = .int .i64 (k : Int) | 10 => u = .pointer (some ⟨b, off + k, none⟩) | 11 => u = .int .i64 x | 12 => u = .int .i64 z2 | 13 => u = .int .i64 q2 | 14 => u = .pointer (some ⟨g2, k, none⟩) | _ => True) vals l a w') := ⟨_, rfl⟩
     refine region_inv (by kernel_rfl) R ?h0r3b0 ?stepr3b0 ?finr3b0
     case h0r3b0 => rw [hRd]; exact RH.start rfl (fun i j h => by simp [stCh] at h; simp only [List.length_cons, List.length_nil]; omega) (by exact ⟨fun _ => rfl, fun h => absurd h (by decide)⟩)
     case stepr3b0 =>
      rintro l a w' i' hR0 hi'
      have hR1 := hR0
      rw [hRd] at hR1
      obtain ⟨vals, hR⟩ := hR1
      obtain ⟨hl0, o, ho, hdep⟩ := mem_ready.1 hi'
      have h15 : i' < 16 := by
       have := (Array.getElem?_eq_some_iff.1 ho).1
       simpa using this
      rcases (show i' = 0 ∨ i' = 1 ∨ i' = 2 ∨ i' = 3 ∨ i' = 4 ∨ i' = 5 ∨ i' = 6 ∨ i' = 7 ∨ i' = 8 ∨ i' = 9 ∨ i' = 10 ∨ i' = 11 ∨ i' = 12 ∨ i' = 13 ∨ i' = 14 ∨ i' = 15 by omega) with rfl | rfl | rfl | rfl | rfl | rfl | rfl | rfl | rfl | rfl | rfl | rfl | rfl | rfl | rfl | rfl
      ·simp at ho
       subst ho
       simp [Region.binds] at hdep
       have k0 : a.tmps.getD 12 undef = .slice (some ⟨g2, 0, none⟩) nr nr := (hR.fr.kept rfl (by simp [hT])).trans (by rw [hT]; try rfl)
       have hc : ∀ j, (0, j) ∈ stCh → l.getD j true = true := by intro j hj; simp [stCh] at hj
       clear hi' hdep
       have k0g := gD k0
       unfold wpOpIn; simp [Region.wanted]; unfold Oper.wpIn
       simp [Oper.about, execOp, go_sem, Act.eval, k0, k0g]
       rw [hRd]
       exact hR.op 0 70 _ rfl (by decide) hl0 hc (ST.const hR.wd (by decide)) (fun _ _ h => h) (rfl)
      ·simp at ho
       subst ho
       simp [Region.binds] at hdep
       have k0 : a.tmps.getD 13 undef = .int .i64 (k : Int) := (hR.fr.kept rfl (by simp [hT])).trans (by rw [hT]; try rfl)
       have hc : ∀ j, (1, j) ∈ stCh → l.getD j true = true := by intro j hj; simp [stCh] at hj
       clear hi' hdep
       have k0g := gD k0
       unfold wpOpIn; simp [Region.wanted]; unfold Oper.wpIn
       simp [Oper.about, execOp, go_sem, Act.eval, k0, k0g]
       rw [hRd]
       exact hR.op 1 71 _ rfl (by decide) hl0 hc (ST.const hR.wd (by decide)) (fun _ _ h => h) (rfl)
      ·simp at ho
       subst ho
       simp [Region.binds] at hdep
       have d0 : l.getD 0 true = true := getD_true (by simp_all)
       have k0 : a.tmps.getD 70 undef = vals 0 := hR.get rfl (by simp_all) (by simp [hT])
       have e0 : vals 0 = .slice (some ⟨g2, 0, none⟩) nr nr := hR.vl 0 (by decide) d0
       rw [e0] at k0
       have d1 : l.getD 1 true = true := getD_true (by simp_all)
       have k1 : a.tmps.getD 71 undef = vals 1 := hR.get rfl (by simp_all) (by simp [hT])
       have e1 : vals 1 = .int .i64 (k : Int) := hR.vl 1 (by decide) d1
       rw [e1] at k1
       have hc : ∀ j, (2, j) ∈ stCh → l.getD j true = true := by intro j hj; simp [stCh] at hj; rcases hj with rfl | rfl <;> exact getD_true (by simp_all)
       clear hi' hdep
       have k0g := gD k0
       have k1g := gD k1
       unfold wpOpIn; simp [Region.wanted]; unfold Oper.wpIn
       simp [Oper.about, execOp, go_sem, Act.eval, k0, k1, k0g, k1g, hltI]
       rw [hRd]
       exact hR.op 2 72 _ rfl (by decide) hl0 hc (ST.const hR.wd (by decide)) (fun _ _ h => h) (rfl)
      ·simp at ho
       subst ho
       simp [Region.binds] at hdep
       have d0 : l.getD 2 true = true := getD_true (by simp_all)
       have k0 : a.tmps.getD 72 undef = vals 2 := hR.get rfl (by simp_all) (by simp [hT])
       have e0 : vals 2 = .pointer (some ⟨g2, k, none⟩) := hR.vl 2 (by decide) d0
       rw [e0] at k0
       have hc : ∀ j, (3, j) ∈ stCh → l.getD j true = true := by intro j hj; simp [stCh] at hj; rcases hj with rfl <;> exact getD_true (by simp_all)
       have n15 := hR.no (s := 15) hl0 (fun hs => (hR.dep 15 3 (by decide) hs))
       clear hi' hdep
       have hw := hR.wd.a n15
       subst hw
       have k0g := gD k0
       unfold wpOpIn; simp [Region.wanted]; unfold Oper.wpIn
       simp [Oper.about, execOp, go_sem, Act.eval, k0, k0g, cu]
       rw [hRd]
       exact hR.op 3 73 _ rfl (by decide) hl0 hc (ST.const hR.wd (by decide)) (fun _ _ h => h) (rfl)
      ·simp at ho
       subst ho
       simp [Region.binds] at hdep
       have k0 : a.tmps.getD 4 undef = .pointer (some ⟨W.heap.size + 1, 0, none⟩) := (hR.fr.kept rfl (by simp [hT])).trans (by rw [hT]; try rfl)
       have hc : ∀ j, (4, j) ∈ stCh → l.getD j true = true := by intro j hj; simp [stCh] at hj
       clear hi' hdep
       have k0g := gD k0
       unfold wpOpIn; simp [Region.wanted]; unfold Oper.wpIn
       simp [Oper.about, execOp, go_sem, Act.eval, k0, k0g]
       rw [hRd]
       exact hR.op 4 74 _ rfl (by decide) hl0 hc (ST.const hR.wd (by decide)) (fun _ _ h => h) (rfl)
      ·simp at ho
       subst ho
       simp [Region.binds] at hdep
       have d0 : l.getD 4 true = true := getD_true (by simp_all)
       have k0 : a.tmps.getD 74 undef = vals 4 := hR.get rfl (by simp_all) (by simp [hT])
       have e0 : vals 4 = .pointer (some ⟨W.heap.size + 1, 1, none⟩) := hR.vl 4 (by decide) d0
       rw [e0] at k0
       have hc : ∀ j, (5, j) ∈ stCh → l.getD j true = true := by intro j hj; simp [stCh] at hj; rcases hj with rfl <;> exact getD_true (by simp_all)
       have n15 := hR.no (s := 15) hl0 (fun hs => (hR.dep 15 5 (by decide) hs))
       clear hi' hdep
       have hw := hR.wd.a n15
       subst hw
       have k0g := gD k0
       unfold wpOpIn; simp [Region.wanted]; unfold Oper.wpIn
       simp [Oper.about, execOp, go_sem, Act.eval, k0, k0g, ca]
       rw [hRd]
       exact hR.op 5 75 _ rfl (by decide) hl0 hc (ST.const hR.wd (by decide)) (fun _ _ h => h) (rfl)
      ·simp at ho
       subst ho
       simp [Region.binds] at hdep
       have d0 : l.getD 5 true = true := getD_true (by simp_all)
       have k0 : a.tmps.getD 75 undef = vals 5 := hR.get rfl (by simp_all) (by simp [hT])
       have e0 : vals 5 = .int .u8 c2 := hR.vl 5 (by decide) d0
       rw [e0] at k0
       have hc : ∀ j, (6, j) ∈ stCh → l.getD j true = true := by intro j hj; simp [stCh] at hj; rcases hj with rfl <;> exact getD_true (by simp_all)
       clear hi' hdep
       have k0g := gD k0
       unfold wpOpIn; simp [Region.wanted]; unfold Oper.wpIn
       simp [Oper.about, execOp, go_sem, Act.eval, k0, k0g, wc1, wc2]
       rw [hRd]
       exact hR.op 6 76 _ rfl (by decide) hl0 hc (ST.const hR.wd (by decide)) (fun _ _ h => h) (rfl)
      ·simp at ho
       subst ho
       simp [Region.binds] at hdep
       have k0 : a.tmps.getD 8 undef = .pointer (some ⟨Bd, 0, none⟩) := (hR.fr.kept rfl (by simp [hT])).trans (by rw [hT]; try rfl)
       have hc : ∀ j, (7, j) ∈ stCh → l.getD j true = true := by intro j hj; simp [stCh] at hj
       clear hi' hdep
       have k0g := gD k0
       unfold wpOpIn; simp [Region.wanted]; unfold Oper.wpIn
       simp [Oper.about, execOp, go_sem, Act.eval, k0, k0g]
       rw [hRd]
       exact hR.op 7 77 _ rfl (by decide) hl0 hc (ST.const hR.wd (by decide)) (fun _ _ h => h) (rfl)
      ·simp at ho
       subst ho
       simp [Region.binds] at hdep
       have d0 : l.getD 7 true = true := getD_true (by simp_all)
       have k0 : a.tmps.getD 77 undef = vals 7 := hR.get rfl (by simp_all) (by simp [hT])
       have e0 : vals 7 = .pointer (some ⟨Bd, 1, none⟩) := hR.vl 7 (by decide) d0
       rw [e0] at k0
       have hc : ∀ j, (8, j) ∈ stCh → l.getD j true = true := by intro j hj; simp [stCh] at hj; rcases hj with rfl <;> exact getD_true (by simp_all)
       have n15 := hR.no (s := 15) hl0 (fun hs => (hR.dep 15 8 (by decide) hs))
       clear hi' hdep
       have hw := hR.wd.a n15
       subst hw
       have k0g := gD k0
       unfold wpOpIn; simp [Region.wanted]; unfold Oper.wpIn
       simp [Oper.about, execOp, go_sem, Act.eval, k0, k0g, cd1]
       rw [hRd]
       exact hR.op 8 78 _ rfl (by decide) hl0 hc (ST.const hR.wd (by decide)) (fun _ _ h => h) (rfl)
      ·simp at ho
       subst ho
       simp [Region.binds] at hdep
       have k0 : a.tmps.getD 13 undef = .int .i64 (k : Int) := (hR.fr.kept rfl (by simp [hT])).trans (by rw [hT]; try rfl)
       have hc : ∀ j, (9, j) ∈ stCh → l.getD j true = true := by intro j hj; simp [stCh] at hj
       clear hi' hdep
       have k0g := gD k0
       unfold wpOpIn; simp [Region.wanted]; unfold Oper.wpIn
       simp [Oper.about, execOp, go_sem, Act.eval, k0, k0g]
       rw [hRd]
       exact hR.op 9 79 _ rfl (by decide) hl0 hc (ST.const hR.wd (by decide)) (fun _ _ h => h) (rfl)
      ·simp at ho
       subst ho
       simp [Region.binds] at hdep
       have d0 : l.getD 8 true = true := getD_true (by simp_all)
       have k0 : a.tmps.getD 78 undef = vals 8 := hR.get rfl (by simp_all) (by simp [hT])
       have e0 : vals 8 = .slice (some ⟨b, off, none⟩) nr cr := hR.vl 8 (by decide) d0
       rw [e0] at k0
       have d1 : l.getD 9 true = true := getD_true (by simp_all)
       have k1 : a.tmps.getD 79 undef = vals 9 := hR.get rfl (by simp_all) (by simp [hT])
       have e1 : vals 9 = .int .i64 (k : Int) := hR.vl 9 (by decide) d1
       rw [e1] at k1
       have hc : ∀ j, (10, j) ∈ stCh → l.getD j true = true := by intro j hj; simp [stCh] at hj; rcases hj with rfl | rfl <;> exact getD_true (by simp_all)
       clear hi' hdep
       have k0g := gD k0
       have k1g := gD k1
       unfold wpOpIn; simp [Region.wanted]; unfold Oper.wpIn
       simp [Oper.about, execOp, go_sem, Act.eval, k0, k1, k0g, k1g, hltI]
       rw [hRd]
       exact hR.op 10 80 _ rfl (by decide) hl0 hc (ST.const hR.wd (by decide)) (fun _ _ h => h) (rfl)
      ·simp at ho
       subst ho
       simp [Region.binds] at hdep
       have d0 : l.getD 10 true = true := getD_true (by simp_all)
       have k0 : a.tmps.getD 80 undef = vals 10 := hR.get rfl (by simp_all) (by simp [hT])
       have e0 : vals 10 = .pointer (some ⟨b, off + k, none⟩) := hR.vl 10 (by decide) d0
       rw [e0] at k0
       have hc : ∀ j, (11, j) ∈ stCh → l.getD j true = true := by intro j hj; simp [stCh] at hj; rcases hj with rfl <;> exact getD_true (by simp_all)
       have n15 := hR.no (s := 15) hl0 (fun hs => (hR.dep 15 11 (by decide) hs))
       clear hi' hdep
       have hw := hR.wd.a n15
       subst hw
       have k0g := gD k0
       unfold wpOpIn; simp [Region.wanted]; unfold Oper.wpIn
       simp [Oper.about, execOp, go_sem, Act.eval, k0, k0g, cx]
       rw [hRd]
       exact hR.op 11 81 _ rfl (by decide) hl0 hc (ST.const hR.wd (by decide)) (fun _ _ h => h) (rfl)
      ·simp at ho
       subst ho
       simp [Region.binds] at hdep
       have d0 : l.getD 6 true = true := getD_true (by simp_all)
       have k0 : a.tmps.getD 76 undef = vals 6 := hR.get rfl (by simp_all) (by simp [hT])
       have e0 : vals 6 = .int .i64 c2 := hR.vl 6 (by decide) d0
       rw [e0] at k0
       have d1 : l.getD 11 true = true := getD_true (by simp_all)
       have k1 : a.tmps.getD 81 undef = vals 11 := hR.get rfl (by simp_all) (by simp [hT])
       have e1 : vals 11 = .int .i64 x := hR.vl 11 (by decide) d1
       rw [e1] at k1
       have hc : ∀ j, (12, j) ∈ stCh → l.getD j true = true := by intro j hj; simp [stCh] at hj; rcases hj with rfl | rfl <;> exact getD_true (by simp_all)
       clear hi' hdep
       have k0g := gD k0
       have k1g := gD k1
       unfold wpOpIn; simp [Region.wanted]; unfold Oper.wpIn
       simp [Oper.about, execOp, go_sem, Act.eval, k0, k1, k0g, k1g, wz]
       rw [hRd]
       exact hR.op 12 82 _ rfl (by decide) hl0 hc (ST.const hR.wd (by decide)) (fun _ _ h => h) (rfl)
      ·simp at ho
       subst ho
       simp [Region.binds] at hdep
       have d0 : l.getD 3 true = true := getD_true (by simp_all)
       have k0 : a.tmps.getD 73 undef = vals 3 := hR.get rfl (by simp_all) (by simp [hT])
       have e0 : vals 3 = .int .i64 y2 := hR.vl 3 (by decide) d0
       rw [e0] at k0
       have d1 : l.getD 12 true = true := getD_true (by simp_all)
       have k1 : a.tmps.getD 82 undef = vals 12 := hR.get rfl (by simp_all) (by simp [hT])
       have e1 : vals 12 = .int .i64 z2 := hR.vl 12 (by decide) d1
       rw [e1] at k1
       have hc : ∀ j, (13, j) ∈ stCh → l.getD j true = true := by intro j hj; simp [stCh] at hj; rcases hj with rfl | rfl <;> exact getD_true (by simp_all)
       clear hi' hdep
       have k0g := gD k0
       have k1g := gD k1
       unfold wpOpIn; simp [Region.wanted]; unfold Oper.wpIn
       simp [Oper.about, execOp, go_sem, Act.eval, k0, k1, k0g, k1g, wq]
       rw [hRd]
       exact hR.op 13 83 _ rfl (by decide) hl0 hc (ST.const hR.wd (by decide)) (fun _ _ h => h) (rfl)
      ·simp at ho
       subst ho
       simp [Region.binds] at hdep
       have d0 : l.getD 0 true = true := getD_true (by simp_all)
       have k0 : a.tmps.getD 70 undef = vals 0 := hR.get rfl (by simp_all) (by simp [hT])
       have e0 : vals 0 = .slice (some ⟨g2, 0, none⟩) nr nr := hR.vl 0 (by decide) d0
       rw [e0] at k0
       have d1 : l.getD 1 true = true := getD_true (by simp_all)
       have k1 : a.tmps.getD 71 undef = vals 1 := hR.get rfl (by simp_all) (by simp [hT])
       have e1 : vals 1 = .int .i64 (k : Int) := hR.vl 1 (by decide) d1
       rw [e1] at k1
       have hc : ∀ j, (14, j) ∈ stCh → l.getD j true = true := by intro j hj; simp [stCh] at hj; rcases hj with rfl | rfl <;> exact getD_true (by simp_all)
       clear hi' hdep
       have k0g := gD k0
       have k1g := gD k1
       unfold wpOpIn; simp [Region.wanted]; unfold Oper.wpIn
       simp [Oper.about, execOp, go_sem, Act.eval, k0, k1, k0g, k1g, hltI]
       rw [hRd]
       exact hR.op 14 84 _ rfl (by decide) hl0 hc (ST.const hR.wd (by decide)) (fun _ _ h => h) (rfl)
      ·simp at ho
       subst ho
       simp [Region.binds] at hdep
       have d0 : l.getD 14 true = true := getD_true (by simp_all)
       have k0 : a.tmps.getD 84 undef = vals 14 := hR.get rfl (by simp_all) (by simp [hT])
       have e0 : vals 14 = .pointer (some ⟨g2, k, none⟩) := hR.vl 14 (by decide) d0
       rw [e0] at k0
       have d1 : l.getD 13 true = true := getD_true (by simp_all)
       have k1 : a.tmps.getD 83 undef = vals 13 := hR.get rfl (by simp_all) (by simp [hT])
       have e1 : vals 13 = .int .i64 q2 := hR.vl 13 (by decide) d1
       rw [e1] at k1
       have hc : ∀ j, (15, j) ∈ stCh → l.getD j true = true := by intro j hj; simp [stCh] at hj; rcases hj with rfl | rfl | rfl | rfl | rfl | rfl <;> exact getD_true (by simp_all)
       clear hi' hdep
       have hw := hR.wd.a hl0
       subst hw
       have k0g := gD k0
       have k1g := gD k1
       unfold wpOpIn; simp [Region.wanted]; unfold Oper.wpIn
       simp [Oper.about, execOp, go_sem, Act.eval, k0, k1, k0g, k1g, cu, fu, lu]
       rw [hRd]
       exact hR.bare 15 undef rfl hl0 hc (ST.done) (fun _ _ h => h) (fun _ => trivial)
     case' finr3b0 =>
      rintro l a w' hR0 hz
      rw [hRd] at hR0
      obtain ⟨vals, hR⟩ := hR0
      clear hRd R
      have hnot := List.eq_nil_iff_forall_not_mem.1 hz
      have hk : ∀ k, k < 16 → (l.getD k true = false → False) → l.getD k false = true := fun k h12 h => by
       have hs := hR.size
       cases h' : l.getD k true with
       | false => exact (h h').elim
       | true => simp at hs; simp [Array.getD, hs, h12] at h' ⊢; exact h'
      have st0 := hk 0 (by omega) (fun h => hnot 0 (mem_ready.2 ⟨h, _, rfl, by simp [Region.binds]⟩))
      have st1 := hk 1 (by omega) (fun h => hnot 1 (mem_ready.2 ⟨h, _, rfl, by simp [Region.binds]⟩))
      have st2 := hk 2 (by omega) (fun h => hnot 2 (mem_ready.2 ⟨h, _, rfl, by simp [Region.binds] <;> simp_all⟩))
      have st3 := hk 3 (by omega) (fun h => hnot 3 (mem_ready.2 ⟨h, _, rfl, by simp [Region.binds] <;> simp_all⟩))
      have st4 := hk 4 (by omega) (fun h => hnot 4 (mem_ready.2 ⟨h, _, rfl, by simp [Region.binds]⟩))
      have st5 := hk 5 (by omega) (fun h => hnot 5 (mem_ready.2 ⟨h, _, rfl, by simp [Region.binds] <;> simp_all⟩))
      have st6 := hk 6 (by omega) (fun h => hnot 6 (mem_ready.2 ⟨h, _, rfl, by simp [Region.binds] <;> simp_all⟩))
      have st7 := hk 7 (by omega) (fun h => hnot 7 (mem_ready.2 ⟨h, _, rfl, by simp [Region.binds]⟩))
      have st8 := hk 8 (by omega) (fun h => hnot 8 (mem_ready.2 ⟨h, _, rfl, by simp [Region.binds] <;> simp_all⟩))
      have st9 := hk 9 (by omega) (fun h => hnot 9 (mem_ready.2 ⟨h, _, rfl, by simp [Region.binds]⟩))
      have st10 := hk 10 (by omega) (fun h => hnot 10 (mem_ready.2 ⟨h, _, rfl, by simp [Region.binds] <;> simp_all⟩))
      have st11 := hk 11 (by omega) (fun h => hnot 11 (mem_ready.2 ⟨h, _, rfl, by simp [Region.binds] <;> simp_all⟩))
      have st12 := hk 12 (by omega) (fun h => hnot 12 (mem_ready.2 ⟨h, _, rfl, by simp [Region.binds] <;> simp_all⟩))
      have st13 := hk 13 (by omega) (fun h => hnot 13 (mem_ready.2 ⟨h, _, rfl, by simp [Region.binds] <;> simp_all⟩))
      have st14 := hk 14 (by omega) (fun h => hnot 14 (mem_ready.2 ⟨h, _, rfl, by simp [Region.binds] <;> simp_all⟩))
      have st15 := hk 15 (by omega) (fun h => hnot 15 (mem_ready.2 ⟨h, _, rfl, by simp [Region.binds] <;> simp_all⟩))
      have hall : ∀ i, i < 16 → l.getD i true = true := fun i hi => by
       rcases (show i = 0 ∨ i = 1 ∨ i = 2 ∨ i = 3 ∨ i = 4 ∨ i = 5 ∨ i = 6 ∨ i = 7 ∨ i = 8 ∨ i = 9 ∨ i = 10 ∨ i = 11 ∨ i = 12 ∨ i = 13 ∨ i = 14 ∨ i = 15 by omega) with rfl | rfl | rfl | rfl | rfl | rfl | rfl | rfl | rfl | rfl | rfl | rfl | rfl | rfl | rfl | rfl
       ·exact getD_true st0
       ·exact getD_true st1
       ·exact getD_true st2
       ·exact getD_true st3
       ·exact getD_true st4
       ·exact getD_true st5
       ·exact getD_true st6
       ·exact getD_true st7
       ·exact getD_true st8
       ·exact getD_true st9
       ·exact getD_true st10
       ·exact getD_true st11
       ·exact getD_true st12
       ·exact getD_true st13
       ·exact getD_true st14
       ·exact getD_true st15
      clear st0 st1 st2 st3 st4 st5 st6 st7 st8 st9 st10 st11 st12 st13 st14 st15 hk hnot hz
      have hTs : T.size = 141 := by rw [hT]; rfl
      have ha := hR.all (T' := (((((((((((((((T.setIfInBounds 70 (vals 0)).setIfInBounds 71 (vals 1)).setIfInBounds 72 (vals 2)).setIfInBounds 73 (vals 3)).setIfInBounds 74 (vals 4)).setIfInBounds 75 (vals 5)).setIfInBounds 76 (vals 6)).setIfInBounds 77 (vals 7)).setIfInBounds 78 (vals 8)).setIfInBounds 79 (vals 9)).setIfInBounds 80 (vals 10)).setIfInBounds 81 (vals 11)).setIfInBounds 82 (vals 12)).setIfInBounds 83 (vals 13)).setIfInBounds 84 (vals 14))) (fun i hi => hall i (by simpa using hi)) (by simp) (fun j hj => by
       by_cases h1 : j = 70 ∨ j = 71 ∨ j = 72 ∨ j = 73 ∨ j = 74 ∨ j = 75 ∨ j = 76 ∨ j = 77 ∨ j = 78 ∨ j = 79 ∨ j = 80 ∨ j = 81 ∨ j = 82 ∨ j = 83 ∨ j = 84
       ·rcases h1 with rfl | rfl | rfl | rfl | rfl | rfl | rfl | rfl | rfl | rfl | rfl | rfl | rfl | rfl | rfl <;> simp [rv_sets, tOwn, List.findIdx?, List.findIdx?.go, hTs]
       ·simp only [not_or] at h1
        obtain ⟨m70, m71, m72, m73, m74, m75, m76, m77, m78, m79, m80, m81, m82, m83, m84⟩ := h1
        have e : tOwn [some 70, some 71, some 72, some 73, some 74, some 75, some 76, some 77, some 78, some 79, some 80, some 81, some 82, some 83, some 84, none] vals j = none := by
         unfold tOwn
         simp [List.findIdx?, List.findIdx?.go, Ne.symm m70, Ne.symm m71, Ne.symm m72, Ne.symm m73, Ne.symm m74, Ne.symm m75, Ne.symm m76, Ne.symm m77, Ne.symm m78, Ne.symm m79, Ne.symm m80, Ne.symm m81, Ne.symm m82, Ne.symm m83, Ne.symm m84]
        rw [e]
        simp only [rv_sets]
        repeat rw [if_neg (by omega)])
      have v0 : vals 0 = .slice (some ⟨g2, 0, none⟩) nr nr := hR.vl 0 (by decide) (hall 0 (by decide))
      have v1 : vals 1 = .int .i64 (k : Int) := hR.vl 1 (by decide) (hall 1 (by decide))
      have v2 : vals 2 = .pointer (some ⟨g2, k, none⟩) := hR.vl 2 (by decide) (hall 2 (by decide))
      have v3 : vals 3 = .int .i64 y2 := hR.vl 3 (by decide) (hall 3 (by decide))
      have v4 : vals 4 = .pointer (some ⟨W.heap.size + 1, 1, none⟩) := hR.vl 4 (by decide) (hall 4 (by decide))
      have v5 : vals 5 = .int .u8 c2 := hR.vl 5 (by decide) (hall 5 (by decide))
      have v6 : vals 6 = .int .i64 c2 := hR.vl 6 (by decide) (hall 6 (by decide))
      have v7 : vals 7 = .pointer (some ⟨Bd, 1, none⟩) := hR.vl 7 (by decide) (hall 7 (by decide))
      have v8 : vals 8 = .slice (some ⟨b, off, none⟩) nr cr := hR.vl 8 (by decide) (hall 8 (by decide))
      have v9 : vals 9 = .int .i64 (k : Int) := hR.vl 9 (by decide) (hall 9 (by decide))
      have v10 : vals 10 = .pointer (some ⟨b, off + k, none⟩) := hR.vl 10 (by decide) (hall 10 (by decide))
      have v11 : vals 11 = .int .i64 x := hR.vl 11 (by decide) (hall 11 (by decide))
      have v12 : vals 12 = .int .i64 z2 := hR.vl 12 (by decide) (hall 12 (by decide))
      have v13 : vals 13 = .int .i64 q2 := hR.vl 13 (by decide) (hall 13 (by decide))
      have v14 : vals 14 = .pointer (some ⟨g2, k, none⟩) := hR.vl 14 (by decide) (hall 14 (by decide))
      have hw := hR.wd.b (hall 15 (by decide))
      subst hw
      subst ha
      clear hR hall hTs
      rw [v0, v1, v2, v3, v4, v5, v6, v7, v8, v9, v10, v11, v12, v13, v14, hT]
      simp only [List.setIfInBounds_toArray, List.set_cons_succ, List.set_cons_zero]
      clear v0 v1 v2 v3 v4 v5 v6 v7 v8 v9 v10 v11 v12 v13 v14 hT T
     clear cu fu lu cd1 cx ca wz wq
     generalize wY.drew.setCell ⟨g2, k, none⟩ (.int .i64 q2) = wZ at HZZ ⊢
     have hcc := HCK.out _ HZZ.out.2.2
     have cd1 := hcc.1
     have cx := hcc.2.1
     have cu : wZ.cell? ⟨g1, k, none⟩ = some (.int .i64 q1) := by have h := HZZ.out.1.cell (k := k) (by rw [List.length_set]; omega); rwa [set_get _ (by omega), if_pos rfl] at h
     have fu : wZ.frozen? ⟨g1, k, none⟩ = false := HZZ.out.1.free k
     have lu : g1 < wZ.heap.size := HZZ.out.1.lt
     clear hcc
     by_cases hx0 : x = 0
     ·have hq := HQ1.out
      rw [hx0] at hq
      have wq : IntKind.i64.wrap (q1 + cl) = q1 + cl := IntWalk.i64_in _ (by omega)
      have HFI : Hid (ShI W0 (wZ.setCell ⟨g1, k, none⟩ (.int .i64 (q1 + cl))) g1 g2 r (unV r row) (unV r row2) c1 c2 cl nr (k + 1) (L.set k (y1 + c1 * x + if x = 0 then cl else 0)) (M.set k (y2 + c2 * x))) := Lib.hid (HEND.out _ (by
       have h := HZZ.out.1.set (k := k) (q1 + cl)
       rw [List.set_set] at h
       rw [if_pos hx0, ← HQ1.out]; exact h) (by
       have h := HZZ.out.2.1.other (q := g1) (k := k) (v := .int .i64 (q1 + cl)) (fun e => hne e.symm)
       rw [← HQ2.out]; exact h) (HZZ.out.2.2.setCell HGG.out.1 _))
      clear hq
      rw [hx0] at cx
      go_wp2
      go_roundw
      case rel => exact ⟨k + 1, _, _, by omega, by go_num, HFI⟩
      case measure => simp [intOf]; omega
     ·have HFI : Hid (ShI W0 wZ g1 g2 r (unV r row) (unV r row2) c1 c2 cl nr (k + 1) (L.set k (y1 + c1 * x + if x = 0 then cl else 0)) (M.set k (y2 + c2 * x))) := Lib.hid (HEND.out _ (by rw [if_neg hx0, Int.add_zero, ← HQ1.out]; exact HZZ.out.1) (by rw [← HQ2.out]; exact HZZ.out.2.1) HZZ.out.2.2)
      go_wp2
      go_roundw
      case rel => exact ⟨k + 1, _, _, by omega, by go_num, HFI⟩
      case measure => simp [intOf]; omega
    ·have hnsI : ¬ (0 : Int) < (ns : Int) := by omega
     obtain ⟨bt, ot, rfl, hbt⟩ := HRD.out.2 hnt
     have hntI : (0 : Int) < (nt : Int) := by omega
     have hkt : (k : Int) < (nt : Int) := by have := HI0.out.2.2.size; have := HRW.out.2.1; have := HNR.out; omega
     have cs2 := hbt _ HI.out.b
     have HXX : Hid (IB (w.setCell ⟨g2, k, none⟩ (.int .i64 y2)) g1 (L.set k y1) ∧ IB (w.setCell ⟨g2, k, none⟩ (.int .i64 y2)) g2 (M.set k y2) ∧ Below W0.heap.size W0 (w.setCell ⟨g2, k, none⟩ (.int .i64 y2))) := Lib.hid ⟨(by rw [HYZ.out.1 hns, ← HLK.out.1, set_id (by omega)]; exact HI.out.u.other hne), (HI.out.v.set y2), (HI.out.b.setCell HGG.out.2 _)⟩
     clear hbt hns
     go_wp2
     generalize w.setCell ⟨g2, k, none⟩ (.int .i64 y2) = wX at HXX ⊢
     clear cs2 hkt hnsI hntI cu cv fu fv lu lv
     have hL1 : L.set k y1 = L.set k y1 := rfl
     have cu : wX.drew.cell? ⟨g1, k, none⟩ = some (.int .i64 y1) := by have h := HXX.out.1.cell (k := k) (by rw [List.length_set]; omega); rwa [set_get _ (by omega), if_pos rfl] at h
     have fu : wX.drew.frozen? ⟨g1, k, none⟩ = false := HXX.out.1.free k
     have lu : g1 < wX.drew.heap.size := HXX.out.1.lt
     have hcc := HCK.out _ HXX.out.2.2.drew
     have cd1 := hcc.1
     have cx := hcc.2.1
     have ca := hcc.2.2.1
     obtain ⟨z, hz⟩ : ∃ z, z = c1 * x := ⟨_, rfl⟩
     have wz : IntKind.i64.wrap (c1 * x) = z := by rw [hz]; exact IntWalk.i64_in _ (by have := HZB.out; omega)
     obtain ⟨q1, hq1⟩ : ∃ q1, q1 = y1 + z := ⟨_, rfl⟩
     have wq : IntKind.i64.wrap (y1 + z) = q1 := by rw [hq1]; exact IntWalk.i64_in _ (by have := HZB.out; omega)
     have HYY : Hid (IB (wX.drew.setCell ⟨g1, k, none⟩ (.int .i64 q1)) g1 (L.set k q1) ∧ IB (wX.drew.setCell ⟨g1, k, none⟩ (.int .i64 q1)) g2 (M.set k y2) ∧ Below W0.heap.size W0 (wX.drew.setCell ⟨g1, k, none⟩ (.int .i64 q1))) := Lib.hid ⟨by
      have h := (show IB wX.drew g1 (L.set k y1) from HXX.out.1).set (k := k) q1
      rwa [List.set_set] at h, (show IB wX.drew g2 (M.set k y2) from HXX.out.2.1).other (fun e => hne e.symm), HXX.out.2.2.drew.setCell HGG.out.1 _⟩
     have HQ1 : Hid (q1 = y1 + c1 * x) := Lib.hid (by rw [hq1, hz])
     clear hcc hz hq1 hL1
     refine (wpIn_wide (n := 6)).1 ?_
     refine frame_namedIn ?_
     intro T hT
     obtain ⟨R, hRd⟩ : ∃ R : Array Bool → Act → World → Prop, R = (fun l a w' => ∃ vals, RH stCh T [some 55, some 56, some 57, some 58, some 59, some 60, some 61, some 62, some 63, some 64, some 65, some 66, some 67, some 68, some 69, none] (fun l _ w => ST wX.drew (wX.drew.setCell ⟨g1, k, none⟩ (.int .i64 q1)) 15 l w) (fun i u _ => match i with | 0 => u = .slice (some ⟨g1, 0, none⟩) nr nr | 1 => u = .int .i64 (k : Int) | 2 => u = .pointer (some ⟨g1, k, none⟩) | 3 => u = .int .i64 y1 | 4 => u = .pointer (some ⟨W.heap.size + 1, 0, none⟩) | 5 => u = .int .u8 c1 | 6 => u = .int .i64 c1 | 7 => u = .pointer (some ⟨Bd, 1, none⟩) | 8 => u = .slice (some ⟨b, off, none⟩) nr cr | 9 => u = .int .i64 (k : Int) | 10 => u = .pointer (some ⟨b, off + k, none⟩) | 11 => u = .int .i64 x | 12 => u = .int .i64 z | 13 => u = .int .i64 q1 | 14 => u = .pointer (some ⟨g1, k, none⟩) | _ => True) vals l a w') := ⟨_, rfl⟩
     refine region_inv (by kernel_rfl) R ?h0r2b1 ?stepr2b1 ?finr2b1
     case h0r2b1 => rw [hRd]; exact RH.start rfl (fun i j h => by simp [stCh] at h; simp only [List.length_cons, List.length_nil]; omega) (by exact ⟨fun _ => rfl, fun h => absurd h (by decide)⟩)
     case stepr2b1 =>
      rintro l a w' i' hR0 hi'
      have hR1 := hR0
      rw [hRd] at hR1
      obtain ⟨vals, hR⟩ := hR1
      obtain ⟨hl0, o, ho, hdep⟩ := mem_ready.1 hi'
      have h15 : i' < 16 := by
       have := (Array.getElem?_eq_some_iff.1 ho).1
       simpa using this
      rcases (show i' = 0 ∨ i' = 1 ∨ i' = 2 ∨ i' = 3 ∨ i' = 4 ∨ i' = 5 ∨ i' = 6 ∨ i' = 7 ∨ i' = 8 ∨ i' = 9 ∨ i' = 10 ∨ i' = 11 ∨ i' = 12 ∨ i' = 13 ∨ i' = 14 ∨ i' = 15 by omega) with rfl | rfl | rfl | rfl | rfl | rfl | rfl | rfl | rfl | rfl | rfl | rfl | rfl | rfl | rfl | rfl
      ·simp at ho
       subst ho
       simp [Region.binds] at hdep
       have k0 : a.tmps.getD 11 undef = .slice (some ⟨g1, 0, none⟩) nr nr := (hR.fr.kept rfl (by simp [hT])).trans (by rw [hT]; try rfl)
       have hc : ∀ j, (0, j) ∈ stCh → l.getD j true = true := by intro j hj; simp [stCh] at hj
       clear hi' hdep
       have k0g := gD k0
       unfold wpOpIn; simp [Region.wanted]; unfold Oper.wpIn
       simp [Oper.about, execOp, go_sem, Act.eval, k0, k0g]
       rw [hRd]
       exact hR.op 0 55 _ rfl (by decide) hl0 hc (ST.const hR.wd (by decide)) (fun _ _ h => h) (rfl)
      ·simp at ho
       subst ho
       simp [Region.binds] at hdep
       have k0 : a.tmps.getD 13 undef = .int .i64 (k : Int) := (hR.fr.kept rfl (by simp [hT])).trans (by rw [hT]; try rfl)
       have hc : ∀ j, (1, j) ∈ stCh → l.getD j true = true := by intro j hj; simp [stCh] at hj
       clear hi' hdep
       have k0g := gD k0
       unfold wpOpIn; simp [Region.wanted]; unfold Oper.wpIn
       simp [Oper.about, execOp, go_sem, Act.eval, k0, k0g]
       rw [hRd]
       exact hR.op 1 56 _ rfl (by decide) hl0 hc (ST.const hR.wd (by decide)) (fun _ _ h => h) (rfl)
      ·simp at ho
       subst ho
       simp [Region.binds] at hdep
       have d0 : l.getD 0 true = true := getD_true (by simp_all)
       have k0 : a.tmps.getD 55 undef = vals 0 := hR.get rfl (by simp_all) (by simp [hT])
       have e0 : vals 0 = .slice (some ⟨g1, 0, none⟩) nr nr := hR.vl 0 (by decide) d0
       rw [e0] at k0
       have d1 : l.getD 1 true = true := getD_true (by simp_all)
       have k1 : a.tmps.getD 56 undef = vals 1 := hR.get rfl (by simp_all) (by simp [hT])
       have e1 : vals 1 = .int .i64 (k : Int) := hR.vl 1 (by decide) d1
       rw [e1] at k1
       have hc : ∀ j, (2, j) ∈ stCh → l.getD j true = true := by intro j hj; simp [stCh] at hj; rcases hj with rfl | rfl <;> exact getD_true (by simp_all)
       clear hi' hdep
       have k0g := gD k0
       have k1g := gD k1
       unfold wpOpIn; simp [Region.wanted]; unfold Oper.wpIn
       simp [Oper.about, execOp, go_sem, Act.eval, k0, k1, k0g, k1g, hltI]
       rw [hRd]
       exact hR.op 2 57 _ rfl (by decide) hl0 hc (ST.const hR.wd (by decide)) (fun _ _ h => h) (rfl)
      ·simp at ho
       subst ho
       simp [Region.binds] at hdep
       have d0 : l.getD 2 true = true := getD_true (by simp_all)
       have k0 : a.tmps.getD 57 undef = vals 2 := hR.get rfl (by simp_all) (by simp [hT])
       have e0 : vals 2 = .pointer (some ⟨g1, k, none⟩) := hR.vl 2 (by decide) d0
       rw [e0] at k0
       have hc : ∀ j, (3, j) ∈ stCh → l.getD j true = true := by intro j hj; simp [stCh] at hj; rcases hj with rfl <;> exact getD_true (by simp_all)
       have n15 := hR.no (s := 15) hl0 (fun hs => (hR.dep 15 3 (by decide) hs))
       clear hi' hdep
       have hw := hR.wd.a n15
       subst hw
       have k0g := gD k0
       unfold wpOpIn; simp [Region.wanted]; unfold Oper.wpIn
       simp [Oper.about, execOp, go_sem, Act.eval, k0, k0g, cu]
       rw [hRd]
       exact hR.op 3 58 _ rfl (by decide) hl0 hc (ST.const hR.wd (by decide)) (fun _ _ h => h) (rfl)
      ·simp at ho
       subst ho
       simp [Region.binds] at hdep
       have k0 : a.tmps.getD 4 undef = .pointer (some ⟨W.heap.size + 1, 0, none⟩) := (hR.fr.kept rfl (by simp [hT])).trans (by rw [hT]; try rfl)
       have hc : ∀ j, (4, j) ∈ stCh → l.getD j true = true := by intro j hj; simp [stCh] at hj
       clear hi' hdep
       have k0g := gD k0
       unfold wpOpIn; simp [Region.wanted]; unfold Oper.wpIn
       simp [Oper.about, execOp, go_sem, Act.eval, k0, k0g]
       rw [hRd]
       exact hR.op 4 59 _ rfl (by decide) hl0 hc (ST.const hR.wd (by decide)) (fun _ _ h => h) (rfl)
      ·simp at ho
       subst ho
       simp [Region.binds] at hdep
       have d0 : l.getD 4 true = true := getD_true (by simp_all)
       have k0 : a.tmps.getD 59 undef = vals 4 := hR.get rfl (by simp_all) (by simp [hT])
       have e0 : vals 4 = .pointer (some ⟨W.heap.size + 1, 0, none⟩) := hR.vl 4 (by decide) d0
       rw [e0] at k0
       have hc : ∀ j, (5, j) ∈ stCh → l.getD j true = true := by intro j hj; simp [stCh] at hj; rcases hj with rfl <;> exact getD_true (by simp_all)
       have n15 := hR.no (s := 15) hl0 (fun hs => (hR.dep 15 5 (by decide) hs))
       clear hi' hdep
       have hw := hR.wd.a n15
       subst hw
       have k0g := gD k0
       unfold wpOpIn; simp [Region.wanted]; unfold Oper.wpIn
       simp [Oper.about, execOp, go_sem, Act.eval, k0, k0g, ca]
       rw [hRd]
       exact hR.op 5 60 _ rfl (by decide) hl0 hc (ST.const hR.wd (by decide)) (fun _ _ h => h) (rfl)
      ·simp at ho
       subst ho
       simp [Region.binds] at hdep
       have d0 : l.getD 5 true = true := getD_true (by simp_all)
       have k0 : a.tmps.getD 60 undef = vals 5 := hR.get rfl (by simp_all) (by simp [hT])
       have e0 : vals 5 = .int .u8 c1 := hR.vl 5 (by decide) d0
       rw [e0] at k0
       have hc : ∀ j, (6, j) ∈ stCh → l.getD j true = true := by intro j hj; simp [stCh] at hj; rcases hj with rfl <;> exact getD_true (by simp_all)
       clear hi' hdep
       have k0g := gD k0
       unfold wpOpIn; simp [Region.wanted]; unfold Oper.wpIn
       simp [Oper.about, execOp, go_sem, Act.eval, k0, k0g, wc1, wc2]
       rw [hRd]
       exact hR.op 6 61 _ rfl (by decide) hl0 hc (ST.const hR.wd (by decide)) (fun _ _ h => h) (rfl)
      ·simp at ho
       subst ho
       simp [Region.binds] at hdep
       have k0 : a.tmps.getD 8 undef = .pointer (some ⟨Bd, 0, none⟩) := (hR.fr.kept rfl (by simp [hT])).trans (by rw [hT]; try rfl)
       have hc : ∀ j, (7, j) ∈ stCh → l.getD j true = true := by intro j hj; simp [stCh] at hj
       clear hi' hdep
       have k0g := gD k0
       unfold wpOpIn; simp [Region.wanted]; unfold Oper.wpIn
       simp [Oper.about, execOp, go_sem, Act.eval, k0, k0g]
       rw [hRd]
       exact hR.op 7 62 _ rfl (by decide) hl0 hc (ST.const hR.wd (by decide)) (fun _ _ h => h) (rfl)
      ·simp at ho
       subst ho
       simp [Region.binds] at hdep
       have d0 : l.getD 7 true = true := getD_true (by simp_all)
       have k0 : a.tmps.getD 62 undef = vals 7 := hR.get rfl (by simp_all) (by simp [hT])
       have e0 : vals 7 = .pointer (some ⟨Bd, 1, none⟩) := hR.vl 7 (by decide) d0
       rw [e0] at k0
       have hc : ∀ j, (8, j) ∈ stCh → l.getD j true = true := by intro j hj; simp [stCh] at hj; rcases hj with rfl <;> exact getD_true (by simp_all)
       have n15 := hR.no (s := 15) hl0 (fun hs => (hR.dep 15 8 (by decide) hs))
       clear hi' hdep
       have hw := hR.wd.a n15
       subst hw
       have k0g := gD k0
       unfold wpOpIn; simp [Region.wanted]; unfold Oper.wpIn
       simp [Oper.about, execOp, go_sem, Act.eval, k0, k0g, cd1]
       rw [hRd]
       exact hR.op 8 63 _ rfl (by decide) hl0 hc (ST.const hR.wd (by decide)) (fun _ _ h => h) (rfl)
      ·simp at ho
       subst ho
       simp [Region.binds] at hdep
       have k0 : a.tmps.getD 13 undef = .int .i64 (k : Int) := (hR.fr.kept rfl (by simp [hT])).trans (by rw [hT]; try rfl)
       have hc : ∀ j, (9, j) ∈ stCh → l.getD j true = true := by intro j hj; simp [stCh] at hj
       clear hi' hdep
       have k0g := gD k0
       unfold wpOpIn; simp [Region.wanted]; unfold Oper.wpIn
       simp [Oper.about, execOp, go_sem, Act.eval, k0, k0g]
       rw [hRd]
       exact hR.op 9 64 _ rfl (by decide) hl0 hc (ST.const hR.wd (by decide)) (fun _ _ h => h) (rfl)
      ·simp at ho
       subst ho
       simp [Region.binds] at hdep
       have d0 : l.getD 8 true = true := getD_true (by simp_all)
       have k0 : a.tmps.getD 63 undef = vals 8 := hR.get rfl (by simp_all) (by simp [hT])
       have e0 : vals 8 = .slice (some ⟨b, off, none⟩) nr cr := hR.vl 8 (by decide) d0
       rw [e0] at k0
       have d1 : l.getD 9 true = true := getD_true (by simp_all)
       have k1 : a.tmps.getD 64 undef = vals 9 := hR.get rfl (by simp_all) (by simp [hT])
       have e1 : vals 9 = .int .i64 (k : Int) := hR.vl 9 (by decide) d1
       rw [e1] at k1
       have hc : ∀ j, (10, j) ∈ stCh → l.getD j true = true := by intro j hj; simp [stCh] at hj; rcases hj with rfl | rfl <;> exact getD_true (by simp_all)
       clear hi' hdep
       have k0g := gD k0
       have k1g := gD k1
       unfold wpOpIn; simp [Region.wanted]; unfold Oper.wpIn
       simp [Oper.about, execOp, go_sem, Act.eval, k0, k1, k0g, k1g, hltI]
       rw [hRd]
       exact hR.op 10 65 _ rfl (by decide) hl0 hc (ST.const hR.wd (by decide)) (fun _ _ h => h) (rfl)
      ·simp at ho
       subst ho
       simp [Region.binds] at hdep
       have d0 : l.getD 10 true = true := getD_true (by simp_all)
       have k0 : a.tmps.getD 65 undef = vals 10 := hR.get rfl (by simp_all) (by simp [hT])
       have e0 : vals 10 = .pointer (some ⟨b, off + k, none⟩) := hR.vl 10 (by decide) d0
       rw [e0] at k0
       have hc : ∀ j, (11, j) ∈ stCh → l.getD j true = true := by intro j hj; simp [stCh] at hj; rcases hj with rfl <;> exact getD_true (by simp_all)
       have n15 := hR.no (s := 15) hl0 (fun hs => (hR.dep 15 11 (by decide) hs))
       clear hi' hdep
       have hw := hR.wd.a n15
       subst hw
       have k0g := gD k0
       unfold wpOpIn; simp [Region.wanted]; unfold Oper.wpIn
       simp [Oper.about, execOp, go_sem, Act.eval, k0, k0g, cx]
       rw [hRd]
       exact hR.op 11 66 _ rfl (by decide) hl0 hc (ST.const hR.wd (by decide)) (fun _ _ h => h) (rfl)
      ·simp at ho
       subst ho
       simp [Region.binds] at hdep
       have d0 : l.getD 6 true = true := getD_true (by simp_all)
       have k0 : a.tmps.getD 61 undef = vals 6 := hR.get rfl (by simp_all) (by simp [hT])
       have e0 : vals 6 = .int .i64 c1 := hR.vl 6 (by decide) d0
       rw [e0] at k0
       have d1 : l.getD 11 true = true := getD_true (by simp_all)
       have k1 : a.tmps.getD 66 undef = vals 11 := hR.get rfl (by simp_all) (by simp [hT])
       have e1 : vals 11 = .int .i64 x := hR.vl 11 (by decide) d1
       rw [e1] at k1
       have hc : ∀ j, (12, j) ∈ stCh → l.getD j true = true := by intro j hj; simp [stCh] at hj; rcases hj with rfl | rfl <;> exact getD_true (by simp_all)
       clear hi' hdep
       have k0g := gD k0
       have k1g := gD k1
       unfold wpOpIn; simp [Region.wanted]; unfold Oper.wpIn
       simp [Oper.about, execOp, go_sem, Act.eval, k0, k1, k0g, k1g, wz]
       rw [hRd]
       exact hR.op 12 67 _ rfl (by decide) hl0 hc (ST.const hR.wd (by decide)) (fun _ _ h => h) (rfl)
      ·simp at ho
       subst ho
       simp [Region.binds] at hdep
       have d0 : l.getD 3 true = true := getD_true (by simp_all)
       have k0 : a.tmps.getD 58 undef = vals 3 := hR.get rfl (by simp_all) (by simp [hT])
       have e0 : vals 3 = .int .i64 y1 := hR.vl 3 (by decide) d0
       rw [e0] at k0
       have d1 : l.getD 12 true = true := getD_true (by simp_all)
       have k1 : a.tmps.getD 67 undef = vals 12 := hR.get rfl (by simp_all) (by simp [hT])
       have e1 : vals 12 = .int .i64 z := hR.vl 12 (by decide) d1
       rw [e1] at k1
       have hc : ∀ j, (13, j) ∈ stCh → l.getD j true = true := by intro j hj; simp [stCh] at hj; rcases hj with rfl | rfl <;> exact getD_true (by simp_all)
       clear hi' hdep
       have k0g := gD k0
       have k1g := gD k1
       unfold wpOpIn; simp [Region.wanted]; unfold Oper.wpIn
       simp [Oper.about, execOp, go_sem, Act.eval, k0, k1, k0g, k1g, wq]
       rw [hRd]
       exact hR.op 13 68 _ rfl (by decide) hl0 hc (ST.const hR.wd (by decide)) (fun _ _ h => h) (rfl)
      ·simp at ho
       subst ho
       simp [Region.binds] at hdep
       have d0 : l.getD 0 true = true := getD_true (by simp_all)
       have k0 : a.tmps.getD 55 undef = vals 0 := hR.get rfl (by simp_all) (by simp [hT])
       have e0 : vals 0 = .slice (some ⟨g1, 0, none⟩) nr nr := hR.vl 0 (by decide) d0
       rw [e0] at k0
       have d1 : l.getD 1 true = true := getD_true (by simp_all)
       have k1 : a.tmps.getD 56 undef = vals 1 := hR.get rfl (by simp_all) (by simp [hT])
       have e1 : vals 1 = .int .i64 (k : Int) := hR.vl 1 (by decide) d1
       rw [e1] at k1
       have hc : ∀ j, (14, j) ∈ stCh → l.getD j true = true := by intro j hj; simp [stCh] at hj; rcases hj with rfl | rfl <;> exact getD_true (by simp_all)
       clear hi' hdep
       have k0g := gD k0
       have k1g := gD k1
       unfold wpOpIn; simp [Region.wanted]; unfold Oper.wpIn
       simp [Oper.about, execOp, go_sem, Act.eval, k0, k1, k0g, k1g, hltI]
       rw [hRd]
       exact hR.op 14 69 _ rfl (by decide) hl0 hc (ST.const hR.wd (by decide)) (fun _ _ h => h) (rfl)
      ·simp at ho
       subst ho
       simp [Region.binds] at hdep
       have d0 : l.getD 14 true = true := getD_true (by simp_all)
       have k0 : a.tmps.getD 69 undef = vals 14 := hR.get rfl (by simp_all) (by simp [hT])
       have e0 : vals 14 = .pointer (some ⟨g1, k, none⟩) := hR.vl 14 (by decide) d0
       rw [e0] at k0
       have d1 : l.getD 13 true = true := getD_true (by simp_all)
       have k1 : a.tmps.getD 68 undef = vals 13 := hR.get rfl (by simp_all) (by simp [hT])
       have e1 : vals 13 = .int .i64 q1 := hR.vl 13 (by decide) d1
       rw [e1] at k1
       have hc : ∀ j, (15, j) ∈ stCh → l.getD j true = true := by intro j hj; simp [stCh] at hj; rcases hj with rfl | rfl | rfl | rfl | rfl | rfl <;> exact getD_true (by simp_all)
       clear hi' hdep
       have hw := hR.wd.a hl0
       subst hw
       have k0g := gD k0
       have k1g := gD k1
       unfold wpOpIn; simp [Region.wanted]; unfold Oper.wpIn
       simp [Oper.about, execOp, go_sem, Act.eval, k0, k1, k0g, k1g, cu, fu, lu]
       rw [hRd]
       exact hR.bare 15 undef rfl hl0 hc (ST.done) (fun _ _ h => h) (fun _ => trivial)
     case' finr2b1 =>
      rintro l a w' hR0 hz
      rw [hRd] at hR0
      obtain ⟨vals, hR⟩ := hR0
      clear hRd R
      have hnot := List.eq_nil_iff_forall_not_mem.1 hz
      have hk : ∀ k, k < 16 → (l.getD k true = false → False) → l.getD k false = true := fun k h12 h => by
       have hs := hR.size
       cases h' : l.getD k true with
       | false => exact (h h').elim
       | true => simp at hs; simp [Array.getD, hs, h12] at h' ⊢; exact h'
      have st0 := hk 0 (by omega) (fun h => hnot 0 (mem_ready.2 ⟨h, _, rfl, by simp [Region.binds]⟩))
      have st1 := hk 1 (by omega) (fun h => hnot 1 (mem_ready.2 ⟨h, _, rfl, by simp [Region.binds]⟩))
      have st2 := hk 2 (by omega) (fun h => hnot 2 (mem_ready.2 ⟨h, _, rfl, by simp [Region.binds] <;> simp_all⟩))
      have st3 := hk 3 (by omega) (fun h => hnot 3 (mem_ready.2 ⟨h, _, rfl, by simp [Region.binds] <;> simp_all⟩))
      have st4 := hk 4 (by omega) (fun h => hnot 4 (mem_ready.2 ⟨h, _, rfl, by simp [Region.binds]⟩))
      have st5 := hk 5 (by omega) (fun h => hnot 5 (mem_ready.2 ⟨h, _, rfl, by simp [Region.binds] <;> simp_all⟩))
      have st6 := hk 6 (by omega) (fun h => hnot 6 (mem_ready.2 ⟨h, _, rfl, by simp [Region.binds] <;> simp_all⟩))
      have st7 := hk 7 (by omega) (fun h => hnot 7 (mem_ready.2 ⟨h, _, rfl, by simp [Region.binds]⟩))
      have st8 := hk 8 (by omega) (fun h => hnot 8 (mem_ready.2 ⟨h, _, rfl, by simp [Region.binds] <;> simp_all⟩))
      have st9 := hk 9 (by omega) (fun h => hnot 9 (mem_ready.2 ⟨h, _, rfl, by simp [Region.binds]⟩))
      have st10 := hk 10 (by omega) (fun h => hnot 10 (mem_ready.2 ⟨h, _, rfl, by simp [Region.binds] <;> simp_all⟩))
      have st11 := hk 11 (by omega) (fun h => hnot 11 (mem_ready.2 ⟨h, _, rfl, by simp [Region.binds] <;> simp_all⟩))
      have st12 := hk 12 (by omega) (fun h => hnot 12 (mem_ready.2 ⟨h, _, rfl, by simp [Region.binds] <;> simp_all⟩))
      have st13 := hk 13 (by omega) (fun h => hnot 13 (mem_ready.2 ⟨h, _, rfl, by simp [Region.binds] <;> simp_all⟩))
      have st14 := hk 14 (by omega) (fun h => hnot 14 (mem_ready.2 ⟨h, _, rfl, by simp [Region.binds] <;> simp_all⟩))
      have st15 := hk 15 (by omega) (fun h => hnot 15 (mem_ready.2 ⟨h, _, rfl, by simp [Region.binds] <;> simp_all⟩))
      have hall : ∀ i, i < 16 → l.getD i true = true := fun i hi => by
       rcases (show i = 0 ∨ i = 1 ∨ i = 2 ∨ i = 3 ∨ i = 4 ∨ i = 5 ∨ i = 6 ∨ i = 7 ∨ i = 8 ∨ i = 9 ∨ i = 10 ∨ i = 11 ∨ i = 12 ∨ i = 13 ∨ i = 14 ∨ i = 15 by omega) with rfl | rfl | rfl | rfl | rfl | rfl | rfl | rfl | rfl | rfl | rfl | rfl | rfl | rfl | rfl | rfl
       ·exact getD_true st0
       ·exact getD_true st1
       ·exact getD_true st2
       ·exact getD_true st3
       ·exact getD_true st4
       ·exact getD_true st5
       ·exact getD_true st6
       ·exact getD_true st7
       ·exact getD_true st8
       ·exact getD_true st9
       ·exact getD_true st10
       ·exact getD_true st11
       ·exact getD_true st12
       ·exact getD_true st13
       ·exact getD_true st14
       ·exact getD_true st15
      clear st0 st1 st2 st3 st4 st5 st6 st7 st8 st9 st10 st11 st12 st13 st14 st15 hk hnot hz
      have hTs : T.size = 141 := by rw [hT]; rfl
      have ha := hR.all (T' := (((((((((((((((T.setIfInBounds 55 (vals 0)).setIfInBounds 56 (vals 1)).setIfInBounds 57 (vals 2)).setIfInBounds 58 (vals 3)).setIfInBounds 59 (vals 4)).setIfInBounds 60 (vals 5)).setIfInBounds 61 (vals 6)).setIfInBounds 62 (vals 7)).setIfInBounds 63 (vals 8)).setIfInBounds 64 (vals 9)).setIfInBounds 65 (vals 10)).setIfInBounds 66 (vals 11)).setIfInBounds 67 (vals 12)).setIfInBounds 68 (vals 13)).setIfInBounds 69 (vals 14))) (fun i hi => hall i (by simpa using hi)) (by simp) (fun j hj => by
       by_cases h1 : j = 55 ∨ j = 56 ∨ j = 57 ∨ j = 58 ∨ j = 59 ∨ j = 60 ∨ j = 61 ∨ j = 62 ∨ j = 63 ∨ j = 64 ∨ j = 65 ∨ j = 66 ∨ j = 67 ∨ j = 68 ∨ j = 69
       ·rcases h1 with rfl | rfl | rfl | rfl | rfl | rfl | rfl | rfl | rfl | rfl | rfl | rfl | rfl | rfl | rfl <;> simp [rv_sets, tOwn, List.findIdx?, List.findIdx?.go, hTs]
       ·simp only [not_or] at h1
        obtain ⟨m55, m56, m57, m58, m59, m60, m61, m62, m63, m64, m65, m66, m67, m68, m69⟩ := h1
        have e : tOwn [some 55, some 56, some 57, some 58, some 59, some 60, some 61, some 62, some 63, some 64, some 65, some 66, some 67, some 68, some 69, none] vals j = none := by
         unfold tOwn
         simp [List.findIdx?, List.findIdx?.go, Ne.symm m55, Ne.symm m56, Ne.symm m57, Ne.symm m58, Ne.symm m59, Ne.symm m60, Ne.symm m61, Ne.symm m62, Ne.symm m63, Ne.symm m64, Ne.symm m65, Ne.symm m66, Ne.symm m67, Ne.symm m68, Ne.symm m69]
        rw [e]
        simp only [rv_sets]
        repeat rw [if_neg (by omega)])
      have v0 : vals 0 = .slice (some ⟨g1, 0, none⟩) nr nr := hR.vl 0 (by decide) (hall 0 (by decide))
      have v1 : vals 1 = .int .i64 (k : Int) := hR.vl 1 (by decide) (hall 1 (by decide))
      have v2 : vals 2 = .pointer (some ⟨g1, k, none⟩) := hR.vl 2 (by decide) (hall 2 (by decide))
      have v3 : vals 3 = .int .i64 y1 := hR.vl 3 (by decide) (hall 3 (by decide))
      have v4 : vals 4 = .pointer (some ⟨W.heap.size + 1, 0, none⟩) := hR.vl 4 (by decide) (hall 4 (by decide))
      have v5 : vals 5 = .int .u8 c1 := hR.vl 5 (by decide) (hall 5 (by decide))
      have v6 : vals 6 = .int .i64 c1 := hR.vl 6 (by decide) (hall 6 (by decide))
      have v7 : vals 7 = .pointer (some ⟨Bd, 1, none⟩) := hR.vl 7 (by decide) (hall 7 (by decide))
      have v8 : vals 8 = .slice (some ⟨b, off, none⟩) nr cr := hR.vl 8 (by decide) (hall 8 (by decide))
      have v9 : vals 9 = .int .i64 (k : Int) := hR.vl 9 (by decide) (hall 9 (by decide))
      have v10 : vals 10 = .pointer (some ⟨b, off + k, none⟩) := hR.vl 10 (by decide) (hall 10 (by decide))
      have v11 : vals 11 = .int .i64 x := hR.vl 11 (by decide) (hall 11 (by decide))
      have v12 : vals 12 = .int .i64 z := hR.vl 12 (by decide) (hall 12 (by decide))
      have v13 : vals 13 = .int .i64 q1 := hR.vl 13 (by decide) (hall 13 (by decide))
      have v14 : vals 14 = .pointer (some ⟨g1, k, none⟩) := hR.vl 14 (by decide) (hall 14 (by decide))
      have hw := hR.wd.b (hall 15 (by decide))
      subst hw
      subst ha
      clear hR hall hTs
      rw [v0, v1, v2, v3, v4, v5, v6, v7, v8, v9, v10, v11, v12, v13, v14, hT]
      simp only [List.setIfInBounds_toArray, List.set_cons_succ, List.set_cons_zero]
      clear v0 v1 v2 v3 v4 v5 v6 v7 v8 v9 v10 v11 v12 v13 v14 hT T
     clear cu fu lu cd1 cx ca wz wq
     generalize wX.drew.setCell ⟨g1, k, none⟩ (.int .i64 q1) = wY at HYY ⊢
     go_wp2
     have cu : wY.drew.cell? ⟨g2, k, none⟩ = some (.int .i64 y2) := by have h := HYY.out.2.1.cell (k := k) (by rw [List.length_set]; omega); rwa [set_get _ (by omega), if_pos rfl] at h
     have fu : wY.drew.frozen? ⟨g2, k, none⟩ = false := HYY.out.2.1.free k
     have lu : g2 < wY.drew.heap.size := HYY.out.2.1.lt
     have hcc := HCK.out _ HYY.out.2.2.drew
     have cd1 := hcc.1
     have cx := hcc.2.1
     have ca := hcc.2.2.2
     obtain ⟨z2, hz⟩ : ∃ z, z = c2 * x := ⟨_, rfl⟩
     have wz : IntKind.i64.wrap (c2 * x) = z2 := by rw [hz]; exact IntWalk.i64_in _ (by have := HZB.out; omega)
     obtain ⟨q2, hq2⟩ : ∃ q2, q2 = y2 + z2 := ⟨_, rfl⟩
     have wq : IntKind.i64.wrap (y2 + z2) = q2 := by rw [hq2]; exact IntWalk.i64_in _ (by have := HZB.out; omega)
     have HZZ : Hid (IB (wY.drew.setCell ⟨g2, k, none⟩ (.int .i64 q2)) g1 (L.set k q1) ∧ IB (wY.drew.setCell ⟨g2, k, none⟩ (.int .i64 q2)) g2 (M.set k q2) ∧ Below W0.heap.size W0 (wY.drew.setCell ⟨g2, k, none⟩ (.int .i64 q2))) := Lib.hid ⟨(show IB wY.drew g1 (L.set k q1) from HYY.out.1).other hne, by
      have h := (show IB wY.drew g2 (M.set k y2) from HYY.out.2.1).set (k := k) q2
      rwa [List.set_set] at h, HYY.out.2.2.drew.setCell HGG.out.2 _⟩
     have HQ2 : Hid (q2 = y2 + c2 * x) := Lib.hid (by rw [hq2, hz])
     clear hcc hz hq2
     refine (wpIn_wide (n := 6)).1 ?_
     refine frame_namedIn ?_
     intro T hT
     obtain ⟨R, hRd⟩ : ∃ R : Array Bool → Act → World → Prop, R = (fun l a w' => ∃ vals, RH stCh T [some 70, some 71, some 72, some 73, some 74, some 75, some 76, some 77, some 78, some 79, some 80, some 81, some 82, some 83, some 84, none] (fun l _ w => ST wY.drew (wY.drew.setCell ⟨g2, k, none⟩ (.int .i64 q2)) 15 l w) (fun i u _ => match i with | 0 => u = .slice (some ⟨g2, 0, none⟩) nr nr | 1 => u = .int .i64 (k : Int) | 2 => u = .pointer (some ⟨g2, k, none⟩) | 3 => u = .int .i64 y2 | 4 => u = .pointer (some ⟨W.heap.size + 1, 1, none⟩) | 5 => u = .int .u8 c2 | 6 => u = .int .i64 c2 | 7 => u = .pointer (some ⟨Bd, 1, none⟩) | 8 => u = .slice (some ⟨b, off, none⟩) nr cr | 9 => u = .int .i64 (k : Int) | 10 => u = .pointer (some ⟨b, off + k, none⟩) | 11 => u = .int .i64 x | 12 => u = .int .i64 z2 | 13 => u = .int .i64 q2 | 14 => u = .pointer (some ⟨g2, k, none⟩) | _ => True) vals l a w') := ⟨_, rfl⟩
     refine region_inv (by kernel_rfl) R ?h0r3b1 ?stepr3b1 ?finr3b1
     case h0r3b1 => rw [hRd]; exact RH.start rfl (fun i j h => by simp [stCh] at h; simp only [List.length_cons, List.length_nil]; omega) (by exact ⟨fun _ => rfl, fun h => absurd h (by decide)⟩)
     case stepr3b1 =>
      rintro l a w' i' hR0 hi'
      have hR1 := hR0
      rw [hRd] at hR1
      obtain ⟨vals, hR⟩ := hR1
      obtain ⟨hl0, o, ho, hdep⟩ := mem_ready.1 hi'
      have h15 : i' < 16 := by
       have := (Array.getElem?_eq_some_iff.1 ho).1
       simpa using this
      rcases (show i' = 0 ∨ i' = 1 ∨ i' = 2 ∨ i' = 3 ∨ i' = 4 ∨ i' = 5 ∨ i' = 6 ∨ i' = 7 ∨ i' = 8 ∨ i' = 9 ∨ i' = 10 ∨ i' = 11 ∨ i' = 12 ∨ i' = 13 ∨ i' = 14 ∨ i' = 15 by omega) with rfl | rfl | rfl | rfl | rfl | rfl | rfl | rfl | rfl | rfl | rfl | rfl | rfl | rfl | rfl | rfl
      ·simp at ho
       subst ho
       simp [Region.binds] at hdep
       have k0 : a.tmps.getD 12 undef = .slice (some ⟨g2, 0, none⟩) nr nr := (hR.fr.kept rfl (by simp [hT])).trans (by rw [hT]; try rfl)
       have hc : ∀ j, (0, j) ∈ stCh → l.getD j true = true := by intro j hj; simp [stCh] at hj
       clear hi' hdep
       have k0g := gD k0
       unfold wpOpIn; simp [Region.wanted]; unfold Oper.wpIn
       simp [Oper.about, execOp, go_sem, Act.eval, k0, k0g]
       rw [hRd]
       exact hR.op 0 70 _ rfl (by decide) hl0 hc (ST.const hR.wd (by decide)) (fun _ _ h => h) (rfl)
      ·simp at ho
       subst ho
       simp [Region.binds] at hdep
       have k0 : a.tmps.getD 13 undef = .int .i64 (k : Int) := (hR.fr.kept rfl (by simp [hT])).trans (by rw [hT]; try rfl)
       have hc : ∀ j, (1, j) ∈ stCh → l.getD j true = true := by intro j hj; simp [stCh] at hj
       clear hi' hdep
       have k0g := gD k0
       unfold wpOpIn; simp [Region.wanted]; unfold Oper.wpIn
       simp [Oper.about, execOp, go_sem, Act.eval, k0, k0g]
       rw [hRd]
       exact hR.op 1 71 _ rfl (by decide) hl0 hc (ST.const hR.wd (by decide)) (fun _ _ h => h) (rfl)
      ·simp at ho
       subst ho
       simp [Region.binds] at hdep
       have d0 : l.getD 0 true = true := getD_true (by simp_all)
       have k0 : a.tmps.getD 70 undef = vals 0 := hR.get rfl (by simp_all) (by simp [hT])
       have e0 : vals 0 = .slice (some ⟨g2, 0, none⟩) nr nr := hR.vl 0 (by decide) d0
       rw [e0] at k0
       have d1 : l.getD 1 true = true := getD_true (by simp_all)
       have k1 : a.tmps.getD 71 undef = vals 1 := hR.get rfl (by simp_all) (by simp [hT])
       have e1 : vals 1 = .int .i64 (k : Int) := hR.vl 1 (by decide) d1
       rw [e1] at k1
       have hc : ∀ j, (2, j) ∈ stCh → l.getD j true = true := by intro j hj; simp [stCh] at hj; rcases hj with rfl | rfl <;> exact getD_true (by simp_all)
       clear hi' hdep
       have k0g := gD k0
       have k1g := gD k1
       unfold wpOpIn; simp [Region.wanted]; unfold Oper.wpIn
       simp [Oper.about, execOp, go_sem, Act.eval, k0, k1, k0g, k1g, hltI]
       rw [hRd]
       exact hR.op 2 72 _ rfl (by decide) hl0 hc (ST.const hR.wd (by decide)) (fun _ _ h => h) (rfl)
      ·simp at ho
       subst ho
       simp [Region.binds] at hdep
       have d0 : l.getD 2 true = true := getD_true (by simp_all)
       have k0 : a.tmps.getD 72 undef = vals 2 := hR.get rfl (by simp_all) (by simp [hT])
       have e0 : vals 2 = .pointer (some ⟨g2, k, none⟩) := hR.vl 2 (by decide) d0
       rw [e0] at k0
       have hc : ∀ j, (3, j) ∈ stCh → l.getD j true = true := by intro j hj; simp [stCh] at hj; rcases hj with rfl <;> exact getD_true (by simp_all)
       have n15 := hR.no (s := 15) hl0 (fun hs => (hR.dep 15 3 (by decide) hs))
       clear hi' hdep
       have hw := hR.wd.a n15
       subst hw
       have k0g := gD k0
       unfold wpOpIn; simp [Region.wanted]; unfold Oper.wpIn
       simp [Oper.about, execOp, go_sem, Act.eval, k0, k0g, cu]
       rw [hRd]
       exact hR.op 3 73 _ rfl (by decide) hl0 hc (ST.const hR.wd (by decide)) (fun _ _ h => h) (rfl)
      ·simp at ho
       subst ho
       simp [Region.binds] at hdep
       have k0 : a.tmps.getD 4 undef = .pointer (some ⟨W.heap.size + 1, 0, none⟩) := (hR.fr.kept rfl (by simp [hT])).trans (by rw [hT]; try rfl)
       have hc : ∀ j, (4, j) ∈ stCh → l.getD j true = true := by intro j hj; simp [stCh] at hj
       clear hi' hdep
       have k0g := gD k0
       unfold wpOpIn; simp [Region.wanted]; unfold Oper.wpIn
       simp [Oper.about, execOp, go_sem, Act.eval, k0, k0g]
       rw [hRd]
       exact hR.op 4 74 _ rfl (by decide) hl0 hc (ST.const hR.wd (by decide)) (fun _ _ h => h) (rfl)
      ·simp at ho
       subst ho
       simp [Region.binds] at hdep
       have d0 : l.getD 4 true = true := getD_true (by simp_all)
       have k0 : a.tmps.getD 74 undef = vals 4 := hR.get rfl (by simp_all) (by simp [hT])
       have e0 : vals 4 = .pointer (some ⟨W.heap.size + 1, 1, none⟩) := hR.vl 4 (by decide) d0
       rw [e0] at k0
       have hc : ∀ j, (5, j) ∈ stCh → l.getD j true = true := by intro j hj; simp [stCh] at hj; rcases hj with rfl <;> exact getD_true (by simp_all)
       have n15 := hR.no (s := 15) hl0 (fun hs => (hR.dep 15 5 (by decide) hs))
       clear hi' hdep
       have hw := hR.wd.a n15
       subst hw
       have k0g := gD k0
       unfold wpOpIn; simp [Region.wanted]; unfold Oper.wpIn
       simp [Oper.about, execOp, go_sem, Act.eval, k0, k0g, ca]
       rw [hRd]
       exact hR.op 5 75 _ rfl (by decide) hl0 hc (ST.const hR.wd (by decide)) (fun _ _ h => h) (rfl)
      ·simp at ho
       subst ho
       simp [Region.binds] at hdep
       have d0 : l.getD 5 true = true := getD_true (by simp_all)
       have k0 : a.tmps.getD 75 undef = vals 5 := hR.get rfl (by simp_all) (by simp [hT])
       have e0 : vals 5 = .int .u8 c2 := hR.vl 5 (by decide) d0
       rw [e0] at k0
       have hc : ∀ j, (6, j) ∈ stCh → l.getD j true = true := by intro j hj; simp [stCh] at hj; rcases hj with rfl <;> exact getD_true (by simp_all)
       clear hi' hdep
       have k0g := gD k0
       unfold wpOpIn; simp [Region.wanted]; unfold Oper.wpIn
       simp [Oper.about, execOp, go_sem, Act.eval, k0, k0g, wc1, wc2]
       rw [hRd]
       exact hR.op 6 76 _ rfl (by decide) hl0 hc (ST.const hR.wd (by decide)) (fun _ _ h => h) (rfl)
      ·simp at ho
       subst ho
       simp [Region.binds] at hdep
       have k0 : a.tmps.getD 8 undef = .pointer (some ⟨Bd, 0, none⟩) := (hR.fr.kept rfl (by simp [hT])).trans (by rw [hT]; try rfl)
       have hc : ∀ j, (7, j) ∈ stCh → l.getD j true = true := by intro j hj; simp [stCh] at hj
       clear hi' hdep
       have k0g := gD k0
       unfold wpOpIn; simp [Region.wanted]; unfold Oper.wpIn
       simp [Oper.about, execOp, go_sem, Act.eval, k0, k0g]
       rw [hRd]
       exact hR.op 7 77 _ rfl (by decide) hl0 hc (ST.const hR.wd (by decide)) (fun _ _ h => h) (rfl)
      ·simp at ho
       subst ho
       simp [Region.binds] at hdep
       have d0 : l.getD 7 true = true := getD_true (by simp_all)
       have k0 : a.tmps.getD 77 undef = vals 7 := hR.get rfl (by simp_all) (by simp [hT])
       have e0 : vals 7 = .pointer (some ⟨Bd, 1, none⟩) := hR.vl 7 (by decide) d0
       rw [e0] at k0
       have hc : ∀ j, (8, j) ∈ stCh → l.getD j true = true := by intro j hj; simp [stCh] at hj; rcases hj with rfl <;> exact getD_true (by simp_all)
       have n15 := hR.no (s := 15) hl0 (fun hs => (hR.dep 15 8 (by decide) hs))
       clear hi' hdep
       have hw := hR.wd.a n15
       subst hw
       have k0g := gD k0
       unfold wpOpIn; simp [Region.wanted]; unfold Oper.wpIn
       simp [Oper.about, execOp, go_sem, Act.eval, k0, k0g, cd1]
       rw [hRd]
       exact hR.op 8 78 _ rfl (by decide) hl0 hc (ST.const hR.wd (by decide)) (fun _ _ h => h) (rfl)
      ·simp at ho
       subst ho
       simp [Region.binds] at hdep
       have k0 : a.tmps.getD 13 undef = .int .i64 (k : Int) := (hR.fr.kept rfl (by simp [hT])).trans (by rw [hT]; try rfl)
       have hc : ∀ j, (9, j) ∈ stCh → l.getD j true = true := by intro j hj; simp [stCh] at hj
       clear hi' hdep
       have k0g := gD k0
       unfold wpOpIn; simp [Region.wanted]; unfold Oper.wpIn
       simp [Oper.about, execOp, go_sem, Act.eval, k0, k0g]
       rw [hRd]
       exact hR.op 9 79 _ rfl (by decide) hl0 hc (ST.const hR.wd (by decide)) (fun _ _ h => h) (rfl)
      ·simp at ho
       subst ho
       simp [Region.binds] at hdep
       have d0 : l.getD 8 true = true := getD_true (by simp_all)
       have k0 : a.tmps.getD 78 undef = vals 8 := hR.get rfl (by simp_all) (by simp [hT])
       have e0 : vals 8 = .slice (some ⟨b, off, none⟩) nr cr := hR.vl 8 (by decide) d0
       rw [e0] at k0
       have d1 : l.getD 9 true = true := getD_true (by simp_all)
       have k1 : a.tmps.getD 79 undef = vals 9 := hR.get rfl (by simp_all) (by simp [hT])
       have e1 : vals 9 = .int .i64 (k : Int) := hR.vl 9 (by decide) d1
       rw [e1] at k1
       have hc : ∀ j, (10, j) ∈ stCh → l.getD j true = true := by intro j hj; simp [stCh] at hj; rcases hj with rfl | rfl <;> exact getD_true (by simp_all)
       clear hi' hdep
       have k0g := gD k0
       have k1g := gD k1
       unfold wpOpIn; simp [Region.wanted]; unfold Oper.wpIn
       simp [Oper.about, execOp, go_sem, Act.eval, k0, k1, k0g, k1g, hltI]
       rw [hRd]
       exact hR.op 10 80 _ rfl (by decide) hl0 hc (ST.const hR.wd (by decide)) (fun _ _ h => h) (rfl)
      ·simp at ho
       subst ho
       simp [Region.binds] at hdep
       have d0 : l.getD 10 true = true := getD_true (by simp_all)
       have k0 : a.tmps.getD 80 undef = vals 10 := hR.get rfl (by simp_all) (by simp [hT])
       have e0 : vals 10 = .pointer (some ⟨b, off + k, none⟩) := hR.vl 10 (by decide) d0
       rw [e0] at k0
       have hc : ∀ j, (11, j) ∈ stCh → l.getD j true = true := by intro j hj; simp [stCh] at hj; rcases hj with rfl <;> exact getD_true (by simp_all)
       have n15 := hR.no (s := 15) hl0 (fun hs => (hR.dep 15 11 (by decide) hs))
       clear hi' hdep
       have hw := hR.wd.a n15
       subst hw
       have k0g := gD k0
       unfold wpOpIn; simp [Region.wanted]; unfold Oper.wpIn
       simp [Oper.about, execOp, go_sem, Act.eval, k0, k0g, cx]
       rw [hRd]
       exact hR.op 11 81 _ rfl (by decide) hl0 hc (ST.const hR.wd (by decide)) (fun _ _ h => h) (rfl)
      ·simp at ho
       subst ho
       simp [Region.binds] at hdep
       have d0 : l.getD 6 true = true := getD_true (by simp_all)
       have k0 : a.tmps.getD 76 undef = vals 6 := hR.get rfl (by simp_all) (by simp [hT])
       have e0 : vals 6 = .int .i64 c2 := hR.vl 6 (by decide) d0
       rw [e0] at k0
       have d1 : l.getD 11 true = true := getD_true (by simp_all)
       have k1 : a.tmps.getD 81 undef = vals 11 := hR.get rfl (by simp_all) (by simp [hT])
       have e1 : vals 11 = .int .i64 x := hR.vl 11 (by decide) d1
       rw [e1] at k1
       have hc : ∀ j, (12, j) ∈ stCh → l.getD j true = true := by intro j hj; simp [stCh] at hj; rcases hj with rfl | rfl <;> exact getD_true (by simp_all)
       clear hi' hdep
       have k0g := gD k0
       have k1g := gD k1
       unfold wpOpIn; simp [Region.wanted]; unfold Oper.wpIn
       simp [Oper.about, execOp, go_sem, Act.eval, k0, k1, k0g, k1g, wz]
       rw [hRd]
       exact hR.op 12 82 _ rfl (by decide) hl0 hc (ST.const hR.wd (by decide)) (fun _ _ h => h) (rfl)
      ·simp at ho
       subst ho
       simp [Region.binds] at hdep
       have d0 : l.getD 3 true = true := getD_true (by simp_all)
       have k0 : a.tmps.getD 73 undef = vals 3 := hR.get rfl (by simp_all) (by simp [hT])
       have e0 : vals 3 = .int .i64 y2 := hR.vl 3 (by decide) d0
       rw [e0] at k0
       have d1 : l.getD 12 true = true := getD_true (by simp_all)
       have k1 : a.tmps.getD 82 undef = vals 12 := hR.get rfl (by simp_all) (by simp [hT])
       have e1 : vals 12 = .int .i64 z2 := hR.vl 12 (by decide) d1
       rw [e1] at k1
       have hc : ∀ j, (13, j) ∈ stCh → l.getD j true = true := by intro j hj; simp [stCh] at hj; rcases hj with rfl | rfl <;> exact getD_true (by simp_all)
       clear hi' hdep
       have k0g := gD k0
       have k1g := gD k1
       unfold wpOpIn; simp [Region.wanted]; unfold Oper.wpIn
       simp [Oper.about, execOp, go_sem, Act.eval, k0, k1, k0g, k1g, wq]
       rw [hRd]
       exact hR.op 13 83 _ rfl (by decide) hl0 hc (ST.const hR.wd (by decide)) (fun _ _ h => h) (rfl)
      ·simp at ho
       subst ho
       simp [Region.binds] at hdep
       have d0 : l.getD 0 true = true := getD_true (by simp_all)
       have k0 : a.tmps.getD 70 undef = vals 0 := hR.get rfl (by simp_all) (by simp [hT])
       have e0 : vals 0 = .slice (some ⟨g2, 0, none⟩) nr nr := hR.vl 0 (by decide) d0
       rw [e0] at k0
       have d1 : l.getD 1 true = true := getD_true (by simp_all)
       have k1 : a.tmps.getD 71 undef = vals 1 := hR.get rfl (by simp_all) (by simp [hT])
       have e1 : vals 1 = .int .i64 (k : Int) := hR.vl 1 (by decide) d1
       rw [e1] at k1
       have hc : ∀ j, (14, j) ∈ stCh → l.getD j true = true := by intro j hj; simp [stCh] at hj; rcases hj with rfl | rfl <;> exact getD_true (by simp_all)
       clear hi' hdep
       have k0g := gD k0
       have k1g := gD k1
       unfold wpOpIn; simp [Region.wanted]; unfold Oper.wpIn
       simp [Oper.about, execOp, go_sem, Act.eval, k0, k1, k0g, k1g, hltI]
       rw [hRd]
       exact hR.op 14 84 _ rfl (by decide) hl0 hc (ST.const hR.wd (by decide)) (fun _ _ h => h) (rfl)
      ·simp at ho
       subst ho
       simp [Region.binds] at hdep
       have d0 : l.getD 14 true = true := getD_true (by simp_all)
       have k0 : a.tmps.getD 84 undef = vals 14 := hR.get rfl (by simp_all) (by simp [hT])
       have e0 : vals 14 = .pointer (some ⟨g2, k, none⟩) := hR.vl 14 (by decide) d0
       rw [e0] at k0
       have d1 : l.getD 13 true = true := getD_true (by simp_all)
       have k1 : a.tmps.getD 83 undef = vals 13 := hR.get rfl (by simp_all) (by simp [hT])
       have e1 : vals 13 = .int .i64 q2 := hR.vl 13 (by decide) d1
       rw [e1] at k1
       have hc : ∀ j, (15, j) ∈ stCh → l.getD j true = true := by intro j hj; simp [stCh] at hj; rcases hj with rfl | rfl | rfl | rfl | rfl | rfl <;> exact getD_true (by simp_all)
       clear hi' hdep
       have hw := hR.wd.a hl0
       subst hw
       have k0g := gD k0
       have k1g := gD k1
       unfold wpOpIn; simp [Region.wanted]; unfold Oper.wpIn
       simp [Oper.about, execOp, go_sem, Act.eval, k0, k1, k0g, k1g, cu, fu, lu]
       rw [hRd]
       exact hR.bare 15 undef rfl hl0 hc (ST.done) (fun _ _ h => h) (fun _ => trivial)
     case' finr3b1 =>
      rintro l a w' hR0 hz
      rw [hRd] at hR0
      obtain ⟨vals, hR⟩ := hR0
      clear hRd R
      have hnot := List.eq_nil_iff_forall_not_mem.1 hz
      have hk : ∀ k, k < 16 → (l.getD k true = false → False) → l.getD k false = true := fun k h12 h => by
       have hs := hR.size
       cases h' : l.getD k true with
       | false => exact (h h').elim
       | true => simp at hs; simp [Array.getD, hs, h12] at h' ⊢; exact h'
      have st0 := hk 0 (by omega) (fun h => hnot 0 (mem_ready.2 ⟨h, _, rfl, by simp [Region.binds]⟩))
      have st1 := hk 1 (by omega) (fun h => hnot 1 (mem_ready.2 ⟨h, _, rfl, by simp [Region.binds]⟩))
      have st2 := hk 2 (by omega) (fun h => hnot 2 (mem_ready.2 ⟨h, _, rfl, by simp [Region.binds] <;> simp_all⟩))
      have st3 := hk 3 (by omega) (fun h => hnot 3 (mem_ready.2 ⟨h, _, rfl, by simp [Region.binds] <;> simp_all⟩))
      have st4 := hk 4 (by omega) (fun h => hnot 4 (mem_ready.2 ⟨h, _, rfl, by simp [Region.binds]⟩))
      have st5 := hk 5 (by omega) (fun h => hnot 5 (mem_ready.2 ⟨h, _, rfl, by simp [Region.binds] <;> simp_all⟩))
      have st6 := hk 6 (by omega) (fun h => hnot 6 (mem_ready.2 ⟨h, _, rfl, by simp [Region.binds] <;> simp_all⟩))
      have st7 := hk 7 (by omega) (fun h => hnot 7 (mem_ready.2 ⟨h, _, rfl, by simp [Region.binds]⟩))
      have st8 := hk 8 (by omega) (fun h => hnot 8 (mem_ready.2 ⟨h, _, rfl, by simp [Region.binds] <;> simp_all⟩))
      have st9 := hk 9 (by omega) (fun h => hnot 9 (mem_ready.2 ⟨h, _, rfl, by simp [Region.binds]⟩))
      have st10 := hk 10 (by omega) (fun h => hnot 10 (mem_ready.2 ⟨h, _, rfl, by simp [Region.binds] <;> simp_all⟩))
      have st11 := hk 11 (by omega) (fun h => hnot 11 (mem_ready.2 ⟨h, _, rfl, by simp [Region.binds] <;> simp_all⟩))
      have st12 := hk 12 (by omega) (fun h => hnot 12 (mem_ready.2 ⟨h, _, rfl, by simp [Region.binds] <;> simp_all⟩))
      have st13 := hk 13 (by omega) (fun h => hnot 13 (mem_ready.2 ⟨h, _, rfl, by simp [Region.binds] <;> simp_all⟩))
      have st14 := hk 14 (by omega) (fun h => hnot 14 (mem_ready.2 ⟨h, _, rfl, by simp [Region.binds] <;> simp_all⟩))
      have st15 := hk 15 (by omega) (fun h => hnot 15 (mem_ready.2 ⟨h, _, rfl, by simp [Region.binds] <;> simp_all⟩))
      have hall : ∀ i, i < 16 → l.getD i true = true := fun i hi => by
       rcases (show i = 0 ∨ i = 1 ∨ i = 2 ∨ i = 3 ∨ i = 4 ∨ i = 5 ∨ i = 6 ∨ i = 7 ∨ i = 8 ∨ i = 9 ∨ i = 10 ∨ i = 11 ∨ i = 12 ∨ i = 13 ∨ i = 14 ∨ i = 15 by omega) with rfl | rfl | rfl | rfl | rfl | rfl | rfl | rfl | rfl | rfl | rfl | rfl | rfl | rfl | rfl | rfl
       ·exact getD_true st0
       ·exact getD_true st1
       ·exact getD_true st2
       ·exact getD_true st3
       ·exact getD_true st4
       ·exact getD_true st5
       ·exact getD_true st6
       ·exact getD_true st7
       ·exact getD_true st8
       ·exact getD_true st9
       ·exact getD_true st10
       ·exact getD_true st11
       ·exact getD_true st12
       ·exact getD_true st13
       ·exact getD_true st14
       ·exact getD_true st15
      clear st0 st1 st2 st3 st4 st5 st6 st7 st8 st9 st10 st11 st12 st13 st14 st15 hk hnot hz
      have hTs : T.size = 141 := by rw [hT]; rfl
      have ha := hR.all (T' := (((((((((((((((T.setIfInBounds 70 (vals 0)).setIfInBounds 71 (vals 1)).setIfInBounds 72 (vals 2)).setIfInBounds 73 (vals 3)).setIfInBounds 74 (vals 4)).setIfInBounds 75 (vals 5)).setIfInBounds 76 (vals 6)).setIfInBounds 77 (vals 7)).setIfInBounds 78 (vals 8)).setIfInBounds 79 (vals 9)).setIfInBounds 80 (vals 10)).setIfInBounds 81 (vals 11)).setIfInBounds 82 (vals 12)).setIfInBounds 83 (vals 13)).setIfInBounds 84 (vals 14))) (fun i hi => hall i (by simpa using hi)) (by simp) (fun j hj => by
       by_cases h1 : j = 70 ∨ j = 71 ∨ j = 72 ∨ j = 73 ∨ j = 74 ∨ j = 75 ∨ j = 76 ∨ j = 77 ∨ j = 78 ∨ j = 79 ∨ j = 80 ∨ j = 81 ∨ j = 82 ∨ j = 83 ∨ j = 84
       ·rcases h1 with rfl | rfl | rfl | rfl | rfl | rfl | rfl | rfl | rfl | rfl | rfl | rfl | rfl | rfl | rfl <;> simp [rv_sets, tOwn, List.findIdx?, List.findIdx?.go, hTs]
       ·simp only [not_or] at h1
        obtain ⟨m70, m71, m72, m73, m74, m75, m76, m77, m78, m79, m80, m81, m82, m83, m84⟩ := h1
        have e : tOwn [some 70, some 71, some 72, some 73, some 74, some 75, some 76, some 77, some 78, some 79, some 80, some 81, some 82, some 83, some 84, none] vals j = none := by
         unfold tOwn
         simp [List.findIdx?, List.findIdx?.go, Ne.symm m70, Ne.symm m71, Ne.symm m72, Ne.symm m73, Ne.symm m74, Ne.symm m75, Ne.symm m76, Ne.symm m77, Ne.symm m78, Ne.symm m79, Ne.symm m80, Ne.symm m81, Ne.symm m82, Ne.symm m83, Ne.symm m84]
        rw [e]
        simp only [rv_sets]
        repeat rw [if_neg (by omega)])
      have v0 : vals 0 = .slice (some ⟨g2, 0, none⟩) nr nr := hR.vl 0 (by decide) (hall 0 (by decide))
      have v1 : vals 1 = .int .i64 (k : Int) := hR.vl 1 (by decide) (hall 1 (by decide))
      have v2 : vals 2 = .pointer (some ⟨g2, k, none⟩) := hR.vl 2 (by decide) (hall 2 (by decide))
      have v3 : vals 3 = .int .i64 y2 := hR.vl 3 (by decide) (hall 3 (by decide))
      have v4 : vals 4 = .pointer (some ⟨W.heap.size + 1, 1, none⟩) := hR.vl 4 (by decide) (hall 4 (by decide))
      have v5 : vals 5 = .int .u8 c2 := hR.vl 5 (by decide) (hall 5 (by decide))
      have v6 : vals 6 = .int .i64 c2 := hR.vl 6 (by decide) (hall 6 (by decide))
      have v7 : vals 7 = .pointer (some ⟨Bd, 1, none⟩) := hR.vl 7 (by decide) (hall 7 (by decide))
      have v8 : vals 8 = .slice (some ⟨b, off, none⟩) nr cr := hR.vl 8 (by decide) (hall 8 (by decide))
      have v9 : vals 9 = .int .i64 (k : Int) := hR.vl 9 (by decide) (hall 9 (by decide))
      have v10 : vals 10 = .pointer (some ⟨b, off + k, none⟩) := hR.vl 10 (by decide) (hall 10 (by decide))
      have v11 : vals 11 = .int .i64 x := hR.vl 11 (by decide) (hall 11 (by decide))
      have v12 : vals 12 = .int .i64 z2 := hR.vl 12 (by decide) (hall 12 (by decide))
      have v13 : vals 13 = .int .i64 q2 := hR.vl 13 (by decide) (hall 13 (by decide))
      have v14 : vals 14 = .pointer (some ⟨g2, k, none⟩) := hR.vl 14 (by decide) (hall 14 (by decide))
      have hw := hR.wd.b (hall 15 (by decide))
      subst hw
      subst ha
      clear hR hall hTs
      rw [v0, v1, v2, v3, v4, v5, v6, v7, v8, v9, v10, v11, v12, v13, v14, hT]
      simp only [List.setIfInBounds_toArray, List.set_cons_succ, List.set_cons_zero]
      clear v0 v1 v2 v3 v4 v5 v6 v7 v8 v9 v10 v11 v12 v13 v14 hT T
     clear cu fu lu cd1 cx ca wz wq
     generalize wY.drew.setCell ⟨g2, k, none⟩ (.int .i64 q2) = wZ at HZZ ⊢
     have hcc := HCK.out _ HZZ.out.2.2
     have cd1 := hcc.1
     have cx := hcc.2.1
     have cu : wZ.cell? ⟨g1, k, none⟩ = some (.int .i64 q1) := by have h := HZZ.out.1.cell (k := k) (by rw [List.length_set]; omega); rwa [set_get _ (by omega), if_pos rfl] at h
     have fu : wZ.frozen? ⟨g1, k, none⟩ = false := HZZ.out.1.free k
     have lu : g1 < wZ.heap.size := HZZ.out.1.lt
     clear hcc
     by_cases hx0 : x = 0
     ·have hq := HQ1.out
      rw [hx0] at hq
      have wq : IntKind.i64.wrap (q1 + cl) = q1 + cl := IntWalk.i64_in _ (by omega)
      have HFI : Hid (ShI W0 (wZ.setCell ⟨g1, k, none⟩ (.int .i64 (q1 + cl))) g1 g2 r (unV r row) (unV r row2) c1 c2 cl nr (k + 1) (L.set k (y1 + c1 * x + if x = 0 then cl else 0)) (M.set k (y2 + c2 * x))) := Lib.hid (HEND.out _ (by
       have h := HZZ.out.1.set (k := k) (q1 + cl)
       rw [List.set_set] at h
       rw [if_pos hx0, ← HQ1.out]; exact h) (by
       have h := HZZ.out.2.1.other (q := g1) (k := k) (v := .int .i64 (q1 + cl)) (fun e => hne e.symm)
       rw [← HQ2.out]; exact h) (HZZ.out.2.2.setCell HGG.out.1 _))
      clear hq
      rw [hx0] at cx
      go_wp2
      go_roundw
      case rel => exact ⟨k + 1, _, _, by omega, by go_num, HFI⟩
      case measure => simp [intOf]; omega
     ·have HFI : Hid (ShI W0 wZ g1 g2 r (unV r row) (unV r row2) c1 c2 cl nr (k + 1) (L.set k (y1 + c1 * x + if x = 0 then cl else 0)) (M.set k (y2 + c2 * x))) := Lib.hid (HEND.out _ (by rw [if_neg hx0, Int.add_zero, ← HQ1.out]; exact HZZ.out.1) (by rw [← HQ2.out]; exact HZZ.out.2.1) HZZ.out.2.2)
      go_wp2
      go_roundw
      case rel => exact ⟨k + 1, _, _, by omega, by go_num, HFI⟩
      case measure => simp [intOf]; omega
   ·by_cases hnt : nt = 0
    ·obtain ⟨bs, os, rfl, hbs⟩ := HRD.out.1 hns
     have cs1 := hbs w HI.out.b
     have hnsI : (0 : Int) < (ns : Int) := by omega
     have hks : (k : Int) < (ns : Int) := by have := HI0.out.2.1.size; have := HRW.out.1.1; have := HNR.out; omega
     have hb1 : Below W0.heap.size W0 (w.setCell ⟨g1, k, none⟩ (.int .i64 y1)) := HI.out.b.setCell HGG.out.1 _
     have hntI : ¬ (0 : Int) < (nt : Int) := by omega
     have HXX : Hid (IB (w.setCell ⟨g1, k, none⟩ (.int .i64 y1)) g1 (L.set k y1) ∧ IB (w.setCell ⟨g1, k, none⟩ (.int .i64 y1)) g2 (M.set k y2) ∧ Below W0.heap.size W0 (w.setCell ⟨g1, k, none⟩ (.int .i64 y1))) := Lib.hid ⟨(HI.out.u.set y1), (by rw [HYZ.out.2 hnt, ← HLK.out.2, set_id (by omega)]; exact HI.out.v.other (fun e => hne e.symm)), hb1⟩
     clear hb1 hbs hnt
     go_wp2
     generalize w.setCell ⟨g1, k, none⟩ (.int .i64 y1) = wX at HXX ⊢
     clear cs1 hks hnsI hntI cu cv fu fv lu lv
     have hL1 : L.set k y1 = L.set k y1 := rfl
     have cu : wX.drew.cell? ⟨g1, k, none⟩ = some (.int .i64 y1) := by have h := HXX.out.1.cell (k := k) (by rw [List.length_set]; omega); rwa [set_get _ (by omega), if_pos rfl] at h
     have fu : wX.drew.frozen? ⟨g1, k, none⟩ = false := HXX.out.1.free k
     have lu : g1 < wX.drew.heap.size := HXX.out.1.lt
     have hcc := HCK.out _ HXX.out.2.2.drew
     have cd1 := hcc.1
     have cx := hcc.2.1
     have ca := hcc.2.2.1
     obtain ⟨z, hz⟩ : ∃ z, z = c1 * x := ⟨_, rfl⟩
     have wz : IntKind.i64.wrap (c1 * x) = z := by rw [hz]; exact IntWalk.i64_in _ (by have := HZB.out; omega)
     obtain ⟨q1, hq1⟩ : ∃ q1, q1 = y1 + z := ⟨_, rfl⟩
     have wq : IntKind.i64.wrap (y1 + z) = q1 := by rw [hq1]; exact IntWalk.i64_in _ (by have := HZB.out; omega)
     have HYY : Hid (IB (wX.drew.setCell ⟨g1, k, none⟩ (.int .i64 q1)) g1 (L.set k q1) ∧ IB (wX.drew.setCell ⟨g1, k, none⟩ (.int .i64 q1)) g2 (M.set k y2) ∧ Below W0.heap.size W0 (wX.drew.setCell ⟨g1, k, none⟩ (.int .i64 q1))) := Lib.hid ⟨by
      have h := (show IB wX.drew g1 (L.set k y1) from HXX.out.1).set (k := k) q1
      rwa [List.set_set] at h, (show IB wX.drew g2 (M.set k y2) from HXX.out.2.1).other (fun e => hne e.symm), HXX.out.2.2.drew.setCell HGG.out.1 _⟩
     have HQ1 : Hid (q1 = y1 + c1 * x) := Lib.hid (by rw [hq1, hz])
     clear hcc hz hq1 hL1
     refine (wpIn_wide (n := 6)).1 ?_
     refine frame_namedIn ?_
     intro T hT
     obtain ⟨R, hRd⟩ : ∃ R : Array Bool → Act → World → Prop, R = (fun l a w' => ∃ vals, RH stCh T [some 55, some 56, some 57, some 58, some 59, some 60, some 61, some 62, some 63, some 64, some 65, some 66, some 67, some 68, some 69, none] (fun l _ w => ST wX.drew (wX.drew.setCell ⟨g1, k, none⟩ (.int .i64 q1)) 15 l w) (fun i u _ => match i with | 0 => u = .slice (some ⟨g1, 0, none⟩) nr nr | 1 => u = .int .i64 (k : Int) | 2 => u = .pointer (some ⟨g1, k, none⟩) | 3 => u = .int .i64 y1 | 4 => u = .pointer (some ⟨W.heap.size + 1, 0, none⟩) | 5 => u = .int .u8 c1 | 6 => u = .int .i64 c1 | 7 => u = .pointer (some ⟨Bd, 1, none⟩) | 8 => u = .slice (some ⟨b, off, none⟩) nr cr | 9 => u = .int .i64 (k : Int) | 10 => u = .pointer (some ⟨b, off + k, none⟩) | 11 => u = .int .i64 x | 12 => u = .int .i64 z | 13 => u = .int .i64 q1 | 14 => u = .pointer (some ⟨g1, k, none⟩) | _ => True) vals l a w') := ⟨_, rfl⟩
     refine region_inv (by kernel_rfl) R ?h0r2b2 ?stepr2b2 ?finr2b2
     case h0r2b2 => rw [hRd]; exact RH.start rfl (fun i j h => by simp [stCh] at h; simp only [List.length_cons, List.length_nil]; omega) (by exact ⟨fun _ => rfl, fun h => absurd h (by decide)⟩)
     case stepr2b2 =>
      rintro l a w' i' hR0 hi'
      have hR1 := hR0
      rw [hRd] at hR1
      obtain ⟨vals, hR⟩ := hR1
      obtain ⟨hl0, o, ho, hdep⟩ := mem_ready.1 hi'
      have h15 : i' < 16 := by
       have := (Array.getElem?_eq_some_iff.1 ho).1
       simpa using this
      rcases (show i' = 0 ∨ i' = 1 ∨ i' = 2 ∨ i' = 3 ∨ i' = 4 ∨ i' = 5 ∨ i' = 6 ∨ i' = 7 ∨ i' = 8 ∨ i' = 9 ∨ i' = 10 ∨ i' = 11 ∨ i' = 12 ∨ i' = 13 ∨ i' = 14 ∨ i' = 15 by omega) with rfl | rfl | rfl | rfl | rfl | rfl | rfl | rfl | rfl | rfl | rfl | rfl | rfl | rfl | rfl | rfl
      ·simp at ho
       subst ho
       simp [Region.binds] at hdep
       have k0 : a.tmps.getD 11 undef = .slice (some ⟨g1, 0, none⟩) nr nr := (hR.fr.kept rfl (by simp [hT])).trans (by rw [hT]; try rfl)
       have hc : ∀ j, (0, j) ∈ stCh → l.getD j true = true := by intro j hj; simp [stCh] at hj
       clear hi' hdep
       have k0g := gD k0
       unfold wpOpIn; simp [Region.wanted]; unfold Oper.wpIn
       simp [Oper.about, execOp, go_sem, Act.eval, k0, k0g]
       rw [hRd]
       exact hR.op 0 55 _ rfl (by decide) hl0 hc (ST.const hR.wd (by decide)) (fun _ _ h => h) (rfl)
      ·simp at ho
       subst ho
       simp [Region.binds] at hdep
       have k0 : a.tmps.getD 13 undef = .int .i64 (k : Int) := (hR.fr.kept rfl (by simp [hT])).trans (by rw [hT]; try rfl)
       have hc : ∀ j, (1, j) ∈ stCh → l.getD j true = true := by intro j hj; simp [stCh] at hj
       clear hi' hdep
       have k0g := gD k0
       unfold wpOpIn; simp [Region.wanted]; unfold Oper.wpIn
       simp [Oper.about, execOp, go_sem, Act.eval, k0, k0g]
       rw [hRd]
       exact hR.op 1 56 _ rfl (by decide) hl0 hc (ST.const hR.wd (by decide)) (fun _ _ h => h) (rfl)
      ·simp at ho
       subst ho
       simp [Region.binds] at hdep
       have d0 : l.getD 0 true = true := getD_true (by simp_all)
       have k0 : a.tmps.getD 55 undef = vals 0 := hR.get rfl (by simp_all) (by simp [hT])
       have e0 : vals 0 = .slice (some ⟨g1, 0, none⟩) nr nr := hR.vl 0 (by decide) d0
       rw [e0] at k0
       have d1 : l.getD 1 true = true := getD_true (by simp_all)
       have k1 : a.tmps.getD 56 undef = vals 1 := hR.get rfl (by simp_all) (by simp [hT])
       have e1 : vals 1 = .int .i64 (k : Int) := hR.vl 1 (by decide) d1
       rw [e1] at k1
       have hc : ∀ j, (2, j) ∈ stCh → l.getD j true = true := by intro j hj; simp [stCh] at hj; rcases hj with rfl | rfl <;> exact getD_true (by simp_all)
       clear hi' hdep
       have k0g := gD k0
       have k1g := gD k1
       unfold wpOpIn; simp [Region.wanted]; unfold Oper.wpIn
       simp [Oper.about, execOp, go_sem, Act.eval, k0, k1, k0g, k1g, hltI]
       rw [hRd]
       exact hR.op 2 57 _ rfl (by decide) hl0 hc (ST.const hR.wd (by decide)) (fun _ _ h => h) (rfl)
      ·simp at ho
       subst ho
       simp [Region.binds] at hdep
       have d0 : l.getD 2 true = true := getD_true (by simp_all)
       have k0 : a.tmps.getD 57 undef = vals 2 := hR.get rfl (by simp_all) (by simp [hT])
       have e0 : vals 2 = .pointer (some ⟨g1, k, none⟩) := hR.vl 2 (by decide) d0
       rw [e0] at k0
       have hc : ∀ j, (3, j) ∈ stCh → l.getD j true = true := by intro j hj; simp [stCh] at hj; rcases hj with rfl <;> exact getD_true (by simp_all)
       have n15 := hR.no (s := 15) hl0 (fun hs => (hR.dep 15 3 (by decide) hs))
       clear hi' hdep
       have hw := hR.wd.a n15
       subst hw
       have k0g := gD k0
       unfold wpOpIn; simp [Region.wanted]; unfold Oper.wpIn
       simp [Oper.about, execOp, go_sem, Act.eval, k0, k0g, cu]
       rw [hRd]
       exact hR.op 3 58 _ rfl (by decide) hl0 hc (ST.const hR.wd (by decide)) (fun _ _ h => h) (rfl)
      ·simp at ho
       subst ho
       simp [Region.binds] at hdep
       have k0 : a.tmps.getD 4 undef = .pointer (some ⟨W.heap.size + 1, 0, none⟩) := (hR.fr.kept rfl (by simp [hT])).trans (by rw [hT]; try rfl)
       have hc : ∀ j, (4, j) ∈ stCh → l.getD j true = true := by intro j hj; simp [stCh] at hj
       clear hi' hdep
       have k0g := gD k0
       unfold wpOpIn; simp [Region.wanted]; unfold Oper.wpIn
       simp [Oper.about, execOp, go_sem, Act.eval, k0, k0g]
       rw [hRd]
       exact hR.op 4 59 _ rfl (by decide) hl0 hc (ST.const hR.wd (by decide)) (fun _ _ h => h) (rfl)
      ·simp at ho
       subst ho
       simp [Region.binds] at hdep
       have d0 : l.getD 4 true = true := getD_true (by simp_all)
       have k0 : a.tmps.getD 59 undef = vals 4 := hR.get rfl (by simp_all) (by simp [hT])
       have e0 : vals 4 = .pointer (some ⟨W.heap.size + 1, 0, none⟩) := hR.vl 4 (by decide) d0
       rw [e0] at k0
       have hc : ∀ j, (5, j) ∈ stCh → l.getD j true = true := by intro j hj; simp [stCh] at hj; rcases hj with rfl <;> exact getD_true (by simp_all)
       have n15 := hR.no (s := 15) hl0 (fun hs => (hR.dep 15 5 (by decide) hs))
       clear hi' hdep
       have hw := hR.wd.a n15
       subst hw
       have k0g := gD k0
       unfold wpOpIn; simp [Region.wanted]; unfold Oper.wpIn
       simp [Oper.about, execOp, go_sem, Act.eval, k0, k0g, ca]
       rw [hRd]
       exact hR.op 5 60 _ rfl (by decide) hl0 hc (ST.const hR.wd (by decide)) (fun _ _ h => h) (rfl)
      ·simp at ho
       subst ho
       simp [Region.binds] at hdep
       have d0 : l.getD 5 true = true := getD_true (by simp_all)
       have k0 : a.tmps.getD 60 undef = vals 5 := hR.get rfl (by simp_all) (by simp [hT])
       have e0 : vals 5 = .int .u8 c1 := hR.vl 5 (by decide) d0
       rw [e0] at k0
       have hc : ∀ j, (6, j) ∈ stCh → l.getD j true = true := by intro j hj; simp [stCh] at hj; rcases hj with rfl <;> exact getD_true (by simp_all)
       clear hi' hdep
       have k0g := gD k0
       unfold wpOpIn; simp [Region.wanted]; unfold Oper.wpIn
       simp [Oper.about, execOp, go_sem, Act.eval, k0, k0g, wc1, wc2]
       rw [hRd]
       exact hR.op 6 61 _ rfl (by decide) hl0 hc (ST.const hR.wd (by decide)) (fun _ _ h => h) (rfl)
      ·simp at ho
       subst ho
       simp [Region.binds] at hdep
       have k0 : a.tmps.getD 8 undef = .pointer (some ⟨Bd, 0, none⟩) := (hR.fr.kept rfl (by simp [hT])).trans (by rw [hT]; try rfl)
       have hc : ∀ j, (7, j) ∈ stCh → l.getD j true = true := by intro j hj; simp [stCh] at hj
       clear hi' hdep
       have k0g := gD k0
       unfold wpOpIn; simp [Region.wanted]; unfold Oper.wpIn
       simp [Oper.about, execOp, go_sem, Act.eval, k0, k0g]
       rw [hRd]
       exact hR.op 7 62 _ rfl (by decide) hl0 hc (ST.const hR.wd (by decide)) (fun _ _ h => h) (rfl)
      ·simp at ho
       subst ho
       simp [Region.binds] at hdep
       have d0 : l.getD 7 true = true := getD_true (by simp_all)
       have k0 : a.tmps.getD 62 undef = vals 7 := hR.get rfl (by simp_all) (by simp [hT])
       have e0 : vals 7 = .pointer (some ⟨Bd, 1, none⟩) := hR.vl 7 (by decide) d0
       rw [e0] at k0
       have hc : ∀ j, (8, j) ∈ stCh → l.getD j true = true := by intro j hj; simp [stCh] at hj; rcases hj with rfl <;> exact getD_true (by simp_all)
       have n15 := hR.no (s := 15) hl0 (fun hs => (hR.dep 15 8 (by decide) hs))
       clear hi' hdep
       have hw := hR.wd.a n15
       subst hw
       have k0g := gD k0
       unfold wpOpIn; simp [Region.wanted]; unfold Oper.wpIn
       simp [Oper.about, execOp, go_sem, Act.eval, k0, k0g, cd1]
       rw [hRd]
       exact hR.op 8 63 _ rfl (by decide) hl0 hc (ST.const hR.wd (by decide)) (fun _ _ h => h) (rfl)
      ·simp at ho
       subst ho
       simp [Region.binds] at hdep
       have k0 : a.tmps.getD 13 undef = .int .i64 (k : Int) := (hR.fr.kept rfl (by simp [hT])).trans (by rw [hT]; try rfl)
       have hc : ∀ j, (9, j) ∈ stCh → l.getD j true = true := by intro j hj; simp [stCh] at hj
       clear hi' hdep
       have k0g := gD k0
       unfold wpOpIn; simp [Region.wanted]; unfold Oper.wpIn
       simp [Oper.about, execOp, go_sem, Act.eval, k0, k0g]
       rw [hRd]
       exact hR.op 9 64 _ rfl (by decide) hl0 hc (ST.const hR.wd (by decide)) (fun _ _ h => h) (rfl)
      ·simp at ho
       subst ho
       simp [Region.binds] at hdep
       have d0 : l.getD 8 true = true := getD_true (by simp_all)
       have k0 : a.tmps.getD 63 undef = vals 8 := hR.get rfl (by simp_all) (by simp [hT])
       have e0 : vals 8 = .slice (some ⟨b, off, none⟩) nr cr := hR.vl 8 (by decide) d0
       rw [e0] at k0
       have d1 : l.getD 9 true = true := getD_true (by simp_all)
       have k1 : a.tmps.getD 64 undef = vals 9 := hR.get rfl (by simp_all) (by simp [hT])
       have e1 : vals 9 = .int .i64 (k : Int) := hR.vl 9 (by decide) d1
       rw [e1] at k1
       have hc : ∀ j, (10, j) ∈ stCh → l.getD j true = true := by intro j hj; simp [stCh] at hj; rcases hj with rfl | rfl <;> exact getD_true (by simp_all)
       clear hi' hdep
       have k0g := gD k0
       have k1g := gD k1
       unfold wpOpIn; simp [Region.wanted]; unfold Oper.wpIn
       simp [Oper.about, execOp, go_sem, Act.eval, k0, k1, k0g, k1g, hltI]
       rw [hRd]
       exact hR.op 10 65 _ rfl (by decide) hl0 hc (ST.const hR.wd (by decide)) (fun _ _ h => h) (rfl)
      ·simp at ho
       subst ho
       simp [Region.binds] at hdep
       have d0 : l.getD 10 true = true := getD_true (by simp_all)
       have k0 : a.tmps.getD 65 undef = vals 10 := hR.get rfl (by simp_all) (by simp [hT])
       have e0 : vals 10 = .pointer (some ⟨b, off + k, none⟩) := hR.vl 10 (by decide) d0
       rw [e0] at k0
       have hc : ∀ j, (11, j) ∈ stCh → l.getD j true = true := by intro j hj; simp [stCh] at hj; rcases hj with rfl <;> exact getD_true (by simp_all)
       have n15 := hR.no (s := 15) hl0 (fun hs => (hR.dep 15 11 (by decide) hs))
       clear hi' hdep
       have hw := hR.wd.a n15
       subst hw
       have k0g := gD k0
       unfold wpOpIn; simp [Region.wanted]; unfold Oper.wpIn
       simp [Oper.about, execOp, go_sem, Act.eval, k0, k0g, cx]
       rw [hRd]
       exact hR.op 11 66 _ rfl (by decide) hl0 hc (ST.const hR.wd (by decide)) (fun _ _ h => h) (rfl)
      ·simp at ho
       subst ho
       simp [Region.binds] at hdep
       have d0 : l.getD 6 true = true := getD_true (by simp_all)
       have k0 : a.tmps.getD 61 undef = vals 6 := hR.get rfl (by simp_all) (by simp [hT])
       have e0 : vals 6 = .int .i64 c1 := hR.vl 6 (by decide) d0
       rw [e0] at k0
       have d1 : l.getD 11 true = true := getD_true (by simp_all)
       have k1 : a.tmps.getD 66 undef = vals 11 := hR.get rfl (by simp_all) (by simp [hT])
       have e1 : vals 11 = .int .i64 x := hR.vl 11 (by decide) d1
       rw [e1] at k1
       have hc : ∀ j, (12, j) ∈ stCh → l.getD j true = true := by intro j hj; simp [stCh] at hj; rcases hj with rfl | rfl <;> exact getD_true (by simp_all)
       clear hi' hdep
       have k0g := gD k0
       have k1g := gD k1
       unfold wpOpIn; simp [Region.wanted]; unfold Oper.wpIn
       simp [Oper.about, execOp, go_sem, Act.eval, k0, k1, k0g, k1g, wz]
       rw [hRd]
       exact hR.op 12 67 _ rfl (by decide) hl0 hc (ST.const hR.wd (by decide)) (fun _ _ h => h) (rfl)
      ·simp at ho
       subst ho
       simp [Region.binds] at hdep
       have d0 : l.getD 3 true = true := getD_true (by simp_all)
       have k0 : a.tmps.getD 58 undef = vals 3 := hR.get rfl (by simp_all) (by simp [hT])
       have e0 : vals 3 = .int .i64 y1 := hR.vl 3 (by decide) d0
       rw [e0] at k0
       have d1 : l.getD 12 true = true := getD_true (by simp_all)
       have k1 : a.tmps.getD 67 undef = vals 12 := hR.get rfl (by simp_all) (by simp [hT])
       have e1 : vals 12 = .int .i64 z := hR.vl 12 (by decide) d1
       rw [e1] at k1
       have hc : ∀ j, (13, j) ∈ stCh → l.getD j true = true := by intro j hj; simp [stCh] at hj; rcases hj with rfl | rfl <;> exact getD_true (by simp_all)
       clear hi' hdep
       have k0g := gD k0
       have k1g := gD k1
       unfold wpOpIn; simp [Region.wanted]; unfold Oper.wpIn
       simp [Oper.about, execOp, go_sem, Act.eval, k0, k1, k0g, k1g, wq]
       rw [hRd]
       exact hR.op 13 68 _ rfl (by decide) hl0 hc (ST.const hR.wd (by decide)) (fun _ _ h => h) (rfl)
      ·simp at ho
       subst ho
       simp [Region.binds] at hdep
       have d0 : l.getD 0 true = true := getD_true (by simp_all)
       have k0 : a.tmps.getD 55 undef = vals 0 := hR.get rfl (by simp_all) (by simp [hT])
       have e0 : vals 0 = .slice (some ⟨g1, 0, none⟩) nr nr := hR.vl 0 (by decide) d0
       rw [e0] at k0
       have d1 : l.getD 1 true = true := getD_true (by simp_all)
       have k1 : a.tmps.getD 56 undef = vals 1 := hR.get rfl (by simp_all) (by simp [hT])
       have e1 : vals 1 = .int .i64 (k : Int) := hR.vl 1 (by decide) d1
       rw [e1] at k1
       have hc : ∀ j, (14, j) ∈ stCh → l.getD j true = true := by intro j hj; simp [stCh] at hj; rcases hj with rfl | rfl <;> exact getD_true (by simp_all)
       clear hi' hdep
       have k0g := gD k0
       have k1g := gD k1
       unfold wpOpIn; simp [Region.wanted]; unfold Oper.wpIn
       simp [Oper.about, execOp, go_sem, Act.eval, k0, k1, k0g, k1g, hltI]
       rw [hRd]
       exact hR.op 14 69 _ rfl (by decide) hl0 hc (ST.const hR.wd (by decide)) (fun _ _ h => h) (rfl)
      ·simp at ho
       subst ho
       simp [Region.binds] at hdep
       have d0 : l.getD 14 true = true := getD_true (by simp_all)
       have k0 : a.tmps.getD 69 undef = vals 14 := hR.get rfl (by simp_all) (by simp [hT])
       have e0 : vals 14 = .pointer (some ⟨g1, k, none⟩) := hR.vl 14 (by decide) d0
       rw [e0] at k0
       have d1 : l.getD 13 true = true := getD_true (by simp_all)
       have k1 : a.tmps.getD 68 undef = vals 13 := hR.get rfl (by simp_all) (by simp [hT])
       have e1 : vals 13 = .int .i64 q1 := hR.vl 13 (by decide) d1
       rw [e1] at k1
       have hc : ∀ j, (15, j) ∈ stCh → l.getD j true = true := by intro j hj; simp [stCh] at hj; rcases hj with rfl | rfl | rfl | rfl | rfl | rfl <;> exact getD_true (by simp_all)
       clear hi' hdep
       have hw := hR.wd.a hl0
       subst hw
       have k0g := gD k0
       have k1g := gD k1
       unfold wpOpIn; simp [Region.wanted]; unfold Oper.wpIn
       simp [Oper.about, execOp, go_sem, Act.eval, k0, k1, k0g, k1g, cu, fu, lu]
       rw [hRd]
       exact hR.bare 15 undef rfl hl0 hc (ST.done) (fun _ _ h => h) (fun _ => trivial)
     case' finr2b2 =>
      rintro l a w' hR0 hz
      rw [hRd] at hR0
      obtain ⟨vals, hR⟩ := hR0
      clear hRd R
      have hnot := List.eq_nil_iff_forall_not_mem.1 hz
      have hk : ∀ k, k < 16 → (l.getD k true = false → False) → l.getD k false = true := fun k h12 h => by
       have hs := hR.size
       cases h' : l.getD k true with
       | false => exact (h h').elim
       | true => simp at hs; simp [Array.getD, hs, h12] at h' ⊢; exact h'
      have st0 := hk 0 (by omega) (fun h => hnot 0 (mem_ready.2 ⟨h, _, rfl, by simp [Region.binds]⟩))
      have st1 := hk 1 (by omega) (fun h => hnot 1 (mem_ready.2 ⟨h, _, rfl, by simp [Region.binds]⟩))
      have st2 := hk 2 (by omega) (fun h => hnot 2 (mem_ready.2 ⟨h, _, rfl, by simp [Region.binds] <;> simp_all⟩))
      have st3 := hk 3 (by omega) (fun h => hnot 3 (mem_ready.2 ⟨h, _, rfl, by simp [Region.binds] <;> simp_all⟩))
      have st4 := hk 4 (by omega) (fun h => hnot 4 (mem_ready.2 ⟨h, _, rfl, by simp [Region.binds]⟩))
      have st5 := hk 5 (by omega) (fun h => hnot 5 (mem_ready.2 ⟨h, _, rfl, by simp [Region.binds] <;> simp_all⟩))
      have st6 := hk 6 (by omega) (fun h => hnot 6 (mem_ready.2 ⟨h, _, rfl, by simp [Region.binds] <;> simp_all⟩))
      have st7 := hk 7 (by omega) (fun h => hnot 7 (mem_ready.2 ⟨h, _, rfl, by simp [Region.binds]⟩))
      have st8 := hk 8 (by omega) (fun h => hnot 8 (mem_ready.2 ⟨h, _, rfl, by simp [Region.binds] <;> simp_all⟩))
      have st9 := hk 9 (by omega) (fun h => hnot 9 (mem_ready.2 ⟨h, _, rfl, by simp [Region.binds]⟩))
      have st10 := hk 10 (by omega) (fun h => hnot 10 (mem_ready.2 ⟨h, _, rfl, by simp [Region.binds] <;> simp_all⟩))
      have st11 := hk 11 (by omega) (fun h => hnot 11 (mem_ready.2 ⟨h, _, rfl, by simp [Region.binds] <;> simp_all⟩))
      have st12 := hk 12 (by omega) (fun h => hnot 12 (mem_ready.2 ⟨h, _, rfl, by simp [Region.binds] <;> simp_all⟩))
      have st13 := hk 13 (by omega) (fun h => hnot 13 (mem_ready.2 ⟨h, _, rfl, by simp [Region.binds] <;> simp_all⟩))
      have st14 := hk 14 (by omega) (fun h => hnot 14 (mem_ready.2 ⟨h, _, rfl, by simp [Region.binds] <;> simp_all⟩))
      have st15 := hk 15 (by omega) (fun h => hnot 15 (mem_ready.2 ⟨h, _, rfl, by simp [Region.binds] <;> simp_all⟩))
      have hall : ∀ i, i < 16 → l.getD i true = true := fun i hi => by
       rcases (show i = 0 ∨ i = 1 ∨ i = 2 ∨ i = 3 ∨ i = 4 ∨ i = 5 ∨ i = 6 ∨ i = 7 ∨ i = 8 ∨ i = 9 ∨ i = 10 ∨ i = 11 ∨ i = 12 ∨ i = 13 ∨ i = 14 ∨ i = 15 by omega) with rfl | rfl | rfl | rfl | rfl | rfl | rfl | rfl | rfl | rfl | rfl | rfl | rfl | rfl | rfl | rfl
       ·exact getD_true st0
       ·exact getD_true st1
       ·exact getD_true st2
       ·exact getD_true st3
       ·exact getD_true st4
       ·exact getD_true st5
       ·exact getD_true st6
       ·exact getD_true st7
       ·exact getD_true st8
       ·exact getD_true st9
       ·exact getD_true st10
       ·exact getD_true st11
       ·exact getD_true st12
       ·exact getD_true st13
       ·exact getD_true st14
       ·exact getD_true st15
      clear st0 st1 st2 st3 st4 st5 st6 st7 st8 st9 st10 st11 st12 st13 st14 st15 hk hnot hz
      have hTs : T.size = 141 := by rw [hT]; rfl
      have ha := hR.all (T' := (((((((((((((((T.setIfInBounds 55 (vals 0)).setIfInBounds 56 (vals 1)).setIfInBounds 57 (vals 2)).setIfInBounds 58 (vals 3)).setIfInBounds 59 (vals 4)).setIfInBounds 60 (vals 5)).setIfInBounds 61 (vals 6)).setIfInBounds 62 (vals 7)).setIfInBounds 63 (vals 8)).setIfInBounds 64 (vals 9)).setIfInBounds 65 (vals 10)).setIfInBounds 66 (vals 11)).setIfInBounds 67 (vals 12)).setIfInBounds 68 (vals 13)).setIfInBounds 69 (vals 14))) (fun i hi => hall i (by simpa using hi)) (by simp) (fun j hj => by
       by_cases h1 : j = 55 ∨ j = 56 ∨ j = 57 ∨ j = 58 ∨ j = 59 ∨ j = 60 ∨ j = 61 ∨ j = 62 ∨ j = 63 ∨ j = 64 ∨ j = 65 ∨ j = 66 ∨ j = 67 ∨ j = 68 ∨ j = 69
       ·rcases h1 with rfl | rfl | rfl | rfl | rfl | rfl | rfl | rfl | rfl | rfl | rfl | rfl | rfl | rfl | rfl <;> simp [rv_sets, tOwn, List.findIdx?, List.findIdx?.go, hTs]
       ·simp only [not_or] at h1
        obtain ⟨m55, m56, m57, m58, m59, m60, m61, m62, m63, m64, m65, m66, m67, m68, m69⟩ := h1
        have e : tOwn [some 55, some 56, some 57, some 58, some 59, some 60, some 61, some 62, some 63, some 64, some 65, some 66, some 67, some 68, some 69, none] vals j = none := by
         unfold tOwn
         simp [List.findIdx?, List.findIdx?.go, Ne.symm m55, Ne.symm m56, Ne.symm m57, Ne.symm m58, Ne.symm m59, Ne.symm m60, Ne.symm m61, Ne.symm m62, Ne.symm m63, Ne.symm m64, Ne.symm m65, Ne.symm m66, Ne.symm m67, Ne.symm m68, Ne.symm m69]
        rw [e]
        simp only [rv_sets]
        repeat rw [if_neg (by omega)])
      have v0 : vals 0 = .slice (some ⟨g1, 0, none⟩) nr nr := hR.vl 0 (by decide) (hall 0 (by decide))
      have v1 : vals 1 = .int .i64 (k : Int) := hR.vl 1 (by decide) (hall 1 (by decide))
      have v2 : vals 2 = .pointer (some ⟨g1, k, none⟩) := hR.vl 2 (by decide) (hall 2 (by decide))
      have v3 : vals 3 = .int .i64 y1 := hR.vl 3 (by decide) (hall 3 (by decide))
      have v4 : vals 4 = .pointer (some ⟨W.heap.size + 1, 0, none⟩) := hR.vl 4 (by decide) (hall 4 (by decide))
      have v5 : vals 5 = .int .u8 c1 := hR.vl 5 (by decide) (hall 5 (by decide))
      have v6 : vals 6 = .int .i64 c1 := hR.vl 6 (by decide) (hall 6 (by decide))
      have v7 : vals 7 = .pointer (some ⟨Bd, 1, none⟩) := hR.vl 7 (by decide) (hall 7 (by decide))
      have v8 : vals 8 = .slice (some ⟨b, off, none⟩) nr cr := hR.vl 8 (by decide) (hall 8 (by decide))
      have v9 : vals 9 = .int .i64 (k : Int) := hR.vl 9 (by decide) (hall 9 (by decide))
      have v10 : vals 10 = .pointer (some ⟨b, off + k, none⟩) := hR.vl 10 (by decide) (hall 10 (by decide))
      have v11 : vals 11 = .int .i64 x := hR.vl 11 (by decide) (hall 11 (by decide))
      have v12 : vals 12 = .int .i64 z := hR.vl 12 (by decide) (hall 12 (by decide))
      have v13 : vals 13 = .int .i64 q1 := hR.vl 13 (by decide) (hall 13 (by decide))
      have v14 : vals 14 = .pointer (some ⟨g1, k, none⟩) := hR.vl 14 (by decide) (hall 14 (by decide))
      have hw := hR.wd.b (hall 15 (by decide))
      subst hw
      subst ha
      clear hR hall hTs
      rw [v0, v1, v2, v3, v4, v5, v6, v7, v8, v9, v10, v11, v12, v13, v14, hT]
      simp only [List.setIfInBounds_toArray, List.set_cons_succ, List.set_cons_zero]
      clear v0 v1 v2 v3 v4 v5 v6 v7 v8 v9 v10 v11 v12 v13 v14 hT T
     clear cu fu lu cd1 cx ca wz wq
     generalize wX.drew.setCell ⟨g1, k, none⟩ (.int .i64 q1) = wY at HYY ⊢
     go_wp2
     have cu : wY.drew.cell? ⟨g2, k, none⟩ = some (.int .i64 y2) := by have h := HYY.out.2.1.cell (k := k) (by rw [List.length_set]; omega); rwa [set_get _ (by omega), if_pos rfl] at h
     have fu : wY.drew.frozen? ⟨g2, k, none⟩ = false := HYY.out.2.1.free k
     have lu : g2 < wY.drew.heap.size := HYY.out.2.1.lt
     have hcc := HCK.out _ HYY.out.2.2.drew
     have cd1 := hcc.1
     have cx := hcc.2.1
     have ca := hcc.2.2.2
     obtain ⟨z2, hz⟩ : ∃ z, z = c2 * x := ⟨_, rfl⟩
     have wz : IntKind.i64.wrap (c2 * x) = z2 := by rw [hz]; exact IntWalk.i64_in _ (by have := HZB.out; omega)
     obtain ⟨q2, hq2⟩ : ∃ q2, q2 = y2 + z2 := ⟨_, rfl⟩
     have wq : IntKind.i64.wrap (y2 + z2) = q2 := by rw [hq2]; exact IntWalk.i64_in _ (by have := HZB.out; omega)
     have HZZ : Hid (IB (wY.drew.setCell ⟨g2, k, none⟩ (.int .i64 q2)) g1 (L.set k q1) ∧ IB (wY.drew.setCell ⟨g2, k, none⟩ (.int .i64 q2)) g2 (M.set k q2) ∧ Below W0.heap.size W0 (wY.drew.setCell ⟨g2, k, none⟩ (.int .i64 q2))) := Lib.hid ⟨(show IB wY.drew g1 (L.set k q1) from HYY.out.1).other hne, by
      have h := (show IB wY.drew g2 (M.set k y2) from HYY.out.2.1).set (k := k) q2
      rwa [List.set_set] at h, HYY.out.2.2.drew.setCell HGG.out.2 _⟩
     have HQ2 : Hid (q2 = y2 + c2 * x) := Lib.hid (by rw [hq2, hz])
     clear hcc hz hq2
     refine (wpIn_wide (n := 6)).1 ?_
     refine frame_namedIn ?_
     intro T hT
     obtain ⟨R, hRd⟩ : ∃ R : Array Bool → Act → World → Prop, R = (fun l a w' => ∃ vals, RH stCh T [some 70, some 71, some 72, some 73, some 74, some 75, some 76, some 77, some 78, some 79, some 80, some 81, some 82, some 83, some 84, none] (fun l _ w => ST wY.drew (wY.drew.setCell ⟨g2, k, none⟩ (.int .i64 q2)) 15 l w) (fun i u _ => match i with | 0 => u = .slice (some ⟨g2, 0, none⟩) nr nr | 1 => u = .int .i64 (k : Int) | 2 => u = .pointer (some ⟨g2, k, none⟩) | 3 => u = .int .i64 y2 | 4 => u = .pointer (some ⟨W.heap.size + 1, 1, none⟩) | 5 => u = .int .u8 c2 | 6 => u = .int .i64 c2 | 7 => u = .pointer (some ⟨Bd, 1, none⟩) | 8 => u = .slice (some ⟨b, off, none⟩) nr cr | 9 => u = .int .i64 (k : Int) | 10 => u = .pointer (some ⟨b, off + k, none⟩) | 11 => u = .int .i64 x | 12 => u = .int .i64 z2 | 13 => u = .int .i64 q2 | 14 => u = .pointer (some ⟨g2, k, none⟩) | _ => True) vals l a w') := ⟨_, rfl⟩
     refine region_inv (by kernel_rfl) R ?h0r3b2 ?stepr3b2 ?finr3b2
     case h0r3b2 => rw [hRd]; exact RH.start rfl (fun i j h => by simp [stCh] at h; simp only [List.length_cons, List.length_nil]; omega) (by exact ⟨fun _ => rfl, fun h => absurd h (by decide)⟩)
     case stepr3b2 =>
      rintro l a w' i' hR0 hi'
      have hR1 := hR0
      rw [hRd] at hR1
      obtain ⟨vals, hR⟩ := hR1
      obtain ⟨hl0, o, ho, hdep⟩ := mem_ready.1 hi'
      have h15 : i' < 16 := by
       have := (Array.getElem?_eq_some_iff.1 ho).1
       simpa using this
      rcases (show i' = 0 ∨ i' = 1 ∨ i' = 2 ∨ i' = 3 ∨ i' = 4 ∨ i' = 5 ∨ i' = 6 ∨ i' = 7 ∨ i' = 8 ∨ i' = 9 ∨ i' = 10 ∨ i' = 11 ∨ i' = 12 ∨ i' = 13 ∨ i' = 14 ∨ i' = 15 by omega) with rfl | rfl | rfl | rfl | rfl | rfl | rfl | rfl | rfl | rfl | rfl | rfl | rfl | rfl | rfl | rfl
      ·simp at ho
       subst ho
       simp [Region.binds] at hdep
       have k0 : a.tmps.getD 12 undef = .slice (some ⟨g2, 0, none⟩) nr nr := (hR.fr.kept rfl (by simp [hT])).trans (by rw [hT]; try rfl)
       have hc : ∀ j, (0, j) ∈ stCh → l.getD j true = true := by intro j hj; simp [stCh] at hj
       clear hi' hdep
       have k0g := gD k0
       unfold wpOpIn; simp [Region.wanted]; unfold Oper.wpIn
       simp [Oper.about, execOp, go_sem, Act.eval, k0, k0g]
       rw [hRd]
       exact hR.op 0 70 _ rfl (by decide) hl0 hc (ST.const hR.wd (by decide)) (fun _ _ h => h) (rfl)
      ·simp at ho
       subst ho
       simp [Region.binds] at hdep
       have k0 : a.tmps.getD 13 undef = .int .i64 (k : Int) := (hR.fr.kept rfl (by simp [hT])).trans (by rw [hT]; try rfl)
       have hc : ∀ j, (1, j) ∈ stCh → l.getD j true = true := by intro j hj; simp [stCh] at hj
       clear hi' hdep
       have k0g := gD k0
       unfold wpOpIn; simp [Region.wanted]; unfold Oper.wpIn
       simp [Oper.about, execOp, go_sem, Act.eval, k0, k0g]
       rw [hRd]
       exact hR.op 1 71 _ rfl (by decide) hl0 hc (ST.const hR.wd (by decide)) (fun _ _ h => h) (rfl)
      ·simp at ho
       subst ho
       simp [Region.binds] at hdep
       have d0 : l.getD 0 true = true := getD_true (by simp_all)
       have k0 : a.tmps.getD 70 undef = vals 0 := hR.get rfl (by simp_all) (by simp [hT])
       have e0 : vals 0 = .slice (some ⟨g2, 0, none⟩) nr nr := hR.vl 0 (by decide) d0
       rw [e0] at k0
       have d1 : l.getD 1 true = true := getD_true (by simp_all)
       have k1 : a.tmps.getD 71 undef = vals 1 := hR.get rfl (by simp_all) (by simp [hT])
       have e1 : vals 1 = .int .i64 (k : Int) := hR.vl 1 (by decide) d1
       rw [e1] at k1
       have hc : ∀ j, (2, j) ∈ stCh → l.getD j true = true := by intro j hj; simp [stCh] at hj; rcases hj with rfl | rfl <;> exact getD_true (by simp_all)
       clear hi' hdep
       have k0g := gD k0
       have k1g := gD k1
       unfold wpOpIn; simp [Region.wanted]; unfold Oper.wpIn
       simp [Oper.about, execOp, go_sem, Act.eval, k0, k1, k0g, k1g, hltI]
       rw [hRd]
       exact hR.op 2 72 _ rfl (by decide) hl0 hc (ST.const hR.wd (by decide)) (fun _ _ h => h) (rfl)
      ·simp at ho
       subst ho
       simp [Region.binds] at hdep
       have d0 : l.getD 2 true = true := getD_true (by simp_all)
       have k0 : a.tmps.getD 72 undef = vals 2 := hR.get rfl (by simp_all) (by simp [hT])
       have e0 : vals 2 = .pointer (some ⟨g2, k, none⟩) := hR.vl 2 (by decide) d0
       rw [e0] at k0
       have hc : ∀ j, (3, j) ∈ stCh → l.getD j true = true := by intro j hj; simp [stCh] at hj; rcases hj with rfl <;> exact getD_true (by simp_all)
       have n15 := hR.no (s := 15) hl0 (fun hs => (hR.dep 15 3 (by decide) hs))
       clear hi' hdep
       have hw := hR.wd.a n15
       subst hw
       have k0g := gD k0
       unfold wpOpIn; simp [Region.wanted]; unfold Oper.wpIn
       simp [Oper.about, execOp, go_sem, Act.eval, k0, k0g, cu]
       rw [hRd]
       exact hR.op 3 73 _ rfl (by decide) hl0 hc (ST.const hR.wd (by decide)) (fun _ _ h => h) (rfl)
      ·simp at ho
       subst ho
       simp [Region.binds] at hdep
       have k0 : a.tmps.getD 4 undef = .pointer (some ⟨W.heap.size + 1, 0, none⟩) := (hR.fr.kept rfl (by simp [hT])).trans (by rw [hT]; try rfl)
       have hc : ∀ j, (4, j) ∈ stCh → l.getD j true = true := by intro j hj; simp [stCh] at hj
       clear hi' hdep
       have k0g := gD k0
       unfold wpOpIn; simp [Region.wanted]; unfold Oper.wpIn
       simp [Oper.about, execOp, go_sem, Act.eval, k0, k0g]
       rw [hRd]
       exact hR.op 4 74 _ rfl (by decide) hl0 hc (ST.const hR.wd (by decide)) (fun _ _ h => h) (rfl)
      ·simp at ho
       subst ho
       simp [Region.binds] at hdep
       have d0 : l.getD 4 true = true := getD_true (by simp_all)
       have k0 : a.tmps.getD 74 undef = vals 4 := hR.get rfl (by simp_all) (by simp [hT])
       have e0 : vals 4 = .pointer (some ⟨W.heap.size + 1, 1, none⟩) := hR.vl 4 (by decide) d0
       rw [e0] at k0
       have hc : ∀ j, (5, j) ∈ stCh → l.getD j true = true := by intro j hj; simp [stCh] at hj; rcases hj with rfl <;> exact getD_true (by simp_all)
       have n15 := hR.no (s := 15) hl0 (fun hs => (hR.dep 15 5 (by decide) hs))
       clear hi' hdep
       have hw := hR.wd.a n15
       subst hw
       have k0g := gD k0
       unfold wpOpIn; simp [Region.wanted]; unfold Oper.wpIn
       simp [Oper.about, execOp, go_sem, Act.eval, k0, k0g, ca]
       rw [hRd]
       exact hR.op 5 75 _ rfl (by decide) hl0 hc (ST.const hR.wd (by decide)) (fun _ _ h => h) (rfl)
      ·simp at ho
       subst ho
       simp [Region.binds] at hdep
       have d0 : l.getD 5 true = true := getD_true (by simp_all)
       have k0 : a.tmps.getD 75 undef = vals 5 := hR.get rfl (by simp_all) (by simp [hT])
       have e0 : vals 5 = .int .u8 c2 := hR.vl 5 (by decide) d0
       rw [e0] at k0
       have hc : ∀ j, (6, j) ∈ stCh → l.getD j true = true := by intro j hj; simp [stCh] at hj; rcases hj with rfl <;> exact getD_true (by simp_all)
       clear hi' hdep
       have k0g := gD k0
       unfold wpOpIn; simp [Region.wanted]; unfold Oper.wpIn
       simp [Oper.about, execOp, go_sem, Act.eval, k0, k0g, wc1, wc2]
       rw [hRd]
       exact hR.op 6 76 _ rfl (by decide) hl0 hc (ST.const hR.wd (by decide)) (fun _ _ h => h) (rfl)
      ·simp at ho
       subst ho
       simp [Region.binds] at hdep
       have k0 : a.tmps.getD 8 undef = .pointer (some ⟨Bd, 0, none⟩) := (hR.fr.kept rfl (by simp [hT])).trans (by rw [hT]; try rfl)
       have hc : ∀ j, (7, j) ∈ stCh → l.getD j true = true := by intro j hj; simp [stCh] at hj
       clear hi' hdep
       have k0g := gD k0
       unfold wpOpIn; simp [Region.wanted]; unfold Oper.wpIn
       simp [Oper.about, execOp, go_sem, Act.eval, k0, k0g]
       rw [hRd]
       exact hR.op 7 77 _ rfl (by decide) hl0 hc (ST.const hR.wd (by decide)) (fun _ _ h => h) (rfl)
      ·simp at ho
       subst ho
       simp [Region.binds] at hdep
       have d0 : l.getD 7 true = true := getD_true (by simp_all)
       have k0 : a.tmps.getD 77 undef = vals 7 := hR.get rfl (by simp_all) (by simp [hT])
       have e0 : vals 7 = .pointer (some ⟨Bd, 1, none⟩) := hR.vl 7 (by decide) d0
       rw [e0] at k0
       have hc : ∀ j, (8, j) ∈ stCh → l.getD j true = true := by intro j hj; simp [stCh] at hj; rcases hj with rfl <;> exact getD_true (by simp_all)
       have n15 := hR.no (s := 15) hl0 (fun hs => (hR.dep 15 8 (by decide) hs))
       clear hi' hdep
       have hw := hR.wd.a n15
       subst hw
       have k0g := gD k0
       unfold wpOpIn; simp [Region.wanted]; unfold Oper.wpIn
       simp [Oper.about, execOp, go_sem, Act.eval, k0, k0g, cd1]
       rw [hRd]
       exact hR.op 8 78 _ rfl (by decide) hl0 hc (ST.const hR.wd (by decide)) (fun _ _ h => h) (rfl)
      ·simp at ho
       subst ho
       simp [Region.binds] at hdep
       have k0 : a.tmps.getD 13 undef = .int .i64 (k : Int) := (hR.fr.kept rfl (by simp [hT])).trans (by rw [hT]; try rfl)
       have hc : ∀ j, (9, j) ∈ stCh → l.getD j true = true := by intro j hj; simp [stCh] at hj
       clear hi' hdep
       have k0g := gD k0
       unfold wpOpIn; simp [Region.wanted]; unfold Oper.wpIn
       simp [Oper.about, execOp, go_sem, Act.eval, k0, k0g]
       rw [hRd]
       exact hR.op 9 79 _ rfl (by decide) hl0 hc (ST.const hR.wd (by decide)) (fun _ _ h => h) (rfl)
      ·simp at ho
       subst ho
       simp [Region.binds] at hdep
       have d0 : l.getD 8 true = true := getD_true (by simp_all)
       have k0 : a.tmps.getD 78 undef = vals 8 := hR.get rfl (by simp_all) (by simp [hT])
       have e0 : vals 8 = .slice (some ⟨b, off, none⟩) nr cr := hR.vl 8 (by decide) d0
       rw [e0] at k0
       have d1 : l.getD 9 true = true := getD_true (by simp_all)
       have k1 : a.tmps.getD 79 undef = vals 9 := hR.get rfl (by simp_all) (by simp [hT])
       have e1 : vals 9 = .int .i64 (k : Int) := hR.vl 9 (by decide) d1
       rw [e1] at k1
       have hc : ∀ j, (10, j) ∈ stCh → l.getD j true = true := by intro j hj; simp [stCh] at hj; rcases hj with rfl | rfl <;> exact getD_true (by simp_all)
       clear hi' hdep
       have k0g := gD k0
       have k1g := gD k1
       unfold wpOpIn; simp [Region.wanted]; unfold Oper.wpIn
       simp [Oper.about, execOp, go_sem, Act.eval, k0, k1, k0g, k1g, hltI]
       rw [hRd]
       exact hR.op 10 80 _ rfl (by decide) hl0 hc (ST.const hR.wd (by decide)) (fun _ _ h => h) (rfl)
      ·simp at ho
       subst ho
       simp [Region.binds] at hdep
       have d0 : l.getD 10 true = true := getD_true (by simp_all)
       have k0 : a.tmps.getD 80 undef = vals 10 := hR.get rfl (by simp_all) (by simp [hT])
       have e0 : vals 10 = .pointer (some ⟨b, off + k, none⟩) := hR.vl 10 (by decide) d0
       rw [e0] at k0
       have hc : ∀ j, (11, j) ∈ stCh → l.getD j true = true := by intro j hj; simp [stCh] at hj; rcases hj with rfl <;> exact getD_true (by simp_all)
       have n15 := hR.no (s := 15) hl0 (fun hs => (hR.dep 15 11 (by decide) hs))
       clear hi' hdep
       have hw := hR.wd.a n15
       subst hw
       have k0g := gD k0
       unfold wpOpIn; simp [Region.wanted]; unfold Oper.wpIn
       simp [Oper.about, execOp, go_sem, Act.eval, k0, k0g, cx]
       rw [hRd]
       exact hR.op 11 81 _ rfl (by decide) hl0 hc (ST.const hR.wd (by decide)) (fun _ _ h => h) (rfl)
      ·simp at ho
       subst ho
       simp [Region.binds] at hdep
       have d0 : l.getD 6 true = true := getD_true (by simp_all)
       have k0 : a.tmps.getD 76 undef = vals 6 := hR.get rfl (by simp_all) (by simp [hT])
       have e0 : vals 6 = .int .i64 c2 := hR.vl 6 (by decide) d0
       rw [e0] at k0
       have d1 : l.getD 11 true = true := getD_true (by simp_all)
       have k1 : a.tmps.getD 81 undef = vals 11 := hR.get rfl (by simp_all) (by simp [hT])
       have e1 : vals 11 = .int .i64 x := hR.vl 11 (by decide) d1
       rw [e1] at k1
       have hc : ∀ j, (12, j) ∈ stCh → l.getD j true = true := by intro j hj; simp [stCh] at hj; rcases hj with rfl | rfl <;> exact getD_true (by simp_all)
       clear hi' hdep
       have k0g := gD k0
       have k1g := gD k1
       unfold wpOpIn; simp [Region.wanted]; unfold Oper.wpIn
       simp [Oper.about, execOp, go_sem, Act.eval, k0, k1, k0g, k1g, wz]
       rw [hRd]
       exact hR.op 12 82 _ rfl (by decide) hl0 hc (ST.const hR.wd (by decide)) (fun _ _ h => h) (rfl)
      ·simp at ho
       subst ho
       simp [Region.binds] at hdep
       have d0 : l.getD 3 true = true := getD_true (by simp_all)
       have k0 : a.tmps.getD 73 undef = vals 3 := hR.get rfl (by simp_all) (by simp [hT])
       have e0 : vals 3 = .int .i64 y2 := hR.vl 3 (by decide) d0
       rw [e0] at k0
       have d1 : l.getD 12 true = true := getD_true (by simp_all)
       have k1 : a.tmps.getD 82 undef = vals 12 := hR.get rfl (by simp_all) (by simp [hT])
       have e1 : vals 12 = .int .i64 z2 := hR.vl 12 (by decide) d1
       rw [e1] at k1
       have hc : ∀ j, (13, j) ∈ stCh → l.getD j true = true := by intro j hj; simp [stCh] at hj; rcases hj with rfl | rfl <;> exact getD_true (by simp_all)
       clear hi' hdep
       have k0g := gD k0
       have k1g := gD k1
       unfold wpOpIn; simp [Region.wanted]; unfold Oper.wpIn
       simp [Oper.about, execOp, go_sem, Act.eval, k0, k1, k0g, k1g, wq]
       rw [hRd]
       exact hR.op 13 83 _ rfl (by decide) hl0 hc (ST.const hR.wd (by decide)) (fun _ _ h => h) (rfl)
      ·simp at ho
       subst ho
       simp [Region.binds] at hdep
       have d0 : l.getD 0 true = true := getD_true (by simp_all)
       have k0 : a.tmps.getD 70 undef = vals 0 := hR.get rfl (by simp_all) (by simp [hT])
       have e0 : vals 0 = .slice (some ⟨g2, 0, none⟩) nr nr := hR.vl 0 (by decide) d0
       rw [e0] at k0
       have d1 : l.getD 1 true = true := getD_true (by simp_all)
       have k1 : a.tmps.getD 71 undef = vals 1 := hR.get rfl (by simp_all) (by simp [hT])
       have e1 : vals 1 = .int .i64 (k : Int) := hR.vl 1 (by decide) d1
       rw [e1] at k1
       have hc : ∀ j, (14, j) ∈ stCh → l.getD j true = true := by intro j hj; simp [stCh] at hj; rcases hj with rfl | rfl <;> exact getD_true (by simp_all)
       clear hi' hdep
       have k0g := gD k0
       have k1g := gD k1
       unfold wpOpIn; simp [Region.wanted]; unfold Oper.wpIn
       simp [Oper.about, execOp, go_sem, Act.eval, k0, k1, k0g, k1g, hltI]
       rw [hRd]
       exact hR.op 14 84 _ rfl (by decide) hl0 hc (ST.const hR.wd (by decide)) (fun _ _ h => h) (rfl)
      ·simp at ho
       subst ho
       simp [Region.binds] at hdep
       have d0 : l.getD 14 true = true := getD_true (by simp_all)
       have k0 : a.tmps.getD 84 undef = vals 14 := hR.get rfl (by simp_all) (by simp [hT])
       have e0 : vals 14 = .pointer (some ⟨g2, k, none⟩) := hR.vl 14 (by decide) d0
       rw [e0] at k0
       have d1 : l.getD 13 true = true := getD_true (by simp_all)
       have k1 : a.tmps.getD 83 undef = vals 13 := hR.get rfl (by simp_all) (by simp [hT])
       have e1 : vals 13 = .int .i64 q2 := hR.vl 13 (by decide) d1
       rw [e1] at k1
       have hc : ∀ j, (15, j) ∈ stCh → l.getD j true = true := by intro j hj; simp [stCh] at hj; rcases hj with rfl | rfl | rfl | rfl | rfl | rfl <;> exact getD_true (by simp_all)
       clear hi' hdep
       have hw := hR.wd.a hl0
       subst hw
       have k0g := gD k0
       have k1g := gD k1
       unfold wpOpIn; simp [Region.wanted]; unfold Oper.wpIn
       simp [Oper.about, execOp, go_sem, Act.eval, k0, k1, k0g, k1g, cu, fu, lu]
       rw [hRd]
       exact hR.bare 15 undef rfl hl0 hc (ST.done) (fun _ _ h => h) (fun _ => trivial)
     case' finr3b2 =>
      rintro l a w' hR0 hz
      rw [hRd] at hR0
      obtain ⟨vals, hR⟩ := hR0
      clear hRd R
      have hnot := List.eq_nil_iff_forall_not_mem.1 hz
      have hk : ∀ k, k < 16 → (l.getD k true = false → False) → l.getD k false = true := fun k h12 h => by
       have hs := hR.size
       cases h' : l.getD k true with
       | false => exact (h h').elim
       | true => simp at hs; simp [Array.getD, hs, h12] at h' ⊢; exact h'
      have st0 := hk 0 (by omega) (fun h => hnot 0 (mem_ready.2 ⟨h, _, rfl, by simp [Region.binds]⟩))
      have st1 := hk 1 (by omega) (fun h => hnot 1 (mem_ready.2 ⟨h, _, rfl, by simp [Region.binds]⟩))
      have st2 := hk 2 (by omega) (fun h => hnot 2 (mem_ready.2 ⟨h, _, rfl, by simp [Region.binds] <;> simp_all⟩))
      have st3 := hk 3 (by omega) (fun h => hnot 3 (mem_ready.2 ⟨h, _, rfl, by simp [Region.binds] <;> simp_all⟩))
      have st4 := hk 4 (by omega) (fun h => hnot 4 (mem_ready.2 ⟨h, _, rfl, by simp [Region.binds]⟩))
      have st5 := hk 5 (by omega) (fun h => hnot 5 (mem_ready.2 ⟨h, _, rfl, by simp [Region.binds] <;> simp_all⟩))
      have st6 := hk 6 (by omega) (fun h => hnot 6 (mem_ready.2 ⟨h, _, rfl, by simp [Region.binds] <;> simp_all⟩))
      have st7 := hk 7 (by omega) (fun h => hnot 7 (mem_ready.2 ⟨h, _, rfl, by simp [Region.binds]⟩))
      have st8 := hk 8 (by omega) (fun h => hnot 8 (mem_ready.2 ⟨h, _, rfl, by simp [Region.binds] <;> simp_all⟩))
      have st9 := hk 9 (by omega) (fun h => hnot 9 (mem_ready.2 ⟨h, _, rfl, by simp [Region.binds]⟩))
      have st10 := hk 10 (by omega) (fun h => hnot 10 (mem_ready.2 ⟨h, _, rfl, by simp [Region.binds] <;> simp_all⟩))
      have st11 := hk 11 (by omega) (fun h => hnot 11 (mem_ready.2 ⟨h, _, rfl, by simp [Region.binds] <;> simp_all⟩))
      have st12 := hk 12 (by omega) (fun h => hnot 12 (mem_ready.2 ⟨h, _, rfl, by simp [Region.binds] <;> simp_all⟩))
      have st13 := hk 13 (by omega) (fun h => hnot 13 (mem_ready.2 ⟨h, _, rfl, by simp [Region.binds] <;> simp_all⟩))
      have st14 := hk 14 (by omega) (fun h => hnot 14 (mem_ready.2 ⟨h, _, rfl, by simp [Region.binds] <;> simp_all⟩))
      have st15 := hk 15 (by omega) (fun h => hnot 15 (mem_ready.2 ⟨h, _, rfl, by simp [Region.binds] <;> simp_all⟩))
      have hall : ∀ i, i < 16 → l.getD i true = true := fun i hi => by
       rcases (show i = 0 ∨ i = 1 ∨ i = 2 ∨ i = 3 ∨ i = 4 ∨ i = 5 ∨ i = 6 ∨ i = 7 ∨ i = 8 ∨ i = 9 ∨ i = 10 ∨ i = 11 ∨ i = 12 ∨ i = 13 ∨ i = 14 ∨ i = 15 by omega) with rfl | rfl | rfl | rfl | rfl | rfl | rfl | rfl | rfl | rfl | rfl | rfl | rfl | rfl | rfl | rfl
       ·exact getD_true st0
       ·exact getD_true st1
       ·exact getD_true st2
       ·exact getD_true st3
       ·exact getD_true st4
       ·exact getD_true st5
       ·exact getD_true st6
       ·exact getD_true st7
       ·exact getD_true st8
       ·exact getD_true st9
       ·exact getD_true st10
       ·exact getD_true st11
       ·exact getD_true st12
       ·exact getD_true st13
       ·exact getD_true st14
       ·exact getD_true st15
      clear st0 st1 st2 st3 st4 st5 st6 st7 st8 st9 st10 st11 st12 st13 st14 st15 hk hnot hz
      have hTs : T.size = 141 := by rw [hT]; rfl
      have ha := hR.all (T' := (((((((((((((((T.setIfInBounds 70 (vals 0)).setIfInBounds 71 (vals 1)).setIfInBounds 72 (vals 2)).setIfInBounds 73 (vals 3)).setIfInBounds 74 (vals 4)).setIfInBounds 75 (vals 5)).setIfInBounds 76 (vals 6)).setIfInBounds 77 (vals 7)).setIfInBounds 78 (vals 8)).setIfInBounds 79 (vals 9)).setIfInBounds 80 (vals 10)).setIfInBounds 81 (vals 11)).setIfInBounds 82 (vals 12)).setIfInBounds 83 (vals 13)).setIfInBounds 84 (vals 14))) (fun i hi => hall i (by simpa using hi)) (by simp) (fun j hj => by
       by_cases h1 : j = 70 ∨ j = 71 ∨ j = 72 ∨ j = 73 ∨ j = 74 ∨ j = 75 ∨ j = 76 ∨ j = 77 ∨ j = 78 ∨ j = 79 ∨ j = 80 ∨ j = 81 ∨ j = 82 ∨ j = 83 ∨ j = 84
       ·rcases h1 with rfl | rfl | rfl | rfl | rfl | rfl | rfl | rfl | rfl | rfl | rfl | rfl | rfl | rfl | rfl <;> simp [rv_sets, tOwn, List.findIdx?, List.findIdx?.go, hTs]
       ·simp only [not_or] at h1
        obtain ⟨m70, m71, m72, m73, m74, m75, m76, m77, m78, m79, m80, m81, m82, m83, m84⟩ := h1
        have e : tOwn [some 70, some 71, some 72, some 73, some 74, some 75, some 76, some 77, some 78, some 79, some 80, some 81, some 82, some 83, some 84, none] vals j = none := by
         unfold tOwn
         simp [List.findIdx?, List.findIdx?.go, Ne.symm m70, Ne.symm m71, Ne.symm m72, Ne.symm m73, Ne.symm m74, Ne.symm m75, Ne.symm m76, Ne.symm m77, Ne.symm m78, Ne.symm m79, Ne.symm m80, Ne.symm m81, Ne.symm m82, Ne.symm m83, Ne.symm m84]
        rw [e]
        simp only [rv_sets]
        repeat rw [if_neg (by omega)])
      have v0 : vals 0 = .slice (some ⟨g2, 0, none⟩) nr nr := hR.vl 0 (by decide) (hall 0 (by decide))
      have v1 : vals 1 = .int .i64 (k : Int) := hR.vl 1 (by decide) (hall 1 (by decide))
      have v2 : vals 2 = .pointer (some ⟨g2, k, none⟩) := hR.vl 2 (by decide) (hall 2 (by decide))
      have v3 : vals 3 = .int .i64 y2 := hR.vl 3 (by decide) (hall 3 (by decide))
      have v4 : vals 4 = .pointer (some ⟨W.heap.size + 1, 1, none⟩) := hR.vl 4 (by decide) (hall 4 (by decide))
      have v5 : vals 5 = .int .u8 c2 := hR.vl 5 (by decide) (hall 5 (by decide))
      have v6 : vals 6 = .int .i64 c2 := hR.vl 6 (by decide) (hall 6 (by decide))
      have v7 : vals 7 = .pointer (some ⟨Bd, 1, none⟩) := hR.vl 7 (by decide) (hall 7 (by decide))
      have v8 : vals 8 = .slice (some ⟨b, off, none⟩) nr cr := hR.vl 8 (by decide) (hall 8 (by decide))
      have v9 : vals 9 = .int .i64 (k : Int) := hR.vl 9 (by decide) (hall 9 (by decide))
      have v10 : vals 10 = .pointer (some ⟨b, off + k, none⟩) := hR.vl 10 (by decide) (hall 10 (by decide))
      have v11 : vals 11 = .int .i64 x := hR.vl 11 (by decide) (hall 11 (by decide))
      have v12 : vals 12 = .int .i64 z2 := hR.vl 12 (by decide) (hall 12 (by decide))
      have v13 : vals 13 = .int .i64 q2 := hR.vl 13 (by decide) (hall 13 (by decide))
      have v14 : vals 14 = .pointer (some ⟨g2, k, none⟩) := hR.vl 14 (by decide) (hall 14 (by decide))
      have hw := hR.wd.b (hall 15 (by decide))
      subst hw
      subst ha
      clear hR hall hTs
      rw [v0, v1, v2, v3, v4, v5, v6, v7, v8, v9, v10, v11, v12, v13, v14, hT]
      simp only [List.setIfInBounds_toArray, List.set_cons_succ, List.set_cons_zero]
      clear v0 v1 v2 v3 v4 v5 v6 v7 v8 v9 v10 v11 v12 v13 v14 hT T
     clear cu fu lu cd1 cx ca wz wq
     generalize wY.drew.setCell ⟨g2, k, none⟩ (.int .i64 q2) = wZ at HZZ ⊢
     have hcc := HCK.out _ HZZ.out.2.2
     have cd1 := hcc.1
     have cx := hcc.2.1
     have cu : wZ.cell? ⟨g1, k, none⟩ = some (.int .i64 q1) := by have h := HZZ.out.1.cell (k := k) (by rw [List.length_set]; omega); rwa [set_get _ (by omega), if_pos rfl] at h
     have fu : wZ.frozen? ⟨g1, k, none⟩ = false := HZZ.out.1.free k
     have lu : g1 < wZ.heap.size := HZZ.out.1.lt
     clear hcc
     by_cases hx0 : x = 0
     ·have hq := HQ1.out
      rw [hx0] at hq
      have wq : IntKind.i64.wrap (q1 + cl) = q1 + cl := IntWalk.i64_in _ (by omega)
      have HFI : Hid (ShI W0 (wZ.setCell ⟨g1, k, none⟩ (.int .i64 (q1 + cl))) g1 g2 r (unV r row) (unV r row2) c1 c2 cl nr (k + 1) (L.set k (y1 + c1 * x + if x = 0 then cl else 0)) (M.set k (y2 + c2 * x))) := Lib.hid (HEND.out _ (by
       have h := HZZ.out.1.set (k := k) (q1 + cl)
       rw [List.set_set] at h
       rw [if_pos hx0, ← HQ1.out]; exact h) (by
       have h := HZZ.out.2.1.other (q := g1) (k := k) (v := .int .i64 (q1 + cl)) (fun e => hne e.symm)
       rw [← HQ2.out]; exact h) (HZZ.out.2.2.setCell HGG.out.1 _))
      clear hq
      rw [hx0] at cx
      go_wp2
      go_roundw
      case rel => exact ⟨k + 1, _, _, by omega, by go_num, HFI⟩
      case measure => simp [intOf]; omega
     ·have HFI : Hid (ShI W0 wZ g1 g2 r (unV r row) (unV r row2) c1 c2 cl nr (k + 1) (L.set k (y1 + c1 * x + if x = 0 then cl else 0)) (M.set k (y2 + c2 * x))) := Lib.hid (HEND.out _ (by rw [if_neg hx0, Int.add_zero, ← HQ1.out]; exact HZZ.out.1) (by rw [← HQ2.out]; exact HZZ.out.2.1) HZZ.out.2.2)
      go_wp2
      go_roundw
      case rel => exact ⟨k + 1, _, _, by omega, by go_num, HFI⟩
      case measure => simp [intOf]; omega
    ·obtain ⟨bs, os, rfl, hbs⟩ := HRD.out.1 hns
     have cs1 := hbs w HI.out.b
     have hnsI : (0 : Int) < (ns : Int) := by omega
     have hks : (k : Int) < (ns : Int) := by have := HI0.out.2.1.size; have := HRW.out.1.1; have := HNR.out; omega
     have hb1 : Below W0.heap.size W0 (w.setCell ⟨g1, k, none⟩ (.int .i64 y1)) := HI.out.b.setCell HGG.out.1 _
     obtain ⟨bt, ot, rfl, hbt⟩ := HRD.out.2 hnt
     have hntI : (0 : Int) < (nt : Int) := by omega
     have hkt : (k : Int) < (nt : Int) := by have := HI0.out.2.2.size; have := HRW.out.2.1; have := HNR.out; omega
     have cs2 := hbt _ hb1
     have hv2 : IB (w.setCell ⟨g1, k, none⟩ (.int .i64 y1)) g2 M := HI.out.v.other (fun e => hne e.symm)
     have fv2 := hv2.free k
     have lv2 := hv2.lt
     have HXX : Hid (IB ((w.setCell ⟨g1, k, none⟩ (.int .i64 y1)).setCell ⟨g2, k, none⟩ (.int .i64 y2)) g1 (L.set k y1) ∧ IB ((w.setCell ⟨g1, k, none⟩ (.int .i64 y1)).setCell ⟨g2, k, none⟩ (.int .i64 y2)) g2 (M.set k y2) ∧ Below W0.heap.size W0 ((w.setCell ⟨g1, k, none⟩ (.int .i64 y1)).setCell ⟨g2, k, none⟩ (.int .i64 y2))) := Lib.hid ⟨((HI.out.u.set y1).other hne), (hv2.set y2), (hb1.setCell HGG.out.2 _)⟩
     clear hb1 hbs hbt hv2
     go_wp2
     generalize (w.setCell ⟨g1, k, none⟩ (.int .i64 y1)).setCell ⟨g2, k, none⟩ (.int .i64 y2) = wX at HXX ⊢
     clear cs1 hks cs2 hkt fv2 lv2 hnsI hntI cu cv fu fv lu lv
     have hL1 : L.set k y1 = L.set k y1 := rfl
     have cu : wX.drew.cell? ⟨g1, k, none⟩ = some (.int .i64 y1) := by have h := HXX.out.1.cell (k := k) (by rw [List.length_set]; omega); rwa [set_get _ (by omega), if_pos rfl] at h
     have fu : wX.drew.frozen? ⟨g1, k, none⟩ = false := HXX.out.1.free k
     have lu : g1 < wX.drew.heap.size := HXX.out.1.lt
     have hcc := HCK.out _ HXX.out.2.2.drew
     have cd1 := hcc.1
     have cx := hcc.2.1
     have ca := hcc.2.2.1
     obtain ⟨z, hz⟩ : ∃ z, z = c1 * x := ⟨_, rfl⟩
     have wz : IntKind.i64.wrap (c1 * x) = z := by rw [hz]; exact IntWalk.i64_in _ (by have := HZB.out; omega)
     obtain ⟨q1, hq1⟩ : ∃ q1, q1 = y1 + z := ⟨_, rfl⟩
     have wq : IntKind.i64.wrap (y1 + z) = q1 := by rw [hq1]; exact IntWalk.i64_in _ (by have := HZB.out; omega)
     have HYY : Hid (IB (wX.drew.setCell ⟨g1, k, none⟩ (.int .i64 q1)) g1 (L.set k q1) ∧ IB (wX.drew.setCell ⟨g1, k, none⟩ (.int .i64 q1)) g2 (M.set k y2) ∧ Below W0.heap.size W0 (wX.drew.setCell ⟨g1, k, none⟩ (.int .i64 q1))) := Lib.hid ⟨by
      have h := (show IB wX.drew g1 (L.set k y1) from HXX.out.1).set (k := k) q1
      rwa [List.set_set] at h, (show IB wX.drew g2 (M.set k y2) from HXX.out.2.1).other (fun e => hne e.symm), HXX.out.2.2.drew.setCell HGG.out.1 _⟩
     have HQ1 : Hid (q1 = y1 + c1 * x) := Lib.hid (by rw [hq1, hz])
     clear hcc hz hq1 hL1
     refine (wpIn_wide (n := 6)).1 ?_
     refine frame_namedIn ?_
     intro T hT
     obtain ⟨R, hRd⟩ : ∃ R : Array Bool → Act → World → Prop, R = (fun l a w' => ∃ vals, RH stCh T [some 55, some 56, some 57, some 58, some 59, some 60, some 61, some 62, some 63, some 64, some 65, some 66, some 67, some 68, some 69, none] (fun l _ w => ST wX.drew (wX.drew.setCell ⟨g1, k, none⟩ (.int .i64 q1)) 15 l w) (fun i u _ => match i with | 0 => u = .slice (some ⟨g1, 0, none⟩) nr nr | 1 => u = .int .i64 (k : Int) | 2 => u = .pointer (some ⟨g1, k, none⟩) | 3 => u = .int .i64 y1 | 4 => u = .pointer (some ⟨W.heap.size + 1, 0, none⟩) | 5 => u = .int .u8 c1 | 6 => u = .int .i64 c1 | 7 => u = .pointer (some ⟨Bd, 1, none⟩) | 8 => u = .slice (some ⟨b, off, none⟩) nr cr | 9 => u = .int .i64 (k : Int) | 10 => u = .pointer (some ⟨b, off + k, none⟩) | 11 => u = .int .i64 x | 12 => u = .int .i64 z | 13 => u = .int .i64 q1 | 14 => u = .pointer (some ⟨g1, k, none⟩) | _ => True) vals l a w') := ⟨_, rfl⟩
     refine region_inv (by kernel_rfl) R ?h0r2b3 ?stepr2b3 ?finr2b3
     case h0r2b3 => rw [hRd]; exact RH.start rfl (fun i j h => by simp [stCh] at h; simp only [List.length_cons, List.length_nil]; omega) (by exact ⟨fun _ => rfl, fun h => absurd h (by decide)⟩)
     case stepr2b3 =>
      rintro l a w' i' hR0 hi'
      have hR1 := hR0
      rw [hRd] at hR1
      obtain ⟨vals, hR⟩ := hR1
      obtain ⟨hl0, o, ho, hdep⟩ := mem_ready.1 hi'
      have h15 : i' < 16 := by
       have := (Array.getElem?_eq_some_iff.1 ho).1
       simpa using this
      rcases (show i' = 0 ∨ i' = 1 ∨ i' = 2 ∨ i' = 3 ∨ i' = 4 ∨ i' = 5 ∨ i' = 6 ∨ i' = 7 ∨ i' = 8 ∨ i' = 9 ∨ i' = 10 ∨ i' = 11 ∨ i' = 12 ∨ i' = 13 ∨ i' = 14 ∨ i' = 15 by omega) with rfl | rfl | rfl | rfl | rfl | rfl | rfl | rfl | rfl | rfl | rfl | rfl | rfl | rfl | rfl | rfl
      ·simp at ho
       subst ho
       simp [Region.binds] at hdep
       have k0 : a.tmps.getD 11 undef = .slice (some ⟨g1, 0, none⟩) nr nr := (hR.fr.kept rfl (by simp [hT])).trans (by rw [hT]; try rfl)
       have hc : ∀ j, (0, j) ∈ stCh → l.getD j true = true := by intro j hj; simp [stCh] at hj
       clear hi' hdep
       have k0g := gD k0
       unfold wpOpIn; simp [Region.wanted]; unfold Oper.wpIn
       simp [Oper.about, execOp, go_sem, Act.eval, k0, k0g]
       rw [hRd]
       exact hR.op 0 55 _ rfl (by decide) hl0 hc (ST.const hR.wd (by decide)) (fun _ _ h => h) (rfl)
      ·simp at ho
       subst ho
       simp [Region.binds] at hdep
       have k0 : a.tmps.getD 13 undef = .int .i64 (k : Int) := (hR.fr.kept rfl (by simp [hT])).trans (by rw [hT]; try rfl)
       have hc : ∀ j, (1, j) ∈ stCh → l.getD j true = true := by intro j hj; simp [stCh] at hj
       clear hi' hdep
       have k0g := gD k0
       unfold wpOpIn; simp [Region.wanted]; unfold Oper.wpIn
       simp [Oper.about, execOp, go_sem, Act.eval, k0, k0g]
       rw [hRd]
       exact hR.op 1 56 _ rfl (by decide) hl0 hc (ST.const hR.wd (by decide)) (fun _ _ h => h) (rfl)
      ·simp at ho
       subst ho
       simp [Region.binds] at hdep
       have d0 : l.getD 0 true = true := getD_true (by simp_all)
       have k0 : a.tmps.getD 55 undef = vals 0 := hR.get rfl (by simp_all) (by simp [hT])
       have e0 : vals 0 = .slice (some ⟨g1, 0, none⟩) nr nr := hR.vl 0 (by decide) d0
       rw [e0] at k0
       have d1 : l.getD 1 true = true := getD_true (by simp_all)
       have k1 : a.tmps.getD 56 undef = vals 1 := hR.get rfl (by simp_all) (by simp [hT])
       have e1 : vals 1 = .int .i64 (k : Int) := hR.vl 1 (by decide) d1
       rw [e1] at k1
       have hc : ∀ j, (2, j) ∈ stCh → l.getD j true = true := by intro j hj; simp [stCh] at hj; rcases hj with rfl | rfl <;> exact getD_true (by simp_all)
       clear hi' hdep
       have k0g := gD k0
       have k1g := gD k1
       unfold wpOpIn; simp [Region.wanted]; unfold Oper.wpIn
       simp [Oper.about, execOp, go_sem, Act.eval, k0, k1, k0g, k1g, hltI]
       rw [hRd]
       exact hR.op 2 57 _ rfl (by decide) hl0 hc (ST.const hR.wd (by decide)) (fun _ _ h => h) (rfl)
      ·simp at ho
       subst ho
       simp [Region.binds] at hdep
       have d0 : l.getD 2 true = true := getD_true (by simp_all)
       have k0 : a.tmps.getD 57 undef = vals 2 := hR.get rfl (by simp_all) (by simp [hT])
       have e0 : vals 2 = .pointer (some ⟨g1, k, none⟩) := hR.vl 2 (by decide) d0
       rw [e0] at k0
       have hc : ∀ j, (3, j) ∈ stCh → l.getD j true = true := by intro j hj; simp [stCh] at hj; rcases hj with rfl <;> exact getD_true (by simp_all)
       have n15 := hR.no (s := 15) hl0 (fun hs => (hR.dep 15 3 (by decide) hs))
       clear hi' hdep
       have hw := hR.wd.a n15
       subst hw
       have k0g := gD k0
       unfold wpOpIn; simp [Region.wanted]; unfold Oper.wpIn
       simp [Oper.about, execOp, go_sem, Act.eval, k0, k0g, cu]
       rw [hRd]
       exact hR.op 3 58 _ rfl (by decide) hl0 hc (ST.const hR.wd (by decide)) (fun _ _ h => h) (rfl)
      ·simp at ho
       subst ho
       simp [Region.binds] at hdep
       have k0 : a.tmps.getD 4 undef = .pointer (some ⟨W.heap.size + 1, 0, none⟩) := (hR.fr.kept rfl (by simp [hT])).trans (by rw [hT]; try rfl)
       have hc : ∀ j, (4, j) ∈ stCh → l.getD j true = true := by intro j hj; simp [stCh] at hj
       clear hi' hdep
       have k0g := gD k0
       unfold wpOpIn; simp [Region.wanted]; unfold Oper.wpIn
       simp [Oper.about, execOp, go_sem, Act.eval, k0, k0g]
       rw [hRd]
       exact hR.op 4 59 _ rfl (by decide) hl0 hc (ST.const hR.wd (by decide)) (fun _ _ h => h) (rfl)
      ·simp at ho
       subst ho
       simp [Region.binds] at hdep
       have d0 : l.getD 4 true = true := getD_true (by simp_all)
       have k0 : a.tmps.getD 59 undef = vals 4 := hR.get rfl (by simp_all) (by simp [hT])
       have e0 : vals 4 = .pointer (some ⟨W.heap.size + 1, 0, none⟩) := hR.vl 4 (by decide) d0
       rw [e0] at k0
       have hc : ∀ j, (5, j) ∈ stCh → l.getD j true = true := by intro j hj; simp [stCh] at hj; rcases hj with rfl <;> exact getD_true (by simp_all)
       have n15 := hR.no (s := 15) hl0 (fun hs => (hR.dep 15 5 (by decide) hs))
       clear hi' hdep
       have hw := hR.wd.a n15
       subst hw
       have k0g := gD k0
       unfold wpOpIn; simp [Region.wanted]; unfold Oper.wpIn
       simp [Oper.about, execOp, go_sem, Act.eval, k0, k0g, ca]
       rw [hRd]
       exact hR.op 5 60 _ rfl (by decide) hl0 hc (ST.const hR.wd (by decide)) (fun _ _ h => h) (rfl)
      ·simp at ho
       subst ho
       simp [Region.binds] at hdep
       have d0 : l.getD 5 true = true := getD_true (by simp_all)
       have k0 : a.tmps.getD 60 undef = vals 5 := hR.get rfl (by simp_all) (by simp [hT])
       have e0 : vals 5 = .int .u8 c1 := hR.vl 5 (by decide) d0
       rw [e0] at k0
       have hc : ∀ j, (6, j) ∈ stCh → l.getD j true = true := by intro j hj; simp [stCh] at hj; rcases hj with rfl <;> exact getD_true (by simp_all)
       clear hi' hdep
       have k0g := gD k0
       unfold wpOpIn; simp [Region.wanted]; unfold Oper.wpIn
       simp [Oper.about, execOp, go_sem, Act.eval, k0, k0g, wc1, wc2]
       rw [hRd]
       exact hR.op 6 61 _ rfl (by decide) hl0 hc (ST.const hR.wd (by decide)) (fun _ _ h => h) (rfl)
      ·simp at ho
       subst ho
       simp [Region.binds] at hdep
       have k0 : a.tmps.getD 8 undef = .pointer (some ⟨Bd, 0, none⟩) := (hR.fr.kept rfl (by simp [hT])).trans (by rw [hT]; try rfl)
       have hc : ∀ j, (7, j) ∈ stCh → l.getD j true = true := by intro j hj; simp [stCh] at hj
       clear hi' hdep
       have k0g := gD k0
       unfold wpOpIn; simp [Region.wanted]; unfold Oper.wpIn
       simp [Oper.about, execOp, go_sem, Act.eval, k0, k0g]
       rw [hRd]
       exact hR.op 7 62 _ rfl (by decide) hl0 hc (ST.const hR.wd (by decide)) (fun _ _ h => h) (rfl)
      ·simp at ho
       subst ho
       simp [Region.binds] at hdep
       have d0 : l.getD 7 true = true := getD_true (by simp_all)
       have k0 : a.tmps.getD 62 undef = vals 7 := hR.get rfl (by simp_all) (by simp [hT])
       have e0 : vals 7 = .pointer (some ⟨Bd, 1, none⟩) := hR.vl 7 (by decide) d0
       rw [e0] at k0
       have hc : ∀ j, (8, j) ∈ stCh → l.getD j true = true := by intro j hj; simp [stCh] at hj; rcases hj with rfl <;> exact getD_true (by simp_all)
       have n15 := hR.no (s := 15) hl0 (fun hs => (hR.dep 15 8 (by decide) hs))
       clear hi' hdep
       have hw := hR.wd.a n15
       subst hw
       have k0g := gD k0
       unfold wpOpIn; simp [Region.wanted]; unfold Oper.wpIn
       simp [Oper.about, execOp, go_sem, Act.eval, k0, k0g, cd1]
       rw [hRd]
       exact hR.op 8 63 _ rfl (by decide) hl0 hc (ST.const hR.wd (by decide)) (fun _ _ h => h) (rfl)
      ·simp at ho
       subst ho
       simp [Region.binds] at hdep
       have k0 : a.tmps.getD 13 undef = .int .i64 (k : Int) := (hR.fr.kept rfl (by simp [hT])).trans (by rw [hT]; try rfl)
       have hc : ∀ j, (9, j) ∈ stCh → l.getD j true = true := by intro j hj; simp [stCh] at hj
       clear hi' hdep
       have k0g := gD k0
       unfold wpOpIn; simp [Region.wanted]; unfold Oper.wpIn
       simp [Oper.about, execOp, go_sem, Act.eval, k0, k0g]
       rw [hRd]
       exact hR.op 9 64 _ rfl (by decide) hl0 hc (ST.const hR.wd (by decide)) (fun _ _ h => h) (rfl)
      ·simp at ho
       subst ho
       simp [Region.binds] at hdep
       have d0 : l.getD 8 true = true := getD_true (by simp_all)
       have k0 : a.tmps.getD 63 undef = vals 8 := hR.get rfl (by simp_all) (by simp [hT])
       have e0 : vals 8 = .slice (some ⟨b, off, none⟩) nr cr := hR.vl 8 (by decide) d0
       rw [e0] at k0
       have d1 : l.getD 9 true = true := getD_true (by simp_all)
       have k1 : a.tmps.getD 64 undef = vals 9 := hR.get rfl (by simp_all) (by simp [hT])
       have e1 : vals 9 = .int .i64 (k : Int) := hR.vl 9 (by decide) d1
       rw [e1] at k1
       have hc : ∀ j, (10, j) ∈ stCh → l.getD j true = true := by intro j hj; simp [stCh] at hj; rcases hj with rfl | rfl <;> exact getD_true (by simp_all)
       clear hi' hdep
       have k0g := gD k0
       have k1g := gD k1
       unfold wpOpIn; simp [Region.wanted]; unfold Oper.wpIn
       simp [Oper.about, execOp, go_sem, Act.eval, k0, k1, k0g, k1g, hltI]
       rw [hRd]
       exact hR.op 10 65 _ rfl (by decide) hl0 hc (ST.const hR.wd (by decide)) (fun _ _ h => h) (rfl)
      ·simp at ho
       subst ho
       simp [Region.binds] at hdep
       have d0 : l.getD 10 true = true := getD_true (by simp_all)
       have k0 : a.tmps.getD 65 undef = vals 10 := hR.get rfl (by simp_all) (by simp [hT])
       have e0 : vals 10 = .pointer (some ⟨b, off + k, none⟩) := hR.vl 10 (by decide) d0
       rw [e0] at k0
       have hc : ∀ j, (11, j) ∈ stCh → l.getD j true = true := by intro j hj; simp [stCh] at hj; rcases hj with rfl <;> exact getD_true (by simp_all)
       have n15 := hR.no (s := 15) hl0 (fun hs => (hR.dep 15 11 (by decide) hs))
       clear hi' hdep
       have hw := hR.wd.a n15
       subst hw
       have k0g := gD k0
       unfold wpOpIn; simp [Region.wanted]; unfold Oper.wpIn
       simp [Oper.about, execOp, go_sem, Act.eval, k0, k0g, cx]
       rw [hRd]
       exact hR.op 11 66 _ rfl (by decide) hl0 hc (ST.const hR.wd (by decide)) (fun _ _ h => h) (rfl)
      ·simp at ho
       subst ho
       simp [Region.binds] at hdep
       have d0 : l.getD 6 true = true := getD_true (by simp_all)
       have k0 : a.tmps.getD 61 undef = vals 6 := hR.get rfl (by simp_all) (by simp [hT])
       have e0 : vals 6 = .int .i64 c1 := hR.vl 6 (by decide) d0
       rw [e0] at k0
       have d1 : l.getD 11 true = true := getD_true (by simp_all)
       have k1 : a.tmps.getD 66 undef = vals 11 := hR.get rfl (by simp_all) (by simp [hT])
       have e1 : vals 11 = .int .i64 x := hR.vl 11 (by decide) d1
       rw [e1] at k1
       have hc : ∀ j, (12, j) ∈ stCh → l.getD j true = true := by intro j hj; simp [stCh] at hj; rcases hj with rfl | rfl <;> exact getD_true (by simp_all)
       clear hi' hdep
       have k0g := gD k0
       have k1g := gD k1
       unfold wpOpIn; simp [Region.wanted]; unfold Oper.wpIn
       simp [Oper.about, execOp, go_sem, Act.eval, k0, k1, k0g, k1g, wz]
       rw [hRd]
       exact hR.op 12 67 _ rfl (by decide) hl0 hc (ST.const hR.wd (by decide)) (fun _ _ h => h) (rfl)
      ·simp at ho
       subst ho
       simp [Region.binds] at hdep
       have d0 : l.getD 3 true = true := getD_true (by simp_all)
       have k0 : a.tmps.getD 58 undef = vals 3 := hR.get rfl (by simp_all) (by simp [hT])
       have e0 : vals 3 = .int .i64 y1 := hR.vl 3 (by decide) d0
       rw [e0] at k0
       have d1 : l.getD 12 true = true := getD_true (by simp_all)
       have k1 : a.tmps.getD 67 undef = vals 12 := hR.get rfl (by simp_all) (by simp [hT])
       have e1 : vals 12 = .int .i64 z := hR.vl 12 (by decide) d1
       rw [e1] at k1
       have hc : ∀ j, (13, j) ∈ stCh → l.getD j true = true := by intro j hj; simp [stCh] at hj; rcases hj with rfl | rfl <;> exact getD_true (by simp_all)
       clear hi' hdep
       have k0g := gD k0
       have k1g := gD k1
       unfold wpOpIn; simp [Region.wanted]; unfold Oper.wpIn
       simp [Oper.about, execOp, go_sem, Act.eval, k0, k1, k0g, k1g, wq]
       rw [hRd]
       exact hR.op 13 68 _ rfl (by decide) hl0 hc (ST.const hR.wd (by decide)) (fun _ _ h => h) (rfl)
      ·simp at ho
       subst ho
       simp [Region.binds] at hdep
       have d0 : l.getD 0 true = true := getD_true (by simp_all)
       have k0 : a.tmps.getD 55 undef = vals 0 := hR.get rfl (by simp_all) (by simp [hT])
       have e0 : vals 0 = .slice (some ⟨g1, 0, none⟩) nr nr := hR.vl 0 (by decide) d0
       rw [e0] at k0
       have d1 : l.getD 1 true = true := getD_true (by simp_all)
       have k1 : a.tmps.getD 56 undef = vals 1 := hR.get rfl (by simp_all) (by simp [hT])
       have e1 : vals 1 = .int .i64 (k : Int) := hR.vl 1 (by decide) d1
       rw [e1] at k1
       have hc : ∀ j, (14, j) ∈ stCh → l.getD j true = true := by intro j hj; simp [stCh] at hj; rcases hj with rfl | rfl <;> exact getD_true (by simp_all)
       clear hi' hdep
       have k0g := gD k0
       have k1g := gD k1
       unfold wpOpIn; simp [Region.wanted]; unfold Oper.wpIn
       simp [Oper.about, execOp, go_sem, Act.eval, k0, k1, k0g, k1g, hltI]
       rw [hRd]
       exact hR.op 14 69 _ rfl (by decide) hl0 hc (ST.const hR.wd (by decide)) (fun _ _ h => h) (rfl)
      ·simp at ho
       subst ho
       simp [Region.binds] at hdep
       have d0 : l.getD 14 true = true := getD_true (by simp_all)
       have k0 : a.tmps.getD 69 undef = vals 14 := hR.get rfl (by simp_all) (by simp [hT])
       have e0 : vals 14 = .pointer (some ⟨g1, k, none⟩) := hR.vl 14 (by decide) d0
       rw [e0] at k0
       have d1 : l.getD 13 true = true := getD_true (by simp_all)
       have k1 : a.tmps.getD 68 undef = vals 13 := hR.get rfl (by simp_all) (by simp [hT])
       have e1 : vals 13 = .int .i64 q1 := hR.vl 13 (by decide) d1
       rw [e1] at k1
       have hc : ∀ j, (15, j) ∈ stCh → l.getD j true = true := by intro j hj; simp [stCh] at hj; rcases hj with rfl | rfl | rfl | rfl | rfl | rfl <;> exact getD_true (by simp_all)
       clear hi' hdep
       have hw := hR.wd.a hl0
       subst hw
       have k0g := gD k0
       have k1g := gD k1
       unfold wpOpIn; simp [Region.wanted]; unfold Oper.wpIn
       simp [Oper.about, execOp, go_sem, Act.eval, k0, k1, k0g, k1g, cu, fu, lu]
       rw [hRd]
       exact hR.bare 15 undef rfl hl0 hc (ST.done) (fun _ _ h => h) (fun _ => trivial)
     case' finr2b3 =>
      rintro l a w' hR0 hz
      rw [hRd] at hR0
      obtain ⟨vals, hR⟩ := hR0
      clear hRd R
      have hnot := List.eq_nil_iff_forall_not_mem.1 hz
      have hk : ∀ k, k < 16 → (l.getD k true = false → False) → l.getD k false = true := fun k h12 h => by
       have hs := hR.size
       cases h' : l.getD k true with
       | false => exact (h h').elim
       | true => simp at hs; simp [Array.getD, hs, h12] at h' ⊢; exact h'
      have st0 := hk 0 (by omega) (fun h => hnot 0 (mem_ready.2 ⟨h, _, rfl, by simp [Region.binds]⟩))
      have st1 := hk 1 (by omega) (fun h => hnot 1 (mem_ready.2 ⟨h, _, rfl, by simp [Region.binds]⟩))
      have st2 := hk 2 (by omega) (fun h => hnot 2 (mem_ready.2 ⟨h, _, rfl, by simp [Region.binds] <;> simp_all⟩))
      have st3 := hk 3 (by omega) (fun h => hnot 3 (mem_ready.2 ⟨h, _, rfl, by simp [Region.binds] <;> simp_all⟩))
      have st4 := hk 4 (by omega) (fun h => hnot 4 (mem_ready.2 ⟨h, _, rfl, by simp [Region.binds]⟩))
      have st5 := hk 5 (by omega) (fun h => hnot 5 (mem_ready.2 ⟨h, _, rfl, by simp [Region.binds] <;> simp_all⟩))
      have st6 := hk 6 (by omega) (fun h => hnot 6 (mem_ready.2 ⟨h, _, rfl, by simp [Region.binds] <;> simp_all⟩))
      have st7 := hk 7 (by omega) (fun h => hnot 7 (mem_ready.2 ⟨h, _, rfl, by simp [Region.binds]⟩))
      have st8 := hk 8 (by omega) (fun h => hnot 8 (mem_ready.2 ⟨h, _, rfl, by simp [Region.binds] <;> simp_all⟩))
      have st9 := hk 9 (by omega) (fun h => hnot 9 (mem_ready.2 ⟨h, _, rfl, by simp [Region.binds]⟩))
      have st10 := hk 10 (by omega) (fun h => hnot 10 (mem_ready.2 ⟨h, _, rfl, by simp [Region.binds] <;> simp_all⟩))
      have st11 := hk 11 (by omega) (fun h => hnot 11 (mem_ready.2 ⟨h, _, rfl, by simp [Region.binds] <;> simp_all⟩))
      have st12 := hk 12 (by omega) (fun h => hnot 12 (mem_ready.2 ⟨h, _, rfl, by simp [Region.binds] <;> simp_all⟩))
      have st13 := hk 13 (by omega) (fun h => hnot 13 (mem_ready.2 ⟨h, _, rfl, by simp [Region.binds] <;> simp_all⟩))
      have st14 := hk 14 (by omega) (fun h => hnot 14 (mem_ready.2 ⟨h, _, rfl, by simp [Region.binds] <;> simp_all⟩))
      have st15 := hk 15 (by omega) (fun h => hnot 15 (mem_ready.2 ⟨h, _, rfl, by simp [Region.binds] <;> simp_all⟩))
      have hall : ∀ i, i < 16 → l.getD i true = true := fun i hi => by
       rcases (show i = 0 ∨ i = 1 ∨ i = 2 ∨ i = 3 ∨ i = 4 ∨ i = 5 ∨ i = 6 ∨ i = 7 ∨ i = 8 ∨ i = 9 ∨ i = 10 ∨ i = 11 ∨ i = 12 ∨ i = 13 ∨ i = 14 ∨ i = 15 by omega) with rfl | rfl | rfl | rfl | rfl | rfl | rfl | rfl | rfl | rfl | rfl | rfl | rfl | rfl | rfl | rfl
       ·exact getD_true st0
       ·exact getD_true st1
       ·exact getD_true st2
       ·exact getD_true st3
       ·exact getD_true st4
       ·exact getD_true st5
       ·exact getD_true st6
       ·exact getD_true st7
       ·exact getD_true st8
       ·exact getD_true st9
       ·exact getD_true st10
       ·exact getD_true st11
       ·exact getD_true st12
       ·exact getD_true st13
       ·exact getD_true st14
       ·exact getD_true st15
      clear st0 st1 st2 st3 st4 st5 st6 st7 st8 st9 st10 st11 st12 st13 st14 st15 hk hnot hz
      have hTs : T.size = 141 := by rw [hT]; rfl
      have ha := hR.all (T' := (((((((((((((((T.setIfInBounds 55 (vals 0)).setIfInBounds 56 (vals 1)).setIfInBounds 57 (vals 2)).setIfInBounds 58 (vals 3)).setIfInBounds 59 (vals 4)).setIfInBounds 60 (vals 5)).setIfInBounds 61 (vals 6)).setIfInBounds 62 (vals 7)).setIfInBounds 63 (vals 8)).setIfInBounds 64 (vals 9)).setIfInBounds 65 (vals 10)).setIfInBounds 66 (vals 11)).setIfInBounds 67 (vals 12)).setIfInBounds 68 (vals 13)).setIfInBounds 69 (vals 14))) (fun i hi => hall i (by simpa using hi)) (by simp) (fun j hj => by
       by_cases h1 : j = 55 ∨ j = 56 ∨ j = 57 ∨ j = 58 ∨ j = 59 ∨ j = 60 ∨ j = 61 ∨ j = 62 ∨ j = 63 ∨ j = 64 ∨ j = 65 ∨ j = 66 ∨ j = 67 ∨ j = 68 ∨ j = 69
       ·rcases h1 with rfl | rfl | rfl | rfl | rfl | rfl | rfl | rfl | rfl | rfl | rfl | rfl | rfl | rfl | rfl <;> simp [rv_sets, tOwn, List.findIdx?, List.findIdx?.go, hTs]
       ·simp only [not_or] at h1
        obtain ⟨m55, m56, m57, m58, m59, m60, m61, m62, m63, m64, m65, m66, m67, m68, m69⟩ := h1
        have e : tOwn [some 55, some 56, some 57, some 58, some 59, some 60, some 61, some 62, some 63, some 64, some 65, some 66, some 67, some 68, some 69, none] vals j = none := by
         unfold tOwn
         simp [List.findIdx?, List.findIdx?.go, Ne.symm m55, Ne.symm m56, Ne.symm m57, Ne.symm m58, Ne.symm m59, Ne.symm m60, Ne.symm m61, Ne.symm m62, Ne.symm m63, Ne.symm m64, Ne.symm m65, Ne.symm m66, Ne.symm m67, Ne.symm m68, Ne.symm m69]
        rw [e]
        simp only [rv_sets]
        repeat rw [if_neg (by omega)])
      have v0 : vals 0 = .slice (some ⟨g1, 0, none⟩) nr nr := hR.vl 0 (by decide) (hall 0 (by decide))
      have v1 : vals 1 = .int .i64 (k : Int) := hR.vl 1 (by decide) (hall 1 (by decide))
      have v2 : vals 2 = .pointer (some ⟨g1, k, none⟩) := hR.vl 2 (by decide) (hall 2 (by decide))
      have v3 : vals 3 = .int .i64 y1 := hR.vl 3 (by decide) (hall 3 (by decide))
      have v4 : vals 4 = .pointer (some ⟨W.heap.size + 1, 0, none⟩) := hR.vl 4 (by decide) (hall 4 (by decide))
      have v5 : vals 5 = .int .u8 c1 := hR.vl 5 (by decide) (hall 5 (by decide))
      have v6 : vals 6 = .int .i64 c1 := hR.vl 6 (by decide) (hall 6 (by decide))
      have v7 : vals 7 = .pointer (some ⟨Bd, 1, none⟩) := hR.vl 7 (by decide) (hall 7 (by decide))
      have v8 : vals 8 = .slice (some ⟨b, off, none⟩) nr cr := hR.vl 8 (by decide) (hall 8 (by decide))
      have v9 : vals 9 = .int .i64 (k : Int) := hR.vl 9 (by decide) (hall 9 (by decide))
      have v10 : vals 10 = .pointer (some ⟨b, off + k, none⟩) := hR.vl 10 (by decide) (hall 10 (by decide))
      have v11 : vals 11 = .int .i64 x := hR.vl 11 (by decide) (hall 11 (by decide))
      have v12 : vals 12 = .int .i64 z := hR.vl 12 (by decide) (hall 12 (by decide))
      have v13 : vals 13 = .int .i64 q1 := hR.vl 13 (by decide) (hall 13 (by decide))
      have v14 : vals 14 = .pointer (some ⟨g1, k, none⟩) := hR.vl 14 (by decide) (hall 14 (by decide))
      have hw := hR.wd.b (hall 15 (by decide))
      subst hw
      subst ha
      clear hR hall hTs
      rw [v0, v1, v2, v3, v4, v5, v6, v7, v8, v9, v10, v11, v12, v13, v14, hT]
      simp only [List.setIfInBounds_toArray, List.set_cons_succ, List.set_cons_zero]
      clear v0 v1 v2 v3 v4 v5 v6 v7 v8 v9 v10 v11 v12 v13 v14 hT T
     clear cu fu lu cd1 cx ca wz wq
     generalize wX.drew.setCell ⟨g1, k, none⟩ (.int .i64 q1) = wY at HYY ⊢
     go_wp2
     have cu : wY.drew.cell? ⟨g2, k, none⟩ = some (.int .i64 y2) := by have h := HYY.out.2.1.cell (k := k) (by rw [List.length_set]; omega); rwa [set_get _ (by omega), if_pos rfl] at h
     have fu : wY.drew.frozen? ⟨g2, k, none⟩ = false := HYY.out.2.1.free k
     have lu : g2 < wY.drew.heap.size := HYY.out.2.1.lt
     have hcc := HCK.out _ HYY.out.2.2.drew
     have cd1 := hcc.1
     have cx := hcc.2.1
     have ca := hcc.2.2.2
     obtain ⟨z2, hz⟩ : ∃ z, z = c2 * x := ⟨_, rfl⟩
     have wz : IntKind.i64.wrap (c2 * x) = z2 := by rw [hz]; exact IntWalk.i64_in _ (by have := HZB.out; omega)
     obtain ⟨q2, hq2⟩ : ∃ q2, q2 = y2 + z2 := ⟨_, rfl⟩
     have wq : IntKind.i64.wrap (y2 + z2) = q2 := by rw [hq2]; exact IntWalk.i64_in _ (by have := HZB.out; omega)
     have HZZ : Hid (IB (wY.drew.setCell ⟨g2, k, none⟩ (.int .i64 q2)) g1 (L.set k q1) ∧ IB (wY.drew.setCell ⟨g2, k, none⟩ (.int .i64 q2)) g2 (M.set k q2) ∧ Below W0.heap.size W0 (wY.drew.setCell ⟨g2, k, none⟩ (.int .i64 q2))) := Lib.hid ⟨(show IB wY.drew g1 (L.set k q1) from HYY.out.1).other hne, by
      have h := (show IB wY.drew g2 (M.set k y2) from HYY.out.2.1).set (k := k) q2
      rwa [List.set_set] at h, HYY.out.2.2.drew.setCell HGG.out.2 _⟩
     have HQ2 : Hid (q2 = y2 + c2 * x) := Lib.hid (by rw [hq2, hz])
     clear hcc hz hq2
     refine (wpIn_wide (n := 6)).1 ?_
     refine frame_namedIn ?_
     intro T hT
     obtain ⟨R, hRd⟩ : ∃ R : Array Bool → Act → World → Prop, R = (fun l a w' => ∃ vals, RH stCh T [some 70, some 71, some 72, some 73, some 74, some 75, some 76, some 77, some 78, some 79, some 80, some 81, some 82, some 83, some 84, none] (fun l _ w => ST wY.drew (wY.drew.setCell ⟨g2, k, none⟩ (.int .i64 q2)) 15 l w) (fun i u _ => match i with | 0 => u = .slice (some ⟨g2, 0, none⟩) nr nr | 1 => u = .int .i64 (k : Int) | 2 => u = .pointer (some ⟨g2, k, none⟩) | 3 => u = .int .i64 y2 | 4 => u = .pointer (some ⟨W.heap.size + 1, 1, none⟩) | 5 => u = .int .u8 c2 | 6 => u = .int .i64 c2 | 7 => u = .pointer (some ⟨Bd, 1, none⟩) | 8 => u = .slice (some ⟨b, off, none⟩) nr cr | 9 => u = .int .i64 (k : Int) | 10 => u = .pointer (some ⟨b, off + k, none⟩) | 11 => u = .int .i64 x | 12 => u = .int .i64 z2 | 13 => u = .int .i64 q2 | 14 => u = .pointer (some ⟨g2, k, none⟩) | _ => True) vals l a w') := ⟨_, rfl⟩
     refine region_inv (by kernel_rfl) R ?h0r3b3 ?stepr3b3 ?finr3b3
     case h0r3b3 => rw [hRd]; exact RH.start rfl (fun i j h => by simp [stCh] at h; simp only [List.length_cons, List.length_nil]; omega) (by exact ⟨fun _ => rfl, fun h => absurd h (by decide)⟩)
     case stepr3b3 =>
      rintro l a w' i' hR0 hi'
      have hR1 := hR0
      rw [hRd] at hR1
      obtain ⟨vals, hR⟩ := hR1
      obtain ⟨hl0, o, ho, hdep⟩ := mem_ready.1 hi'
      have h15 : i' < 16 := by
       have := (Array.getElem?_eq_some_iff.1 ho).1
       simpa using this
      rcases (show i' = 0 ∨ i' = 1 ∨ i' = 2 ∨ i' = 3 ∨ i' = 4 ∨ i' = 5 ∨ i' = 6 ∨ i' = 7 ∨ i' = 8 ∨ i' = 9 ∨ i' = 10 ∨ i' = 11 ∨ i' = 12 ∨ i' = 13 ∨ i' = 14 ∨ i' = 15 by omega) with rfl | rfl | rfl | rfl | rfl | rfl | rfl | rfl | rfl | rfl | rfl | rfl | rfl | rfl | rfl | rfl
      ·simp at ho
       subst ho
       simp [Region.binds] at hdep
       have k0 : a.tmps.getD 12 undef = .slice (some ⟨g2, 0, none⟩) nr nr := (hR.fr.kept rfl (by simp [hT])).trans (by rw [hT]; try rfl)
       have hc : ∀ j, (0, j) ∈ stCh → l.getD j true = true := by intro j hj; simp [stCh] at hj
       clear hi' hdep
       have k0g := gD k0
       unfold wpOpIn; simp [Region.wanted]; unfold Oper.wpIn
       simp [Oper.about, execOp, go_sem, Act.eval, k0, k0g]
       rw [hRd]
       exact hR.op 0 70 _ rfl (by decide) hl0 hc (ST.const hR.wd (by decide)) (fun _ _ h => h) (rfl)
      ·simp at ho
       subst ho
       simp [Region.binds] at hdep
       have k0 : a.tmps.getD 13 undef = .int .i64 (k : Int) := (hR.fr.kept rfl (by simp [hT])).trans (by rw [hT]; try rfl)
       have hc : ∀ j, (1, j) ∈ stCh → l.getD j true = true := by intro j hj; simp [stCh] at hj
       clear hi' hdep
       have k0g := gD k0
       unfold wpOpIn; simp [Region.wanted]; unfold Oper.wpIn
       simp [Oper.about, execOp, go_sem, Act.eval, k0, k0g]
       rw [hRd]
       exact hR.op 1 71 _ rfl (by decide) hl0 hc (ST.const hR.wd (by decide)) (fun _ _ h => h) (rfl)
      ·simp at ho
       subst ho
       simp [Region.binds] at hdep
       have d0 : l.getD 0 true = true := getD_true (by simp_all)
       have k0 : a.tmps.getD 70 undef = vals 0 := hR.get rfl (by simp_all) (by simp [hT])
       have e0 : vals 0 = .slice (some ⟨g2, 0, none⟩) nr nr := hR.vl 0 (by decide) d0
       rw [e0] at k0
       have d1 : l.getD 1 true = true := getD_true (by simp_all)
       have k1 : a.tmps.getD 71 undef = vals 1 := hR.get rfl (by simp_all) (by simp [hT])
       have e1 : vals 1 = .int .i64 (k : Int) := hR.vl 1 (by decide) d1
       rw [e1] at k1
       have hc : ∀ j, (2, j) ∈ stCh → l.getD j true = true := by intro j hj; simp [stCh] at hj; rcases hj with rfl | rfl <;> exact getD_true (by simp_all)
       clear hi' hdep
       have k0g := gD k0
       have k1g := gD k1
       unfold wpOpIn; simp [Region.wanted]; unfold Oper.wpIn
       simp [Oper.about, execOp, go_sem, Act.eval, k0, k1, k0g, k1g, hltI]
       rw [hRd]
       exact hR.op 2 72 _ rfl (by decide) hl0 hc (ST.const hR.wd (by decide)) (fun _ _ h => h) (rfl)
      ·simp at ho
       subst ho
       simp [Region.binds] at hdep
       have d0 : l.getD 2 true = true := getD_true (by simp_all)
       have k0 : a.tmps.getD 72 undef = vals 2 := hR.get rfl (by simp_all) (by simp [hT])
       have e0 : vals 2 = .pointer (some ⟨g2, k, none⟩) := hR.vl 2 (by decide) d0
       rw [e0] at k0
       have hc : ∀ j, (3, j) ∈ stCh → l.getD j true = true := by intro j hj; simp [stCh] at hj; rcases hj with rfl <;> exact getD_true (by simp_all)
       have n15 := hR.no (s := 15) hl0 (fun hs => (hR.dep 15 3 (by decide) hs))
       clear hi' hdep
       have hw := hR.wd.a n15
       subst hw
       have k0g := gD k0
       unfold wpOpIn; simp [Region.wanted]; unfold Oper.wpIn
       simp [Oper.about, execOp, go_sem, Act.eval, k0, k0g, cu]
       rw [hRd]
       exact hR.op 3 73 _ rfl (by decide) hl0 hc (ST.const hR.wd (by decide)) (fun _ _ h => h) (rfl)
      ·simp at ho
       subst ho
       simp [Region.binds] at hdep
       have k0 : a.tmps.getD 4 undef = .pointer (some ⟨W.heap.size + 1, 0, none⟩) := (hR.fr.kept rfl (by simp [hT])).trans (by rw [hT]; try rfl)
       have hc : ∀ j, (4, j) ∈ stCh → l.getD j true = true := by intro j hj; simp [stCh] at hj
       clear hi' hdep
       have k0g := gD k0
       unfold wpOpIn; simp [Region.wanted]; unfold Oper.wpIn
       simp [Oper.about, execOp, go_sem, Act.eval, k0, k0g]
       rw [hRd]
       exact hR.op 4 74 _ rfl (by decide) hl0 hc (ST.const hR.wd (by decide)) (fun _ _ h => h) (rfl)
      ·simp at ho
       subst ho
       simp [Region.binds] at hdep
       have d0 : l.getD 4 true = true := getD_true (by simp_all)
       have k0 : a.tmps.getD 74 undef = vals 4 := hR.get rfl (by simp_all) (by simp [hT])
       have e0 : vals 4 = .pointer (some ⟨W.heap.size + 1, 1, none⟩) := hR.vl 4 (by decide) d0
       rw [e0] at k0
       have hc : ∀ j, (5, j) ∈ stCh → l.getD j true = true := by intro j hj; simp [stCh] at hj; rcases hj with rfl <;> exact getD_true (by simp_all)
       have n15 := hR.no (s := 15) hl0 (fun hs => (hR.dep 15 5 (by decide) hs))
       clear hi' hdep
       have hw := hR.wd.a n15
       subst hw
       have k0g := gD k0
       unfold wpOpIn; simp [Region.wanted]; unfold Oper.wpIn
       simp [Oper.about, execOp, go_sem, Act.eval, k0, k0g, ca]
       rw [hRd]
       exact hR.op 5 75 _ rfl (by decide) hl0 hc (ST.const hR.wd (by decide)) (fun _ _ h => h) (rfl)
      ·simp at ho
       subst ho
       simp [Region.binds] at hdep
       have d0 : l.getD 5 true = true := getD_true (by simp_all)
       have k0 : a.tmps.getD 75 undef = vals 5 := hR.get rfl (by simp_all) (by simp [hT])
       have e0 : vals 5 = .int .u8 c2 := hR.vl 5 (by decide) d0
       rw [e0] at k0
       have hc : ∀ j, (6, j) ∈ stCh → l.getD j true = true := by intro j hj; simp [stCh] at hj; rcases hj with rfl <;> exact getD_true (by simp_all)
       clear hi' hdep
       have k0g := gD k0
       unfold wpOpIn; simp [Region.wanted]; unfold Oper.wpIn
       simp [Oper.about, execOp, go_sem, Act.eval, k0, k0g, wc1, wc2]
       rw [hRd]
       exact hR.op 6 76 _ rfl (by decide) hl0 hc (ST.const hR.wd (by decide)) (fun _ _ h => h) (rfl)
      ·simp at ho
       subst ho
       simp [Region.binds] at hdep
       have k0 : a.tmps.getD 8 undef = .pointer (some ⟨Bd, 0, none⟩) := (hR.fr.kept rfl (by simp [hT])).trans (by rw [hT]; try rfl)
       have hc : ∀ j, (7, j) ∈ stCh → l.getD j true = true := by intro j hj; simp [stCh] at hj
       clear hi' hdep
       have k0g := gD k0
       unfold wpOpIn; simp [Region.wanted]; unfold Oper.wpIn
       simp [Oper.about, execOp, go_sem, Act.eval, k0, k0g]
       rw [hRd]
       exact hR.op 7 77 _ rfl (by decide) hl0 hc (ST.const hR.wd (by decide)) (fun _ _ h => h) (rfl)
      ·simp at ho
       subst ho
       simp [Region.binds] at hdep
       have d0 : l.getD 7 true = true := getD_true (by simp_all)
       have k0 : a.tmps.getD 77 undef = vals 7 := hR.get rfl (by simp_all) (by simp [hT])
       have e0 : vals 7 = .pointer (some ⟨Bd, 1, none⟩) := hR.vl 7 (by decide) d0
       rw [e0] at k0
       have hc : ∀ j, (8, j) ∈ stCh → l.getD j true = true := by intro j hj; simp [stCh] at hj; rcases hj with rfl <;> exact getD_true (by simp_all)
       have n15 := hR.no (s := 15) hl0 (fun hs => (hR.dep 15 8 (by decide) hs))
       clear hi' hdep
       have hw := hR.wd.a n15
       subst hw
       have k0g := gD k0
       unfold wpOpIn; simp [Region.wanted]; unfold Oper.wpIn
       simp [Oper.about, execOp, go_sem, Act.eval, k0, k0g, cd1]
       rw [hRd]
       exact hR.op 8 78 _ rfl (by decide) hl0 hc (ST.const hR.wd (by decide)) (fun _ _ h => h) (rfl)
      ·simp at ho
       subst ho
       simp [Region.binds] at hdep
       have k0 : a.tmps.getD 13 undef = .int .i64 (k : Int) := (hR.fr.kept rfl (by simp [hT])).trans (by rw [hT]; try rfl)
       have hc : ∀ j, (9, j) ∈ stCh → l.getD j true = true := by intro j hj; simp [stCh] at hj
       clear hi' hdep
       have k0g := gD k0
       unfold wpOpIn; simp [Region.wanted]; unfold Oper.wpIn
       simp [Oper.about, execOp, go_sem, Act.eval, k0, k0g]
       rw [hRd]
       exact hR.op 9 79 _ rfl (by decide) hl0 hc (ST.const hR.wd (by decide)) (fun _ _ h => h) (rfl)
      ·simp at ho
       subst ho
       simp [Region.binds] at hdep
       have d0 : l.getD 8 true = true := getD_true (by simp_all)
       have k0 : a.tmps.getD 78 undef = vals 8 := hR.get rfl (by simp_all) (by simp [hT])
       have e0 : vals 8 = .slice (some ⟨b, off, none⟩) nr cr := hR.vl 8 (by decide) d0
       rw [e0] at k0
       have d1 : l.getD 9 true = true := getD_true (by simp_all)
       have k1 : a.tmps.getD 79 undef = vals 9 := hR.get rfl (by simp_all) (by simp [hT])
       have e1 : vals 9 = .int .i64 (k : Int) := hR.vl 9 (by decide) d1
       rw [e1] at k1
       have hc : ∀ j, (10, j) ∈ stCh → l.getD j true = true := by intro j hj; simp [stCh] at hj; rcases hj with rfl | rfl <;> exact getD_true (by simp_all)
       clear hi' hdep
       have k0g := gD k0
       have k1g := gD k1
       unfold wpOpIn; simp [Region.wanted]; unfold Oper.wpIn
       simp [Oper.about, execOp, go_sem, Act.eval, k0, k1, k0g, k1g, hltI]
       rw [hRd]
       exact hR.op 10 80 _ rfl (by decide) hl0 hc (ST.const hR.wd (by decide)) (fun _ _ h => h) (rfl)
      ·simp at ho
       subst ho
       simp [Region.binds] at hdep
       have d0 : l.getD 10 true = true := getD_true (by simp_all)
       have k0 : a.tmps.getD 80 undef = vals 10 := hR.get rfl (by simp_all) (by simp [hT])
       have e0 : vals 10 = .pointer (some ⟨b, off + k, none⟩) := hR.vl 10 (by decide) d0
       rw [e0] at k0
       have hc : ∀ j, (11, j) ∈ stCh → l.getD j true = true := by intro j hj; simp [stCh] at hj; rcases hj with rfl <;> exact getD_true (by simp_all)
       have n15 := hR.no (s := 15) hl0 (fun hs => (hR.dep 15 11 (by decide) hs))
       clear hi' hdep
       have hw := hR.wd.a n15
       subst hw
       have k0g := gD k0
       unfold wpOpIn; simp [Region.wanted]; unfold Oper.wpIn
       simp [Oper.about, execOp, go_sem, Act.eval, k0, k0g, cx]
       rw [hRd]
       exact hR.op 11 81 _ rfl (by decide) hl0 hc (ST.const hR.wd (by decide)) (fun _ _ h => h) (rfl)
      ·simp at ho
       subst ho
       simp [Region.binds] at hdep
       have d0 : l.getD 6 true = true := getD_true (by simp_all)
       have k0 : a.tmps.getD 76 undef = vals 6 := hR.get rfl (by simp_all) (by simp [hT])
       have e0 : vals 6 = .int .i64 c2 := hR.vl 6 (by decide) d0
       rw [e0] at k0
       have d1 : l.getD 11 true = true := getD_true (by simp_all)
       have k1 : a.tmps.getD 81 undef = vals 11 := hR.get rfl (by simp_all) (by simp [hT])
       have e1 : vals 11 = .int .i64 x := hR.vl 11 (by decide) d1
       rw [e1] at k1
       have hc : ∀ j, (12, j) ∈ stCh → l.getD j true = true := by intro j hj; simp [stCh] at hj; rcases hj with rfl | rfl <;> exact getD_true (by simp_all)
       clear hi' hdep
       have k0g := gD k0
       have k1g := gD k1
       unfold wpOpIn; simp [Region.wanted]; unfold Oper.wpIn
       simp [Oper.about, execOp, go_sem, Act.eval, k0, k1, k0g, k1g, wz]
       rw [hRd]
       exact hR.op 12 82 _ rfl (by decide) hl0 hc (ST.const hR.wd (by decide)) (fun _ _ h => h) (rfl)
      ·simp at ho
       subst ho
       simp [Region.binds] at hdep
       have d0 : l.getD 3 true = true := getD_true (by simp_all)
       have k0 : a.tmps.getD 73 undef = vals 3 := hR.get rfl (by simp_all) (by simp [hT])
       have e0 : vals 3 = .int .i64 y2 := hR.vl 3 (by decide) d0
       rw [e0] at k0
       have d1 : l.getD 12 true = true := getD_true (by simp_all)
       have k1 : a.tmps.getD 82 undef = vals 12 := hR.get rfl (by simp_all) (by simp [hT])
       have e1 : vals 12 = .int .i64 z2 := hR.vl 12 (by decide) d1
       rw [e1] at k1
       have hc : ∀ j, (13, j) ∈ stCh → l.getD j true = true := by intro j hj; simp [stCh] at hj; rcases hj with rfl | rfl <;> exact getD_true (by simp_all)
       clear hi' hdep
       have k0g := gD k0
       have k1g := gD k1
       unfold wpOpIn; simp [Region.wanted]; unfold Oper.wpIn
       simp [Oper.about, execOp, go_sem, Act.eval, k0, k1, k0g, k1g, wq]
       rw [hRd]
       exact hR.op 13 83 _ rfl (by decide) hl0 hc (ST.const hR.wd (by decide)) (fun _ _ h => h) (rfl)
      ·simp at ho
       subst ho
       simp [Region.binds] at hdep
       have d0 : l.getD 0 true = true := getD_true (by simp_all)
       have k0 : a.tmps.getD 70 undef = vals 0 := hR.get rfl (by simp_all) (by simp [hT])
       have e0 : vals 0 = .slice (some ⟨g2, 0, none⟩) nr nr := hR.vl 0 (by decide) d0
       rw [e0] at k0
       have d1 : l.getD 1 true = true := getD_true (by simp_all)
       have k1 : a.tmps.getD 71 undef = vals 1 := hR.get rfl (by simp_all) (by simp [hT])
       have e1 : vals 1 = .int .i64 (k : Int) := hR.vl 1 (by decide) d1
       rw [e1] at k1
       have hc : ∀ j, (14, j) ∈ stCh → l.getD j true = true := by intro j hj; simp [stCh] at hj; rcases hj with rfl | rfl <;> exact getD_true (by simp_all)
       clear hi' hdep
       have k0g := gD k0
       have k1g := gD k1
       unfold wpOpIn; simp [Region.wanted]; unfold Oper.wpIn
       simp [Oper.about, execOp, go_sem, Act.eval, k0, k1, k0g, k1g, hltI]
       rw [hRd]
       exact hR.op 14 84 _ rfl (by decide) hl0 hc (ST.const hR.wd (by decide)) (fun _ _ h => h) (rfl)
      ·simp at ho
       subst ho
       simp [Region.binds] at hdep
       have d0 : l.getD 14 true = true := getD_true (by simp_all)
       have k0 : a.tmps.getD 84 undef = vals 14 := hR.get rfl (by simp_all) (by simp [hT])
       have e0 : vals 14 = .pointer (some ⟨g2, k, none⟩) := hR.vl 14 (by decide) d0
       rw [e0] at k0
       have d1 : l.getD 13 true = true := getD_true (by simp_all)
       have k1 : a.tmps.getD 83 undef = vals 13 := hR.get rfl (by simp_all) (by simp [hT])
       have e1 : vals 13 = .int .i64 q2 := hR.vl 13 (by decide) d1
       rw [e1] at k1
       have hc : ∀ j, (15, j) ∈ stCh → l.getD j true = true := by intro j hj; simp [stCh] at hj; rcases hj with rfl | rfl | rfl | rfl | rfl | rfl <;> exact getD_true (by simp_all)
       clear hi' hdep
       have hw := hR.wd.a hl0
       subst hw
       have k0g := gD k0
       have k1g := gD k1
       unfold wpOpIn; simp [Region.wanted]; unfold Oper.wpIn
       simp [Oper.about, execOp, go_sem, Act.eval, k0, k1, k0g, k1g, cu, fu, lu]
       rw [hRd]
       exact hR.bare 15 undef rfl hl0 hc (ST.done) (fun _ _ h => h) (fun _ => trivial)
     case' finr3b3 =>
      rintro l a w' hR0 hz
      rw [hRd] at hR0
      obtain ⟨vals, hR⟩ := hR0
      clear hRd R
      have hnot := List.eq_nil_iff_forall_not_mem.1 hz
      have hk : ∀ k, k < 16 → (l.getD k true = false → False) → l.getD k false = true := fun k h12 h => by
       have hs := hR.size
       cases h' : l.getD k true with
       | false => exact (h h').elim
       | true => simp at hs; simp [Array.getD, hs, h12] at h' ⊢; exact h'
      have st0 := hk 0 (by omega) (fun h => hnot 0 (mem_ready.2 ⟨h, _, rfl, by simp [Region.binds]⟩))
      have st1 := hk 1 (by omega) (fun h => hnot 1 (mem_ready.2 ⟨h, _, rfl, by simp [Region.binds]⟩))
      have st2 := hk 2 (by omega) (fun h => hnot 2 (mem_ready.2 ⟨h, _, rfl, by simp [Region.binds] <;> simp_all⟩))
      have st3 := hk 3 (by omega) (fun h => hnot 3 (mem_ready.2 ⟨h, _, rfl, by simp [Region.binds] <;> simp_all⟩))
      have st4 := hk 4 (by omega) (fun h => hnot 4 (mem_ready.2 ⟨h, _, rfl, by simp [Region.binds]⟩))
      have st5 := hk 5 (by omega) (fun h => hnot 5 (mem_ready.2 ⟨h, _, rfl, by simp [Region.binds] <;> simp_all⟩))
      have st6 := hk 6 (by omega) (fun h => hnot 6 (mem_ready.2 ⟨h, _, rfl, by simp [Region.binds] <;> simp_all⟩))
      have st7 := hk 7 (by omega) (fun h => hnot 7 (mem_ready.2 ⟨h, _, rfl, by simp [Region.binds]⟩))
      have st8 := hk 8 (by omega) (fun h => hnot 8 (mem_ready.2 ⟨h, _, rfl, by simp [Region.binds] <;> simp_all⟩))
      have st9 := hk 9 (by omega) (fun h => hnot 9 (mem_ready.2 ⟨h, _, rfl, by simp [Region.binds]⟩))
      have st10 := hk 10 (by omega) (fun h => hnot 10 (mem_ready.2 ⟨h, _, rfl, by simp [Region.binds] <;> simp_all⟩))
      have st11 := hk 11 (by omega) (fun h => hnot 11 (mem_ready.2 ⟨h, _, rfl, by simp [Region.binds] <;> simp_all⟩))
      have st12 := hk 12 (by omega) (fun h => hnot 12 (mem_ready.2 ⟨h, _, rfl, by simp [Region.binds] <;> simp_all⟩))
      have st13 := hk 13 (by omega) (fun h => hnot 13 (mem_ready.2 ⟨h, _, rfl, by simp [Region.binds] <;> simp_all⟩))
      have st14 := hk 14 (by omega) (fun h => hnot 14 (mem_ready.2 ⟨h, _, rfl, by simp [Region.binds] <;> simp_all⟩))
      have st15 := hk 15 (by omega) (fun h => hnot 15 (mem_ready.2 ⟨h, _, rfl, by simp [Region.binds] <;> simp_all⟩))
      have hall : ∀ i, i < 16 → l.getD i true = true := fun i hi => by
       rcases (show i = 0 ∨ i = 1 ∨ i = 2 ∨ i = 3 ∨ i = 4 ∨ i = 5 ∨ i = 6 ∨ i = 7 ∨ i = 8 ∨ i = 9 ∨ i = 10 ∨ i = 11 ∨ i = 12 ∨ i = 13 ∨ i = 14 ∨ i = 15 by omega) with rfl | rfl | rfl | rfl | rfl | rfl | rfl | rfl | rfl | rfl | rfl | rfl | rfl | rfl | rfl | rfl
       ·exact getD_true st0
       ·exact getD_true st1
       ·exact getD_true st2
       ·exact getD_true st3
       ·exact getD_true st4
       ·exact getD_true st5
       ·exact getD_true st6
       ·exact getD_true st7
       ·exact getD_true st8
       ·exact getD_true st9
       ·exact getD_true st10
       ·exact getD_true st11
       ·exact getD_true st12
       ·exact getD_true st13
       ·exact getD_true st14
       ·exact getD_true st15
      clear st0 st1 st2 st3 st4 st5 st6 st7 st8 st9 st10 st11 st12 st13 st14 st15 hk hnot hz
      have hTs : T.size = 141 := by rw [hT]; rfl
      have ha := hR.all (T' := (((((((((((((((T.setIfInBounds 70 (vals 0)).setIfInBounds 71 (vals 1)).setIfInBounds 72 (vals 2)).setIfInBounds 73 (vals 3)).setIfInBounds 74 (vals 4)).setIfInBounds 75 (vals 5)).setIfInBounds 76 (vals 6)).setIfInBounds 77 (vals 7)).setIfInBounds 78 (vals 8)).setIfInBounds 79 (vals 9)).setIfInBounds 80 (vals 10)).setIfInBounds 81 (vals 11)).setIfInBounds 82 (vals 12)).setIfInBounds 83 (vals 13)).setIfInBounds 84 (vals 14))) (fun i hi => hall i (by simpa using hi)) (by simp) (fun j hj => by
       by_cases h1 : j = 70 ∨ j = 71 ∨ j = 72 ∨ j = 73 ∨ j = 74 ∨ j = 75 ∨ j = 76 ∨ j = 77 ∨ j = 78 ∨ j = 79 ∨ j = 80 ∨ j = 81 ∨ j = 82 ∨ j = 83 ∨ j = 84
       ·rcases h1 with rfl | rfl | rfl | rfl | rfl | rfl | rfl | rfl | rfl | rfl | rfl | rfl | rfl | rfl | rfl <;> simp [rv_sets, tOwn, List.findIdx?, List.findIdx?.go, hTs]
       ·simp only [not_or] at h1
        obtain ⟨m70, m71, m72, m73, m74, m75, m76, m77, m78, m79, m80, m81, m82, m83, m84⟩ := h1
        have e : tOwn [some 70, some 71, some 72, some 73, some 74, some 75, some 76, some 77, some 78, some 79, some 80, some 81, some 82, some 83, some 84, none] vals j = none := by
         unfold tOwn
         simp [List.findIdx?, List.findIdx?.go, Ne.symm m70, Ne.symm m71, Ne.symm m72, Ne.symm m73, Ne.symm m74, Ne.symm m75, Ne.symm m76, Ne.symm m77, Ne.symm m78, Ne.symm m79, Ne.symm m80, Ne.symm m81, Ne.symm m82, Ne.symm m83, Ne.symm m84]
        rw [e]
        simp only [rv_sets]
        repeat rw [if_neg (by omega)])
      have v0 : vals 0 = .slice (some ⟨g2, 0, none⟩) nr nr := hR.vl 0 (by decide) (hall 0 (by decide))
      have v1 : vals 1 = .int .i64 (k : Int) := hR.vl 1 (by decide) (hall 1 (by decide))
      have v2 : vals 2 = .pointer (some ⟨g2, k, none⟩) := hR.vl 2 (by decide) (hall 2 (by decide))
      have v3 : vals 3 = .int .i64 y2 := hR.vl 3 (by decide) (hall 3 (by decide))
      have v4 : vals 4 = .pointer (some ⟨W.heap.size + 1, 1, none⟩) := hR.vl 4 (by decide) (hall 4 (by decide))
      have v5 : vals 5 = .int .u8 c2 := hR.vl 5 (by decide) (hall 5 (by decide))
      have v6 : vals 6 = .int .i64 c2 := hR.vl 6 (by decide) (hall 6 (by decide))
      have v7 : vals 7 = .pointer (some ⟨Bd, 1, none⟩) := hR.vl 7 (by decide) (hall 7 (by decide))
      have v8 : vals 8 = .slice (some ⟨b, off, none⟩) nr cr := hR.vl 8 (by decide) (hall 8 (by decide))
      have v9 : vals 9 = .int .i64 (k : Int) := hR.vl 9 (by decide) (hall 9 (by decide))
      have v10 : vals 10 = .pointer (some ⟨b, off + k, none⟩) := hR.vl 10 (by decide) (hall 10 (by decide))
      have v11 : vals 11 = .int .i64 x := hR.vl 11 (by decide) (hall 11 (by decide))
      have v12 : vals 12 = .int .i64 z2 := hR.vl 12 (by decide) (hall 12 (by decide))
      have v13 : vals 13 = .int .i64 q2 := hR.vl 13 (by decide) (hall 13 (by decide))
      have v14 : vals 14 = .pointer (some ⟨g2, k, none⟩) := hR.vl 14 (by decide) (hall 14 (by decide))
      have hw := hR.wd.b (hall 15 (by decide))
      subst hw
      subst ha
      clear hR hall hTs
      rw [v0, v1, v2, v3, v4, v5, v6, v7, v8, v9, v10, v11, v12, v13, v14, hT]
      simp only [List.setIfInBounds_toArray, List.set_cons_succ, List.set_cons_zero]
      clear v0 v1 v2 v3 v4 v5 v6 v7 v8 v9 v10 v11 v12 v13 v14 hT T
     clear cu fu lu cd1 cx ca wz wq
     generalize wY.drew.setCell ⟨g2, k, none⟩ (.int .i64 q2) = wZ at HZZ ⊢
     have hcc := HCK.out _ HZZ.out.2.2
     have cd1 := hcc.1
     have cx := hcc.2.1
     have cu : wZ.cell? ⟨g1, k, none⟩ = some (.int .i64 q1) := by have h := HZZ.out.1.cell (k := k) (by rw [List.length_set]; omega); rwa [set_get _ (by omega), if_pos rfl] at h
     have fu : wZ.frozen? ⟨g1, k, none⟩ = false := HZZ.out.1.free k
     have lu : g1 < wZ.heap.size := HZZ.out.1.lt
     clear hcc
     by_cases hx0 : x = 0
     ·have hq := HQ1.out
      rw [hx0] at hq
      have wq : IntKind.i64.wrap (q1 + cl) = q1 + cl := IntWalk.i64_in _ (by omega)
      have HFI : Hid (ShI W0 (wZ.setCell ⟨g1, k, none⟩ (.int .i64 (q1 + cl))) g1 g2 r (unV r row) (unV r row2) c1 c2 cl nr (k + 1) (L.set k (y1 + c1 * x + if x = 0 then cl else 0)) (M.set k (y2 + c2 * x))) := Lib.hid (HEND.out _ (by
       have h := HZZ.out.1.set (k := k) (q1 + cl)
       rw [List.set_set] at h
       rw [if_pos hx0, ← HQ1.out]; exact h) (by
       have h := HZZ.out.2.1.other (q := g1) (k := k) (v := .int .i64 (q1 + cl)) (fun e => hne e.symm)
       rw [← HQ2.out]; exact h) (HZZ.out.2.2.setCell HGG.out.1 _))
      clear hq
      rw [hx0] at cx
      go_wp2
      go_roundw
      case rel => exact ⟨k + 1, _, _, by omega, by go_num, HFI⟩
      case measure => simp [intOf]; omega
     ·have HFI : Hid (ShI W0 wZ g1 g2 r (unV r row) (unV r row2) c1 c2 cl nr (k + 1) (L.set k (y1 + c1 * x + if x = 0 then cl else 0)) (M.set k (y2 + c2 * x))) := Lib.hid (HEND.out _ (by rw [if_neg hx0, Int.add_zero, ← HQ1.out]; exact HZZ.out.1) (by rw [← HQ2.out]; exact HZZ.out.2.1) HZZ.out.2.2)
      go_wp2
      go_roundw
      case rel => exact ⟨k + 1, _, _, by omega, by go_num, HFI⟩
      case measure => simp [intOf]; omega

end Go.Proofs.Ytcpgoaombabfjaa
