/- Contract of coin: Preferred. Condition: the slices read as ints, at most eight arms. -/
import Derived.Test.YtcpgoaombabfjaaMh6
namespace Go.Proofs.Ytcpgoaombabfjaa
open Go.RowKit Go.Shelf
attribute [local go_sem] Oper.semAt_some
attribute [local go_sem ↓] appI_rw


def pfCh : List (Nat × Nat) := [(8, 6), (8, 2), (8, 7), (8, 5), (9, 7), (9, 5), (9, 6), (9, 2), (2, 0), (2, 1), (5, 3), (5, 4)]

def pgCh : List (Nat × Nat) := [(11, 10), (10, 4), (10, 9), (4, 0), (4, 3), (3, 1), (3, 2), (9, 5), (9, 8), (8, 6), (8, 7)]
set_option maxRecDepth 10000 in
theorem lrep57 : List.replicate 54 undef = [undef, undef, undef, undef, undef, undef, undef, undef, undef, undef, undef, undef, undef, undef, undef, undef, undef, undef, undef, undef, undef, undef, undef, undef, undef, undef, undef, undef, undef, undef, undef, undef, undef, undef, undef, undef, undef, undef, undef, undef, undef, undef, undef, undef, undef, undef, undef, undef, undef, undef, undef, undef, undef, undef] := rfl
theorem fr3_57 (a b c : Value) : #[a, b, c] ++ Array.replicate (57 - (#[a, b, c] : Array Value).size) undef = #[a, b, c, undef, undef, undef, undef, undef, undef, undef, undef, undef, undef, undef, undef, undef, undef, undef, undef, undef, undef, undef, undef, undef, undef, undef, undef, undef, undef, undef, undef, undef, undef, undef, undef, undef, undef, undef, undef, undef, undef, undef, undef, undef, undef, undef, undef, undef, undef, undef, undef, undef, undef, undef, undef, undef, undef] := by
  apply Array.ext'
  rw [Array.toList_append, Array.toList_replicate]
  exact congrArg (fun l => a :: b :: c :: l) lrep57

set_option maxRecDepth 10000 in
theorem lrep81 : List.replicate 78 undef = [undef, undef, undef, undef, undef, undef, undef, undef, undef, undef, undef, undef, undef, undef, undef, undef, undef, undef, undef, undef, undef, undef, undef, undef, undef, undef, undef, undef, undef, undef, undef, undef, undef, undef, undef, undef, undef, undef, undef, undef, undef, undef, undef, undef, undef, undef, undef, undef, undef, undef, undef, undef, undef, undef, undef, undef, undef, undef, undef, undef, undef, undef, undef, undef, undef, undef, undef, undef, undef, undef, undef, undef, undef, undef, undef, undef, undef, undef] := rfl
theorem fr3_81 (a b c : Value) : #[a, b, c] ++ Array.replicate (81 - (#[a, b, c] : Array Value).size) undef = #[a, b, c, undef, undef, undef, undef, undef, undef, undef, undef, undef, undef, undef, undef, undef, undef, undef, undef, undef, undef, undef, undef, undef, undef, undef, undef, undef, undef, undef, undef, undef, undef, undef, undef, undef, undef, undef, undef, undef, undef, undef, undef, undef, undef, undef, undef, undef, undef, undef, undef, undef, undef, undef, undef, undef, undef, undef, undef, undef, undef, undef, undef, undef, undef, undef, undef, undef, undef, undef, undef, undef, undef, undef, undef, undef, undef, undef, undef, undef, undef] := by
  apply Array.ext'
  rw [Array.toList_append, Array.toList_replicate]
  exact congrArg (fun l => a :: b :: c :: l) lrep81

set_option maxRecDepth 100000 in
set_option maxHeartbeats 8000000 in
theorem preferred_any {W : World} {ar aw bw : Option Addr} {nr cr nw cw mw dw : Nat} {r s t : List Int} (hr : Ix W (.slice ar nr cr) r) (hs : Ix W (.slice aw nw cw) s) (ht : Ix W (.slice bw mw dw) t) (lr : r.length ≤ 8) (kd cn cd : Int) :
    Calls Try.prog 18 #[DV kd (.slice ar nr cr) cn cd, .slice aw nw cw, .slice bw mw dw] W fun e w' => ∃ ao n cap, e = .returned (.slice ao n cap) ∧ OwI w' W.heap.size (.slice ao n cap) n (prfV r s t) ∧ Below W.heap.size W w' := by
  have hB0 := dbox_below W kd (.slice ar nr cr) cn cd
  have hs0 := dbox_size W kd (.slice ar nr cr) cn cd
  have hB1 : Below W.heap.size W ((dbox W kd (.slice ar nr cr) cn cd).alloc (.cells #[.slice aw nw cw, .slice bw mw dw] 22)) := hB0.alloc (by simp) _
  have HB1 := Lib.hid hB1
  have hD1 : DBox ((dbox W kd (.slice ar nr cr) cn cd).alloc (.cells #[.slice aw nw cw, .slice bw mw dw] 22)) W.heap.size kd (.slice ar nr cr) cn cd := (dbox_is W kd (.slice ar nr cr) cn cd).below ((Below.refl _ _).alloc (Nat.le_refl _) _)
  have HD1 := Lib.hid hD1
  have hR := rx_two (hs.below hB0) (ht.below hB0)
  rw [hs0] at hR
  have HP := Lib.hid (proper_any (hr.below hB1) hR lr kd cn cd)
  obtain ⟨q, hq⟩ : ∃ q, q = (prB r && [s, t].all (fiB r)) := ⟨_, rfl⟩
  rw [← hq] at HP
  have hq2 : prfB r s t = q := by rw [hq]; unfold prfB; simp [Bool.and_assoc]
  obtain ⟨c0, c1, c2, c3, c4, c5⟩ := (dbox_is W kd (.slice ar nr cr) cn cd).cells
  have hl0 : W.heap.size < (dbox W kd (.slice ar nr cr) cn cd).heap.size := by simp
  cases q with
  | false =>
    have hV : prfV r s t = [] := by unfold prfV; rw [hq2]; rfl
    rw [hV]
    clear hr hs ht lr hB0 hs0 hB1 hD1 hR hq hq2 hV
    go_enter Try.func18, Try.ntmps18
    go_wp2_with (go_at_call 25; (with_reducible refine HP.out.mono ?_); rintro e w1 ⟨rfl, hb1⟩; have HB := Lib.hid (HB1.out.trans (hb1.mono HB1.out.size)); clear hb1)
    go_ret
    exact ⟨_, _, _, rfl, World.ownsRow_nil _ _ _ _, HB.out⟩
  | true =>
    have hV : prfV r s t = (best r (unV r s) (unV r t) r.length).1 := by unfold prfV; rw [if_pos hq2]
    rw [hV]
    obtain ⟨Z, hZ⟩ : ∃ Z, Z = (best r (unV r s) (unV r t) r.length).1 := ⟨_, rfl⟩
    have HZ := Lib.hid hZ
    rw [← hZ]
    clear hZ
    have hp : prB r = true := by unfold prfB at hq2; simp at hq2; exact hq2.1.1
    have hfs : fiB r s = true := by unfold prfB at hq2; simp at hq2; exact hq2.1.2
    have hft : fiB r t = true := by unfold prfB at hq2; simp at hq2; exact hq2.2
    have hus : Hid (∀ W', Below W.heap.size W W' → Calls Try.prog 27 #[DV kd (.slice ar nr cr) cn cd, .slice aw nw cw] W' fun e w' => ∃ ao n cap, e = .returned (.slice ao n cap) ∧ Ix w' (.slice ao n cap) (unV r s) ∧ Below W'.heap.size W' w') := Lib.hid (fun W' hb => units_any hr.size (hs.below hb) lr kd cn cd)
    have hut : Hid (∀ W', Below W.heap.size W W' → Calls Try.prog 27 #[DV kd (.slice ar nr cr) cn cd, .slice bw mw dw] W' fun e w' => ∃ ao n cap, e = .returned (.slice ao n cap) ∧ Ix w' (.slice ao n cap) (unV r t) ∧ Below W'.heap.size W' w') := Lib.hid (fun W' hb => units_any hr.size (ht.below hb) lr kd cn cd)
    have HS : Hid (∀ W', Below ((dbox W kd (.slice ar nr cr) cn cd).alloc (.cells #[.slice aw nw cw, .slice bw mw dw] 22)).heap.size ((dbox W kd (.slice ar nr cr) cn cd).alloc (.cells #[.slice aw nw cw, .slice bw mw dw] 22)) W' → W'.cell? ⟨W.heap.size, 0, none⟩ = some (.int .i64 kd) ∧ W'.cell? ⟨W.heap.size, 1, none⟩ = some (.slice ar nr cr) ∧ W'.cell? ⟨W.heap.size, 2, none⟩ = some (.slice none 0 0) ∧ W'.cell? ⟨W.heap.size, 3, none⟩ = some (.int .i64 0) ∧ W'.cell? ⟨W.heap.size, 4, none⟩ = some (.int .i64 cn) ∧ W'.cell? ⟨W.heap.size, 5, none⟩ = some (.int .i64 cd)) := Lib.hid (fun W' hb => (hD1.below hb).cells)
    have HR := Lib.hid hr
    have HPB := Lib.hid (And.intro hp (And.intro hfs hft))
    have HLR := Lib.hid lr
    clear hr hs ht lr hB0 hs0 hB1 hD1 hR hq hq2 hV hp hfs hft
    refine (callsIn_wide (n := 6)).1 ?_
    refine callsIn_of_wp_marks Try.func18 rfl trivial ?_ rfl
    rw [Try.ntmps18, fr3_57]
    refine wpIn_wide.2 ?_
    go_wp2_with (go_at_call 25; (with_reducible refine HP.out.mono ?_); rintro e w1 ⟨rfl, hb1⟩; have HX := Lib.hid hb1; clear hb1)
    clear c0 c1 c2 c3 c4 c5 hl0
    have HB2 : Hid (Below W.heap.size W w1.drew) := Lib.hid (HB1.out.trans (HX.out.mono HB1.out.size)).drew
    have HS : Hid (∀ W', Below w1.drew.heap.size w1.drew W' → W'.cell? ⟨W.heap.size, 0, none⟩ = some (.int .i64 kd) ∧ W'.cell? ⟨W.heap.size, 1, none⟩ = some (.slice ar nr cr) ∧ W'.cell? ⟨W.heap.size, 2, none⟩ = some (.slice none 0 0) ∧ W'.cell? ⟨W.heap.size, 3, none⟩ = some (.int .i64 0) ∧ W'.cell? ⟨W.heap.size, 4, none⟩ = some (.int .i64 cn) ∧ W'.cell? ⟨W.heap.size, 5, none⟩ = some (.int .i64 cd)) := Lib.hid (fun W' hb => HS.out W' (HX.out.drew.trans (hb.mono HX.out.size)))
    refine (wpIn_wide (n := 6)).1 ?_
    refine frame_namedIn ?_
    intro T hT
    obtain ⟨R, hRd⟩ : ∃ R : Array Bool → Act → World → Prop, R = (fun l a w' => ∃ vals, RH pfCh T [some 19, some 20, some 21, some 22, some 23, some 24, some 7, some 8, none, none] (PG w1.drew (unV r s) (unV r t)) (fun i u _ => match i with | 0 => u = DV kd (.slice ar nr cr) cn cd | 1 => u = .slice aw nw cw | 3 => u = DV kd (.slice ar nr cr) cn cd | 4 => u = .slice bw mw dw | _ => True) vals l a w') := ⟨_, rfl⟩
    refine region_inv (by kernel_rfl) R ?h0r1 ?stepr1 ?finr1
    case h0r1 => rw [hRd]; exact RH.start rfl (fun i j h => by simp [pfCh] at h; simp only [List.length_cons, List.length_nil]; omega) (by exact ⟨Below.refl _ _, fun h => absurd h (by decide), fun h => absurd h (by decide), fun h => absurd h (by decide), fun h => absurd h (by decide), fun h => absurd h (by decide), fun h => absurd h (by decide), fun h => absurd h (by decide)⟩)
    case stepr1 =>
      rintro l a w' i' hR0 hi'
      have hR1 := hR0
      rw [hRd] at hR1
      obtain ⟨vals, hR⟩ := hR1
      obtain ⟨hl0, o, ho, hdep⟩ := mem_ready.1 hi'
      have h15 : i' < 10 := by
        have := (Array.getElem?_eq_some_iff.1 ho).1
        simpa using this
      rcases (show i' = 0 ∨ i' = 1 ∨ i' = 2 ∨ i' = 3 ∨ i' = 4 ∨ i' = 5 ∨ i' = 6 ∨ i' = 7 ∨ i' = 8 ∨ i' = 9 by omega) with rfl | rfl | rfl | rfl | rfl | rfl | rfl | rfl | rfl | rfl
      · simp at ho
        subst ho
        simp [Region.binds] at hdep
        have k0 : a.tmps.getD 3 undef = .pointer (some ⟨W.heap.size, 0, none⟩) := (hR.fr.kept rfl (by simp [hT])).trans (by rw [hT]; try rfl)
        have hc : ∀ j, (0, j) ∈ pfCh → l.getD j true = true := by intro j hj; simp [pfCh] at hj
        clear hi' hdep
        obtain ⟨c0, c1, c2, c3, c4, c5⟩ := HS.out _ hR.wd.b
        have k0g := k0
        rw [Array.getD_eq_getD_getElem?] at k0g
        unfold wpOpIn
        simp [Region.wanted]
        unfold Oper.wpIn
        simp [Oper.about, execOp, go_sem, Act.eval, k0, k0g, c0, c1, c2, c3, c4, c5]
        rw [hRd]
        exact hR.op 0 19 _ rfl (by decide) hl0 hc (PG.const hR.wd (by decide) _) (fun _ _ h => h) (rfl)
      · simp at ho
        subst ho
        simp [Region.binds] at hdep
        have k0 : a.tmps.getD 1 undef = .slice aw nw cw := (hR.fr.kept rfl (by simp [hT])).trans (by rw [hT]; try rfl)
        have hc : ∀ j, (1, j) ∈ pfCh → l.getD j true = true := by intro j hj; simp [pfCh] at hj
        clear hi' hdep
        have k0g := k0
        rw [Array.getD_eq_getD_getElem?] at k0g
        unfold wpOpIn
        simp [Region.wanted]
        unfold Oper.wpIn
        simp [Oper.about, execOp, go_sem, Act.eval, k0, k0g]
        rw [hRd]
        exact hR.op 1 20 _ rfl (by decide) hl0 hc (PG.const hR.wd (by decide) _) (fun _ _ h => h) (rfl)
      · simp at ho
        subst ho
        simp [Region.binds] at hdep
        have d0 : l.getD 0 true = true := getD_true (by simp_all)
        have k0 : a.tmps.getD 19 undef = vals 0 := hR.get rfl (by simp_all) (by simp [hT])
        have e0 : vals 0 = DV kd (.slice ar nr cr) cn cd := hR.vl 0 (by decide) d0
        rw [e0] at k0
        have d1 : l.getD 1 true = true := getD_true (by simp_all)
        have k1 : a.tmps.getD 20 undef = vals 1 := hR.get rfl (by simp_all) (by simp [hT])
        have e1 : vals 1 = .slice aw nw cw := hR.vl 1 (by decide) d1
        rw [e1] at k1
        have hc : ∀ j, (2, j) ∈ pfCh → l.getD j true = true := by intro j hj; simp [pfCh] at hj; rcases hj with rfl | rfl <;> exact getD_true (by simp_all)
        have n8 := hR.no (s := 8) hl0 (fun hs => (hR.dep 8 2 (by decide) hs))
        clear hi' hdep
        have k0g := k0
        rw [Array.getD_eq_getD_getElem?] at k0g
        have k1g := k1
        rw [Array.getD_eq_getD_getElem?] at k1g
        unfold wpOpIn
        simp [Region.wanted]
        unfold Oper.wpIn
        simp [Oper.about, execOp, go_sem, Act.eval, k0, k1, k0g, k1g]
        refine ⟨trivial, (callsIn_wide.2 (hus.out _ (HB2.out.trans (hR.wd.b.mono HB2.out.size)))).mono ?_⟩
        rintro e w'' ⟨ao, n, cap, rfl, hi, hb⟩
        rw [hRd]
        exact hR.op 2 21 _ rfl (by decide) hl0 hc (PG.call2 (hR.wd.later hb) n8 hi) (fun _ _ h => h) (trivial)
      · simp at ho
        subst ho
        simp [Region.binds] at hdep
        have k0 : a.tmps.getD 3 undef = .pointer (some ⟨W.heap.size, 0, none⟩) := (hR.fr.kept rfl (by simp [hT])).trans (by rw [hT]; try rfl)
        have hc : ∀ j, (3, j) ∈ pfCh → l.getD j true = true := by intro j hj; simp [pfCh] at hj
        clear hi' hdep
        obtain ⟨c0, c1, c2, c3, c4, c5⟩ := HS.out _ hR.wd.b
        have k0g := k0
        rw [Array.getD_eq_getD_getElem?] at k0g
        unfold wpOpIn
        simp [Region.wanted]
        unfold Oper.wpIn
        simp [Oper.about, execOp, go_sem, Act.eval, k0, k0g, c0, c1, c2, c3, c4, c5]
        rw [hRd]
        exact hR.op 3 22 _ rfl (by decide) hl0 hc (PG.const hR.wd (by decide) _) (fun _ _ h => h) (rfl)
      · simp at ho
        subst ho
        simp [Region.binds] at hdep
        have k0 : a.tmps.getD 2 undef = .slice bw mw dw := (hR.fr.kept rfl (by simp [hT])).trans (by rw [hT]; try rfl)
        have hc : ∀ j, (4, j) ∈ pfCh → l.getD j true = true := by intro j hj; simp [pfCh] at hj
        clear hi' hdep
        have k0g := k0
        rw [Array.getD_eq_getD_getElem?] at k0g
        unfold wpOpIn
        simp [Region.wanted]
        unfold Oper.wpIn
        simp [Oper.about, execOp, go_sem, Act.eval, k0, k0g]
        rw [hRd]
        exact hR.op 4 23 _ rfl (by decide) hl0 hc (PG.const hR.wd (by decide) _) (fun _ _ h => h) (rfl)
      · simp at ho
        subst ho
        simp [Region.binds] at hdep
        have d0 : l.getD 3 true = true := getD_true (by simp_all)
        have k0 : a.tmps.getD 22 undef = vals 3 := hR.get rfl (by simp_all) (by simp [hT])
        have e0 : vals 3 = DV kd (.slice ar nr cr) cn cd := hR.vl 3 (by decide) d0
        rw [e0] at k0
        have d1 : l.getD 4 true = true := getD_true (by simp_all)
        have k1 : a.tmps.getD 23 undef = vals 4 := hR.get rfl (by simp_all) (by simp [hT])
        have e1 : vals 4 = .slice bw mw dw := hR.vl 4 (by decide) d1
        rw [e1] at k1
        have hc : ∀ j, (5, j) ∈ pfCh → l.getD j true = true := by intro j hj; simp [pfCh] at hj; rcases hj with rfl | rfl <;> exact getD_true (by simp_all)
        have n9 := hR.no (s := 9) hl0 (fun hs => (hR.dep 9 5 (by decide) hs))
        clear hi' hdep
        have k0g := k0
        rw [Array.getD_eq_getD_getElem?] at k0g
        have k1g := k1
        rw [Array.getD_eq_getD_getElem?] at k1g
        unfold wpOpIn
        simp [Region.wanted]
        unfold Oper.wpIn
        simp [Oper.about, execOp, go_sem, Act.eval, k0, k1, k0g, k1g]
        refine ⟨trivial, (callsIn_wide.2 (hut.out _ (HB2.out.trans (hR.wd.b.mono HB2.out.size)))).mono ?_⟩
        rintro e w'' ⟨ao, n, cap, rfl, hi, hb⟩
        rw [hRd]
        exact hR.op 5 24 _ rfl (by decide) hl0 hc (PG.call5 (hR.wd.later hb) n9 hi) (fun _ _ h => h) (trivial)
      · simp at ho
        subst ho
        simp [Region.binds] at hdep
        have hc : ∀ j, (6, j) ∈ pfCh → l.getD j true = true := by intro j hj; simp [pfCh] at hj
        have n8 := hR.no (s := 8) hl0 (fun hs => (hR.dep 8 6 (by decide) hs))
        clear hi' hdep
        unfold wpOpIn
        simp [Region.wanted]
        unfold Oper.wpIn
        simp [Oper.about, execOp, go_sem, Act.eval, ]
        rw [hRd]
        exact hR.op 6 7 _ rfl (by decide) hl0 hc (PG.alloc6 hR.wd n8) (fun _ _ h => h) (trivial)
      · simp at ho
        subst ho
        simp [Region.binds] at hdep
        have hc : ∀ j, (7, j) ∈ pfCh → l.getD j true = true := by intro j hj; simp [pfCh] at hj
        have n9 := hR.no (s := 9) hl0 (fun hs => (hR.dep 9 7 (by decide) hs))
        clear hi' hdep
        unfold wpOpIn
        simp [Region.wanted]
        unfold Oper.wpIn
        simp [Oper.about, execOp, go_sem, Act.eval, ]
        rw [hRd]
        exact hR.op 7 8 _ rfl (by decide) hl0 hc (PG.alloc7 hR.wd n9) (fun _ _ h => h) (trivial)
      · simp at ho
        subst ho
        simp [Region.binds] at hdep
        have d0 : l.getD 6 true = true := getD_true (by simp_all)
        have k0 : a.tmps.getD 7 undef = vals 6 := hR.get rfl (by simp_all) (by simp [hT])
        have g0 := hR.wd.p6 d0
        obtain ⟨q, bo, m, d, e0, hq, hbx⟩ := g0
        rw [e0] at k0
        have d1 : l.getD 2 true = true := getD_true (by simp_all)
        have k1 : a.tmps.getD 21 undef = vals 2 := hR.get rfl (by simp_all) (by simp [hT])
        have g1 := hR.wd.i2 d1
        obtain ⟨ao, n, cap, e1, hi1⟩ := g1
        rw [e1] at k1
        have hc : ∀ j, (8, j) ∈ pfCh → l.getD j true = true := by intro j hj; simp [pfCh] at hj; rcases hj with rfl | rfl | rfl | rfl <;> exact getD_true (by simp_all)
        clear hi' hdep
        have d7 := hc 7 (by simp [pfCh])
        have cc := hbx.cell
        have ff := hbx.free
        have k0g := k0
        rw [Array.getD_eq_getD_getElem?] at k0g
        have k1g := k1
        rw [Array.getD_eq_getD_getElem?] at k1g
        unfold wpOpIn
        simp [Region.wanted]
        unfold Oper.wpIn
        simp [Oper.about, execOp, go_sem, Act.eval, k0, k1, k0g, k1g, cc, ff]
        rw [hRd]
        exact hR.bare 8 undef rfl hl0 hc (PG.store8 hR.wd d0 d7 e0 hq hbx e1) (fun _ _ h => h) (fun _ => trivial)
      · simp at ho
        subst ho
        simp [Region.binds] at hdep
        have d0 : l.getD 7 true = true := getD_true (by simp_all)
        have k0 : a.tmps.getD 8 undef = vals 7 := hR.get rfl (by simp_all) (by simp [hT])
        have g0 := hR.wd.p7 d0
        obtain ⟨q, bo, m, d, e0, hq, hbx⟩ := g0
        rw [e0] at k0
        have d1 : l.getD 5 true = true := getD_true (by simp_all)
        have k1 : a.tmps.getD 24 undef = vals 5 := hR.get rfl (by simp_all) (by simp [hT])
        have g1 := hR.wd.i5 d1
        obtain ⟨ao, n, cap, e1, hi1⟩ := g1
        rw [e1] at k1
        have hc : ∀ j, (9, j) ∈ pfCh → l.getD j true = true := by intro j hj; simp [pfCh] at hj; rcases hj with rfl | rfl | rfl | rfl <;> exact getD_true (by simp_all)
        clear hi' hdep
        have d6 := hc 6 (by simp [pfCh])
        have cc := hbx.cell
        have ff := hbx.free
        have k0g := k0
        rw [Array.getD_eq_getD_getElem?] at k0g
        have k1g := k1
        rw [Array.getD_eq_getD_getElem?] at k1g
        unfold wpOpIn
        simp [Region.wanted]
        unfold Oper.wpIn
        simp [Oper.about, execOp, go_sem, Act.eval, k0, k1, k0g, k1g, cc, ff]
        rw [hRd]
        exact hR.bare 9 undef rfl hl0 hc (PG.store9 hR.wd d6 d0 e0 hq hbx e1) (fun _ _ h => h) (fun _ => trivial)
    case' finr1 =>
      rintro l a w' hR0 hz
      rw [hRd] at hR0
      obtain ⟨vals, hR⟩ := hR0
      clear hRd R
      have hnot := List.eq_nil_iff_forall_not_mem.1 hz
      have hk : ∀ k, k < 10 → (l.getD k true = false → False) → l.getD k false = true := fun k h12 h => by
        have hs := hR.size
        cases h' : l.getD k true with
        | false => exact (h h').elim
        | true => simp at hs; simp [Array.getD, hs, h12] at h' ⊢; exact h'
      have st0 := hk 0 (by omega) (fun h => hnot 0 (mem_ready.2 ⟨h, _, rfl, by simp [Region.binds]⟩))
      have st1 := hk 1 (by omega) (fun h => hnot 1 (mem_ready.2 ⟨h, _, rfl, by simp [Region.binds]⟩))
      have st2 := hk 2 (by omega) (fun h => hnot 2 (mem_ready.2 ⟨h, _, rfl, by simp [Region.binds] <;> simp_all⟩))
      have st3 := hk 3 (by omega) (fun h => hnot 3 (mem_ready.2 ⟨h, _, rfl, by simp [Region.binds]⟩))
      have st4 := hk 4 (by omega) (fun h => hnot 4 (mem_ready.2 ⟨h, _, rfl, by simp [Region.binds]⟩))
      have st5 := hk 5 (by omega) (fun h => hnot 5 (mem_ready.2 ⟨h, _, rfl, by simp [Region.binds] <;> simp_all⟩))
      have st6 := hk 6 (by omega) (fun h => hnot 6 (mem_ready.2 ⟨h, _, rfl, by simp [Region.binds]⟩))
      have st7 := hk 7 (by omega) (fun h => hnot 7 (mem_ready.2 ⟨h, _, rfl, by simp [Region.binds]⟩))
      have st8 := hk 8 (by omega) (fun h => hnot 8 (mem_ready.2 ⟨h, _, rfl, by simp [Region.binds] <;> simp_all⟩))
      have st9 := hk 9 (by omega) (fun h => hnot 9 (mem_ready.2 ⟨h, _, rfl, by simp [Region.binds] <;> simp_all⟩))
      have hall : ∀ i, i < 10 → l.getD i true = true := fun i hi => by
        rcases (show i = 0 ∨ i = 1 ∨ i = 2 ∨ i = 3 ∨ i = 4 ∨ i = 5 ∨ i = 6 ∨ i = 7 ∨ i = 8 ∨ i = 9 by omega) with rfl | rfl | rfl | rfl | rfl | rfl | rfl | rfl | rfl | rfl
        · exact getD_true st0
        · exact getD_true st1
        · exact getD_true st2
        · exact getD_true st3
        · exact getD_true st4
        · exact getD_true st5
        · exact getD_true st6
        · exact getD_true st7
        · exact getD_true st8
        · exact getD_true st9
      clear st0 st1 st2 st3 st4 st5 st6 st7 st8 st9 hk hnot hz
      have hTs : T.size = 57 := by rw [hT]; rfl
      have ha := hR.all (T' := ((((((((T.setIfInBounds 19 (vals 0)).setIfInBounds 20 (vals 1)).setIfInBounds 21 (vals 2)).setIfInBounds 22 (vals 3)).setIfInBounds 23 (vals 4)).setIfInBounds 24 (vals 5)).setIfInBounds 7 (vals 6)).setIfInBounds 8 (vals 7))) (fun i hi => hall i (by simpa using hi)) (by simp) (fun j hj => by
        by_cases h1 : j = 19 ∨ j = 20 ∨ j = 21 ∨ j = 22 ∨ j = 23 ∨ j = 24 ∨ j = 7 ∨ j = 8
        · rcases h1 with rfl | rfl | rfl | rfl | rfl | rfl | rfl | rfl <;> simp [rv_sets, tOwn, List.findIdx?, List.findIdx?.go, hTs]
        · simp only [not_or] at h1
          obtain ⟨m19, m20, m21, m22, m23, m24, m7, m8⟩ := h1
          have e : tOwn [some 19, some 20, some 21, some 22, some 23, some 24, some 7, some 8, none, none] vals j = none := by
            unfold tOwn
            simp [List.findIdx?, List.findIdx?.go, Ne.symm m19, Ne.symm m20, Ne.symm m21, Ne.symm m22, Ne.symm m23, Ne.symm m24, Ne.symm m7, Ne.symm m8]
          rw [e]
          simp only [rv_sets]
          repeat rw [if_neg (by omega)])
      have v0 : vals 0 = DV kd (.slice ar nr cr) cn cd := hR.vl 0 (by decide) (hall 0 (by decide))
      have v1 : vals 1 = .slice aw nw cw := hR.vl 1 (by decide) (hall 1 (by decide))
      have v3 : vals 3 = DV kd (.slice ar nr cr) cn cd := hR.vl 3 (by decide) (hall 3 (by decide))
      have v4 : vals 4 = .slice bw mw dw := hR.vl 4 (by decide) (hall 4 (by decide))
      have hG := hR.wd
      have HG := Lib.hid hG
      obtain ⟨q6, ea, hb6⟩ := hG.s8 (hall 8 (by decide))
      obtain ⟨q7, eb, hb7⟩ := hG.s9 (hall 9 (by decide))
      obtain ⟨ao, n, cap, e2, hi2⟩ := hG.i2 (hall 2 (by decide))
      obtain ⟨bo, m, dap, e5, hi5⟩ := hG.i5 (hall 5 (by decide))
      rw [e2] at hb6
      rw [e5] at hb7
      have hqa : w1.drew.heap.size ≤ q6 := by obtain ⟨q, a, b, c, e1, e2, e3⟩ := hG.p6 (hall 6 (by decide)); rw [ea] at e1; cases e1; exact e2
      have hqb : w1.drew.heap.size ≤ q7 := by obtain ⟨q, a, b, c, e1, e2, e3⟩ := hG.p7 (hall 7 (by decide)); rw [eb] at e1; cases e1; exact e2
      have hqn : q6 ≠ q7 := fun e => hG.ne (hall 6 (by decide)) (hall 7 (by decide)) (by rw [ea, eb, e])
      have HPG := Lib.hid (And.intro hG.b (And.intro hb6 (And.intro hb7 (And.intro hi2 (And.intro hi5 (And.intro hqa (And.intro hqb hqn)))))))
      clear hG hb6 hb7 hi2 hi5 hqa hqb hqn HG
      subst ha
      clear hR hall hTs
      rw [v0, v1, v3, v4, hT]
      simp only [List.setIfInBounds_toArray, List.set_cons_succ, List.set_cons_zero]
      clear v0 v1 v3 v4 hT T
    rw [ea, eb, e2, e5]
    obtain ⟨w3, hw3⟩ : ∃ w3, w3 = w' := ⟨_, rfl⟩
    rw [← hw3] at HPG ⊢
    clear hw3 ea eb e2 e5
    obtain ⟨c0, c1, c2, c3, c4, c5⟩ := HS.out _ HPG.out.1
    have hl0 : W.heap.size < w3.heap.size := by have h1 : w1.heap.size ≤ w3.heap.size := HPG.out.1.size; have h2 := HB2.out.size; have h3 := (Array.getElem?_eq_some_iff.1 (HD1.out.below HX.out)).1; omega
    have hl1 := HPG.out.2.1.lt
    have hl2 := HPG.out.2.2.1.lt
    have HD3 : Hid (DBox w3 W.heap.size kd (.slice ar nr cr) cn cd) := Lib.hid ((HD1.out.below HX.out).below ((Below.refl _ _).drew.trans HPG.out.1))
    have HL3 := Lib.hid (And.intro hl0 (And.intro hl1 hl2))
    clear hl1 hl2
    go_wp2_with (go_at_call 34; (with_reducible refine open_k.mono ?_); rintro e w4 ⟨bD, rfl, hbD, hD4, hb4⟩)
    clear c0 c1 c2 c3 c4 c5 hl0
    refine (wpIn_wide (n := 6)).1 ?_
    have hs4 : ((w3.alloc (.cells #[.slice none 0 0] 22)).alloc (.cells #[.int .i64 0] 3)).heap.size = w3.heap.size + 2 := by simp
    rw [hs4] at hbD hb4
    have hsz := hb4.size
    rw [hs4] at hsz
    have hb34 : Below w3.heap.size w3 w4 := ((Below.refl _ w3).alloc (Nat.le_refl _) _).alloc (by simp) _ |>.trans (hb4.mono (by omega))
    have HQ9 : Hid (Box w4 w3.heap.size (.slice none 0 0) 22) := Lib.hid (((Box.new w3 (.slice none 0 0) 22).alloc _).below (by rw [hs4]; exact hb4))
    have HQ10 : Hid (Box w4 (w3.heap.size + 1) (.int .i64 0) 3) := Lib.hid (by
      have h := Box.new (w3.alloc (.cells #[.slice none 0 0] 22)) (.int .i64 0) 3
      rw [World.size_alloc] at h
      exact h.below (by rw [hs4]; exact hb4))
    have HB3 : Hid (Below W.heap.size W w3) := Lib.hid (HB2.out.trans (HPG.out.1.mono HB2.out.size))
    have HB4 : Hid (Below W.heap.size W w4) := Lib.hid (HB3.out.trans (hb34.mono HB3.out.size))
    have HD4 := Lib.hid hD4
    have HB34 := Lib.hid hb34
    have HB6 := Lib.hid HPG.out.2.1
    have HB7 := Lib.hid HPG.out.2.2.1
    have HIS := Lib.hid HPG.out.2.2.2.1
    have HIT := Lib.hid HPG.out.2.2.2.2.1
    have HSZ := Lib.hid (And.intro hsz hbD)
    have hp := HPB.out.1
    have hfs := HPB.out.2.1
    have hft := HPB.out.2.2
    have hnS : n = (unV r s).length := HIS.out.size
    have hnT : m = (unV r t).length := HIT.out.size
    rw [unV_len hfs] at hnS
    rw [unV_len hft] at hnT
    have hiS := unV_in hfs
    have hiT := unV_in hft
    have hnr := HR.out.size
    have h6 := (prB_iff.1 hp).1
    have HNN := Lib.hid (And.intro hnS (And.intro hnT (And.intro hnr h6)))
    have HIN := Lib.hid (And.intro hiS hiT)
    have HTG := Lib.hid (tog_in hp hiS hiT)
    have HBI := Lib.hid (best_in hp hiS hiT)
    have hnr8 : nr ≤ 1000 := by omega
    have HUN : Hid (∀ W' ao n cap l, Below W.heap.size W W' → Ix W' (.slice ao n cap) l → l.length = r.length → (∀ k, 0 ≤ l.getD k 0 ∧ l.getD k 0 ≤ 1048576) → Calls Try.prog 26 #[DV kd (.slice ar nr cr) cn cd, .slice ao n cap] W' fun e w' => e = .returned (.int .i64 (unev r l)) ∧ Below W'.heap.size W' w') := Lib.hid (fun W' ao n cap l hb hi hl h20 => unevenness_any (HR.out.below hb) hi hp hl h20 kd cn cd)
    have HLS := Lib.hid (unV_len hfs)
    have HLT := Lib.hid (unV_len hft)
    obtain ⟨S, hS⟩ : ∃ S, S = unV r s := ⟨_, rfl⟩
    obtain ⟨U, hU⟩ : ∃ U, U = unV r t := ⟨_, rfl⟩
    rw [← hS] at HIS HIN HTG HBI HLS HZ
    rw [← hU] at HIT HIN HTG HBI HLT HZ
    clear hD4 hb4 hb34 hsz hbD hs4 hp hfs hft hnS hnT hiS hiT hnr h6 hS hU HPG HP hus hut HX
    have HI0 : Hid (BeI W w4 w3.heap.size (w3.heap.size + 1) r S U 0 w4) := Lib.hid ⟨none, 0, 0, ⟨Fr.start HB4.out, HQ9.out, World.ownsRow_nil _ _ _ _, fun g e => by cases e⟩, HQ10.out⟩
    refine' rangeFunc_steps rfl (by omega) (gf := 49) (lb := #[.pointer (some ⟨bD, 0, none⟩)]) rfl trivial (enters_of Try.func49 (by kernel_rfl) rfl)
      (open_steps Fence.wide 5 trivial rfl (by omega) bD nr cr ar r hnr8 (BeI W w4 w3.heap.size (w3.heap.size + 1) r S U)
        (fun k W' h => by obtain ⟨ao, n, cap, h, -⟩ := h; exact (h.fr.dbox HD4.out (by have := HSZ.out; simp; have := (Array.getElem?_eq_some_iff.1 HD4.out).1; omega)).cells.2.1)
        (fun k W' h hk => by obtain ⟨ao, n, cap, h, -⟩ := h; exact ix_keeps HR.out h.fr hk)
        (fun k W' hk hu h => by obtain ⟨ao, n, cap, h, h2⟩ := h; exact ⟨ao, n, cap, by rw [best_skip hu]; exact h, by rw [best_skip hu]; exact h2⟩)) (fun _ => rfl)
      (beI_own (by have := HB4.out.size; omega) (by have := HSZ.out; omega) (by have := HSZ.out; omega)) HI0.out _ ?assign ?body ?done
    case assign =>
      intro y k W' K hK
      unfold opArgs
      gi_wp2
      exact hK
    case body =>
      intro y k W' hk hu hI
      obtain ⟨eo, en, ecap, hJ, hP⟩ := hI
      have hUP := hJ.fr.up HB3.out HB34.out (by have := HSZ.out; intro j hj; simp at hj; omega)
      have HCL : Hid (∀ w, Below W'.heap.size W' w → (w.cell? ⟨W.heap.size, 0, none⟩ = some (.int .i64 kd) ∧ w.cell? ⟨W.heap.size, 1, none⟩ = some (.slice ar nr cr) ∧ w.cell? ⟨W.heap.size, 2, none⟩ = some (.slice none 0 0) ∧ w.cell? ⟨W.heap.size, 3, none⟩ = some (.int .i64 0) ∧ w.cell? ⟨W.heap.size, 4, none⟩ = some (.int .i64 cn) ∧ w.cell? ⟨W.heap.size, 5, none⟩ = some (.int .i64 cd)) ∧ w.cell? ⟨q6, 0, none⟩ = some (.slice ao n cap) ∧ w.cell? ⟨q7, 0, none⟩ = some (.slice bo m dap)) := Lib.hid (fun w hb => by
        have hb3 := hUP.trans (hb.mono hUP.size)
        exact ⟨(HD3.out.below hb3).cells, (HB6.out.below hb3).cell, (HB7.out.below hb3).cell⟩)
      have HWW : Hid (Below W.heap.size W W') := Lib.hid hJ.fr.b
      have hIS := HIS.out.below hUP
      have hIT := HIT.out.below hUP
      have HIS2 := Lib.hid hIS
      have HIT2 := Lib.hid hIT
      have HOS : Hid (∀ w, Below W'.heap.size W' w → Calls Try.prog 32 #[.slice ao n cap, .int .i64 (k : Int)] w fun e w2 => ∃ ao2 cap2, e = .returned (.slice ao2 n cap2) ∧ Ix w2 (.slice ao2 n cap2) (mor S k) ∧ Below w.heap.size w w2) := Lib.hid (fun w hb => by
        have hN := HNN.out
        refine (oneMore_any (HIS2.out.below hb) (by omega) (by omega) (by have := HIN.out.1 k; omega)).mono ?_
        rintro e w2 ⟨ao2, cap2, h1, h2, h3⟩
        exact ⟨ao2, cap2, h1, h2.ix (by omega) (fun j => by have := mor_in HIN.out.1 k j; exact ⟨by omega, by omega⟩), h3⟩)
      have HOT : Hid (∀ w, Below W'.heap.size W' w → Calls Try.prog 32 #[.slice bo m dap, .int .i64 (k : Int)] w fun e w2 => ∃ ao2 cap2, e = .returned (.slice ao2 m cap2) ∧ Ix w2 (.slice ao2 m cap2) (mor U k) ∧ Below w.heap.size w w2) := Lib.hid (fun w hb => by
        have hN := HNN.out
        refine (oneMore_any (HIT2.out.below hb) (by omega) (by omega) (by have := HIN.out.2 k; omega)).mono ?_
        rintro e w2 ⟨ao2, cap2, h1, h2, h3⟩
        exact ⟨ao2, cap2, h1, h2.ix (by omega) (fun j => by have := mor_in HIN.out.2 k j; exact ⟨by omega, by omega⟩), h3⟩)
      have HXU : Hid (∀ w ao n cap, Below W'.heap.size W' w → Ix w (.slice ao n cap) (mor S k) → Calls Try.prog 26 #[DV kd (.slice ar nr cr) cn cd, .slice ao n cap] w fun e w2 => e = .returned (.int .i64 (unev r (mor S k))) ∧ Below w.heap.size w w2) := Lib.hid (fun w ao n cap hb hi => HUN.out w ao n cap _ (HWW.out.trans (hb.mono HWW.out.size)) hi (by rw [mor_len]; exact HLS.out) (mor_in HIN.out.1 k))
      have HYU : Hid (∀ w ao n cap, Below W'.heap.size W' w → Ix w (.slice ao n cap) (mor U k) → Calls Try.prog 26 #[DV kd (.slice ar nr cr) cn cd, .slice ao n cap] w fun e w2 => e = .returned (.int .i64 (unev r (mor U k))) ∧ Below w.heap.size w w2) := Lib.hid (fun w ao n cap hb hi => HUN.out w ao n cap _ (HWW.out.trans (hb.mono HWW.out.size)) hi (by rw [mor_len]; exact HLT.out) (mor_in HIN.out.2 k))
      have htg := HTG.out k
      obtain ⟨x, hx⟩ : ∃ x, x = unev r (mor S k) := ⟨_, rfl⟩
      obtain ⟨z, hz⟩ : ∃ z, z = unev r (mor U k) := ⟨_, rfl⟩
      obtain ⟨g, hg⟩ : ∃ g, g = tog r S U k := ⟨_, rfl⟩
      have hgg : g = x + z := by rw [hg, hx, hz]; rfl
      rw [← hg] at htg
      have hw1 : IntKind.i64.wrap (x + z) = g := by rw [← hgg]; exact IntWalk.i64_in _ (by omega)
      rw [← hx] at HXU
      rw [← hz] at HYU
      have HG := Lib.hid hg
      have HJ := Lib.hid hJ
      have HPP := Lib.hid hP
      have HU := Lib.hid hu
      have HK := Lib.hid hk
      clear hJ hP hu hk hIS hIT hx hz hg hgg htg hUP
      obtain ⟨v8, hv8⟩ : ∃ v8, v8 = rg r k := ⟨_, rfl⟩
      rw [← hv8]
      clear hv8
      gi_wp2
      refine frame_namedIn ?_
      intro T hT
      obtain ⟨R, hRd⟩ : ∃ R : Array Bool → Act → World → Prop, R = (fun l a w' => ∃ vals, RG pgCh T [some 29, some 30, some 31, some 32, some 33, some 34, some 35, some 36, some 37, some 38, some 39, some 12] (fun _ w => Below W'.heap.size W' w) (PV (DV kd (.slice ar nr cr) cn cd) (.slice ao n cap) (.slice bo m dap) (.int .i64 (k : Int)) n m (mor S k) (mor U k) x z g) vals l a w') := ⟨_, rfl⟩
      refine region_inv (by kernel_rfl) R ?h0r2 ?stepr2 ?finr2
      case h0r2 => rw [hRd]; exact RG.start rfl (fun i j h => by simp [pgCh] at h; simp only [List.length_cons, List.length_nil]; omega) (by exact (Below.refl _ _).drew)
      case stepr2 =>
        rintro l a w' i' hR0 hi'
        have hR1 := hR0
        rw [hRd] at hR1
        obtain ⟨vals, hR⟩ := hR1
        obtain ⟨hl0, o, ho, hdep⟩ := mem_ready.1 hi'
        have h15 : i' < 12 := by
          have := (Array.getElem?_eq_some_iff.1 ho).1
          simpa using this
        rcases (show i' = 0 ∨ i' = 1 ∨ i' = 2 ∨ i' = 3 ∨ i' = 4 ∨ i' = 5 ∨ i' = 6 ∨ i' = 7 ∨ i' = 8 ∨ i' = 9 ∨ i' = 10 ∨ i' = 11 by omega) with rfl | rfl | rfl | rfl | rfl | rfl | rfl | rfl | rfl | rfl | rfl | rfl
        · simp at ho
          subst ho
          simp [Region.binds] at hdep
          have k0 : a.tmps.getD 3 undef = .pointer (some ⟨W.heap.size, 0, none⟩) := (hR.fr.kept rfl (by simp [hT])).trans (by rw [hT]; try rfl)
          have hc : ∀ j, (0, j) ∈ pgCh → l.getD j true = true := by intro j hj; simp [pgCh] at hj
          clear hi' hdep
          obtain ⟨⟨c0, c1, c2, c3, c4, c5⟩, c6, c7⟩ := HCL.out _ hR.wd
          have k0g := k0
          rw [Array.getD_eq_getD_getElem?] at k0g
          unfold wpOpIn
          simp [Region.wanted]
          unfold Oper.wpIn
          simp [Oper.about, execOp, go_sem, Act.eval, k0, k0g, c0, c1, c2, c3, c4, c5]
          rw [hRd]
          exact hR.op 0 29 _ rfl (by decide) hl0 hc (hR.wd) (fun _ _ h => h) (rfl)
        · simp at ho
          subst ho
          simp [Region.binds] at hdep
          have k0 : a.tmps.getD 7 undef = .pointer (some ⟨q6, 0, none⟩) := (hR.fr.kept rfl (by simp [hT])).trans (by rw [hT]; try rfl)
          have hc : ∀ j, (1, j) ∈ pgCh → l.getD j true = true := by intro j hj; simp [pgCh] at hj
          clear hi' hdep
          obtain ⟨⟨c0, c1, c2, c3, c4, c5⟩, c6, c7⟩ := HCL.out _ hR.wd
          have k0g := k0
          rw [Array.getD_eq_getD_getElem?] at k0g
          unfold wpOpIn
          simp [Region.wanted]
          unfold Oper.wpIn
          simp [Oper.about, execOp, go_sem, Act.eval, k0, k0g, c6]
          rw [hRd]
          exact hR.op 1 30 _ rfl (by decide) hl0 hc (hR.wd) (fun _ _ h => h) (rfl)
        · simp at ho
          subst ho
          simp [Region.binds] at hdep
          have k0 : a.tmps.getD 11 undef = .int .i64 (k : Int) := (hR.fr.kept rfl (by simp [hT])).trans (by rw [hT]; try rfl)
          have hc : ∀ j, (2, j) ∈ pgCh → l.getD j true = true := by intro j hj; simp [pgCh] at hj
          clear hi' hdep
          have k0g := k0
          rw [Array.getD_eq_getD_getElem?] at k0g
          unfold wpOpIn
          simp [Region.wanted]
          unfold Oper.wpIn
          simp [Oper.about, execOp, go_sem, Act.eval, k0, k0g]
          rw [hRd]
          exact hR.op 2 31 _ rfl (by decide) hl0 hc (hR.wd) (fun _ _ h => h) (rfl)
        · simp at ho
          subst ho
          simp [Region.binds] at hdep
          have d0 : l.getD 1 true = true := getD_true (by simp_all)
          have k0 : a.tmps.getD 30 undef = vals 1 := hR.get rfl (by simp_all) (by simp [hT])
          have e0 : vals 1 = .slice ao n cap := hR.vl 1 (by decide) d0
          rw [e0] at k0
          have d1 : l.getD 2 true = true := getD_true (by simp_all)
          have k1 : a.tmps.getD 31 undef = vals 2 := hR.get rfl (by simp_all) (by simp [hT])
          have e1 : vals 2 = .int .i64 (k : Int) := hR.vl 2 (by decide) d1
          rw [e1] at k1
          have hc : ∀ j, (3, j) ∈ pgCh → l.getD j true = true := by intro j hj; simp [pgCh] at hj; rcases hj with rfl | rfl <;> exact getD_true (by simp_all)
          clear hi' hdep
          have k0g := k0
          rw [Array.getD_eq_getD_getElem?] at k0g
          have k1g := k1
          rw [Array.getD_eq_getD_getElem?] at k1g
          unfold wpOpIn
          simp [Region.wanted]
          unfold Oper.wpIn
          simp [Oper.about, execOp, go_sem, Act.eval, k0, k1, k0g, k1g]
          refine ⟨trivial, (CallsIn.inRound _ (callsIn_wide.2 (HOS.out _ hR.wd))).mono ?_⟩
          rintro e w'' ⟨eo2, ecap2, rfl, hi, hb⟩
          rw [hRd]
          exact hR.op 3 32 _ rfl (by decide) hl0 hc (hR.wd.trans (hb.mono hR.wd.size)) (PV.below hb) (⟨_, _, rfl, hi⟩)
        · simp at ho
          subst ho
          simp [Region.binds] at hdep
          have d0 : l.getD 0 true = true := getD_true (by simp_all)
          have k0 : a.tmps.getD 29 undef = vals 0 := hR.get rfl (by simp_all) (by simp [hT])
          have e0 : vals 0 = DV kd (.slice ar nr cr) cn cd := hR.vl 0 (by decide) d0
          rw [e0] at k0
          have d1 : l.getD 3 true = true := getD_true (by simp_all)
          have k1 : a.tmps.getD 32 undef = vals 3 := hR.get rfl (by simp_all) (by simp [hT])
          obtain ⟨eo2, ecap2, e1, hi1⟩ : ∃ eo2 ecap2, vals 3 = .slice eo2 n ecap2 ∧ Ix w' (.slice eo2 n ecap2) (mor S k) := hR.vl 3 (by decide) d1
          rw [e1] at k1
          have hc : ∀ j, (4, j) ∈ pgCh → l.getD j true = true := by intro j hj; simp [pgCh] at hj; rcases hj with rfl | rfl <;> exact getD_true (by simp_all)
          clear hi' hdep
          have k0g := k0
          rw [Array.getD_eq_getD_getElem?] at k0g
          have k1g := k1
          rw [Array.getD_eq_getD_getElem?] at k1g
          unfold wpOpIn
          simp [Region.wanted]
          unfold Oper.wpIn
          simp [Oper.about, execOp, go_sem, Act.eval, k0, k1, k0g, k1g]
          refine ⟨trivial, (CallsIn.inRound _ (callsIn_wide.2 (HXU.out _ _ _ _ hR.wd hi1))).mono ?_⟩
          rintro e w'' ⟨rfl, hb⟩
          rw [hRd]
          exact hR.op 4 33 _ rfl (by decide) hl0 hc (hR.wd.trans (hb.mono hR.wd.size)) (PV.below hb) (rfl)
        · simp at ho
          subst ho
          simp [Region.binds] at hdep
          have k0 : a.tmps.getD 3 undef = .pointer (some ⟨W.heap.size, 0, none⟩) := (hR.fr.kept rfl (by simp [hT])).trans (by rw [hT]; try rfl)
          have hc : ∀ j, (5, j) ∈ pgCh → l.getD j true = true := by intro j hj; simp [pgCh] at hj
          clear hi' hdep
          obtain ⟨⟨c0, c1, c2, c3, c4, c5⟩, c6, c7⟩ := HCL.out _ hR.wd
          have k0g := k0
          rw [Array.getD_eq_getD_getElem?] at k0g
          unfold wpOpIn
          simp [Region.wanted]
          unfold Oper.wpIn
          simp [Oper.about, execOp, go_sem, Act.eval, k0, k0g, c0, c1, c2, c3, c4, c5]
          rw [hRd]
          exact hR.op 5 34 _ rfl (by decide) hl0 hc (hR.wd) (fun _ _ h => h) (rfl)
        · simp at ho
          subst ho
          simp [Region.binds] at hdep
          have k0 : a.tmps.getD 8 undef = .pointer (some ⟨q7, 0, none⟩) := (hR.fr.kept rfl (by simp [hT])).trans (by rw [hT]; try rfl)
          have hc : ∀ j, (6, j) ∈ pgCh → l.getD j true = true := by intro j hj; simp [pgCh] at hj
          clear hi' hdep
          obtain ⟨⟨c0, c1, c2, c3, c4, c5⟩, c6, c7⟩ := HCL.out _ hR.wd
          have k0g := k0
          rw [Array.getD_eq_getD_getElem?] at k0g
          unfold wpOpIn
          simp [Region.wanted]
          unfold Oper.wpIn
          simp [Oper.about, execOp, go_sem, Act.eval, k0, k0g, c7]
          rw [hRd]
          exact hR.op 6 35 _ rfl (by decide) hl0 hc (hR.wd) (fun _ _ h => h) (rfl)
        · simp at ho
          subst ho
          simp [Region.binds] at hdep
          have k0 : a.tmps.getD 11 undef = .int .i64 (k : Int) := (hR.fr.kept rfl (by simp [hT])).trans (by rw [hT]; try rfl)
          have hc : ∀ j, (7, j) ∈ pgCh → l.getD j true = true := by intro j hj; simp [pgCh] at hj
          clear hi' hdep
          have k0g := k0
          rw [Array.getD_eq_getD_getElem?] at k0g
          unfold wpOpIn
          simp [Region.wanted]
          unfold Oper.wpIn
          simp [Oper.about, execOp, go_sem, Act.eval, k0, k0g]
          rw [hRd]
          exact hR.op 7 36 _ rfl (by decide) hl0 hc (hR.wd) (fun _ _ h => h) (rfl)
        · simp at ho
          subst ho
          simp [Region.binds] at hdep
          have d0 : l.getD 6 true = true := getD_true (by simp_all)
          have k0 : a.tmps.getD 35 undef = vals 6 := hR.get rfl (by simp_all) (by simp [hT])
          have e0 : vals 6 = .slice bo m dap := hR.vl 6 (by decide) d0
          rw [e0] at k0
          have d1 : l.getD 7 true = true := getD_true (by simp_all)
          have k1 : a.tmps.getD 36 undef = vals 7 := hR.get rfl (by simp_all) (by simp [hT])
          have e1 : vals 7 = .int .i64 (k : Int) := hR.vl 7 (by decide) d1
          rw [e1] at k1
          have hc : ∀ j, (8, j) ∈ pgCh → l.getD j true = true := by intro j hj; simp [pgCh] at hj; rcases hj with rfl | rfl <;> exact getD_true (by simp_all)
          clear hi' hdep
          have k0g := k0
          rw [Array.getD_eq_getD_getElem?] at k0g
          have k1g := k1
          rw [Array.getD_eq_getD_getElem?] at k1g
          unfold wpOpIn
          simp [Region.wanted]
          unfold Oper.wpIn
          simp [Oper.about, execOp, go_sem, Act.eval, k0, k1, k0g, k1g]
          refine ⟨trivial, (CallsIn.inRound _ (callsIn_wide.2 (HOT.out _ hR.wd))).mono ?_⟩
          rintro e w'' ⟨eo2, ecap2, rfl, hi, hb⟩
          rw [hRd]
          exact hR.op 8 37 _ rfl (by decide) hl0 hc (hR.wd.trans (hb.mono hR.wd.size)) (PV.below hb) (⟨_, _, rfl, hi⟩)
        · simp at ho
          subst ho
          simp [Region.binds] at hdep
          have d0 : l.getD 5 true = true := getD_true (by simp_all)
          have k0 : a.tmps.getD 34 undef = vals 5 := hR.get rfl (by simp_all) (by simp [hT])
          have e0 : vals 5 = DV kd (.slice ar nr cr) cn cd := hR.vl 5 (by decide) d0
          rw [e0] at k0
          have d1 : l.getD 8 true = true := getD_true (by simp_all)
          have k1 : a.tmps.getD 37 undef = vals 8 := hR.get rfl (by simp_all) (by simp [hT])
          obtain ⟨eo2, ecap2, e1, hi1⟩ : ∃ eo2 ecap2, vals 8 = .slice eo2 m ecap2 ∧ Ix w' (.slice eo2 m ecap2) (mor U k) := hR.vl 8 (by decide) d1
          rw [e1] at k1
          have hc : ∀ j, (9, j) ∈ pgCh → l.getD j true = true := by intro j hj; simp [pgCh] at hj; rcases hj with rfl | rfl <;> exact getD_true (by simp_all)
          clear hi' hdep
          have k0g := k0
          rw [Array.getD_eq_getD_getElem?] at k0g
          have k1g := k1
          rw [Array.getD_eq_getD_getElem?] at k1g
          unfold wpOpIn
          simp [Region.wanted]
          unfold Oper.wpIn
          simp [Oper.about, execOp, go_sem, Act.eval, k0, k1, k0g, k1g]
          refine ⟨trivial, (CallsIn.inRound _ (callsIn_wide.2 (HYU.out _ _ _ _ hR.wd hi1))).mono ?_⟩
          rintro e w'' ⟨rfl, hb⟩
          rw [hRd]
          exact hR.op 9 38 _ rfl (by decide) hl0 hc (hR.wd.trans (hb.mono hR.wd.size)) (PV.below hb) (rfl)
        · simp at ho
          subst ho
          simp [Region.binds] at hdep
          have d0 : l.getD 4 true = true := getD_true (by simp_all)
          have k0 : a.tmps.getD 33 undef = vals 4 := hR.get rfl (by simp_all) (by simp [hT])
          have e0 : vals 4 = .int .i64 x := hR.vl 4 (by decide) d0
          rw [e0] at k0
          have d1 : l.getD 9 true = true := getD_true (by simp_all)
          have k1 : a.tmps.getD 38 undef = vals 9 := hR.get rfl (by simp_all) (by simp [hT])
          have e1 : vals 9 = .int .i64 z := hR.vl 9 (by decide) d1
          rw [e1] at k1
          have hc : ∀ j, (10, j) ∈ pgCh → l.getD j true = true := by intro j hj; simp [pgCh] at hj; rcases hj with rfl | rfl <;> exact getD_true (by simp_all)
          clear hi' hdep
          have k0g := k0
          rw [Array.getD_eq_getD_getElem?] at k0g
          have k1g := k1
          rw [Array.getD_eq_getD_getElem?] at k1g
          unfold wpOpIn
          simp [Region.wanted]
          unfold Oper.wpIn
          simp [Oper.about, execOp, go_sem, Act.eval, k0, k1, k0g, k1g, hw1]
          rw [hRd]
          exact hR.op 10 39 _ rfl (by decide) hl0 hc (hR.wd) (fun _ _ h => h) (rfl)
        · simp at ho
          subst ho
          simp [Region.binds] at hdep
          have d0 : l.getD 10 true = true := getD_true (by simp_all)
          have k0 : a.tmps.getD 39 undef = vals 10 := hR.get rfl (by simp_all) (by simp [hT])
          have e0 : vals 10 = .int .i64 g := hR.vl 10 (by decide) d0
          rw [e0] at k0
          have hc : ∀ j, (11, j) ∈ pgCh → l.getD j true = true := by intro j hj; simp [pgCh] at hj; rcases hj with rfl <;> exact getD_true (by simp_all)
          clear hi' hdep
          have k0g := k0
          rw [Array.getD_eq_getD_getElem?] at k0g
          unfold wpOpIn
          simp [Region.wanted]
          unfold Oper.wpIn
          simp [Oper.about, execOp, go_sem, Act.eval, k0, k0g]
          rw [hRd]
          exact hR.op 11 12 _ rfl (by decide) hl0 hc (hR.wd) (fun _ _ h => h) (rfl)
      case' finr2 =>
        rintro l a w' hR0 hz
        rw [hRd] at hR0
        obtain ⟨vals, hR⟩ := hR0
        clear hRd R
        have hnot := List.eq_nil_iff_forall_not_mem.1 hz
        have hk : ∀ k, k < 12 → (l.getD k true = false → False) → l.getD k false = true := fun k h12 h => by
          have hs := hR.size
          cases h' : l.getD k true with
          | false => exact (h h').elim
          | true => simp at hs; simp [Array.getD, hs, h12] at h' ⊢; exact h'
        have st0 := hk 0 (by omega) (fun h => hnot 0 (mem_ready.2 ⟨h, _, rfl, by simp [Region.binds]⟩))
        have st1 := hk 1 (by omega) (fun h => hnot 1 (mem_ready.2 ⟨h, _, rfl, by simp [Region.binds]⟩))
        have st2 := hk 2 (by omega) (fun h => hnot 2 (mem_ready.2 ⟨h, _, rfl, by simp [Region.binds]⟩))
        have st3 := hk 3 (by omega) (fun h => hnot 3 (mem_ready.2 ⟨h, _, rfl, by simp [Region.binds] <;> simp_all⟩))
        have st4 := hk 4 (by omega) (fun h => hnot 4 (mem_ready.2 ⟨h, _, rfl, by simp [Region.binds] <;> simp_all⟩))
        have st5 := hk 5 (by omega) (fun h => hnot 5 (mem_ready.2 ⟨h, _, rfl, by simp [Region.binds]⟩))
        have st6 := hk 6 (by omega) (fun h => hnot 6 (mem_ready.2 ⟨h, _, rfl, by simp [Region.binds]⟩))
        have st7 := hk 7 (by omega) (fun h => hnot 7 (mem_ready.2 ⟨h, _, rfl, by simp [Region.binds]⟩))
        have st8 := hk 8 (by omega) (fun h => hnot 8 (mem_ready.2 ⟨h, _, rfl, by simp [Region.binds] <;> simp_all⟩))
        have st9 := hk 9 (by omega) (fun h => hnot 9 (mem_ready.2 ⟨h, _, rfl, by simp [Region.binds] <;> simp_all⟩))
        have st10 := hk 10 (by omega) (fun h => hnot 10 (mem_ready.2 ⟨h, _, rfl, by simp [Region.binds] <;> simp_all⟩))
        have st11 := hk 11 (by omega) (fun h => hnot 11 (mem_ready.2 ⟨h, _, rfl, by simp [Region.binds] <;> simp_all⟩))
        have hall : ∀ i, i < 12 → l.getD i true = true := fun i hi => by
          rcases (show i = 0 ∨ i = 1 ∨ i = 2 ∨ i = 3 ∨ i = 4 ∨ i = 5 ∨ i = 6 ∨ i = 7 ∨ i = 8 ∨ i = 9 ∨ i = 10 ∨ i = 11 by omega) with rfl | rfl | rfl | rfl | rfl | rfl | rfl | rfl | rfl | rfl | rfl | rfl
          · exact getD_true st0
          · exact getD_true st1
          · exact getD_true st2
          · exact getD_true st3
          · exact getD_true st4
          · exact getD_true st5
          · exact getD_true st6
          · exact getD_true st7
          · exact getD_true st8
          · exact getD_true st9
          · exact getD_true st10
          · exact getD_true st11
        clear st0 st1 st2 st3 st4 st5 st6 st7 st8 st9 st10 st11 hk hnot hz
        have hTs : T.size = 57 := by rw [hT]; rfl
        have ha := hR.all (T' := ((((((((((((T.setIfInBounds 29 (vals 0)).setIfInBounds 30 (vals 1)).setIfInBounds 31 (vals 2)).setIfInBounds 32 (vals 3)).setIfInBounds 33 (vals 4)).setIfInBounds 34 (vals 5)).setIfInBounds 35 (vals 6)).setIfInBounds 36 (vals 7)).setIfInBounds 37 (vals 8)).setIfInBounds 38 (vals 9)).setIfInBounds 39 (vals 10)).setIfInBounds 12 (vals 11))) (fun i hi => hall i (by simpa using hi)) (by simp) (fun j hj => by
          by_cases h1 : j = 29 ∨ j = 30 ∨ j = 31 ∨ j = 32 ∨ j = 33 ∨ j = 34 ∨ j = 35 ∨ j = 36 ∨ j = 37 ∨ j = 38 ∨ j = 39 ∨ j = 12
          · rcases h1 with rfl | rfl | rfl | rfl | rfl | rfl | rfl | rfl | rfl | rfl | rfl | rfl <;> simp [rv_sets, tOwn, List.findIdx?, List.findIdx?.go, hTs]
          · simp only [not_or] at h1
            obtain ⟨m29, m30, m31, m32, m33, m34, m35, m36, m37, m38, m39, m12⟩ := h1
            have e : tOwn [some 29, some 30, some 31, some 32, some 33, some 34, some 35, some 36, some 37, some 38, some 39, some 12] vals j = none := by
              unfold tOwn
              simp [List.findIdx?, List.findIdx?.go, Ne.symm m29, Ne.symm m30, Ne.symm m31, Ne.symm m32, Ne.symm m33, Ne.symm m34, Ne.symm m35, Ne.symm m36, Ne.symm m37, Ne.symm m38, Ne.symm m39, Ne.symm m12]
            rw [e]
            simp only [rv_sets]
            repeat rw [if_neg (by omega)])
        have v0 : vals 0 = DV kd (.slice ar nr cr) cn cd := hR.vl 0 (by decide) (hall 0 (by decide))
        have v1 : vals 1 = .slice ao n cap := hR.vl 1 (by decide) (hall 1 (by decide))
        have v2 : vals 2 = .int .i64 (k : Int) := hR.vl 2 (by decide) (hall 2 (by decide))
        have v4 : vals 4 = .int .i64 x := hR.vl 4 (by decide) (hall 4 (by decide))
        have v5 : vals 5 = DV kd (.slice ar nr cr) cn cd := hR.vl 5 (by decide) (hall 5 (by decide))
        have v6 : vals 6 = .slice bo m dap := hR.vl 6 (by decide) (hall 6 (by decide))
        have v7 : vals 7 = .int .i64 (k : Int) := hR.vl 7 (by decide) (hall 7 (by decide))
        have v9 : vals 9 = .int .i64 z := hR.vl 9 (by decide) (hall 9 (by decide))
        have v10 : vals 10 = .int .i64 g := hR.vl 10 (by decide) (hall 10 (by decide))
        have v11 : vals 11 = .int .i64 g := hR.vl 11 (by decide) (hall 11 (by decide))
        have hb5 : Below W'.heap.size W' w' := hR.wd
        subst ha
        clear hR hall hTs
        rw [v0, v1, v2, v4, v5, v6, v7, v9, v10, v11, hT]
        simp only [List.setIfInBounds_toArray, List.set_cons_succ, List.set_cons_zero]
        clear v0 v1 v2 v4 v5 v6 v7 v9 v10 v11 hT T
      obtain ⟨w5, hw5⟩ : ∃ w5, w5 = w' := ⟨_, rfl⟩
      rw [← hw5] at hb5 ⊢
      clear hw5
      obtain ⟨u3, hu3⟩ : ∃ u3, u3 = vals 3 := ⟨_, rfl⟩
      obtain ⟨u8, hu8⟩ : ∃ u8, u8 = vals 8 := ⟨_, rfl⟩
      rw [← hu3, ← hu8]
      clear hu3 hu8
      have hJ5 := HJ.out.below hb5
      have hP5 := HPP.out.below hb5
      have hen := owI_len hJ5.own
      have hle := best_len r S U k
      have c9 := hJ5.box.cell
      have f9 := hJ5.box.free
      have l9 := hJ5.box.lt
      have c10 := hP5.cell
      have f10 := hP5.free
      have l10 := hP5.lt
      have hKF := keeps_below (B := w4.heap.size) hb5
      have hz1 : w3.heap.size + 1 < w4.heap.size := by have := HSZ.out; omega
      have hz2 : W.heap.size ≤ w3.heap.size := HB3.out.size
      have hz3 : W.heap.size ≤ w4.heap.size := HB4.out.size
      have hk8 := HK.out
      obtain ⟨L, hL⟩ : ∃ L, L = (best r S U k).1 := ⟨_, rfl⟩
      obtain ⟨M, hM⟩ : ∃ M, M = (best r S U k).2 := ⟨_, rfl⟩
      rw [← hM] at c10 hP5
      rw [← hL] at hen hle hJ5
      by_cases hC : L = [] ∨ g < M
      · have hb := best_new HU.out (by rw [← hL, ← hM, ← HG.out]; exact hC)
        rw [← HG.out] at hb
        have hJ6 := (hJ5.empty (by simp) hz2).aside (p := w3.heap.size + 1) (by simp) (by omega) (by omega) hz1 (by omega) (.int .i64 g)
        have hP6 : Box ((w5.setCell ⟨w3.heap.size, 0, none⟩ (.slice none 0 0)).setCell ⟨w3.heap.size + 1, 0, none⟩ (.int .i64 g)) (w3.heap.size + 1) (.int .i64 g) 3 := (hP5.other (by omega)).set _
        obtain ⟨g2, cap2, w7, hrun, hbq, hJ7, hkf, hoth⟩ := hJ6.push2 (by omega) hz3 (by simp) hz2 (by omega) (by simp) (by omega) (k : Int)
        have hKF6 : KeepsFrom w4.heap.size W' ((w5.setCell ⟨w3.heap.size, 0, none⟩ (.slice none 0 0)).setCell ⟨w3.heap.size + 1, 0, none⟩ (.int .i64 g)) := keeps_set (keeps_set hKF hJ5.box) (hP5.other (by omega))
        have hq7 : Box (w7.setCell ⟨w3.heap.size, 0, none⟩ (.slice (some ⟨g2, 0, none⟩) (0 + 1) cap2)) (w3.heap.size + 1) (.int .i64 g) 3 := by
          refine Box.other ?_ (by omega)
          exact hoth _ _ _ hz1 (by omega) hP6
        have HEND : Hid (KeepsFrom w4.heap.size W' (w7.setCell ⟨w3.heap.size, 0, none⟩ (.slice (some ⟨g2, 0, none⟩) (0 + 1) cap2)) ∧ BeI W w4 w3.heap.size (w3.heap.size + 1) r S U (k + 1) (w7.setCell ⟨w3.heap.size, 0, none⟩ (.slice (some ⟨g2, 0, none⟩) (0 + 1) cap2))) := Lib.hid ⟨hkf W' hKF6, _, _, _, by rw [hb]; exact hJ7, by rw [hb]; exact hq7⟩
        have c96 : ((w5.setCell ⟨w3.heap.size, 0, none⟩ (.slice none 0 0)).setCell ⟨w3.heap.size + 1, 0, none⟩ (.int .i64 g)).cell? ⟨w3.heap.size, 0, none⟩ = some (.slice none 0 0) := hJ6.box.cell
        have c106 : ((w5.setCell ⟨w3.heap.size, 0, none⟩ (.slice none 0 0)).setCell ⟨w3.heap.size + 1, 0, none⟩ (.int .i64 g)).cell? ⟨w3.heap.size + 1, 0, none⟩ = some (.int .i64 g) := hP6.cell
        have c97 := hbq.cell
        have f97 := hbq.free
        have hsz6 : ((w5.setCell ⟨w3.heap.size, 0, none⟩ (.slice none 0 0)).setCell ⟨w3.heap.size + 1, 0, none⟩ (.int .i64 g)).heap.size = w5.heap.size := by simp
        rw [hsz6] at hrun
        rcases Nat.eq_zero_or_pos en with he | he
        · subst he
          clear hJ5 hP5 hJ6 hP6 hbq hJ7 hkf hoth hKF hKF6 hq7 hb hC hen hle hL hM hk8
          gi_wp2
          exact HEND.out
        · have hgM : g < M := by
            rcases hC with h | h
            · rw [h] at hen; simp at hen; omega
            · exact h
          have he0 : ¬ (en : Int) = 0 := by omega
          clear hJ5 hP5 hJ6 hP6 hbq hJ7 hkf hoth hKF hKF6 hq7 hb hC hen hle hL hM hk8
          gi_wp2
          exact HEND.out
      · have hLn : L ≠ [] := fun h => hC (.inl h)
        have hgM : ¬ g < M := fun h => hC (.inr h)
        have he0 : ¬ (en : Int) = 0 := by
          intro h
          have h1 : L.length = 0 := by omega
          exact hLn (List.eq_nil_of_length_eq_zero h1)
        by_cases hE : g = M
        · have hb := best_more HU.out (by rw [← hL, ← hM, ← HG.out]; exact hC) (by rw [← hM, ← HG.out]; exact hE)
          rw [← hL, ← hM] at hb
          obtain ⟨g2, cap2, w7, hrun, hbq, hJ7, hkf, hoth⟩ := hJ5.push2 (by omega) hz3 (by simp) hz2 (by omega) (by simp) (by omega) (k : Int)
          have hq7 : Box (w7.setCell ⟨w3.heap.size, 0, none⟩ (.slice (some ⟨g2, 0, none⟩) (en + 1) cap2)) (w3.heap.size + 1) (.int .i64 M) 3 := by
            refine Box.other ?_ (by omega)
            exact hoth _ _ _ hz1 (by omega) hP5
          have HEND : Hid (KeepsFrom w4.heap.size W' (w7.setCell ⟨w3.heap.size, 0, none⟩ (.slice (some ⟨g2, 0, none⟩) (en + 1) cap2)) ∧ BeI W w4 w3.heap.size (w3.heap.size + 1) r S U (k + 1) (w7.setCell ⟨w3.heap.size, 0, none⟩ (.slice (some ⟨g2, 0, none⟩) (en + 1) cap2))) := Lib.hid ⟨hkf W' hKF, _, _, _, by rw [hb]; exact hJ7, by rw [hb]; exact hq7⟩
          have c97 := hbq.cell
          have f97 := hbq.free
          subst hE
          clear hJ5 hP5 hbq hJ7 hkf hoth hKF hq7 hb hC hen hle hL hM hk8 hLn
          gi_wp2
          exact HEND.out
        · have hb := best_less HU.out (by rw [← hL, ← hM, ← HG.out]; exact hC) (by rw [← hM, ← HG.out]; exact hE)
          have HEND : Hid (KeepsFrom w4.heap.size W' w5 ∧ BeI W w4 w3.heap.size (w3.heap.size + 1) r S U (k + 1) w5) := Lib.hid ⟨hKF, _, _, _, by rw [hb, ← hL]; exact hJ5, by rw [hb, ← hM]; exact hP5⟩
          clear hJ5 hP5 hKF hb hC hen hle hL hM hk8 hLn
          gi_wp2
          exact HEND.out
    case done =>
      intro D W' hD hI hK
      obtain ⟨eo, en, ecap, hJ, hP⟩ := hI
      have c9 : W'.cell? ⟨w3.heap.size, 0, none⟩ = some (.slice eo en ecap) := hJ.box.cell
      have e0 : (best r S U nr).1 = Z := by rw [HZ.out, HNN.out.2.2.1]
      rw [e0] at hJ
      have HJ := Lib.hid hJ
      have HK := Lib.hid hK
      have HDD := Lib.hid hD
      clear hJ hK hD hP e0
      go_wp2
      refine ⟨by simp, .inl ⟨_, _, rfl, run_takeDeferred HK.out, ?_⟩⟩
      exact ⟨_, results_tmp rfl _ _ _, eo, en, ecap, rfl, owns_put HJ.out.own HK.out, HJ.out.fr.b.grown (grownBy_putObj' _ D _) HJ.out.fr.b.size (fun j e => by cases e; have := HDD.out; have := HB4.out.size; omega)⟩

end Go.Proofs.Ytcpgoaombabfjaa
