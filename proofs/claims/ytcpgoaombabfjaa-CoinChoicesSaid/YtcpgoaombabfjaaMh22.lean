/- Contract of the reference: Odd. Condition: the ratio reads as at least one and at most six ints; any two numbers. -/
import Derived.Test.YtcpgoaombabfjaaMh21
namespace Go.Proofs.Ytcpgoaombabfjaa
set_option linter.unusedSimpArgs false
set_option linter.unusedVariables false
open Go Go.RowKit
attribute [local go_sem ↓] appI_rw

def odCh7 : List (Nat × Nat) := [(1, 0), (4, 3), (5, 4), (6, 2), (6, 5), (9, 8), (10, 7), (10, 9), (11, 10), (12, 1), (12, 6), (13, 12), (13, 11)]
def odCh9 : List (Nat × Nat) := [(1, 0), (4, 3), (5, 2), (5, 4), (6, 5), (7, 6), (8, 1), (8, 7), (10, 9), (10, 8), (10, 0), (10, 1), (10, 2), (10, 3), (10, 4), (10, 5), (10, 6), (10, 7), (9, 0), (9, 1), (9, 2), (9, 3), (9, 4), (9, 5), (9, 6), (9, 7), (9, 8)]

/-- What is asked of a changed design. -/
structure OddOk (r : List Int) (cn cd : Nat) : Prop where
  l8 : r.length ≤ 8
  n : cn ≤ 1000
  d : cd ≤ 1000

set_option maxRecDepth 100000 in
set_option maxHeartbeats 8000000 in
theorem odd_any {W : World} {ar : Option Addr} {nr cr : Nat} {r : List Int} (hr : Ix W (.slice ar nr cr) r) (hn1 : 1 ≤ r.length) (hn7 : r.length ≤ 7) (kd : Int) (cn cd : Nat) (h1 : cn ≤ 1000) (h2 : cd ≤ 1000) (q0 q1 : Int) :
    Calls Try.prog 11 #[DV kd (.slice ar nr cr) (cn : Int) (cd : Int), .agg #[.int .i64 q0, .int .i64 q1]] W fun e w' => ∃ ao n cap R, ∃ x y : Nat, e = .returned (DV kd (.slice ao n cap) (x : Int) (y : Int)) ∧ Ix w' (.slice ao n cap) R ∧ OddOk R x y ∧ Below W.heap.size W w' := by
  obtain ⟨X0, hX0⟩ : ∃ X0, X0 = (((W.alloc (.cells #[.int .i64 kd, .slice ar nr cr, .slice none 0 0, .int .i64 0, .int .i64 (cn : Int), .int .i64 (cd : Int)] 30)).alloc (.cells #[.int .i64 q0, .int .i64 q1] 25)).alloc (.cells #[.int .i64 0, .slice none 0 0, .slice none 0 0, .int .i64 0, .int .i64 0, .int .i64 0] 30)).alloc (.cells #[.int .i64 kd, .slice ar nr cr, .slice none 0 0, .int .i64 0, .int .i64 (cn : Int), .int .i64 (cd : Int)] 30) := ⟨_, rfl⟩
  have hnr := hr.size
  have hsz : X0.heap.size = W.heap.size + 4 := by rw [hX0]; simp
  have hbX : Below W.heap.size W X0 := by rw [hX0]; exact ((((Below.refl _ _).alloc (Nat.le_refl _) _).alloc (by simp only [World.size_alloc]; omega) _).alloc (by simp only [World.size_alloc]; omega) _).alloc (by simp only [World.size_alloc]; omega) _
  have hDB : DBox X0 W.heap.size kd (.slice ar nr cr) (cn : Int) (cd : Int) := by
    have h0 := dbox_is W kd (.slice ar nr cr) (cn : Int) (cd : Int)
    rw [hX0]
    exact ((h0.below ((Below.refl _ _).alloc (Nat.le_refl _) _)).below ((Below.refl _ _).alloc (Nat.le_refl _) _)).below ((Below.refl _ _).alloc (Nat.le_refl _) _)
  have hQB : X0.heap[W.heap.size + 1]? = some (.cells #[.int .i64 q0, .int .i64 q1] 25 (0, 0)) := by
    have h0 := heap_alloc_new (W.alloc (.cells #[.int .i64 kd, .slice ar nr cr, .slice none 0 0, .int .i64 0, .int .i64 (cn : Int), .int .i64 (cd : Int)] 30)) (.cells #[.int .i64 q0, .int .i64 q1] 25)
    rw [World.size_alloc] at h0
    rw [hX0]
    exact (((Below.refl _ _).alloc (Nat.le_refl _) _).block (W.heap.size + 1) (by simp)).trans ((((Below.refl _ _).alloc (Nat.le_refl _) _).block (W.heap.size + 1) (by simp)).trans h0)
  have hRB : DBox X0 (W.heap.size + 2) 0 (.slice none 0 0) 0 0 := by
    have h0 := heap_alloc_new ((W.alloc (.cells #[.int .i64 kd, .slice ar nr cr, .slice none 0 0, .int .i64 0, .int .i64 (cn : Int), .int .i64 (cd : Int)] 30)).alloc (.cells #[.int .i64 q0, .int .i64 q1] 25)) (.cells #[.int .i64 0, .slice none 0 0, .slice none 0 0, .int .i64 0, .int .i64 0, .int .i64 0] 30)
    simp only [World.size_alloc] at h0
    rw [hX0]
    exact (((Below.refl _ _).alloc (Nat.le_refl _) _).block (W.heap.size + 2) (by simp)).trans h0
  have hOB : DBox X0 (W.heap.size + 3) kd (.slice ar nr cr) (cn : Int) (cd : Int) := by
    have h0 := heap_alloc_new (((W.alloc (.cells #[.int .i64 kd, .slice ar nr cr, .slice none 0 0, .int .i64 0, .int .i64 (cn : Int), .int .i64 (cd : Int)] 30)).alloc (.cells #[.int .i64 q0, .int .i64 q1] 25)).alloc (.cells #[.int .i64 0, .slice none 0 0, .slice none 0 0, .int .i64 0, .int .i64 0, .int .i64 0] 30)) (.cells #[.int .i64 kd, .slice ar nr cr, .slice none 0 0, .int .i64 0, .int .i64 (cn : Int), .int .i64 (cd : Int)] 30)
    simp only [World.size_alloc] at h0
    rw [hX0]; exact h0
  obtain ⟨ao2, cap2, w2, hrun, ho, hb⟩ := clone_run (hr.below hbX) (by omega)
  obtain ⟨g, cap, he, -, -, -, -, -, -⟩ := ho.parts (by omega)
  obtain ⟨rfl, rfl⟩ : ao2 = some ⟨g, 0, none⟩ ∧ cap = cap2 := (by injection he with e1 e2 e3; exact ⟨e1, e3.symm⟩)
  have hO2 := hOB.below hb
  have o1 : w2.cell? ⟨W.heap.size + 3, 1, none⟩ = some (.slice ar nr cr) := hO2.cells.2.1
  have o2 := hO2.free 1
  have o3 := hO2.lt
  have hn0 := (own_lt ho (g := g) rfl).1
  rw [hsz] at ho hn0
  obtain ⟨R2, hR2⟩ : ∃ R2, R2 = W.heap.size + 2 := ⟨_, rfl⟩
  obtain ⟨O3, hO3⟩ : ∃ O3, O3 = W.heap.size + 3 := ⟨_, rfl⟩
  have HE := Lib.hid (And.intro hR2 hO3)
  have HI : Hid (OdI W (w2.setCell ⟨W.heap.size + 3, 1, none⟩ (.slice (some ⟨g, 0, none⟩) nr cap)) R2 O3 kd (cn : Int) (cd : Int) (.slice (some ⟨g, 0, none⟩) nr cap) g nr cap r) := Lib.hid ⟨(hbX.trans (hb.mono hbX.size)).setCell (by simp only; omega) _, by rw [hR2]; exact (hRB.below hb).other (by omega), by rw [hO3]; exact hO2.set1, owns_same ho (fun j hj => Below.heap_setCell _ _ _ _ (by have := (own_lt ho hj).1; simp only; omega))⟩
  have hQ2 : (w2.setCell ⟨W.heap.size + 3, 1, none⟩ (.slice (some ⟨g, 0, none⟩) nr cap)).heap[W.heap.size + 1]? = some (.cells #[.int .i64 q0, .int .i64 q1] 25 (0, 0)) := (Below.heap_setCell _ _ _ _ (by simp)).trans ((hb.block _ (Array.getElem?_eq_some_iff.1 hQB).1).trans hQB)
  have qc0 : (w2.setCell ⟨W.heap.size + 3, 1, none⟩ (.slice (some ⟨g, 0, none⟩) nr cap)).cell? ⟨W.heap.size + 1, 0, none⟩ = some (.int .i64 q0) := cell_of_row _ _ _ _ _ _ hQ2
  have qc1 : (w2.setCell ⟨W.heap.size + 3, 1, none⟩ (.slice (some ⟨g, 0, none⟩) nr cap)).cell? ⟨W.heap.size + 1, 1, none⟩ = some (.int .i64 q1) := cell_of_row _ _ _ _ _ _ hQ2
  have HM := Lib.hid (fun (n : Int) (m : Nat) (a : 1 ≤ m) (b : m ≤ 1000) (w : World) => mod_any n m a b w)
  have HM12 : Hid (∀ w, Calls Try.prog 14 #[.int .i64 q1, .int .i64 12] w fun e w' => e = .returned (.int .i64 (q1 % 12)) ∧ w' = w) := Lib.hid (fun w => mod_any q1 12 (by decide) (by decide) w)
  have HM4 : Hid (∀ w, Calls Try.prog 14 #[.int .i64 q0, .int .i64 4] w fun e w' => e = .returned (.int .i64 (q0 % 4)) ∧ w' = w) := Lib.hid (fun w => mod_any q0 4 (by decide) (by decide) w)
  obtain ⟨k, hk⟩ : ∃ k : Nat, (k : Int) = q1 % 12 := ⟨(q1 % 12).toNat, by omega⟩
  obtain ⟨M, hm⟩ : ∃ M : Int, M = q0 % 4 := ⟨_, rfl⟩
  have hk12 : k < 12 := by omega
  have hm4 : M = 0 ∨ M = 1 ∨ M = 2 ∨ M = 3 := by omega
  rw [← hk] at HM12
  rw [← hm] at HM4
  have d1 : X0.cell? ⟨W.heap.size, 1, none⟩ = some (.slice ar nr cr) := hDB.cells.2.1
  have dall := hDB.cells
  have d1a : (X0.alloc (.cells #[] 3)).cell? ⟨W.heap.size, 1, none⟩ = some (.slice ar nr cr) := (hDB.below ((Below.refl _ _).alloc (Nat.le_refl _) _)).cells.2.1
  obtain ⟨e0, e1, e2, e3, e4, e5⟩ : _ ∧ _ ∧ _ ∧ _ ∧ _ ∧ _ := (dbox_is W kd (.slice ar nr cr) (cn : Int) (cd : Int)).cells
  have hnI : nr ≤ 7 ∧ 1 ≤ nr := by omega
  have HRF := Lib.hid hr.fit
  have HRL := Lib.hid (And.intro hnr (And.intro h1 h2))
  rw [hX0] at hrun d1a
  simp only [World.size_alloc] at hrun
  have G3 : Hid (W.heap.size + 1 + 1 + 1 = O3 ∧ W.heap.size + 1 + 1 = R2) := Lib.hid ⟨hO3.symm, hR2.symm⟩
  clear hR2 hO3 hr hbX hDB hQB hRB hOB ho hb hO2 hn0 hQ2 hk hm d1 dall hsz hX0 X0 HM hn1 hn7 h1 h2 hnr
  go_enter Try.func11, Try.ntmps11
  go_upto_region 3 with fail
  clear hrun d1a e0 e1 e2 e3 e4 e5 o1 o2 o3
  generalize (w2.setCell ⟨W.heap.size + 3, 1, none⟩ (.slice (some ⟨g, 0, none⟩) nr cap)) = w at HI qc0 qc1 ⊢
  rw [G3.out.1, G3.out.2]
  clear G3
  have A14 := HM12
  rcases hm4 with rfl | rfl | rfl | rfl
  · have hnp : (0 : Int) < (nr : Int) := by omega
    have c1 := HI.out.ob.cells.2.1
    go_upto_region 7 with (first
      | (go_at_call 14; (with_reducible refine (HM12.out _).mono ?_); rintro e w1 ⟨rfl, hw⟩; subst w1)
      | (go_at_call 14; (with_reducible refine (HM4.out _).mono ?_); rintro e w1 ⟨rfl, hw⟩; subst w1))
    clear c1 qc0 qc1
    obtain ⟨X, hX⟩ : ∃ X, X = w.drew := ⟨_, rfl⟩
    have HX := HI.out.later (w' := X) (by rw [hX]; exact (Below.refl _ _).drew)
    obtain ⟨Y, hY⟩ : ∃ Y, Y = X.alloc (.cells #[.int .i64 (-1), .int .i64 0, .int .i64 8, .int .i64 9, .int .i64 5] 3) := ⟨_, rfl⟩
    have HY := HX.later (w' := Y) (by rw [hY]; exact (Below.refl _ _).alloc (Nat.le_refl _) _)
    obtain ⟨j, hj⟩ : ∃ j, j = k % nr := ⟨_, rfl⟩
    have hj2 : j < nr := by rw [hj]; exact Nat.mod_lt _ (by omega)
    obtain ⟨e, he⟩ : ∃ e, e = k % 5 := ⟨_, rfl⟩
    have he5 : e < 5 := by omega
    obtain ⟨y, hy⟩ : ∃ y, y = ([-1, 0, 8, 9, 5] : List Int).getD e 0 := ⟨_, rfl⟩
    have hyb : -1 ≤ y ∧ y ≤ 9 := by
      rcases (show e = 0 ∨ e = 1 ∨ e = 2 ∨ e = 3 ∨ e = 4 by omega) with h | h | h | h | h <;> rw [h] at hy <;> simp at hy <;> omega
    have cy : Y.cell? ⟨X.heap.size, e, none⟩ = some (.int .i64 y) := by
      have h := heap_alloc_new X (.cells #[.int .i64 (-1), .int .i64 0, .int .i64 8, .int .i64 9, .int .i64 5] 3)
      rw [← hY] at h
      rcases (show e = 0 ∨ e = 1 ∨ e = 2 ∨ e = 3 ∨ e = 4 by omega) with h2 | h2 | h2 | h2 | h2 <;> rw [h2] at hy ⊢ <;> rw [hy] <;> exact cell_of_row _ _ _ _ _ _ h
    obtain ⟨g', cap', hge, -, hg1, hg2, hg3, hg4, hg5⟩ := HY.o.parts (by omega)
    cases hge
    have cg := hg3 j hj2
    have fg := hg4 j
    obtain ⟨Z, hZ⟩ : ∃ Z, Z = Y.setCell ⟨g, j, none⟩ (.int .i64 y) := ⟨_, rfl⟩
    have HZ : Hid (OdI W Z R2 O3 kd (cn : Int) (cd : Int) (.slice (some ⟨g, 0, none⟩) nr cap) g nr cap (r.set j y)) := Lib.hid (by
      rw [hZ]
      exact ⟨HY.b.setCell (by have := HE.out; simp only; omega) _, HY.rb.other (by have := HE.out; omega), HY.ob.other (by have := HE.out; omega), hg5 j y hj2⟩)
    have hn0 : ¬ nr = 0 := by omega
    have htj : (k : Int).tmod (nr : Int) = (j : Int) := by rw [Int.tmod_eq_emod_of_nonneg (by omega), hj]; rfl
    have hzj : (k : Int) % (nr : Int) = (j : Int) := by rw [hj]; rfl
    have hte : (k : Int).tmod 5 = (e : Int) := by rw [Int.tmod_eq_emod_of_nonneg (by omega), he]; rfl
    have hze : (k : Int) % 5 = (e : Int) := by rw [he]; rfl
    have heI : (e : Int) < 5 := by omega
    have hjI : (j : Int) < (nr : Int) := by omega
    have lg := hg2
    have HLD : Hid (X.cell? ⟨O3, 1, none⟩ = some (.slice (some ⟨g, 0, none⟩) nr cap) ∧ Y.cell? ⟨O3, 1, none⟩ = some (.slice (some ⟨g, 0, none⟩) nr cap)) := Lib.hid ⟨HX.ob.cells.2.1, HY.ob.cells.2.1⟩
    have HFT : Hid (∀ i, I64 ((r.set j y).getD i 0)) := Lib.hid (fun i => by
      by_cases hi : j < r.length
      · rw [set_get _ hi]
        split
        · exact ⟨by omega, by omega⟩
        · exact HRF.out i
      · rw [List.set_eq_of_length_le (by omega)]; exact HRF.out i)
    clear HX HY hj he hy hg1 hg2 hg3 hg4 hg5 A14
    refine (wpIn_wide (n := 6)).1 ?_
    refine frame_namedIn ?_
    intro T hT
    obtain ⟨R, hRd⟩ : ∃ R : Array Bool → Act → World → Prop, R = (fun l a w' => ∃ vals, RH odCh7 T [some 25, some 26, some 27, some 28, some 29, some 30, some 31, some 32, some 33, some 34, some 35, some 36, some 37, none] (fun l _ w => w = ph2 X Y Z 7 13 l) (fun i u _ => match i with | 0 => u = .pointer (some ⟨O3, 1, none⟩) | 1 => u = .slice (some ⟨g, 0, none⟩) nr cap | 2 => u = .int .i64 (k : Int) | 3 => u = .pointer (some ⟨O3, 1, none⟩) | 4 => u = .slice (some ⟨g, 0, none⟩) nr cap | 5 => u = .int .i64 (nr : Int) | 6 => u = .int .i64 (j : Int) | 7 => u = .slice (some ⟨X.heap.size, 0, none⟩) 5 5 | 8 => u = .int .i64 (k : Int) | 9 => u = .int .i64 (e : Int) | 10 => u = .pointer (some ⟨X.heap.size, e, none⟩) | 11 => u = .int .i64 y | 12 => u = .pointer (some ⟨g, j, none⟩) | _ => True) vals l a w') := ⟨_, rfl⟩
    refine region_inv (by kernel_rfl) R ?h0r1 ?stepr1 ?finr1
    case h0r1 => rw [hRd]; exact RH.start rfl (fun i j h => by simp [odCh7] at h; simp only [List.length_cons, List.length_nil]; omega) (by show w.drew = _; unfold ph2; rw [if_neg (by decide), if_neg (by decide), hX])
    case stepr1 =>
      rintro l a w' i' hR0 hi'
      have hR1 := hR0
      rw [hRd] at hR1
      obtain ⟨vals, hR⟩ := hR1
      obtain ⟨hl0, o, ho, hdep⟩ := mem_ready.1 hi'
      have h15 : i' < 14 := by
        have := (Array.getElem?_eq_some_iff.1 ho).1
        simpa using this
      rcases (show i' = 0 ∨ i' = 1 ∨ i' = 2 ∨ i' = 3 ∨ i' = 4 ∨ i' = 5 ∨ i' = 6 ∨ i' = 7 ∨ i' = 8 ∨ i' = 9 ∨ i' = 10 ∨ i' = 11 ∨ i' = 12 ∨ i' = 13 by omega) with rfl | rfl | rfl | rfl | rfl | rfl | rfl | rfl | rfl | rfl | rfl | rfl | rfl | rfl
      · simp at ho
        subst ho
        simp [Region.binds] at hdep
        have k0 : a.tmps.getD 5 undef = .pointer (some ⟨O3, 0, none⟩) := (hR.fr.kept rfl (by simp [hT])).trans (by rw [hT]; try rfl)
        have hc : ∀ j, (0, j) ∈ odCh7 → l.getD j true = true := by intro j hj; simp [odCh7] at hj
        clear hi' hdep
        have k0g := k0
        rw [Array.getD_eq_getD_getElem?] at k0g
        unfold wpOpIn
        simp [Region.wanted]
        unfold Oper.wpIn
        simp [Oper.about, execOp, go_sem, Act.eval, k0, k0g]
        rw [hRd]
        exact hR.op 0 25 _ rfl (by decide) hl0 hc (ph2_const hR.wd (by decide) (by decide)) (fun _ _ h => h) (rfl)
      · simp at ho
        subst ho
        simp [Region.binds] at hdep
        have d0 : l.getD 0 true = true := getD_true (by simp_all)
        have k0 : a.tmps.getD 25 undef = vals 0 := hR.get rfl (by simp_all) (by simp [hT])
        have e0 : vals 0 = .pointer (some ⟨O3, 1, none⟩) := hR.vl 0 (by decide) d0
        rw [e0] at k0
        have hc : ∀ j, (1, j) ∈ odCh7 → l.getD j true = true := by intro j hj; simp [odCh7] at hj; rcases hj with rfl <;> exact getD_true (by simp_all)
        have n13 := hR.no (s := 13) hl0 (fun hs => (hR.dep 12 1 (by decide) (hR.dep 13 12 (by decide) hs)))
        clear hi' hdep
        have hcl : w'.cell? ⟨O3, 1, none⟩ = some (.slice (some ⟨g, 0, none⟩) nr cap) := by rcases ph2_xy hR.wd n13 with h | h <;> rw [h] <;> first | exact HLD.out.1 | exact HLD.out.2
        have k0g := k0
        rw [Array.getD_eq_getD_getElem?] at k0g
        unfold wpOpIn
        simp [Region.wanted]
        unfold Oper.wpIn
        simp [Oper.about, execOp, go_sem, Act.eval, k0, k0g, hcl]
        rw [hRd]
        exact hR.op 1 26 _ rfl (by decide) hl0 hc (ph2_const hR.wd (by decide) (by decide)) (fun _ _ h => h) (rfl)
      · simp at ho
        subst ho
        simp [Region.binds] at hdep
        have k0 : a.tmps.getD 6 undef = .int .i64 (k : Int) := (hR.fr.kept rfl (by simp [hT])).trans (by rw [hT]; try rfl)
        have hc : ∀ j, (2, j) ∈ odCh7 → l.getD j true = true := by intro j hj; simp [odCh7] at hj
        clear hi' hdep
        have k0g := k0
        rw [Array.getD_eq_getD_getElem?] at k0g
        unfold wpOpIn
        simp [Region.wanted]
        unfold Oper.wpIn
        simp [Oper.about, execOp, go_sem, Act.eval, k0, k0g]
        rw [hRd]
        exact hR.op 2 27 _ rfl (by decide) hl0 hc (ph2_const hR.wd (by decide) (by decide)) (fun _ _ h => h) (rfl)
      · simp at ho
        subst ho
        simp [Region.binds] at hdep
        have k0 : a.tmps.getD 5 undef = .pointer (some ⟨O3, 0, none⟩) := (hR.fr.kept rfl (by simp [hT])).trans (by rw [hT]; try rfl)
        have hc : ∀ j, (3, j) ∈ odCh7 → l.getD j true = true := by intro j hj; simp [odCh7] at hj
        clear hi' hdep
        have k0g := k0
        rw [Array.getD_eq_getD_getElem?] at k0g
        unfold wpOpIn
        simp [Region.wanted]
        unfold Oper.wpIn
        simp [Oper.about, execOp, go_sem, Act.eval, k0, k0g]
        rw [hRd]
        exact hR.op 3 28 _ rfl (by decide) hl0 hc (ph2_const hR.wd (by decide) (by decide)) (fun _ _ h => h) (rfl)
      · simp at ho
        subst ho
        simp [Region.binds] at hdep
        have d0 : l.getD 3 true = true := getD_true (by simp_all)
        have k0 : a.tmps.getD 28 undef = vals 3 := hR.get rfl (by simp_all) (by simp [hT])
        have e0 : vals 3 = .pointer (some ⟨O3, 1, none⟩) := hR.vl 3 (by decide) d0
        rw [e0] at k0
        have hc : ∀ j, (4, j) ∈ odCh7 → l.getD j true = true := by intro j hj; simp [odCh7] at hj; rcases hj with rfl <;> exact getD_true (by simp_all)
        have n13 := hR.no (s := 13) hl0 (fun hs => (hR.dep 5 4 (by decide) (hR.dep 6 5 (by decide) (hR.dep 12 6 (by decide) (hR.dep 13 12 (by decide) hs)))))
        clear hi' hdep
        have hcl : w'.cell? ⟨O3, 1, none⟩ = some (.slice (some ⟨g, 0, none⟩) nr cap) := by rcases ph2_xy hR.wd n13 with h | h <;> rw [h] <;> first | exact HLD.out.1 | exact HLD.out.2
        have k0g := k0
        rw [Array.getD_eq_getD_getElem?] at k0g
        unfold wpOpIn
        simp [Region.wanted]
        unfold Oper.wpIn
        simp [Oper.about, execOp, go_sem, Act.eval, k0, k0g, hcl]
        rw [hRd]
        exact hR.op 4 29 _ rfl (by decide) hl0 hc (ph2_const hR.wd (by decide) (by decide)) (fun _ _ h => h) (rfl)
      · simp at ho
        subst ho
        simp [Region.binds] at hdep
        have d0 : l.getD 4 true = true := getD_true (by simp_all)
        have k0 : a.tmps.getD 29 undef = vals 4 := hR.get rfl (by simp_all) (by simp [hT])
        have e0 : vals 4 = .slice (some ⟨g, 0, none⟩) nr cap := hR.vl 4 (by decide) d0
        rw [e0] at k0
        have hc : ∀ j, (5, j) ∈ odCh7 → l.getD j true = true := by intro j hj; simp [odCh7] at hj; rcases hj with rfl <;> exact getD_true (by simp_all)
        clear hi' hdep
        have k0g := k0
        rw [Array.getD_eq_getD_getElem?] at k0g
        unfold wpOpIn
        simp [Region.wanted]
        unfold Oper.wpIn
        simp [Oper.about, execOp, go_sem, Act.eval, k0, k0g]
        rw [hRd]
        exact hR.op 5 30 _ rfl (by decide) hl0 hc (ph2_const hR.wd (by decide) (by decide)) (fun _ _ h => h) (rfl)
      · simp at ho
        subst ho
        simp [Region.binds] at hdep
        have d0 : l.getD 2 true = true := getD_true (by simp_all)
        have k0 : a.tmps.getD 27 undef = vals 2 := hR.get rfl (by simp_all) (by simp [hT])
        have e0 : vals 2 = .int .i64 (k : Int) := hR.vl 2 (by decide) d0
        rw [e0] at k0
        have d1 : l.getD 5 true = true := getD_true (by simp_all)
        have k1 : a.tmps.getD 30 undef = vals 5 := hR.get rfl (by simp_all) (by simp [hT])
        have e1 : vals 5 = .int .i64 (nr : Int) := hR.vl 5 (by decide) d1
        rw [e1] at k1
        have hc : ∀ j, (6, j) ∈ odCh7 → l.getD j true = true := by intro j hj; simp [odCh7] at hj; rcases hj with rfl | rfl <;> exact getD_true (by simp_all)
        clear hi' hdep
        have k0g := k0
        rw [Array.getD_eq_getD_getElem?] at k0g
        have k1g := k1
        rw [Array.getD_eq_getD_getElem?] at k1g
        unfold wpOpIn
        simp [Region.wanted]
        unfold Oper.wpIn
        simp [Oper.about, execOp, go_sem, Act.eval, k0, k1, k0g, k1g, hn0, htj, hzj]
        rw [hRd]
        exact hR.op 6 31 _ rfl (by decide) hl0 hc (ph2_const hR.wd (by decide) (by decide)) (fun _ _ h => h) (rfl)
      · simp at ho
        subst ho
        simp [Region.binds] at hdep
        have hc : ∀ j, (7, j) ∈ odCh7 → l.getD j true = true := by intro j hj; simp [odCh7] at hj
        have n13 := hR.no (s := 13) hl0 (fun hs => (hR.dep 10 7 (by decide) (hR.dep 11 10 (by decide) (hR.dep 13 11 (by decide) hs))))
        clear hi' hdep
        have hw := ph2_x hR.wd n13 hl0
        rw [hw]
        unfold wpOpIn
        simp [Region.wanted]
        unfold Oper.wpIn
        simp [Oper.about, execOp, go_sem, Act.eval, ]
        rw [hRd]
        exact hR.op 7 32 _ rfl (by decide) hl0 hc (hY.symm.trans (ph2_a (X := X) (Y := Y) (Z := Z) (a := 7) (b := 13) (l := l) (by decide) n13)) (fun _ _ h => h) (rfl)
      · simp at ho
        subst ho
        simp [Region.binds] at hdep
        have k0 : a.tmps.getD 6 undef = .int .i64 (k : Int) := (hR.fr.kept rfl (by simp [hT])).trans (by rw [hT]; try rfl)
        have hc : ∀ j, (8, j) ∈ odCh7 → l.getD j true = true := by intro j hj; simp [odCh7] at hj
        clear hi' hdep
        have k0g := k0
        rw [Array.getD_eq_getD_getElem?] at k0g
        unfold wpOpIn
        simp [Region.wanted]
        unfold Oper.wpIn
        simp [Oper.about, execOp, go_sem, Act.eval, k0, k0g]
        rw [hRd]
        exact hR.op 8 33 _ rfl (by decide) hl0 hc (ph2_const hR.wd (by decide) (by decide)) (fun _ _ h => h) (rfl)
      · simp at ho
        subst ho
        simp [Region.binds] at hdep
        have d0 : l.getD 8 true = true := getD_true (by simp_all)
        have k0 : a.tmps.getD 33 undef = vals 8 := hR.get rfl (by simp_all) (by simp [hT])
        have e0 : vals 8 = .int .i64 (k : Int) := hR.vl 8 (by decide) d0
        rw [e0] at k0
        have hc : ∀ j, (9, j) ∈ odCh7 → l.getD j true = true := by intro j hj; simp [odCh7] at hj; rcases hj with rfl <;> exact getD_true (by simp_all)
        clear hi' hdep
        have k0g := k0
        rw [Array.getD_eq_getD_getElem?] at k0g
        unfold wpOpIn
        simp [Region.wanted]
        unfold Oper.wpIn
        simp [Oper.about, execOp, go_sem, Act.eval, k0, k0g, hte, hze]
        rw [hRd]
        exact hR.op 9 34 _ rfl (by decide) hl0 hc (ph2_const hR.wd (by decide) (by decide)) (fun _ _ h => h) (rfl)
      · simp at ho
        subst ho
        simp [Region.binds] at hdep
        have d0 : l.getD 7 true = true := getD_true (by simp_all)
        have k0 : a.tmps.getD 32 undef = vals 7 := hR.get rfl (by simp_all) (by simp [hT])
        have e0 : vals 7 = .slice (some ⟨X.heap.size, 0, none⟩) 5 5 := hR.vl 7 (by decide) d0
        rw [e0] at k0
        have d1 : l.getD 9 true = true := getD_true (by simp_all)
        have k1 : a.tmps.getD 34 undef = vals 9 := hR.get rfl (by simp_all) (by simp [hT])
        have e1 : vals 9 = .int .i64 (e : Int) := hR.vl 9 (by decide) d1
        rw [e1] at k1
        have hc : ∀ j, (10, j) ∈ odCh7 → l.getD j true = true := by intro j hj; simp [odCh7] at hj; rcases hj with rfl | rfl <;> exact getD_true (by simp_all)
        clear hi' hdep
        have k0g := k0
        rw [Array.getD_eq_getD_getElem?] at k0g
        have k1g := k1
        rw [Array.getD_eq_getD_getElem?] at k1g
        unfold wpOpIn
        simp [Region.wanted]
        unfold Oper.wpIn
        simp [Oper.about, execOp, go_sem, Act.eval, k0, k1, k0g, k1g, heI]
        rw [hRd]
        exact hR.op 10 35 _ rfl (by decide) hl0 hc (ph2_const hR.wd (by decide) (by decide)) (fun _ _ h => h) (rfl)
      · simp at ho
        subst ho
        simp [Region.binds] at hdep
        have d0 : l.getD 10 true = true := getD_true (by simp_all)
        have k0 : a.tmps.getD 35 undef = vals 10 := hR.get rfl (by simp_all) (by simp [hT])
        have e0 : vals 10 = .pointer (some ⟨X.heap.size, e, none⟩) := hR.vl 10 (by decide) d0
        rw [e0] at k0
        have hc : ∀ j, (11, j) ∈ odCh7 → l.getD j true = true := by intro j hj; simp [odCh7] at hj; rcases hj with rfl <;> exact getD_true (by simp_all)
        have n13 := hR.no (s := 13) hl0 (fun hs => (hR.dep 13 11 (by decide) hs))
        clear hi' hdep
        have hw := ph2_y hR.wd (hR.dep 10 7 (by decide) d0) n13
        have cy' := cy
        rw [← hw] at cy'
        have k0g := k0
        rw [Array.getD_eq_getD_getElem?] at k0g
        unfold wpOpIn
        simp [Region.wanted]
        unfold Oper.wpIn
        simp [Oper.about, execOp, go_sem, Act.eval, k0, k0g, cy']
        rw [hRd]
        exact hR.op 11 36 _ rfl (by decide) hl0 hc (ph2_const hR.wd (by decide) (by decide)) (fun _ _ h => h) (rfl)
      · simp at ho
        subst ho
        simp [Region.binds] at hdep
        have d0 : l.getD 1 true = true := getD_true (by simp_all)
        have k0 : a.tmps.getD 26 undef = vals 1 := hR.get rfl (by simp_all) (by simp [hT])
        have e0 : vals 1 = .slice (some ⟨g, 0, none⟩) nr cap := hR.vl 1 (by decide) d0
        rw [e0] at k0
        have d1 : l.getD 6 true = true := getD_true (by simp_all)
        have k1 : a.tmps.getD 31 undef = vals 6 := hR.get rfl (by simp_all) (by simp [hT])
        have e1 : vals 6 = .int .i64 (j : Int) := hR.vl 6 (by decide) d1
        rw [e1] at k1
        have hc : ∀ j, (12, j) ∈ odCh7 → l.getD j true = true := by intro j hj; simp [odCh7] at hj; rcases hj with rfl | rfl <;> exact getD_true (by simp_all)
        clear hi' hdep
        have k0g := k0
        rw [Array.getD_eq_getD_getElem?] at k0g
        have k1g := k1
        rw [Array.getD_eq_getD_getElem?] at k1g
        unfold wpOpIn
        simp [Region.wanted]
        unfold Oper.wpIn
        simp [Oper.about, execOp, go_sem, Act.eval, k0, k1, k0g, k1g, hjI]
        rw [hRd]
        exact hR.op 12 37 _ rfl (by decide) hl0 hc (ph2_const hR.wd (by decide) (by decide)) (fun _ _ h => h) (rfl)
      · simp at ho
        subst ho
        simp [Region.binds] at hdep
        have d0 : l.getD 12 true = true := getD_true (by simp_all)
        have k0 : a.tmps.getD 37 undef = vals 12 := hR.get rfl (by simp_all) (by simp [hT])
        have e0 : vals 12 = .pointer (some ⟨g, j, none⟩) := hR.vl 12 (by decide) d0
        rw [e0] at k0
        have d1 : l.getD 11 true = true := getD_true (by simp_all)
        have k1 : a.tmps.getD 36 undef = vals 11 := hR.get rfl (by simp_all) (by simp [hT])
        have e1 : vals 11 = .int .i64 y := hR.vl 11 (by decide) d1
        rw [e1] at k1
        have hc : ∀ j, (13, j) ∈ odCh7 → l.getD j true = true := by intro j hj; simp [odCh7] at hj; rcases hj with rfl | rfl <;> exact getD_true (by simp_all)
        clear hi' hdep
        have hw := ph2_y hR.wd (hR.dep 10 7 (by decide) (hR.dep 11 10 (by decide) d1)) hl0
        have cg' := cg
        have fg' := fg
        have lg' := lg
        rw [← hw] at cg' fg' lg'
        have k0g := k0
        rw [Array.getD_eq_getD_getElem?] at k0g
        have k1g := k1
        rw [Array.getD_eq_getD_getElem?] at k1g
        unfold wpOpIn
        simp [Region.wanted]
        unfold Oper.wpIn
        simp [Oper.about, execOp, go_sem, Act.eval, k0, k1, k0g, k1g, cg', fg', lg']
        rw [hRd]
        exact hR.bare 13 undef rfl hl0 hc (by rw [hw, ← hZ]; exact ph2_b) (fun _ _ h => h) (fun _ => trivial)
    case' finr1 =>
      rintro l a w' hR0 hz
      rw [hRd] at hR0
      obtain ⟨vals, hR⟩ := hR0
      clear hRd R
      have hnot := List.eq_nil_iff_forall_not_mem.1 hz
      have hk : ∀ k, k < 14 → (l.getD k true = false → False) → l.getD k false = true := fun k h12 h => by
        have hs := hR.size
        cases h' : l.getD k true with
        | false => exact (h h').elim
        | true => simp at hs; simp [Array.getD, hs, h12] at h' ⊢; exact h'
      have st0 := hk 0 (by omega) (fun h => hnot 0 (mem_ready.2 ⟨h, _, rfl, by simp [Region.binds]⟩))
      have st1 := hk 1 (by omega) (fun h => hnot 1 (mem_ready.2 ⟨h, _, rfl, by simp [Region.binds] <;> simp_all⟩))
      have st2 := hk 2 (by omega) (fun h => hnot 2 (mem_ready.2 ⟨h, _, rfl, by simp [Region.binds]⟩))
      have st3 := hk 3 (by omega) (fun h => hnot 3 (mem_ready.2 ⟨h, _, rfl, by simp [Region.binds]⟩))
      have st4 := hk 4 (by omega) (fun h => hnot 4 (mem_ready.2 ⟨h, _, rfl, by simp [Region.binds] <;> simp_all⟩))
      have st5 := hk 5 (by omega) (fun h => hnot 5 (mem_ready.2 ⟨h, _, rfl, by simp [Region.binds] <;> simp_all⟩))
      have st6 := hk 6 (by omega) (fun h => hnot 6 (mem_ready.2 ⟨h, _, rfl, by simp [Region.binds] <;> simp_all⟩))
      have st7 := hk 7 (by omega) (fun h => hnot 7 (mem_ready.2 ⟨h, _, rfl, by simp [Region.binds]⟩))
      have st8 := hk 8 (by omega) (fun h => hnot 8 (mem_ready.2 ⟨h, _, rfl, by simp [Region.binds]⟩))
      have st9 := hk 9 (by omega) (fun h => hnot 9 (mem_ready.2 ⟨h, _, rfl, by simp [Region.binds] <;> simp_all⟩))
      have st10 := hk 10 (by omega) (fun h => hnot 10 (mem_ready.2 ⟨h, _, rfl, by simp [Region.binds] <;> simp_all⟩))
      have st11 := hk 11 (by omega) (fun h => hnot 11 (mem_ready.2 ⟨h, _, rfl, by simp [Region.binds] <;> simp_all⟩))
      have st12 := hk 12 (by omega) (fun h => hnot 12 (mem_ready.2 ⟨h, _, rfl, by simp [Region.binds] <;> simp_all⟩))
      have st13 := hk 13 (by omega) (fun h => hnot 13 (mem_ready.2 ⟨h, _, rfl, by simp [Region.binds] <;> simp_all⟩))
      have hall : ∀ i, i < 14 → l.getD i true = true := fun i hi => by
        rcases (show i = 0 ∨ i = 1 ∨ i = 2 ∨ i = 3 ∨ i = 4 ∨ i = 5 ∨ i = 6 ∨ i = 7 ∨ i = 8 ∨ i = 9 ∨ i = 10 ∨ i = 11 ∨ i = 12 ∨ i = 13 by omega) with rfl | rfl | rfl | rfl | rfl | rfl | rfl | rfl | rfl | rfl | rfl | rfl | rfl | rfl
        · exact getD_true st0
        · exact getD_true st1
        · exact getD_true st2
        · exact getD_true st3
        · exact getD_true st4
        · exact getD_true st5
        · exact getD_true st6
        · exact getD_true st7
        · exact getD_true st8
        · exact getD_true st9
        · exact getD_true st10
        · exact getD_true st11
        · exact getD_true st12
        · exact getD_true st13
      clear st0 st1 st2 st3 st4 st5 st6 st7 st8 st9 st10 st11 st12 st13 hk hnot hz
      have hTs : T.size = 78 := by rw [hT]; rfl
      have ha := hR.all (T' := (((((((((((((T.setIfInBounds 25 (vals 0)).setIfInBounds 26 (vals 1)).setIfInBounds 27 (vals 2)).setIfInBounds 28 (vals 3)).setIfInBounds 29 (vals 4)).setIfInBounds 30 (vals 5)).setIfInBounds 31 (vals 6)).setIfInBounds 32 (vals 7)).setIfInBounds 33 (vals 8)).setIfInBounds 34 (vals 9)).setIfInBounds 35 (vals 10)).setIfInBounds 36 (vals 11)).setIfInBounds 37 (vals 12))) (fun i hi => hall i (by simpa using hi)) (by simp) (fun j hj => by
        by_cases h1 : j = 25 ∨ j = 26 ∨ j = 27 ∨ j = 28 ∨ j = 29 ∨ j = 30 ∨ j = 31 ∨ j = 32 ∨ j = 33 ∨ j = 34 ∨ j = 35 ∨ j = 36 ∨ j = 37
        · rcases h1 with rfl | rfl | rfl | rfl | rfl | rfl | rfl | rfl | rfl | rfl | rfl | rfl | rfl <;> simp [rv_sets, tOwn, List.findIdx?, List.findIdx?.go, hTs]
        · simp only [not_or] at h1
          obtain ⟨m25, m26, m27, m28, m29, m30, m31, m32, m33, m34, m35, m36, m37⟩ := h1
          have e : tOwn [some 25, some 26, some 27, some 28, some 29, some 30, some 31, some 32, some 33, some 34, some 35, some 36, some 37, none] vals j = none := by
            unfold tOwn
            simp [List.findIdx?, List.findIdx?.go, Ne.symm m25, Ne.symm m26, Ne.symm m27, Ne.symm m28, Ne.symm m29, Ne.symm m30, Ne.symm m31, Ne.symm m32, Ne.symm m33, Ne.symm m34, Ne.symm m35, Ne.symm m36, Ne.symm m37]
          rw [e]
          simp only [rv_sets]
          repeat rw [if_neg (by omega)])
      have v0 : vals 0 = .pointer (some ⟨O3, 1, none⟩) := hR.vl 0 (by decide) (hall 0 (by decide))
      have v1 : vals 1 = .slice (some ⟨g, 0, none⟩) nr cap := hR.vl 1 (by decide) (hall 1 (by decide))
      have v2 : vals 2 = .int .i64 (k : Int) := hR.vl 2 (by decide) (hall 2 (by decide))
      have v3 : vals 3 = .pointer (some ⟨O3, 1, none⟩) := hR.vl 3 (by decide) (hall 3 (by decide))
      have v4 : vals 4 = .slice (some ⟨g, 0, none⟩) nr cap := hR.vl 4 (by decide) (hall 4 (by decide))
      have v5 : vals 5 = .int .i64 (nr : Int) := hR.vl 5 (by decide) (hall 5 (by decide))
      have v6 : vals 6 = .int .i64 (j : Int) := hR.vl 6 (by decide) (hall 6 (by decide))
      have v7 : vals 7 = .slice (some ⟨X.heap.size, 0, none⟩) 5 5 := hR.vl 7 (by decide) (hall 7 (by decide))
      have v8 : vals 8 = .int .i64 (k : Int) := hR.vl 8 (by decide) (hall 8 (by decide))
      have v9 : vals 9 = .int .i64 (e : Int) := hR.vl 9 (by decide) (hall 9 (by decide))
      have v10 : vals 10 = .pointer (some ⟨X.heap.size, e, none⟩) := hR.vl 10 (by decide) (hall 10 (by decide))
      have v11 : vals 11 = .int .i64 y := hR.vl 11 (by decide) (hall 11 (by decide))
      have v12 : vals 12 = .pointer (some ⟨g, j, none⟩) := hR.vl 12 (by decide) (hall 12 (by decide))
      have hw := ph2_z hR.wd (hall 13 (by decide))
      subst hw
      subst ha
      clear hR hall hTs
      rw [v0, v1, v2, v3, v4, v5, v6, v7, v8, v9, v10, v11, v12, hT]
      simp only [List.setIfInBounds_toArray, List.set_cons_succ, List.set_cons_zero]
      clear v0 v1 v2 v3 v4 v5 v6 v7 v8 v9 v10 v11 v12 hT T
    clear hZ hY hX cy cg fg lg HLD htj hzj hte hze heI hjI hn0
    obtain ⟨x0, x1, x2, x3, x4, x5⟩ := HZ.out.ob.cells
    obtain ⟨y0, y1, y2, y3, y4, y5⟩ := HZ.out.rb.cells
    have f0 := HZ.out.rb.free 0
    have f1 := HZ.out.rb.free 1
    have f2 := HZ.out.rb.free 2
    have f3 := HZ.out.rb.free 3
    have f4 := HZ.out.rb.free 4
    have f5 := HZ.out.rb.free 5
    have lr := HZ.out.rb.lt
    go_wp2
    obtain ⟨w6, e6, r6, b6, o6⟩ := HZ.out.last HE.out.1 (a := .int .i64 kd) (b := .slice (some ⟨g, 0, none⟩) nr cap) (c := .slice none 0 0) (d := .int .i64 0) (e := .int .i64 (cn : Int)) (f := .int .i64 (cd : Int))
    subst e6
    refine bodyPost_ret (results_cell30 (t := 4) rfl rfl r6) rfl ?_
    have hl := HRL.out
    exact ⟨_, _, _, r.set j y, cn, cd, rfl, o6.ix (by omega) HFT.out, ⟨by rw [List.length_set]; omega, by omega, by omega⟩, b6⟩
  · have c1 := HI.out.ob.cells.2.1
    go_upto_region 9 with (first
      | (go_at_call 14; (with_reducible refine (HM12.out _).mono ?_); rintro e w1 ⟨rfl, hw⟩; subst w1)
      | (go_at_call 14; (with_reducible refine (HM4.out _).mono ?_); rintro e w1 ⟨rfl, hw⟩; subst w1))
    clear c1 qc0 qc1
    obtain ⟨X, hX⟩ : ∃ X, X = w.drew := ⟨_, rfl⟩
    have HX := HI.out.later (w' := X) (by rw [hX]; exact (Below.refl _ _).drew)
    obtain ⟨Y, hY⟩ : ∃ Y, Y = X.alloc (.cells #[.int .i64 1, .int .i64 7, .int .i64 2] 3) := ⟨_, rfl⟩
    have HY := HX.later (w' := Y) (by rw [hY]; exact (Below.refl _ _).alloc (Nat.le_refl _) _)
    obtain ⟨e, he⟩ : ∃ e, e = k % 3 := ⟨_, rfl⟩
    have he3 : e < 3 := by omega
    obtain ⟨y, hy⟩ : ∃ y, y = ([1, 7, 2] : List Int).getD e 0 := ⟨_, rfl⟩
    have hyb : 1 ≤ y ∧ y ≤ 7 := by
      rcases (show e = 0 ∨ e = 1 ∨ e = 2 by omega) with h | h | h <;> rw [h] at hy <;> simp at hy <;> omega
    have cy : Y.cell? ⟨X.heap.size, e, none⟩ = some (.int .i64 y) := by
      have h := heap_alloc_new X (.cells #[.int .i64 1, .int .i64 7, .int .i64 2] 3)
      rw [← hY] at h
      rcases (show e = 0 ∨ e = 1 ∨ e = 2 by omega) with h2 | h2 | h2 <;> rw [h2] at hy ⊢ <;> rw [hy] <;> exact cell_of_row _ _ _ _ _ _ h
    have hYs : W.heap.size + 4 ≤ Y.heap.size := by have := HY.ob.lt; have := HE.out; omega
    obtain ⟨gA, capA, V, hrun, hown, hbl, hgr, hgg, hgl⟩ := push_int HY.o (by omega) hYs y
    obtain ⟨Z, hZ⟩ : ∃ Z, Z = Y.alloc (.cells #[.int .i64 y] 3) := ⟨_, rfl⟩
    have HZ := HY.later (w' := Z) (by rw [hZ]; exact (Below.refl _ _).alloc (Nat.le_refl _) _)
    rw [← hZ] at hrun
    have vO : DBox V (O3) kd (.slice (some ⟨g, 0, none⟩) nr cap) (cn : Int) (cd : Int) := (hbl.block O3 (by have := HE.out; omega)).trans HY.ob
    have vR : DBox V (R2) 0 (.slice none 0 0) 0 0 := (hbl.block R2 (by have := HE.out; omega)).trans HY.rb
    have cg := vO.cells.2.1
    have fg := vO.free 1
    have lg := vO.lt
    obtain ⟨U, hU⟩ : ∃ U, U = V.setCell ⟨O3, 1, none⟩ (.slice (some ⟨gA, 0, none⟩) (nr + 1) capA) := ⟨_, rfl⟩
    have HU : Hid (OdI W U R2 O3 kd (cn : Int) (cd : Int) (.slice (some ⟨gA, 0, none⟩) (nr + 1) capA) gA (nr + 1) capA (r ++ [y])) := Lib.hid (by
      rw [hU]
      exact ⟨(HY.b.trans (hbl.mono (by omega))).setCell (by have := HE.out; simp only; omega) _, vR.other (by have := HE.out; omega), vO.set1, owns_same hown (fun q hq => Below.heap_setCell _ _ _ _ (by have := (own_lt hown hq).1; have := HE.out; simp only; omega))⟩)
    have hte : (k : Int).tmod 3 = (e : Int) := by rw [Int.tmod_eq_emod_of_nonneg (by omega), he]; rfl
    have hze : (k : Int) % 3 = (e : Int) := by rw [he]; rfl
    have heI : (e : Int) < 3 := by omega
    have HLD : Hid (X.cell? ⟨O3, 1, none⟩ = some (.slice (some ⟨g, 0, none⟩) nr cap) ∧ Y.cell? ⟨O3, 1, none⟩ = some (.slice (some ⟨g, 0, none⟩) nr cap) ∧ Z.cell? ⟨O3, 1, none⟩ = some (.slice (some ⟨g, 0, none⟩) nr cap)) := Lib.hid ⟨HX.ob.cells.2.1, HY.ob.cells.2.1, HZ.ob.cells.2.1⟩
    have HFT : Hid (∀ i, I64 ((r ++ [y]).getD i 0)) := Lib.hid (fun i => by
      by_cases hi : i < r.length
      · have := HRF.out i
        simp only [List.getD, List.getElem?_append_left hi] at *
        exact this
      · by_cases hi2 : i = r.length
        · have e : (r ++ [y]).getD i 0 = y := by rw [hi2]; simp [List.getD]
          rw [e]; exact ⟨by omega, by omega⟩
        · rw [out_zero (by simp; omega)]; decide)
    clear HX HY HZ he hy hYs hown hbl hgr hgg hgl vO vR A14
    refine (wpIn_wide (n := 6)).1 ?_
    refine frame_namedIn ?_
    intro T hT
    obtain ⟨R, hRd⟩ : ∃ R : Array Bool → Act → World → Prop, R = (fun l a w' => ∃ vals, RH odCh9 T [some 40, some 41, some 42, some 43, some 44, some 45, some 46, some 47, some 48, some 49, none] (fun l _ w => w = ph4 X Y Z V U 2 7 8 10 l) (fun i u _ => match i with | 0 => u = .pointer (some ⟨O3, 1, none⟩) | 1 => u = .slice (some ⟨g, 0, none⟩) nr cap | 2 => u = .slice (some ⟨X.heap.size, 0, none⟩) 3 3 | 3 => u = .int .i64 (k : Int) | 4 => u = .int .i64 (e : Int) | 5 => u = .pointer (some ⟨X.heap.size, e, none⟩) | 6 => u = .int .i64 y | 7 => u = .slice (some ⟨Y.heap.size, 0, none⟩) 1 1 | 8 => u = .slice (some ⟨gA, 0, none⟩) (nr + 1) capA | 9 => u = .pointer (some ⟨O3, 1, none⟩) | _ => True) vals l a w') := ⟨_, rfl⟩
    refine region_inv (by kernel_rfl) R ?h0r2 ?stepr2 ?finr2
    case h0r2 => rw [hRd]; exact RH.start rfl (fun i j h => by simp [odCh9] at h; simp only [List.length_cons, List.length_nil]; omega) (by show w.drew = _; unfold ph4; rw [if_neg (by decide), if_neg (by decide), if_neg (by decide), if_neg (by decide), hX])
    case stepr2 =>
      rintro l a w' i' hR0 hi'
      have hR1 := hR0
      rw [hRd] at hR1
      obtain ⟨vals, hR⟩ := hR1
      obtain ⟨hl0, o, ho, hdep⟩ := mem_ready.1 hi'
      have h15 : i' < 11 := by
        have := (Array.getElem?_eq_some_iff.1 ho).1
        simpa using this
      rcases (show i' = 0 ∨ i' = 1 ∨ i' = 2 ∨ i' = 3 ∨ i' = 4 ∨ i' = 5 ∨ i' = 6 ∨ i' = 7 ∨ i' = 8 ∨ i' = 9 ∨ i' = 10 by omega) with rfl | rfl | rfl | rfl | rfl | rfl | rfl | rfl | rfl | rfl | rfl
      · simp at ho
        subst ho
        simp [Region.binds] at hdep
        have k0 : a.tmps.getD 5 undef = .pointer (some ⟨O3, 0, none⟩) := (hR.fr.kept rfl (by simp [hT])).trans (by rw [hT]; try rfl)
        have hc : ∀ j, (0, j) ∈ odCh9 → l.getD j true = true := by intro j hj; simp [odCh9] at hj
        clear hi' hdep
        have k0g := k0
        rw [Array.getD_eq_getD_getElem?] at k0g
        unfold wpOpIn
        simp [Region.wanted]
        unfold Oper.wpIn
        simp [Oper.about, execOp, go_sem, Act.eval, k0, k0g]
        rw [hRd]
        exact hR.op 0 40 _ rfl (by decide) hl0 hc (ph4_const hR.wd (by decide) (by decide) (by decide) (by decide)) (fun _ _ h => h) (rfl)
      · simp at ho
        subst ho
        simp [Region.binds] at hdep
        have d0 : l.getD 0 true = true := getD_true (by simp_all)
        have k0 : a.tmps.getD 40 undef = vals 0 := hR.get rfl (by simp_all) (by simp [hT])
        have e0 : vals 0 = .pointer (some ⟨O3, 1, none⟩) := hR.vl 0 (by decide) d0
        rw [e0] at k0
        have hc : ∀ j, (1, j) ∈ odCh9 → l.getD j true = true := by intro j hj; simp [odCh9] at hj; rcases hj with rfl <;> exact getD_true (by simp_all)
        have n8 := hR.no (s := 8) hl0 (fun hs => (hR.dep 8 1 (by decide) hs))
        have n10 := hR.no (s := 10) hl0 (fun hs => (hR.dep 10 1 (by decide) hs))
        clear hi' hdep
        have hcl : w'.cell? ⟨O3, 1, none⟩ = some (.slice (some ⟨g, 0, none⟩) nr cap) := by rcases ph4_xyz hR.wd n8 n10 with h | h | h <;> rw [h] <;> first | exact HLD.out.1 | exact HLD.out.2.1 | exact HLD.out.2.2
        have k0g := k0
        rw [Array.getD_eq_getD_getElem?] at k0g
        unfold wpOpIn
        simp [Region.wanted]
        unfold Oper.wpIn
        simp [Oper.about, execOp, go_sem, Act.eval, k0, k0g, hcl]
        rw [hRd]
        exact hR.op 1 41 _ rfl (by decide) hl0 hc (ph4_const hR.wd (by decide) (by decide) (by decide) (by decide)) (fun _ _ h => h) (rfl)
      · simp at ho
        subst ho
        simp [Region.binds] at hdep
        have hc : ∀ j, (2, j) ∈ odCh9 → l.getD j true = true := by intro j hj; simp [odCh9] at hj
        have n7 := hR.no (s := 7) hl0 (fun hs => (hR.dep 5 2 (by decide) (hR.dep 6 5 (by decide) (hR.dep 7 6 (by decide) hs))))
        have n8 := hR.no (s := 8) hl0 (fun hs => (hR.dep 5 2 (by decide) (hR.dep 6 5 (by decide) (hR.dep 7 6 (by decide) (hR.dep 8 7 (by decide) hs)))))
        have n10 := hR.no (s := 10) hl0 (fun hs => (hR.dep 10 2 (by decide) hs))
        clear hi' hdep
        have hw := ph4_x hR.wd n10 n8 n7 hl0
        rw [hw]
        unfold wpOpIn
        simp [Region.wanted]
        unfold Oper.wpIn
        simp [Oper.about, execOp, go_sem, Act.eval, ]
        rw [hRd]
        exact hR.op 2 42 _ rfl (by decide) hl0 hc (hY.symm.trans (ph4_a (by decide) (by decide) (by decide) n7 n8 n10)) (fun _ _ h => h) (rfl)
      · simp at ho
        subst ho
        simp [Region.binds] at hdep
        have k0 : a.tmps.getD 6 undef = .int .i64 (k : Int) := (hR.fr.kept rfl (by simp [hT])).trans (by rw [hT]; try rfl)
        have hc : ∀ j, (3, j) ∈ odCh9 → l.getD j true = true := by intro j hj; simp [odCh9] at hj
        clear hi' hdep
        have k0g := k0
        rw [Array.getD_eq_getD_getElem?] at k0g
        unfold wpOpIn
        simp [Region.wanted]
        unfold Oper.wpIn
        simp [Oper.about, execOp, go_sem, Act.eval, k0, k0g]
        rw [hRd]
        exact hR.op 3 43 _ rfl (by decide) hl0 hc (ph4_const hR.wd (by decide) (by decide) (by decide) (by decide)) (fun _ _ h => h) (rfl)
      · simp at ho
        subst ho
        simp [Region.binds] at hdep
        have d0 : l.getD 3 true = true := getD_true (by simp_all)
        have k0 : a.tmps.getD 43 undef = vals 3 := hR.get rfl (by simp_all) (by simp [hT])
        have e0 : vals 3 = .int .i64 (k : Int) := hR.vl 3 (by decide) d0
        rw [e0] at k0
        have hc : ∀ j, (4, j) ∈ odCh9 → l.getD j true = true := by intro j hj; simp [odCh9] at hj; rcases hj with rfl <;> exact getD_true (by simp_all)
        clear hi' hdep
        have k0g := k0
        rw [Array.getD_eq_getD_getElem?] at k0g
        unfold wpOpIn
        simp [Region.wanted]
        unfold Oper.wpIn
        simp [Oper.about, execOp, go_sem, Act.eval, k0, k0g, hte, hze]
        rw [hRd]
        exact hR.op 4 44 _ rfl (by decide) hl0 hc (ph4_const hR.wd (by decide) (by decide) (by decide) (by decide)) (fun _ _ h => h) (rfl)
      · simp at ho
        subst ho
        simp [Region.binds] at hdep
        have d0 : l.getD 2 true = true := getD_true (by simp_all)
        have k0 : a.tmps.getD 42 undef = vals 2 := hR.get rfl (by simp_all) (by simp [hT])
        have e0 : vals 2 = .slice (some ⟨X.heap.size, 0, none⟩) 3 3 := hR.vl 2 (by decide) d0
        rw [e0] at k0
        have d1 : l.getD 4 true = true := getD_true (by simp_all)
        have k1 : a.tmps.getD 44 undef = vals 4 := hR.get rfl (by simp_all) (by simp [hT])
        have e1 : vals 4 = .int .i64 (e : Int) := hR.vl 4 (by decide) d1
        rw [e1] at k1
        have hc : ∀ j, (5, j) ∈ odCh9 → l.getD j true = true := by intro j hj; simp [odCh9] at hj; rcases hj with rfl | rfl <;> exact getD_true (by simp_all)
        clear hi' hdep
        have k0g := k0
        rw [Array.getD_eq_getD_getElem?] at k0g
        have k1g := k1
        rw [Array.getD_eq_getD_getElem?] at k1g
        unfold wpOpIn
        simp [Region.wanted]
        unfold Oper.wpIn
        simp [Oper.about, execOp, go_sem, Act.eval, k0, k1, k0g, k1g, heI]
        rw [hRd]
        exact hR.op 5 45 _ rfl (by decide) hl0 hc (ph4_const hR.wd (by decide) (by decide) (by decide) (by decide)) (fun _ _ h => h) (rfl)
      · simp at ho
        subst ho
        simp [Region.binds] at hdep
        have d0 : l.getD 5 true = true := getD_true (by simp_all)
        have k0 : a.tmps.getD 45 undef = vals 5 := hR.get rfl (by simp_all) (by simp [hT])
        have e0 : vals 5 = .pointer (some ⟨X.heap.size, e, none⟩) := hR.vl 5 (by decide) d0
        rw [e0] at k0
        have hc : ∀ j, (6, j) ∈ odCh9 → l.getD j true = true := by intro j hj; simp [odCh9] at hj; rcases hj with rfl <;> exact getD_true (by simp_all)
        have n7 := hR.no (s := 7) hl0 (fun hs => (hR.dep 7 6 (by decide) hs))
        have n8 := hR.no (s := 8) hl0 (fun hs => (hR.dep 7 6 (by decide) (hR.dep 8 7 (by decide) hs)))
        have n10 := hR.no (s := 10) hl0 (fun hs => (hR.dep 10 6 (by decide) hs))
        clear hi' hdep
        have hw := ph4_y hR.wd (hR.dep 5 2 (by decide) d0) n7 n8 n10
        have cy' := cy
        rw [← hw] at cy'
        have k0g := k0
        rw [Array.getD_eq_getD_getElem?] at k0g
        unfold wpOpIn
        simp [Region.wanted]
        unfold Oper.wpIn
        simp [Oper.about, execOp, go_sem, Act.eval, k0, k0g, cy']
        rw [hRd]
        exact hR.op 6 46 _ rfl (by decide) hl0 hc (ph4_const hR.wd (by decide) (by decide) (by decide) (by decide)) (fun _ _ h => h) (rfl)
      · simp at ho
        subst ho
        simp [Region.binds] at hdep
        have d0 : l.getD 6 true = true := getD_true (by simp_all)
        have k0 : a.tmps.getD 46 undef = vals 6 := hR.get rfl (by simp_all) (by simp [hT])
        have e0 : vals 6 = .int .i64 y := hR.vl 6 (by decide) d0
        rw [e0] at k0
        have hc : ∀ j, (7, j) ∈ odCh9 → l.getD j true = true := by intro j hj; simp [odCh9] at hj; rcases hj with rfl <;> exact getD_true (by simp_all)
        have n8 := hR.no (s := 8) hl0 (fun hs => (hR.dep 8 7 (by decide) hs))
        have n10 := hR.no (s := 10) hl0 (fun hs => (hR.dep 10 7 (by decide) hs))
        clear hi' hdep
        have hw := ph4_y hR.wd (hR.dep 5 2 (by decide) (hR.dep 6 5 (by decide) d0)) hl0 n8 n10
        rw [hw]
        have k0g := k0
        rw [Array.getD_eq_getD_getElem?] at k0g
        unfold wpOpIn
        simp [Region.wanted]
        unfold Oper.wpIn
        simp [Oper.about, execOp, go_sem, Act.eval, k0, k0g]
        rw [hRd]
        exact hR.op 7 47 _ rfl (by decide) hl0 hc (hZ.symm.trans (ph4_b (by decide) (by decide) n8 n10)) (fun _ _ h => h) (rfl)
      · simp at ho
        subst ho
        simp [Region.binds] at hdep
        have d0 : l.getD 1 true = true := getD_true (by simp_all)
        have k0 : a.tmps.getD 41 undef = vals 1 := hR.get rfl (by simp_all) (by simp [hT])
        have e0 : vals 1 = .slice (some ⟨g, 0, none⟩) nr cap := hR.vl 1 (by decide) d0
        rw [e0] at k0
        have d1 : l.getD 7 true = true := getD_true (by simp_all)
        have k1 : a.tmps.getD 47 undef = vals 7 := hR.get rfl (by simp_all) (by simp [hT])
        have e1 : vals 7 = .slice (some ⟨Y.heap.size, 0, none⟩) 1 1 := hR.vl 7 (by decide) d1
        rw [e1] at k1
        have hc : ∀ j, (8, j) ∈ odCh9 → l.getD j true = true := by intro j hj; simp [odCh9] at hj; rcases hj with rfl | rfl <;> exact getD_true (by simp_all)
        have n10 := hR.no (s := 10) hl0 (fun hs => (hR.dep 10 8 (by decide) hs))
        clear hi' hdep
        have hw := ph4_z hR.wd d1 hl0 n10
        rw [hw]
        have k0g := k0
        rw [Array.getD_eq_getD_getElem?] at k0g
        have k1g := k1
        rw [Array.getD_eq_getD_getElem?] at k1g
        unfold wpOpIn
        simp [Region.wanted]
        unfold Oper.wpIn
        simp [Oper.about, execOp, go_sem, Act.eval, k0, k1, k0g, k1g, hrun]
        rw [hRd]
        exact hR.op 8 48 _ rfl (by decide) hl0 hc (ph4_c (by decide) n10) (fun _ _ h => h) (rfl)
      · simp at ho
        subst ho
        simp [Region.binds] at hdep
        have k0 : a.tmps.getD 5 undef = .pointer (some ⟨O3, 0, none⟩) := (hR.fr.kept rfl (by simp [hT])).trans (by rw [hT]; try rfl)
        have hc : ∀ j, (9, j) ∈ odCh9 → l.getD j true = true := by intro j hj; simp [odCh9] at hj; rcases hj with rfl | rfl | rfl | rfl | rfl | rfl | rfl | rfl | rfl <;> exact getD_true (by simp_all)
        clear hi' hdep
        have k0g := k0
        rw [Array.getD_eq_getD_getElem?] at k0g
        unfold wpOpIn
        simp [Region.wanted]
        unfold Oper.wpIn
        simp [Oper.about, execOp, go_sem, Act.eval, k0, k0g]
        rw [hRd]
        exact hR.op 9 49 _ rfl (by decide) hl0 hc (ph4_const hR.wd (by decide) (by decide) (by decide) (by decide)) (fun _ _ h => h) (rfl)
      · simp at ho
        subst ho
        simp [Region.binds] at hdep
        have d0 : l.getD 9 true = true := getD_true (by simp_all)
        have k0 : a.tmps.getD 49 undef = vals 9 := hR.get rfl (by simp_all) (by simp [hT])
        have e0 : vals 9 = .pointer (some ⟨O3, 1, none⟩) := hR.vl 9 (by decide) d0
        rw [e0] at k0
        have d1 : l.getD 8 true = true := getD_true (by simp_all)
        have k1 : a.tmps.getD 48 undef = vals 8 := hR.get rfl (by simp_all) (by simp [hT])
        have e1 : vals 8 = .slice (some ⟨gA, 0, none⟩) (nr + 1) capA := hR.vl 8 (by decide) d1
        rw [e1] at k1
        have hc : ∀ j, (10, j) ∈ odCh9 → l.getD j true = true := by intro j hj; simp [odCh9] at hj; rcases hj with rfl | rfl | rfl | rfl | rfl | rfl | rfl | rfl | rfl | rfl <;> exact getD_true (by simp_all)
        clear hi' hdep
        have hw := ph4_v hR.wd d1 hl0
        have cg' := cg
        have fg' := fg
        have lg' := lg
        rw [← hw] at cg' fg' lg'
        have k0g := k0
        rw [Array.getD_eq_getD_getElem?] at k0g
        have k1g := k1
        rw [Array.getD_eq_getD_getElem?] at k1g
        unfold wpOpIn
        simp [Region.wanted]
        unfold Oper.wpIn
        simp [Oper.about, execOp, go_sem, Act.eval, k0, k1, k0g, k1g, cg', fg', lg']
        rw [hRd]
        exact hR.bare 10 undef rfl hl0 hc (by rw [hw, ← hU]; exact ph4_d) (fun _ _ h => h) (fun _ => trivial)
    case' finr2 =>
      rintro l a w' hR0 hz
      rw [hRd] at hR0
      obtain ⟨vals, hR⟩ := hR0
      clear hRd R
      have hnot := List.eq_nil_iff_forall_not_mem.1 hz
      have hk : ∀ k, k < 11 → (l.getD k true = false → False) → l.getD k false = true := fun k h12 h => by
        have hs := hR.size
        cases h' : l.getD k true with
        | false => exact (h h').elim
        | true => simp at hs; simp [Array.getD, hs, h12] at h' ⊢; exact h'
      have st0 := hk 0 (by omega) (fun h => hnot 0 (mem_ready.2 ⟨h, _, rfl, by simp [Region.binds]⟩))
      have st1 := hk 1 (by omega) (fun h => hnot 1 (mem_ready.2 ⟨h, _, rfl, by simp [Region.binds] <;> simp_all⟩))
      have st2 := hk 2 (by omega) (fun h => hnot 2 (mem_ready.2 ⟨h, _, rfl, by simp [Region.binds]⟩))
      have st3 := hk 3 (by omega) (fun h => hnot 3 (mem_ready.2 ⟨h, _, rfl, by simp [Region.binds]⟩))
      have st4 := hk 4 (by omega) (fun h => hnot 4 (mem_ready.2 ⟨h, _, rfl, by simp [Region.binds] <;> simp_all⟩))
      have st5 := hk 5 (by omega) (fun h => hnot 5 (mem_ready.2 ⟨h, _, rfl, by simp [Region.binds] <;> simp_all⟩))
      have st6 := hk 6 (by omega) (fun h => hnot 6 (mem_ready.2 ⟨h, _, rfl, by simp [Region.binds] <;> simp_all⟩))
      have st7 := hk 7 (by omega) (fun h => hnot 7 (mem_ready.2 ⟨h, _, rfl, by simp [Region.binds] <;> simp_all⟩))
      have st8 := hk 8 (by omega) (fun h => hnot 8 (mem_ready.2 ⟨h, _, rfl, by simp [Region.binds] <;> simp_all⟩))
      have st9 := hk 9 (by omega) (fun h => hnot 9 (mem_ready.2 ⟨h, _, rfl, by simp [Region.binds] <;> simp_all⟩))
      have st10 := hk 10 (by omega) (fun h => hnot 10 (mem_ready.2 ⟨h, _, rfl, by simp [Region.binds] <;> simp_all⟩))
      have hall : ∀ i, i < 11 → l.getD i true = true := fun i hi => by
        rcases (show i = 0 ∨ i = 1 ∨ i = 2 ∨ i = 3 ∨ i = 4 ∨ i = 5 ∨ i = 6 ∨ i = 7 ∨ i = 8 ∨ i = 9 ∨ i = 10 by omega) with rfl | rfl | rfl | rfl | rfl | rfl | rfl | rfl | rfl | rfl | rfl
        · exact getD_true st0
        · exact getD_true st1
        · exact getD_true st2
        · exact getD_true st3
        · exact getD_true st4
        · exact getD_true st5
        · exact getD_true st6
        · exact getD_true st7
        · exact getD_true st8
        · exact getD_true st9
        · exact getD_true st10
      clear st0 st1 st2 st3 st4 st5 st6 st7 st8 st9 st10 hk hnot hz
      have hTs : T.size = 78 := by rw [hT]; rfl
      have ha := hR.all (T' := ((((((((((T.setIfInBounds 40 (vals 0)).setIfInBounds 41 (vals 1)).setIfInBounds 42 (vals 2)).setIfInBounds 43 (vals 3)).setIfInBounds 44 (vals 4)).setIfInBounds 45 (vals 5)).setIfInBounds 46 (vals 6)).setIfInBounds 47 (vals 7)).setIfInBounds 48 (vals 8)).setIfInBounds 49 (vals 9))) (fun i hi => hall i (by simpa using hi)) (by simp) (fun j hj => by
        by_cases h1 : j = 40 ∨ j = 41 ∨ j = 42 ∨ j = 43 ∨ j = 44 ∨ j = 45 ∨ j = 46 ∨ j = 47 ∨ j = 48 ∨ j = 49
        · rcases h1 with rfl | rfl | rfl | rfl | rfl | rfl | rfl | rfl | rfl | rfl <;> simp [rv_sets, tOwn, List.findIdx?, List.findIdx?.go, hTs]
        · simp only [not_or] at h1
          obtain ⟨m40, m41, m42, m43, m44, m45, m46, m47, m48, m49⟩ := h1
          have e : tOwn [some 40, some 41, some 42, some 43, some 44, some 45, some 46, some 47, some 48, some 49, none] vals j = none := by
            unfold tOwn
            simp [List.findIdx?, List.findIdx?.go, Ne.symm m40, Ne.symm m41, Ne.symm m42, Ne.symm m43, Ne.symm m44, Ne.symm m45, Ne.symm m46, Ne.symm m47, Ne.symm m48, Ne.symm m49]
          rw [e]
          simp only [rv_sets]
          repeat rw [if_neg (by omega)])
      have v0 : vals 0 = .pointer (some ⟨O3, 1, none⟩) := hR.vl 0 (by decide) (hall 0 (by decide))
      have v1 : vals 1 = .slice (some ⟨g, 0, none⟩) nr cap := hR.vl 1 (by decide) (hall 1 (by decide))
      have v2 : vals 2 = .slice (some ⟨X.heap.size, 0, none⟩) 3 3 := hR.vl 2 (by decide) (hall 2 (by decide))
      have v3 : vals 3 = .int .i64 (k : Int) := hR.vl 3 (by decide) (hall 3 (by decide))
      have v4 : vals 4 = .int .i64 (e : Int) := hR.vl 4 (by decide) (hall 4 (by decide))
      have v5 : vals 5 = .pointer (some ⟨X.heap.size, e, none⟩) := hR.vl 5 (by decide) (hall 5 (by decide))
      have v6 : vals 6 = .int .i64 y := hR.vl 6 (by decide) (hall 6 (by decide))
      have v7 : vals 7 = .slice (some ⟨Y.heap.size, 0, none⟩) 1 1 := hR.vl 7 (by decide) (hall 7 (by decide))
      have v8 : vals 8 = .slice (some ⟨gA, 0, none⟩) (nr + 1) capA := hR.vl 8 (by decide) (hall 8 (by decide))
      have v9 : vals 9 = .pointer (some ⟨O3, 1, none⟩) := hR.vl 9 (by decide) (hall 9 (by decide))
      have hw := ph4_u hR.wd (hall 10 (by decide))
      subst hw
      subst ha
      clear hR hall hTs
      rw [v0, v1, v2, v3, v4, v5, v6, v7, v8, v9, hT]
      simp only [List.setIfInBounds_toArray, List.set_cons_succ, List.set_cons_zero]
      clear v0 v1 v2 v3 v4 v5 v6 v7 v8 v9 hT T
    clear hU hZ hY hX cy cg fg lg HLD hte hze heI hrun
    obtain ⟨x0, x1, x2, x3, x4, x5⟩ := HU.out.ob.cells
    obtain ⟨y0, y1, y2, y3, y4, y5⟩ := HU.out.rb.cells
    have f0 := HU.out.rb.free 0
    have f1 := HU.out.rb.free 1
    have f2 := HU.out.rb.free 2
    have f3 := HU.out.rb.free 3
    have f4 := HU.out.rb.free 4
    have f5 := HU.out.rb.free 5
    have lr := HU.out.rb.lt
    go_wp2
    obtain ⟨w6, e6, r6, b6, o6⟩ := HU.out.last HE.out.1 (a := .int .i64 kd) (b := .slice (some ⟨gA, 0, none⟩) (nr + 1) capA) (c := .slice none 0 0) (d := .int .i64 0) (e := .int .i64 (cn : Int)) (f := .int .i64 (cd : Int))
    subst e6
    refine bodyPost_ret (results_cell30 (t := 4) rfl rfl r6) rfl ?_
    have hl := HRL.out
    exact ⟨_, _, _, r ++ [y], cn, cd, rfl, o6.ix (by omega) HFT.out, ⟨by simp; omega, by omega, by omega⟩, b6⟩
  · have c1 := HI.out.ob.cells.2.1
    have f1' := HI.out.ob.free 1
    have l1' := HI.out.ob.lt
    obtain ⟨j, hj⟩ : ∃ j, j = min k nr := ⟨_, rfl⟩
    have hmin : min (k : Int) (nr : Int) = (j : Int) := by omega
    have hj2 : j ≤ nr := by omega
    have hcap : nr ≤ cap := by
      obtain ⟨g', cap', hge, h9, -, -, -, -, -⟩ := HI.out.o.parts (by omega)
      cases hge; exact h9
    have HJ := Lib.hid hj2
    have HU : Hid (OdI W (w.setCell ⟨O3, 1, none⟩ (.slice (some ⟨g, 0, none⟩) j cap)) R2 O3 kd (cn : Int) (cd : Int) (.slice (some ⟨g, 0, none⟩) j cap) g nr cap r) := Lib.hid ⟨HI.out.b.setCell (by have := HE.out; simp only; omega) _, HI.out.rb.other (by have := HE.out; omega), HI.out.ob.set1, owns_same HI.out.o (fun q hq => Below.heap_setCell _ _ _ _ (by have := (own_lt HI.out.o hq).1; have := HE.out; simp only; omega))⟩
    clear hj A14
    go_upto_region 14 with (first
      | (go_at_call 14; (with_reducible refine (HM12.out _).mono ?_); rintro e w1 ⟨rfl, hw⟩; subst w1)
      | (go_at_call 14; (with_reducible refine (HM4.out _).mono ?_); rintro e w1 ⟨rfl, hw⟩; subst w1))
    generalize (w.setCell ⟨O3, 1, none⟩ (.slice (some ⟨g, 0, none⟩) j cap)) = w at HU ⊢
    clear c1 f1' l1' qc0 qc1
    obtain ⟨x0, x1, x2, x3, x4, x5⟩ := HU.out.ob.cells
    obtain ⟨y0, y1, y2, y3, y4, y5⟩ := HU.out.rb.cells
    have f0 := HU.out.rb.free 0
    have f1 := HU.out.rb.free 1
    have f2 := HU.out.rb.free 2
    have f3 := HU.out.rb.free 3
    have f4 := HU.out.rb.free 4
    have f5 := HU.out.rb.free 5
    have lr := HU.out.rb.lt
    go_wp2
    obtain ⟨w6, e6, r6, b6, o6⟩ := HU.out.last HE.out.1 (a := .int .i64 kd) (b := .slice (some ⟨g, 0, none⟩) j cap) (c := .slice none 0 0) (d := .int .i64 0) (e := .int .i64 (cn : Int)) (f := .int .i64 (cd : Int))
    subst e6
    refine bodyPost_ret (results_cell30 (t := 4) rfl rfl r6) rfl ?_
    have hl := HRL.out
    exact ⟨_, _, _, r.take j, cn, cd, rfl, (o6.ix (by omega) HRF.out).take HJ.out, ⟨by rw [List.length_take]; omega, by omega, by omega⟩, b6⟩
  · have c4 := HI.out.ob.cells.2.2.2.2.1
    have c5 := HI.out.ob.cells.2.2.2.2.2
    go_upto_region 13 with (first
      | (go_at_call 14; (with_reducible refine (HM12.out _).mono ?_); rintro e w1 ⟨rfl, hw⟩; subst w1)
      | (go_at_call 14; (with_reducible refine (HM4.out _).mono ?_); rintro e w1 ⟨rfl, hw⟩; subst w1))
    clear qc0 qc1 c4 c5
    have hw9 : Below w.heap.size w (w.alloc (.cells #[.int .i64 1, .int .i64 3, .int .i64 49, .int .i64 99, .int .i64 50, .int .i64 99, .int .i64 51, .int .i64 101, .int .i64 2, .int .i64 1, .int .i64 2, .int .i64 4, .int .i64 0, .int .i64 0, .int .i64 99, .int .i64 100] 28)) := (Below.refl _ _).alloc (Nat.le_refl _) _
    have hx9 := heap_alloc_new w (.cells #[.int .i64 1, .int .i64 3, .int .i64 49, .int .i64 99, .int .i64 50, .int .i64 99, .int .i64 51, .int .i64 101, .int .i64 2, .int .i64 1, .int .i64 2, .int .i64 4, .int .i64 0, .int .i64 0, .int .i64 99, .int .i64 100] 28)
    have H9 := HI.out.later hw9
    obtain ⟨x, y, hxy, HC⟩ : ∃ x y : Nat, (x ≤ 1000 ∧ y ≤ 1000) ∧ Hid ((w.alloc (.cells #[.int .i64 1, .int .i64 3, .int .i64 49, .int .i64 99, .int .i64 50, .int .i64 99, .int .i64 51, .int .i64 101, .int .i64 2, .int .i64 1, .int .i64 2, .int .i64 4, .int .i64 0, .int .i64 0, .int .i64 99, .int .i64 100] 28)).cell? ⟨w.heap.size, (k % 8) * 2, none⟩ = some (.int .i64 (x : Int)) ∧ (w.alloc (.cells #[.int .i64 1, .int .i64 3, .int .i64 49, .int .i64 99, .int .i64 50, .int .i64 99, .int .i64 51, .int .i64 101, .int .i64 2, .int .i64 1, .int .i64 2, .int .i64 4, .int .i64 0, .int .i64 0, .int .i64 99, .int .i64 100] 28)).cell? ⟨w.heap.size, (k % 8) * 2 + 1, none⟩ = some (.int .i64 (y : Int))) := by
      rcases (show k % 8 = 0 ∨ k % 8 = 1 ∨ k % 8 = 2 ∨ k % 8 = 3 ∨ k % 8 = 4 ∨ k % 8 = 5 ∨ k % 8 = 6 ∨ k % 8 = 7 by omega) with h | h | h | h | h | h | h | h <;> rw [h]
      · exact ⟨1, 3, by omega, Lib.hid ⟨cell_of_row _ _ _ _ _ _ hx9, cell_of_row _ _ _ _ _ _ hx9⟩⟩
      · exact ⟨49, 99, by omega, Lib.hid ⟨cell_of_row _ _ _ _ _ _ hx9, cell_of_row _ _ _ _ _ _ hx9⟩⟩
      · exact ⟨50, 99, by omega, Lib.hid ⟨cell_of_row _ _ _ _ _ _ hx9, cell_of_row _ _ _ _ _ _ hx9⟩⟩
      · exact ⟨51, 101, by omega, Lib.hid ⟨cell_of_row _ _ _ _ _ _ hx9, cell_of_row _ _ _ _ _ _ hx9⟩⟩
      · exact ⟨2, 1, by omega, Lib.hid ⟨cell_of_row _ _ _ _ _ _ hx9, cell_of_row _ _ _ _ _ _ hx9⟩⟩
      · exact ⟨2, 4, by omega, Lib.hid ⟨cell_of_row _ _ _ _ _ _ hx9, cell_of_row _ _ _ _ _ _ hx9⟩⟩
      · exact ⟨0, 0, by omega, Lib.hid ⟨cell_of_row _ _ _ _ _ _ hx9, cell_of_row _ _ _ _ _ _ hx9⟩⟩
      · exact ⟨99, 100, by omega, Lib.hid ⟨cell_of_row _ _ _ _ _ _ hx9, cell_of_row _ _ _ _ _ _ hx9⟩⟩
    obtain ⟨e, he⟩ : ∃ e, e = k % 8 := ⟨_, rfl⟩
    rw [← he] at HC
    have he8 : e < 8 := by omega
    have heI : (e : Int) < 8 := by omega
    have hte : (k : Int).tmod 8 = (e : Int) := by rw [Int.tmod_eq_emod_of_nonneg (by omega), he]; rfl
    have hze : (k : Int) % 8 = (e : Int) := by rw [he]; rfl
    have z0 := HC.out.1
    have z1 := HC.out.2
    obtain ⟨-, -, -, -, c4, c5⟩ := H9.ob.cells
    have f4' := H9.ob.free 4
    have f5' := H9.ob.free 5
    have l9 := H9.ob.lt
    have HU : Hid (OdI W (((w.alloc (.cells #[.int .i64 1, .int .i64 3, .int .i64 49, .int .i64 99, .int .i64 50, .int .i64 99, .int .i64 51, .int .i64 101, .int .i64 2, .int .i64 1, .int .i64 2, .int .i64 4, .int .i64 0, .int .i64 0, .int .i64 99, .int .i64 100] 28)).setCell ⟨O3, 4, none⟩ (.int .i64 (x : Int))).setCell ⟨O3, 5, none⟩ (.int .i64 (y : Int))) R2 O3 kd (x : Int) (y : Int) (.slice (some ⟨g, 0, none⟩) nr cap) g nr cap r) := Lib.hid ⟨(H9.b.setCell (by have := HE.out; simp only; omega) _).setCell (by have := HE.out; simp only; omega) _, (H9.rb.other (by have := HE.out; omega)).other (by have := HE.out; omega), H9.ob.set45, owns_same (owns_same H9.o (fun q hq => Below.heap_setCell _ _ _ _ (by have := (own_lt H9.o hq).1; have := HE.out; simp only; omega))) (fun q hq => Below.heap_setCell _ _ _ _ (by have := (own_lt H9.o hq).1; have := HE.out; simp only; omega))⟩
    clear hw9 hx9 H9 he A14 HC
    go_upto_region 14 with fail
    generalize (((w.alloc (.cells #[.int .i64 1, .int .i64 3, .int .i64 49, .int .i64 99, .int .i64 50, .int .i64 99, .int .i64 51, .int .i64 101, .int .i64 2, .int .i64 1, .int .i64 2, .int .i64 4, .int .i64 0, .int .i64 0, .int .i64 99, .int .i64 100] 28)).setCell ⟨O3, 4, none⟩ (.int .i64 (x : Int))).setCell ⟨O3, 5, none⟩ (.int .i64 (y : Int))) = w at HU ⊢
    clear z0 z1 c4 c5 f4' f5' l9
    obtain ⟨x0, x1, x2, x3, x4, x5⟩ := HU.out.ob.cells
    obtain ⟨y0, y1, y2, y3, y4, y5⟩ := HU.out.rb.cells
    have f0 := HU.out.rb.free 0
    have f1 := HU.out.rb.free 1
    have f2 := HU.out.rb.free 2
    have f3 := HU.out.rb.free 3
    have f4 := HU.out.rb.free 4
    have f5 := HU.out.rb.free 5
    have lr := HU.out.rb.lt
    go_wp2
    obtain ⟨w6, e6, r6, b6, o6⟩ := HU.out.last HE.out.1 (a := .int .i64 kd) (b := .slice (some ⟨g, 0, none⟩) nr cap) (c := .slice none 0 0) (d := .int .i64 0) (e := .int .i64 (x : Int)) (f := .int .i64 (y : Int))
    subst e6
    refine bodyPost_ret (results_cell30 (t := 4) rfl rfl r6) rfl ?_
    have hl := HRL.out
    exact ⟨_, _, _, r, x, y, rfl, o6.ix (by omega) HRF.out, ⟨by omega, by omega, by omega⟩, b6⟩

end Go.Proofs.Ytcpgoaombabfjaa
