/- Contract of num: Div. -/
import Derived.Test.YtdgmjmckeeeljaaGreatDoorY
namespace Go.Proofs.YtdgmjmckeeeljaaGreatDoor
open Go.RowKit

set_option maxRecDepth 10000 in
set_option maxHeartbeats 2000000 in
theorem div_adj {w : World} {x y : Value} {a b : Int} (hx : Nu w x a) (hy : Nu w y b) (hb0 : b ≠ 0) (h0 : a < 0) (hm0 : a.natAbs % b.natAbs ≠ 0)
    (hd : ∀ W va vb, Sl W va (digs a.natAbs) → Sl W vb (digs b.natAbs) → Calls Tryz.prog 44 #[va, vb] W (DivRes W a.natAbs b.natAbs)) :
    Calls Tryz.prog 15 #[x, y] w (DivOut w a b) := by
  obtain ⟨sa, rfl, ha, la⟩ := hx
  obtain ⟨sb, rfl, hb, lb'⟩ := hy
  obtain ⟨d1, d2, d3, d4⟩ := div_signs a b hb0
  have ra := rightB_digs a la
  have rb := rightB_digs b lb'
  obtain ⟨ab, cb, rfl⟩ := hb.mk'
  obtain ⟨lb, hlb⟩ : ∃ lb, lb = (digs b.natAbs).length := ⟨_, rfl⟩
  have hlb0 : lb ≠ 0 := by
    intro h0
    have : digs b.natAbs = [] := List.eq_nil_of_length_eq_zero (by omega)
    have : b.natAbs = 0 := digs_inj (by rw [this, digs_zero])
    omega
  rw [← hlb] at hb lb' ⊢
  obtain ⟨na, hna⟩ : ∃ na, na = decide (a < 0) := ⟨_, rfl⟩
  obtain ⟨nb, hnb⟩ : ∃ nb, nb = decide (b < 0) := ⟨_, rfl⟩
  rw [← hna] at ra d3 ⊢
  rw [← hnb] at rb d3 ⊢
  have R1 : ∀ W, Sl W sa (digs a.natAbs) → Calls Tryz.prog 32 #[.agg #[.bool na, sa]] W fun e w' => e = .returned (.bool true) ∧ w' = W.alloc (.cells #[.bool na, sa] 27) := fun W h => by have := right_any na h (by omega); rwa [ra] at this
  have R2 : ∀ W, Sl W (.slice ab lb cb) (digs b.natAbs) → Calls Tryz.prog 32 #[.agg #[.bool nb, .slice ab lb cb]] W fun e w' => e = .returned (.bool true) ∧ w' = W.alloc (.cells #[.bool nb, .slice ab lb cb] 27) := fun W h => by have := right_any nb h (by omega); rwa [rb] at this
  have HR1 := Lib.hid R1
  have HR2 := Lib.hid R2
  have HD := Lib.hid hd
  have HNA := Lib.hid hna
  have HNB := Lib.hid hnb
  have HLB := Lib.hid hlb
  have D1 := Lib.hid d1
  have D2 := Lib.hid d2
  have D3 := Lib.hid d3
  have D4 := Lib.hid d4
  have hlz : ((lb : Int) == 0) = false := by simp; omega
  clear R1 R2 ra rb hd hna hnb hlb d1 d2 d3 d4 hb0
  go_enter Tryz.func15, Tryz.ntmps15
  go_wp2_with (first | (go_at_call_of 32 (Value.agg #[.bool na, sa]); refine (HR1.out _ (ha.below (by go_grown))).mono ?_; rintro e w' ⟨rfl, rfl⟩) | (go_at_call_of 32 (Value.agg #[.bool nb, .slice ab lb cb]); refine (HR2.out _ (hb.below (by go_grown))).mono ?_; rintro e w' ⟨rfl, rfl⟩))
  have HB : Box4 ((((((w.alloc (.cells #[.bool na, sa] 27)).alloc (.cells #[.bool nb, .slice ab lb cb] 27)).alloc (.cells #[.bool false, .slice none 0 0] 27)).alloc (.cells #[.bool false, .slice none 0 0] 27)).alloc (.cells #[.bool na, sa] 27)).alloc (.cells #[.bool nb, .slice ab lb cb] 27)) w.heap.size na nb sa (.slice ab lb cb) a.natAbs b.natAbs := box4_new ha hb (by go_grown)
  have HBL : Below w.heap.size w ((((((w.alloc (.cells #[.bool na, sa] 27)).alloc (.cells #[.bool nb, .slice ab lb cb] 27)).alloc (.cells #[.bool false, .slice none 0 0] 27)).alloc (.cells #[.bool false, .slice none 0 0] 27)).alloc (.cells #[.bool na, sa] 27)).alloc (.cells #[.bool nb, .slice ab lb cb] 27)) := by go_grown
  obtain ⟨f0, f1, -⟩ := cells_two HB.a
  obtain ⟨g0, g1, -⟩ := cells_two HB.b
  revert HB HBL f0 f1 g0 g1
  generalize ((((((w.alloc (.cells #[.bool na, sa] 27)).alloc (.cells #[.bool nb, .slice ab lb cb] 27)).alloc (.cells #[.bool false, .slice none 0 0] 27)).alloc (.cells #[.bool false, .slice none 0 0] 27)).alloc (.cells #[.bool na, sa] 27)).alloc (.cells #[.bool nb, .slice ab lb cb] 27)) = W
  intro HB HBL f0 f1 g0 g1
  refine (HD.out _ _ _ HB.sa HB.sb).mono ?_
  rintro e W1 ⟨aq, cq, ar, cr, rfl, hsq, hsr, hb1⟩
  have HB1 := HB.below hb1
  have HBL1 := HBL.trans (hb1.mono HBL.size)
  replace hsq := hsq.mono (show w.heap.size + 4 ≤ W.heap.size from HB.lt)
  replace hsr := hsr.mono (show w.heap.size + 4 ≤ W.heap.size from HB.lt)
  obtain ⟨f0', f1', -⟩ := cells_two HB1.a
  obtain ⟨g0', g1', -⟩ := cells_two HB1.b
  obtain ⟨q0', q1', qf0, qf1⟩ := HB1.q.cells
  obtain ⟨r0', r1', rf0, rf1⟩ := HB1.r.cells
  have hlt1 := HB1.lt
  obtain ⟨ql, hql⟩ : ∃ ql, ql = (digs (a.natAbs / b.natAbs)).length := ⟨_, rfl⟩
  obtain ⟨rl, hrl⟩ : ∃ rl, rl = (digs (a.natAbs % b.natAbs)).length := ⟨_, rfl⟩
  rw [← hql] at hsq ⊢
  rw [← hrl] at hsr ⊢
  have HSQ := Lib.hid hsq
  have HSR := Lib.hid hsr
  have HQL := Lib.hid hql
  have HRL := Lib.hid hrl
  have HBB1 := Lib.hid HB1
  clear hsq hsr hql hrl HB1 HB hb1
  obtain rfl : na = true := by rw [HNA.out]; simp; omega
  have hrl0 : 0 < (rl : Int) := by
    have : rl ≠ 0 := by
      intro h
      apply hm0
      have : digs (a.natAbs % b.natAbs) = [] := List.eq_nil_of_length_eq_zero (by rw [← HRL.out]; exact h)
      exact digs_inj (by rw [this, digs_zero])
    omega
  have hone : digs 1 = [1] := digs_small (by omega) (by omega)
  have hq2 := digs_mono (x := a.natAbs / b.natAbs) (y := a.natAbs) (Nat.div_le_self _ _)
  have hr2 := digs_mono (x := a.natAbs % b.natAbs) (y := a.natAbs) (Nat.mod_le _ _)
  have hb0 : 0 < b.natAbs := by
    rcases Nat.eq_zero_or_pos b.natAbs with h | h
    · exfalso; apply hlb0; rw [HLB.out, h, digs_zero]; rfl
    · exact h
  have hmlt := Nat.mod_lt a.natAbs hb0
  have HO : Hid (∀ W : World, Sl (W.alloc (.cells #[.int .u32 1] 59)) (.slice (some ⟨W.heap.size, 0, none⟩) 1 1) (digs 1)) := fun W => by rw [hone]; exact (sl_one W 1 (by omega)).sl
  have HQ2 := Lib.hid hq2
  have HR2B := Lib.hid hr2
  have HML := Lib.hid hmlt
  clear hone hq2 hr2 hmlt hb0
  go_wp2_with fail
  refine (plus_at (HSQ.out.sl.below (by go_grown)) (HO.out W1) (by have := HQ2.out; omega) (by rw [digs_small (by omega) (by omega)]; simp) rfl).mono ?_
  rintro e W2' ⟨aq', cq', rfl, hsq', hb2'⟩
  have hb2 : Below W1.heap.size W1 W2' := Below.trans (by go_grown) (hb2'.mono (by simp))
  replace hsq' := hsq'.mono (B' := w.heap.size + 4) (by simp; omega)
  have HSQ' := Lib.hid hsq'
  have HSR' := Lib.hid (HSR.out.below hb2)
  clear hsq' HSQ HSR hb2' HQL
  have HB1 := HBB1.out.below hb2
  replace HBL1 := HBL1.trans (hb2.mono HBL1.size)
  clear hb2 f0' f1' g0' g1' q0' q1' qf0 qf1 r0' r1' rf0 rf1 HBB1
  obtain ⟨f0', f1', -⟩ := cells_two HB1.a
  obtain ⟨g0', g1', -⟩ := cells_two HB1.b
  obtain ⟨q0', q1', qf0, qf1⟩ := HB1.q.cells
  obtain ⟨r0', r1', rf0, rf1⟩ := HB1.r.cells
  replace hlt1 := HB1.lt
  have HBB1 := Lib.hid HB1
  clear HB1
  obtain ⟨W1, rfl⟩ : ∃ W1, W1 = W2' := ⟨_, rfl⟩
  go_wp2_with fail
  refine (minus_at HBB1.out.sb HSR'.out.sl (by rw [← HLB.out]; exact lb') (by have := HML.out; omega) rfl).mono ?_
  rintro e W3' ⟨ar', cr', rfl, hsr', hb3⟩
  replace hsr' := hsr'.mono (B' := w.heap.size + 4) (by omega)
  have HSR := Lib.hid hsr'
  have HSQ := Lib.hid (HSQ'.out.below hb3)
  clear hsr' HSQ' HSR' HRL hrl0
  have HB1 := HBB1.out.below hb3
  replace HBL1 := HBL1.trans (hb3.mono HBL1.size)
  clear hb3 f0' f1' g0' g1' q0' q1' qf0 qf1 r0' r1' rf0 rf1 HBB1
  obtain ⟨f0', f1', -⟩ := cells_two HB1.a
  obtain ⟨g0', g1', -⟩ := cells_two HB1.b
  obtain ⟨q0', q1', qf0, qf1⟩ := HB1.q.cells
  obtain ⟨r0', r1', rf0, rf1⟩ := HB1.r.cells
  replace hlt1 := HB1.lt
  have HBB1 := Lib.hid HB1
  clear HB1
  obtain ⟨W1, rfl⟩ : ∃ W1, W1 = W3' := ⟨_, rfl⟩
  obtain ⟨ql, hql⟩ : ∃ ql, ql = (digs (a.natAbs / b.natAbs + 1)).length := ⟨_, rfl⟩
  obtain ⟨rl, hrl⟩ : ∃ rl, rl = (digs (b.natAbs - a.natAbs % b.natAbs)).length := ⟨_, rfl⟩
  rw [← hql] at HSQ ⊢
  rw [← hrl] at HSR ⊢
  have HQL := Lib.hid hql
  have HRL := Lib.hid hrl
  clear hql hrl
  obtain ⟨aq, rfl⟩ : ∃ aq, aq = aq' := ⟨_, rfl⟩
  obtain ⟨cq, rfl⟩ : ∃ cq, cq = cq' := ⟨_, rfl⟩
  obtain ⟨ar, rfl⟩ : ∃ ar, ar = ar' := ⟨_, rfl⟩
  obtain ⟨cr, rfl⟩ : ∃ cr, cr = cr' := ⟨_, rfl⟩
  go_wp2_with (go_at_call 47; refine (made_any _ _ _ _ _).mono ?_; rintro e w2 ⟨rfl, rfl⟩)
  have kk := heap_four W1 (.cells #[.bool (mkN (!nb) ql), .slice (mkA aq ql) (mkL ql) (mkC ql cq)] 27) (.cells #[.bool (mkN (!nb) ql), .slice (mkA aq ql) (mkL ql) (mkC ql cq)] 27) (.cells #[.bool (mkN false rl), .slice (mkA ar rl) (mkL rl) (mkC rl cr)] 27) (.cells #[.bool (mkN false rl), .slice (mkA ar rl) (mkL rl) (mkC rl cr)] 27)
  have hW2 : Below W1.heap.size W1 ((((W1.alloc (.cells #[.bool (mkN (!nb) ql), .slice (mkA aq ql) (mkL ql) (mkC ql cq)] 27)).alloc (.cells #[.bool (mkN (!nb) ql), .slice (mkA aq ql) (mkL ql) (mkC ql cq)] 27)).alloc (.cells #[.bool (mkN false rl), .slice (mkA ar rl) (mkL rl) (mkC rl cr)] 27)).alloc (.cells #[.bool (mkN false rl), .slice (mkA ar rl) (mkL rl) (mkC rl cr)] 27)) := by go_grown
  revert kk hW2
  generalize ((((W1.alloc (.cells #[.bool (mkN (!nb) ql), .slice (mkA aq ql) (mkL ql) (mkC ql cq)] 27)).alloc (.cells #[.bool (mkN (!nb) ql), .slice (mkA aq ql) (mkL ql) (mkC ql cq)] 27)).alloc (.cells #[.bool (mkN false rl), .slice (mkA ar rl) (mkL rl) (mkC rl cr)] 27)).alloc (.cells #[.bool (mkN false rl), .slice (mkA ar rl) (mkL rl) (mkC rl cr)] 27)) = W2
  rintro ⟨_, k2, _, k4⟩ hW2
  obtain ⟨x0, x1, -⟩ := cells_two k2
  obtain ⟨y0, y1, -⟩ := cells_two k4
  have HQ2 := HBB1.out.q.below hW2
  have HR2' := HBB1.out.r.below hW2
  obtain ⟨u0, u1, uf0, uf1⟩ := HQ2.cells
  obtain ⟨v0, v1, vf0, vf1⟩ := HR2'.cells
  have K2 := Lib.hid k2
  have K4 := Lib.hid k4
  have HW2 := Lib.hid hW2
  have HQ2' := Lib.hid HQ2
  have HR2'' := Lib.hid HR2'
  have hgt := hlt1
  clear k2 k4 hW2 HQ2 HR2' f0' f1' g0' g1' q0' q1' qf0 qf1 r0' r1' rf0 rf1 f0 f1 g0 g1 HBL
  go_region
  obtain ⟨z0, z1, z2, z3⟩ := res_two HQ2'.out HR2''.out (.inl trivial) (.bool (mkN (!nb) ql)) (.slice (mkA aq ql) (mkL ql) (mkC ql cq)) (.bool (mkN false rl)) (.slice (mkA ar rl) (mkL rl) (mkC rl cr))
  have hfin : Below w.heap.size w ((((W2.setCell ⟨w.heap.size + 1 + 1, 0, none⟩ (.bool (mkN (!nb) ql))).setCell ⟨w.heap.size + 1 + 1, 1, none⟩ (.slice (mkA aq ql) (mkL ql) (mkC ql cq))).setCell ⟨w.heap.size + 1 + 1 + 1, 0, none⟩ (.bool (mkN false rl))).setCell ⟨w.heap.size + 1 + 1 + 1, 1, none⟩ (.slice (mkA ar rl) (mkL rl) (mkC rl cr))) :=
    ((((HBL1.trans (HW2.out.mono HBL1.size)).setCell (by simp; omega) _).setCell (by simp; omega) _).setCell (by simp; omega) _).setCell (by simp; omega) _
  have hsq3 := ((HSQ.out.below HW2.out).after2 (g := w.heap.size + 1 + 1) (by omega) (.bool (mkN (!nb) ql)) (.slice (mkA aq ql) (mkL ql) (mkC ql cq))).after2 (g := w.heap.size + 1 + 1 + 1) (by omega) (.bool (mkN false rl)) (.slice (mkA ar rl) (mkL rl) (mkC rl cr))
  have hsr3 := ((HSR.out.below HW2.out).after2 (g := w.heap.size + 1 + 1) (by omega) (.bool (mkN (!nb) ql)) (.slice (mkA aq ql) (mkL ql) (mkC ql cq))).after2 (g := w.heap.size + 1 + 1 + 1) (by omega) (.bool (mkN false rl)) (.slice (mkA ar rl) (mkL rl) (mkC rl cr))
  revert z0 z1 z2 z3 hfin hsq3 hsr3
  generalize ((((W2.setCell ⟨w.heap.size + 1 + 1, 0, none⟩ (.bool (mkN (!nb) ql))).setCell ⟨w.heap.size + 1 + 1, 1, none⟩ (.slice (mkA aq ql) (mkL ql) (mkC ql cq))).setCell ⟨w.heap.size + 1 + 1 + 1, 0, none⟩ (.bool (mkN false rl))).setCell ⟨w.heap.size + 1 + 1 + 1, 1, none⟩ (.slice (mkA ar rl) (mkL rl) (mkC rl cr))) = W3
  intro z0 z1 z2 z3 hfin hsq3 hsr3
  have H1 := Lib.hid hsq3
  have H2 := Lib.hid hsr3
  have HF := Lib.hid hfin
  clear hsq3 hsr3 hfin x0 x1 y0 y1 u0 u1 uf0 uf1 v0 v1 vf0 vf1
  go_wp2
  refine bodyPost_ret (v := .tuple #[.agg #[.bool (mkN (!nb) ql), .slice (mkA aq ql) (mkL ql) (mkC ql cq)], .agg #[.bool (mkN false rl), .slice (mkA ar rl) (mkL rl) (mkC rl cr)], .bool true]) (by simp [results, Tryz.results15, go_sem, z0, z1, z2, z3]) rfl ?_
  obtain ⟨p1, p2⟩ := D2.out h0 hm0
  have q1 : a.natAbs / b.natAbs + 1 ≤ a.natAbs := by
    have h1 := Nat.div_add_mod a.natAbs b.natAbs
    have h2 := HML.out
    have h3 : 2 * (a.natAbs / b.natAbs) ≤ b.natAbs * (a.natAbs / b.natAbs) := Nat.mul_le_mul_right _ (by omega)
    omega
  have m1 := mk_ok (n := ql) (ao := aq) (cap := cq) (z := a / b) (neg := !nb) (by rw [p1]; exact HQL.out) (by rw [HQL.out]; exact Nat.le_trans (digs_mono q1) la) (fun hz => by have := D3.out hz; simpa using this) (fun _ => by rw [p1]; exact H1.out)
  have m2 := mk_ok (n := rl) (ao := ar) (cap := cr) (z := a % b) (neg := false) (by rw [p2]; exact HRL.out) (by rw [HRL.out]; exact Nat.le_trans (digs_mono (Nat.sub_le _ _)) (by rw [← HLB.out]; exact lb')) (fun _ => by have := D4.out; simp; omega) (fun _ => by rw [p2]; exact H2.out)
  refine ⟨_, _, _, _, _, _, _, _, rfl, HF.out.drew, ⟨_, by rw [m1.1], m1.2.sl.below (Below.drew (Below.refl _ _)), ?_⟩, ⟨_, by rw [m2.1], m2.2.sl.below (Below.drew (Below.refl _ _)), ?_⟩⟩
  · rw [p1]; exact Nat.le_trans (digs_mono q1) la
  · rw [p2]; exact Nat.le_trans (digs_mono (Nat.sub_le _ _)) (by rw [← HLB.out]; exact lb')

/-- num.Div of right numbers. -/
theorem div_any {w : World} {x y : Value} {a b : Int} (hx : Nu w x a) (hy : Nu w y b) (hb0 : b ≠ 0)
    (hd : ∀ W va vb, Sl W va (digs a.natAbs) → Sl W vb (digs b.natAbs) → Calls Tryz.prog 44 #[va, vb] W (DivRes W a.natAbs b.natAbs)) :
    Calls Tryz.prog 15 #[x, y] w (DivOut w a b) := by
  by_cases h0 : 0 ≤ a
  · exact div_pos hx hy hb0 h0 hd
  · by_cases hm : a.natAbs % b.natAbs = 0
    · exact div_neg_whole hx hy hb0 (by omega) hm hd
    · exact div_adj hx hy hb0 (by omega) hm hd

end Go.Proofs.YtdgmjmckeeeljaaGreatDoor
