/- Contract of num: Div. Condition: divide keeps its contract at these arguments. -/
import Derived.Test.YtdgmjmckeeeljaaGreatDoorX
namespace Go.Proofs.YtdgmjmckeeeljaaGreatDoor
open Go.RowKit

theorem heap_four (w : World) (o1 o2 o3 o4 : Obj) : ((((w.alloc o1).alloc o2).alloc o3).alloc o4).heap[w.heap.size]? = some o1 ∧ ((((w.alloc o1).alloc o2).alloc o3).alloc o4).heap[w.heap.size + 1]? = some o2 ∧
    ((((w.alloc o1).alloc o2).alloc o3).alloc o4).heap[w.heap.size + 1 + 1]? = some o3 ∧ ((((w.alloc o1).alloc o2).alloc o3).alloc o4).heap[w.heap.size + 1 + 1 + 1]? = some o4 := by
  obtain ⟨h1, h2, h3⟩ := heap_three w o1 o2 o3
  have h4 := heap_alloc_new (((w.alloc o1).alloc o2).alloc o3) o4
  simp only [World.size_alloc] at h4
  refine ⟨?_, ?_, ?_, h4⟩
  · rw [Below.heap_alloc _ _ _ (by simp only [World.size_alloc]; omega)]; exact h1
  · rw [Below.heap_alloc _ _ _ (by simp only [World.size_alloc]; omega)]; exact h2
  · rw [Below.heap_alloc _ _ _ (by simp only [World.size_alloc]; omega)]; exact h3

/-- The boxes of Div. -/
structure Box4 (W : World) (B : Nat) (na nb : Bool) (sa sb : Value) (x y : Nat) : Prop where
  a : W.heap[B]? = some (.cells #[.bool na, sa] 27 (0, 0))
  b : W.heap[B + 1]? = some (.cells #[.bool nb, sb] 27 (0, 0))
  q : ResBox W (B + 1 + 1)
  r : ResBox W (B + 1 + 1 + 1)
  sa : Sl W sa (digs x)
  sb : Sl W sb (digs y)

theorem Box4.lt {W : World} {B : Nat} {na nb : Bool} {sa sb : Value} {x y : Nat} (h : Box4 W B na nb sa sb x y) : B + 1 + 1 + 1 < W.heap.size := h.r.lt

theorem Box4.below {W W' : World} {B : Nat} {na nb : Bool} {sa sb : Value} {x y : Nat} (h : Box4 W B na nb sa sb x y) (hb : Below W.heap.size W W') : Box4 W' B na nb sa sb x y := by
  have hl := h.lt
  exact ⟨(hb.block _ (by omega)).trans h.a, (hb.block _ (by omega)).trans h.b, h.q.below hb, h.r.below hb, h.sa.below hb, h.sb.below hb⟩

theorem box4_new {w W : World} {na nb : Bool} {sa sb : Value} {x y : Nat} (ha : Sl w sa (digs x)) (hb : Sl w sb (digs y))
    (h : Below (w.heap.size + 4) ((((w.alloc (.cells #[.bool na, sa] 27)).alloc (.cells #[.bool nb, sb] 27)).alloc (.cells #[.bool false, .slice none 0 0] 27)).alloc (.cells #[.bool false, .slice none 0 0] 27)) W) : Box4 W w.heap.size na nb sa sb x y := by
  obtain ⟨h1, h2, h3, h4⟩ := heap_four w (.cells #[.bool na, sa] 27) (.cells #[.bool nb, sb] 27) (.cells #[.bool false, .slice none 0 0] 27) (.cells #[.bool false, .slice none 0 0] 27)
  rw [← h.block _ (by omega)] at h1 h2 h3 h4
  have hw : Below w.heap.size w W := (((((Below.refl _ w).alloc (Nat.le_refl _) _).alloc (by simp) _).alloc (by simp; omega) _).alloc (by simp; omega) _).trans (h.mono (by omega))
  exact ⟨h1, h2, h3, h4, ha.below hw, hb.below hw⟩

/-- What Div returns. -/
def DivOut (w : World) (a b : Int) (e : Ending) (w' : World) : Prop :=
  ∃ n1 a1 l1 c1 n2 a2 l2 c2, e = .returned (.tuple #[.agg #[.bool n1, .slice a1 l1 c1], .agg #[.bool n2, .slice a2 l2 c2], .bool true]) ∧ Below w.heap.size w w' ∧
    Nu w' (.agg #[.bool n1, .slice a1 l1 c1]) (a / b) ∧ Nu w' (.agg #[.bool n2, .slice a2 l2 c2]) (a % b)

theorem res_two {W : World} {g : Nat} (h : ResBox W g) (h' : ResBox W (g + 1)) (_ : True ∨ True) (u0 u1 v0 v1 : Value) :
    ((((W.setCell ⟨g, 0, none⟩ u0).setCell ⟨g, 1, none⟩ u1).setCell ⟨g + 1, 0, none⟩ v0).setCell ⟨g + 1, 1, none⟩ v1).cell? ⟨g, 0, none⟩ = some u0 ∧
    ((((W.setCell ⟨g, 0, none⟩ u0).setCell ⟨g, 1, none⟩ u1).setCell ⟨g + 1, 0, none⟩ v0).setCell ⟨g + 1, 1, none⟩ v1).cell? ⟨g, 1, none⟩ = some u1 ∧
    ((((W.setCell ⟨g, 0, none⟩ u0).setCell ⟨g, 1, none⟩ u1).setCell ⟨g + 1, 0, none⟩ v0).setCell ⟨g + 1, 1, none⟩ v1).cell? ⟨g + 1, 0, none⟩ = some v0 ∧
    ((((W.setCell ⟨g, 0, none⟩ u0).setCell ⟨g, 1, none⟩ u1).setCell ⟨g + 1, 0, none⟩ v0).setCell ⟨g + 1, 1, none⟩ v1).cell? ⟨g + 1, 1, none⟩ = some v1 := by
  obtain ⟨a0, a1⟩ := h.stored u0 u1
  have hx : ResBox ((W.setCell ⟨g, 0, none⟩ u0).setCell ⟨g, 1, none⟩ u1) (g + 1) := by
    unfold ResBox
    rw [heap_setCell_other _ _ _ _ (by simp), heap_setCell_other _ _ _ _ (by simp)]
    exact h'
  obtain ⟨b0, b1⟩ := hx.stored v0 v1
  refine ⟨?_, ?_, b0, b1⟩
  · rw [cell_other (by simp), cell_other (by simp)]; exact a0
  · rw [cell_other (by simp), cell_other (by simp)]; exact a1

theorem div_uniq {n d k m : Nat} (h : n = d * k + m) (hm : m < d) : n / d = k ∧ n % d = m := by
  subst h
  exact ⟨by rw [Nat.mul_add_div (by omega), Nat.div_eq_of_lt hm, Nat.add_zero], by rw [Nat.mul_add_mod, Nat.mod_eq_of_lt hm]⟩

theorem div_signs (a b : Int) (hb : b ≠ 0) :
    (0 ≤ a ∨ a.natAbs % b.natAbs = 0 → (a / b).natAbs = a.natAbs / b.natAbs ∧ (a % b).natAbs = a.natAbs % b.natAbs) ∧
    (a < 0 → a.natAbs % b.natAbs ≠ 0 → (a / b).natAbs = a.natAbs / b.natAbs + 1 ∧ (a % b).natAbs = b.natAbs - a.natAbs % b.natAbs) ∧
    (a / b ≠ 0 → (!(decide (a < 0) == decide (b < 0))) = decide (a / b < 0)) ∧ 0 ≤ a % b := by
  have h1 := Int.mul_ediv_add_emod a b
  have h2 := Int.emod_nonneg a hb
  have h3 := Int.emod_lt a hb
  obtain ⟨q, hq⟩ : ∃ q, q = a / b := ⟨_, rfl⟩
  obtain ⟨r, hr⟩ : ∃ r, r = a % b := ⟨_, rfl⟩
  rw [← hq, ← hr] at h1 ⊢
  rw [← hr] at h2 h3
  have hP : (b * q).natAbs = b.natAbs * q.natAbs := Int.natAbs_mul b q
  have hbig : q ≠ 0 → b.natAbs ≤ b.natAbs * q.natAbs := fun h => Nat.le_mul_of_pos_right _ (by omega)
  obtain ⟨P, hPP⟩ : ∃ P : Int, P = b * q := ⟨_, rfl⟩
  rw [← hPP] at h1 hP
  have hsame : 0 < b * q → (decide (b < 0) = decide (q < 0)) := fun h => by
    rcases Int.lt_or_gt_of_ne hb with hb1 | hb1
    · by_cases hq1 : q < 0
      · simp [hb1, hq1]
      · have := Int.mul_nonpos_of_nonpos_of_nonneg (show b ≤ 0 by omega) (show 0 ≤ q by omega); omega
    · by_cases hq1 : q < 0
      · have := Int.mul_neg_of_pos_of_neg hb1 hq1; omega
      · have h4 : ¬ b < 0 := by omega
        simp [h4, hq1]
  have hdiff : b * q < 0 → (decide (b < 0) = !(decide (q < 0))) := fun h => by
    rcases Int.lt_or_gt_of_ne hb with hb1 | hb1
    · by_cases hq1 : q < 0
      · have := Int.mul_pos_of_neg_of_neg hb1 hq1; omega
      · simp [hb1, hq1]
    · by_cases hq1 : q < 0
      · have h4 : ¬ b < 0 := by omega
        simp [h4, hq1]
      · have := Int.mul_nonneg (show 0 ≤ b by omega) (show 0 ≤ q by omega); omega
  rw [← hPP] at hsame hdiff
  have hz : q = 0 → P = 0 := fun h => by rw [hPP, h, Int.mul_zero]
  obtain ⟨M, hM⟩ : ∃ M, M = b.natAbs * q.natAbs := ⟨_, rfl⟩
  rw [← hM] at hP hbig
  refine ⟨fun h => ?_, fun h hne => ?_, fun hq0 => ?_, h2⟩
  · by_cases ha : 0 ≤ a
    · have hpos : 0 ≤ P := by
        by_cases hq0 : q = 0
        · rw [hz hq0]; omega
        · have := hbig hq0; omega
      obtain ⟨u1, u2⟩ := div_uniq (n := a.natAbs) (d := b.natAbs) (k := q.natAbs) (m := r.natAbs) (by rw [← hM]; omega) (by omega)
      exact ⟨u1.symm, u2.symm⟩
    · have hm : a.natAbs % b.natAbs = 0 := h.resolve_left ha
      have hr0 : r = 0 := by
        by_cases hr0 : r = 0
        · exact hr0
        · exfalso
          have hq0 : q ≠ 0 := fun h0 => by rw [hz h0] at h1; omega
          have hM1 : b.natAbs * (q.natAbs - 1) = M - b.natAbs := by rw [Nat.mul_sub_one, ← hM]
          have hb' := hbig hq0
          obtain ⟨_, u2⟩ := div_uniq (n := a.natAbs) (d := b.natAbs) (k := q.natAbs - 1) (m := b.natAbs - r.natAbs) (by rw [hM1]; omega) (by omega)
          omega
      obtain ⟨u1, u2⟩ := div_uniq (n := a.natAbs) (d := b.natAbs) (k := q.natAbs) (m := 0) (by rw [← hM]; omega) (by omega)
      exact ⟨u1.symm, by rw [u2, hr0]; rfl⟩
  · have hq0 : q ≠ 0 := fun h0 => by rw [hz h0] at h1; omega
    have hr0 : r ≠ 0 := fun h0 => by
      apply hne
      exact (div_uniq (n := a.natAbs) (d := b.natAbs) (k := q.natAbs) (m := 0) (by rw [← hM]; omega) (by omega)).2
    have hM1 : b.natAbs * (q.natAbs - 1) = M - b.natAbs := by rw [Nat.mul_sub_one, ← hM]
    have hb' := hbig hq0
    obtain ⟨u1, u2⟩ := div_uniq (n := a.natAbs) (d := b.natAbs) (k := q.natAbs - 1) (m := b.natAbs - r.natAbs) (by rw [hM1]; omega) (by omega)
    rw [u1, u2]
    omega
  · by_cases ha : 0 ≤ a
    · have hpos : 0 < P := by have := hbig hq0; omega
      have hn : ¬ a < 0 := by omega
      rw [hsame hpos]
      simp [hn]
    · have hneg : P < 0 := by have := hbig hq0; omega
      have hn : a < 0 := by omega
      rw [hdiff hneg]
      simp [hn]

set_option maxRecDepth 10000 in
set_option maxHeartbeats 2000000 in
theorem div_pos {w : World} {x y : Value} {a b : Int} (hx : Nu w x a) (hy : Nu w y b) (hb0 : b ≠ 0) (h0 : 0 ≤ a)
    (hd : ∀ W va vb, Sl W va (digs a.natAbs) → Sl W vb (digs b.natAbs) → Calls Tryz.prog 44 #[va, vb] W (DivRes W a.natAbs b.natAbs)) :
    Calls Tryz.prog 15 #[x, y] w (DivOut w a b) := by
  obtain ⟨sa, rfl, ha, la⟩ := hx
  obtain ⟨sb, rfl, hb, lb'⟩ := hy
  obtain ⟨d1, d2, d3, d4⟩ := div_signs a b hb0
  have ra := rightB_digs a la
  have rb := rightB_digs b lb'
  obtain ⟨ab, cb, rfl⟩ := hb.mk'
  obtain ⟨lb, hlb⟩ : ∃ lb, lb = (digs b.natAbs).length := ⟨_, rfl⟩
  have hlb0 : lb ≠ 0 := by
    intro h0
    have : digs b.natAbs = [] := List.eq_nil_of_length_eq_zero (by omega)
    have : b.natAbs = 0 := digs_inj (by rw [this, digs_zero])
    omega
  rw [← hlb] at hb lb' ⊢
  obtain ⟨na, hna⟩ : ∃ na, na = decide (a < 0) := ⟨_, rfl⟩
  obtain ⟨nb, hnb⟩ : ∃ nb, nb = decide (b < 0) := ⟨_, rfl⟩
  rw [← hna] at ra d3 ⊢
  rw [← hnb] at rb d3 ⊢
  have R1 : ∀ W, Sl W sa (digs a.natAbs) → Calls Tryz.prog 32 #[.agg #[.bool na, sa]] W fun e w' => e = .returned (.bool true) ∧ w' = W.alloc (.cells #[.bool na, sa] 27) := fun W h => by have := right_any na h (by omega); rwa [ra] at this
  have R2 : ∀ W, Sl W (.slice ab lb cb) (digs b.natAbs) → Calls Tryz.prog 32 #[.agg #[.bool nb, .slice ab lb cb]] W fun e w' => e = .returned (.bool true) ∧ w' = W.alloc (.cells #[.bool nb, .slice ab lb cb] 27) := fun W h => by have := right_any nb h (by omega); rwa [rb] at this
  have HR1 := Lib.hid R1
  have HR2 := Lib.hid R2
  have HD := Lib.hid hd
  have HNA := Lib.hid hna
  have HNB := Lib.hid hnb
  have HLB := Lib.hid hlb
  have D1 := Lib.hid d1
  have D2 := Lib.hid d2
  have D3 := Lib.hid d3
  have D4 := Lib.hid d4
  have hlz : ((lb : Int) == 0) = false := by simp; omega
  clear R1 R2 ra rb hd hna hnb hlb d1 d2 d3 d4 hb0
  go_enter Tryz.func15, Tryz.ntmps15
  go_wp2_with (first | (go_at_call_of 32 (Value.agg #[.bool na, sa]); refine (HR1.out _ (ha.below (by go_grown))).mono ?_; rintro e w' ⟨rfl, rfl⟩) | (go_at_call_of 32 (Value.agg #[.bool nb, .slice ab lb cb]); refine (HR2.out _ (hb.below (by go_grown))).mono ?_; rintro e w' ⟨rfl, rfl⟩))
  have HB : Box4 ((((((w.alloc (.cells #[.bool na, sa] 27)).alloc (.cells #[.bool nb, .slice ab lb cb] 27)).alloc (.cells #[.bool false, .slice none 0 0] 27)).alloc (.cells #[.bool false, .slice none 0 0] 27)).alloc (.cells #[.bool na, sa] 27)).alloc (.cells #[.bool nb, .slice ab lb cb] 27)) w.heap.size na nb sa (.slice ab lb cb) a.natAbs b.natAbs := box4_new ha hb (by go_grown)
  have HBL : Below w.heap.size w ((((((w.alloc (.cells #[.bool na, sa] 27)).alloc (.cells #[.bool nb, .slice ab lb cb] 27)).alloc (.cells #[.bool false, .slice none 0 0] 27)).alloc (.cells #[.bool false, .slice none 0 0] 27)).alloc (.cells #[.bool na, sa] 27)).alloc (.cells #[.bool nb, .slice ab lb cb] 27)) := by go_grown
  obtain ⟨f0, f1, -⟩ := cells_two HB.a
  obtain ⟨g0, g1, -⟩ := cells_two HB.b
  revert HB HBL f0 f1 g0 g1
  generalize ((((((w.alloc (.cells #[.bool na, sa] 27)).alloc (.cells #[.bool nb, .slice ab lb cb] 27)).alloc (.cells #[.bool false, .slice none 0 0] 27)).alloc (.cells #[.bool false, .slice none 0 0] 27)).alloc (.cells #[.bool na, sa] 27)).alloc (.cells #[.bool nb, .slice ab lb cb] 27)) = W
  intro HB HBL f0 f1 g0 g1
  refine (HD.out _ _ _ HB.sa HB.sb).mono ?_
  rintro e W1 ⟨aq, cq, ar, cr, rfl, hsq, hsr, hb1⟩
  have HB1 := HB.below hb1
  have HBL1 := HBL.trans (hb1.mono HBL.size)
  replace hsq := hsq.mono (show w.heap.size + 4 ≤ W.heap.size from HB.lt)
  replace hsr := hsr.mono (show w.heap.size + 4 ≤ W.heap.size from HB.lt)
  obtain ⟨f0', f1', -⟩ := cells_two HB1.a
  obtain ⟨g0', g1', -⟩ := cells_two HB1.b
  obtain ⟨q0', q1', qf0, qf1⟩ := HB1.q.cells
  obtain ⟨r0', r1', rf0, rf1⟩ := HB1.r.cells
  have hlt1 := HB1.lt
  obtain ⟨ql, hql⟩ : ∃ ql, ql = (digs (a.natAbs / b.natAbs)).length := ⟨_, rfl⟩
  obtain ⟨rl, hrl⟩ : ∃ rl, rl = (digs (a.natAbs % b.natAbs)).length := ⟨_, rfl⟩
  rw [← hql] at hsq ⊢
  rw [← hrl] at hsr ⊢
  have HSQ := Lib.hid hsq
  have HSR := Lib.hid hsr
  have HQL := Lib.hid hql
  have HRL := Lib.hid hrl
  have HBB1 := Lib.hid HB1
  clear hsq hsr hql hrl HB1 HB hb1
  obtain rfl : na = false := by rw [HNA.out]; simp; omega
  go_wp2_with (go_at_call 47; refine (made_any _ _ _ _ _).mono ?_; rintro e w2 ⟨rfl, rfl⟩)
  have kk := heap_four W1 (.cells #[.bool (mkN nb ql), .slice (mkA aq ql) (mkL ql) (mkC ql cq)] 27) (.cells #[.bool (mkN nb ql), .slice (mkA aq ql) (mkL ql) (mkC ql cq)] 27) (.cells #[.bool (mkN false rl), .slice (mkA ar rl) (mkL rl) (mkC rl cr)] 27) (.cells #[.bool (mkN false rl), .slice (mkA ar rl) (mkL rl) (mkC rl cr)] 27)
  have hW2 : Below W1.heap.size W1 ((((W1.alloc (.cells #[.bool (mkN nb ql), .slice (mkA aq ql) (mkL ql) (mkC ql cq)] 27)).alloc (.cells #[.bool (mkN nb ql), .slice (mkA aq ql) (mkL ql) (mkC ql cq)] 27)).alloc (.cells #[.bool (mkN false rl), .slice (mkA ar rl) (mkL rl) (mkC rl cr)] 27)).alloc (.cells #[.bool (mkN false rl), .slice (mkA ar rl) (mkL rl) (mkC rl cr)] 27)) := by go_grown
  revert kk hW2
  generalize ((((W1.alloc (.cells #[.bool (mkN nb ql), .slice (mkA aq ql) (mkL ql) (mkC ql cq)] 27)).alloc (.cells #[.bool (mkN nb ql), .slice (mkA aq ql) (mkL ql) (mkC ql cq)] 27)).alloc (.cells #[.bool (mkN false rl), .slice (mkA ar rl) (mkL rl) (mkC rl cr)] 27)).alloc (.cells #[.bool (mkN false rl), .slice (mkA ar rl) (mkL rl) (mkC rl cr)] 27)) = W2
  rintro ⟨_, k2, _, k4⟩ hW2
  obtain ⟨x0, x1, -⟩ := cells_two k2
  obtain ⟨y0, y1, -⟩ := cells_two k4
  have HQ2 := HBB1.out.q.below hW2
  have HR2' := HBB1.out.r.below hW2
  obtain ⟨u0, u1, uf0, uf1⟩ := HQ2.cells
  obtain ⟨v0, v1, vf0, vf1⟩ := HR2'.cells
  have K2 := Lib.hid k2
  have K4 := Lib.hid k4
  have HW2 := Lib.hid hW2
  have HQ2' := Lib.hid HQ2
  have HR2'' := Lib.hid HR2'
  have hgt := hlt1
  clear k2 k4 hW2 HQ2 HR2' f0' f1' g0' g1' q0' q1' qf0 qf1 r0' r1' rf0 rf1 f0 f1 g0 g1 HBL
  go_region
  obtain ⟨z0, z1, z2, z3⟩ := res_two HQ2'.out HR2''.out (.inl trivial) (.bool (mkN nb ql)) (.slice (mkA aq ql) (mkL ql) (mkC ql cq)) (.bool (mkN false rl)) (.slice (mkA ar rl) (mkL rl) (mkC rl cr))
  have hfin : Below w.heap.size w ((((W2.setCell ⟨w.heap.size + 1 + 1, 0, none⟩ (.bool (mkN nb ql))).setCell ⟨w.heap.size + 1 + 1, 1, none⟩ (.slice (mkA aq ql) (mkL ql) (mkC ql cq))).setCell ⟨w.heap.size + 1 + 1 + 1, 0, none⟩ (.bool (mkN false rl))).setCell ⟨w.heap.size + 1 + 1 + 1, 1, none⟩ (.slice (mkA ar rl) (mkL rl) (mkC rl cr))) :=
    ((((HBL1.trans (HW2.out.mono HBL1.size)).setCell (by simp; omega) _).setCell (by simp; omega) _).setCell (by simp; omega) _).setCell (by simp; omega) _
  have hsq3 := ((HSQ.out.below HW2.out).after2 (g := w.heap.size + 1 + 1) (by omega) (.bool (mkN nb ql)) (.slice (mkA aq ql) (mkL ql) (mkC ql cq))).after2 (g := w.heap.size + 1 + 1 + 1) (by omega) (.bool (mkN false rl)) (.slice (mkA ar rl) (mkL rl) (mkC rl cr))
  have hsr3 := ((HSR.out.below HW2.out).after2 (g := w.heap.size + 1 + 1) (by omega) (.bool (mkN nb ql)) (.slice (mkA aq ql) (mkL ql) (mkC ql cq))).after2 (g := w.heap.size + 1 + 1 + 1) (by omega) (.bool (mkN false rl)) (.slice (mkA ar rl) (mkL rl) (mkC rl cr))
  revert z0 z1 z2 z3 hfin hsq3 hsr3
  generalize ((((W2.setCell ⟨w.heap.size + 1 + 1, 0, none⟩ (.bool (mkN nb ql))).setCell ⟨w.heap.size + 1 + 1, 1, none⟩ (.slice (mkA aq ql) (mkL ql) (mkC ql cq))).setCell ⟨w.heap.size + 1 + 1 + 1, 0, none⟩ (.bool (mkN false rl))).setCell ⟨w.heap.size + 1 + 1 + 1, 1, none⟩ (.slice (mkA ar rl) (mkL rl) (mkC rl cr))) = W3
  intro z0 z1 z2 z3 hfin hsq3 hsr3
  have H1 := Lib.hid hsq3
  have H2 := Lib.hid hsr3
  have HF := Lib.hid hfin
  clear hsq3 hsr3 hfin x0 x1 y0 y1 u0 u1 uf0 uf1 v0 v1 vf0 vf1
  go_wp2
  refine bodyPost_ret (v := .tuple #[.agg #[.bool (mkN nb ql), .slice (mkA aq ql) (mkL ql) (mkC ql cq)], .agg #[.bool (mkN false rl), .slice (mkA ar rl) (mkL rl) (mkC rl cr)], .bool true]) (by simp [results, Tryz.results15, go_sem, z0, z1, z2, z3]) rfl ?_
  obtain ⟨p1, p2⟩ := D1.out (.inl h0)
  have m1 := mk_ok (n := ql) (ao := aq) (cap := cq) (z := a / b) (neg := nb) (by rw [p1]; exact HQL.out) (by rw [HQL.out]; exact Nat.le_trans (digs_mono (Nat.div_le_self _ _)) la) (fun hz => by have := D3.out hz; simpa using this) (fun _ => by rw [p1]; exact H1.out)
  have m2 := mk_ok (n := rl) (ao := ar) (cap := cr) (z := a % b) (neg := false) (by rw [p2]; exact HRL.out) (by rw [HRL.out]; exact Nat.le_trans (digs_mono (Nat.mod_le _ _)) la) (fun _ => by have := D4.out; simp; omega) (fun _ => by rw [p2]; exact H2.out)
  refine ⟨_, _, _, _, _, _, _, _, rfl, HF.out.drew, ⟨_, by rw [m1.1], m1.2.sl.below (Below.drew (Below.refl _ _)), ?_⟩, ⟨_, by rw [m2.1], m2.2.sl.below (Below.drew (Below.refl _ _)), ?_⟩⟩
  · rw [p1]; exact Nat.le_trans (digs_mono (Nat.div_le_self _ _)) la
  · rw [p2]; exact Nat.le_trans (digs_mono (Nat.mod_le _ _)) la

set_option maxRecDepth 10000 in
set_option maxHeartbeats 2000000 in
theorem div_neg_whole {w : World} {x y : Value} {a b : Int} (hx : Nu w x a) (hy : Nu w y b) (hb0 : b ≠ 0) (h0 : a < 0) (hm0 : a.natAbs % b.natAbs = 0)
    (hd : ∀ W va vb, Sl W va (digs a.natAbs) → Sl W vb (digs b.natAbs) → Calls Tryz.prog 44 #[va, vb] W (DivRes W a.natAbs b.natAbs)) :
    Calls Tryz.prog 15 #[x, y] w (DivOut w a b) := by
  obtain ⟨sa, rfl, ha, la⟩ := hx
  obtain ⟨sb, rfl, hb, lb'⟩ := hy
  obtain ⟨d1, d2, d3, d4⟩ := div_signs a b hb0
  have ra := rightB_digs a la
  have rb := rightB_digs b lb'
  obtain ⟨ab, cb, rfl⟩ := hb.mk'
  obtain ⟨lb, hlb⟩ : ∃ lb, lb = (digs b.natAbs).length := ⟨_, rfl⟩
  have hlb0 : lb ≠ 0 := by
    intro h0
    have : digs b.natAbs = [] := List.eq_nil_of_length_eq_zero (by omega)
    have : b.natAbs = 0 := digs_inj (by rw [this, digs_zero])
    omega
  rw [← hlb] at hb lb' ⊢
  obtain ⟨na, hna⟩ : ∃ na, na = decide (a < 0) := ⟨_, rfl⟩
  obtain ⟨nb, hnb⟩ : ∃ nb, nb = decide (b < 0) := ⟨_, rfl⟩
  rw [← hna] at ra d3 ⊢
  rw [← hnb] at rb d3 ⊢
  have R1 : ∀ W, Sl W sa (digs a.natAbs) → Calls Tryz.prog 32 #[.agg #[.bool na, sa]] W fun e w' => e = .returned (.bool true) ∧ w' = W.alloc (.cells #[.bool na, sa] 27) := fun W h => by have := right_any na h (by omega); rwa [ra] at this
  have R2 : ∀ W, Sl W (.slice ab lb cb) (digs b.natAbs) → Calls Tryz.prog 32 #[.agg #[.bool nb, .slice ab lb cb]] W fun e w' => e = .returned (.bool true) ∧ w' = W.alloc (.cells #[.bool nb, .slice ab lb cb] 27) := fun W h => by have := right_any nb h (by omega); rwa [rb] at this
  have HR1 := Lib.hid R1
  have HR2 := Lib.hid R2
  have HD := Lib.hid hd
  have HNA := Lib.hid hna
  have HNB := Lib.hid hnb
  have HLB := Lib.hid hlb
  have D1 := Lib.hid d1
  have D2 := Lib.hid d2
  have D3 := Lib.hid d3
  have D4 := Lib.hid d4
  have hlz : ((lb : Int) == 0) = false := by simp; omega
  clear R1 R2 ra rb hd hna hnb hlb d1 d2 d3 d4 hb0
  go_enter Tryz.func15, Tryz.ntmps15
  go_wp2_with (first | (go_at_call_of 32 (Value.agg #[.bool na, sa]); refine (HR1.out _ (ha.below (by go_grown))).mono ?_; rintro e w' ⟨rfl, rfl⟩) | (go_at_call_of 32 (Value.agg #[.bool nb, .slice ab lb cb]); refine (HR2.out _ (hb.below (by go_grown))).mono ?_; rintro e w' ⟨rfl, rfl⟩))
  have HB : Box4 ((((((w.alloc (.cells #[.bool na, sa] 27)).alloc (.cells #[.bool nb, .slice ab lb cb] 27)).alloc (.cells #[.bool false, .slice none 0 0] 27)).alloc (.cells #[.bool false, .slice none 0 0] 27)).alloc (.cells #[.bool na, sa] 27)).alloc (.cells #[.bool nb, .slice ab lb cb] 27)) w.heap.size na nb sa (.slice ab lb cb) a.natAbs b.natAbs := box4_new ha hb (by go_grown)
  have HBL : Below w.heap.size w ((((((w.alloc (.cells #[.bool na, sa] 27)).alloc (.cells #[.bool nb, .slice ab lb cb] 27)).alloc (.cells #[.bool false, .slice none 0 0] 27)).alloc (.cells #[.bool false, .slice none 0 0] 27)).alloc (.cells #[.bool na, sa] 27)).alloc (.cells #[.bool nb, .slice ab lb cb] 27)) := by go_grown
  obtain ⟨f0, f1, -⟩ := cells_two HB.a
  obtain ⟨g0, g1, -⟩ := cells_two HB.b
  revert HB HBL f0 f1 g0 g1
  generalize ((((((w.alloc (.cells #[.bool na, sa] 27)).alloc (.cells #[.bool nb, .slice ab lb cb] 27)).alloc (.cells #[.bool false, .slice none 0 0] 27)).alloc (.cells #[.bool false, .slice none 0 0] 27)).alloc (.cells #[.bool na, sa] 27)).alloc (.cells #[.bool nb, .slice ab lb cb] 27)) = W
  intro HB HBL f0 f1 g0 g1
  refine (HD.out _ _ _ HB.sa HB.sb).mono ?_
  rintro e W1 ⟨aq, cq, ar, cr, rfl, hsq, hsr, hb1⟩
  have HB1 := HB.below hb1
  have HBL1 := HBL.trans (hb1.mono HBL.size)
  replace hsq := hsq.mono (show w.heap.size + 4 ≤ W.heap.size from HB.lt)
  replace hsr := hsr.mono (show w.heap.size + 4 ≤ W.heap.size from HB.lt)
  obtain ⟨f0', f1', -⟩ := cells_two HB1.a
  obtain ⟨g0', g1', -⟩ := cells_two HB1.b
  obtain ⟨q0', q1', qf0, qf1⟩ := HB1.q.cells
  obtain ⟨r0', r1', rf0, rf1⟩ := HB1.r.cells
  have hlt1 := HB1.lt
  obtain ⟨ql, hql⟩ : ∃ ql, ql = (digs (a.natAbs / b.natAbs)).length := ⟨_, rfl⟩
  obtain ⟨rl, hrl⟩ : ∃ rl, rl = (digs (a.natAbs % b.natAbs)).length := ⟨_, rfl⟩
  rw [← hql] at hsq ⊢
  rw [← hrl] at hsr ⊢
  have HSQ := Lib.hid hsq
  have HSR := Lib.hid hsr
  have HQL := Lib.hid hql
  have HRL := Lib.hid hrl
  have HBB1 := Lib.hid HB1
  clear hsq hsr hql hrl HB1 HB hb1
  obtain rfl : na = true := by rw [HNA.out]; simp; omega
  obtain rfl : rl = 0 := by rw [HRL.out, hm0, digs_zero]; rfl
  go_wp2_with (go_at_call 47; refine (made_any _ _ _ _ _).mono ?_; rintro e w2 ⟨rfl, rfl⟩)
  have kk := heap_four W1 (.cells #[.bool (mkN (!nb) ql), .slice (mkA aq ql) (mkL ql) (mkC ql cq)] 27) (.cells #[.bool (mkN (!nb) ql), .slice (mkA aq ql) (mkL ql) (mkC ql cq)] 27) (.cells #[.bool (mkN false 0), .slice (mkA ar 0) (mkL 0) (mkC 0 cr)] 27) (.cells #[.bool (mkN false 0), .slice (mkA ar 0) (mkL 0) (mkC 0 cr)] 27)
  have hW2 : Below W1.heap.size W1 ((((W1.alloc (.cells #[.bool (mkN (!nb) ql), .slice (mkA aq ql) (mkL ql) (mkC ql cq)] 27)).alloc (.cells #[.bool (mkN (!nb) ql), .slice (mkA aq ql) (mkL ql) (mkC ql cq)] 27)).alloc (.cells #[.bool (mkN false 0), .slice (mkA ar 0) (mkL 0) (mkC 0 cr)] 27)).alloc (.cells #[.bool (mkN false 0), .slice (mkA ar 0) (mkL 0) (mkC 0 cr)] 27)) := by go_grown
  revert kk hW2
  generalize ((((W1.alloc (.cells #[.bool (mkN (!nb) ql), .slice (mkA aq ql) (mkL ql) (mkC ql cq)] 27)).alloc (.cells #[.bool (mkN (!nb) ql), .slice (mkA aq ql) (mkL ql) (mkC ql cq)] 27)).alloc (.cells #[.bool (mkN false 0), .slice (mkA ar 0) (mkL 0) (mkC 0 cr)] 27)).alloc (.cells #[.bool (mkN false 0), .slice (mkA ar 0) (mkL 0) (mkC 0 cr)] 27)) = W2
  rintro ⟨_, k2, _, k4⟩ hW2
  obtain ⟨x0, x1, -⟩ := cells_two k2
  obtain ⟨y0, y1, -⟩ := cells_two k4
  have HQ2 := HBB1.out.q.below hW2
  have HR2' := HBB1.out.r.below hW2
  obtain ⟨u0, u1, uf0, uf1⟩ := HQ2.cells
  obtain ⟨v0, v1, vf0, vf1⟩ := HR2'.cells
  have K2 := Lib.hid k2
  have K4 := Lib.hid k4
  have HW2 := Lib.hid hW2
  have HQ2' := Lib.hid HQ2
  have HR2'' := Lib.hid HR2'
  have hgt := hlt1
  clear k2 k4 hW2 HQ2 HR2' f0' f1' g0' g1' q0' q1' qf0 qf1 r0' r1' rf0 rf1 f0 f1 g0 g1 HBL
  go_region
  obtain ⟨z0, z1, z2, z3⟩ := res_two HQ2'.out HR2''.out (.inl trivial) (.bool (mkN (!nb) ql)) (.slice (mkA aq ql) (mkL ql) (mkC ql cq)) (.bool (mkN false 0)) (.slice (mkA ar 0) (mkL 0) (mkC 0 cr))
  have hfin : Below w.heap.size w ((((W2.setCell ⟨w.heap.size + 1 + 1, 0, none⟩ (.bool (mkN (!nb) ql))).setCell ⟨w.heap.size + 1 + 1, 1, none⟩ (.slice (mkA aq ql) (mkL ql) (mkC ql cq))).setCell ⟨w.heap.size + 1 + 1 + 1, 0, none⟩ (.bool (mkN false 0))).setCell ⟨w.heap.size + 1 + 1 + 1, 1, none⟩ (.slice (mkA ar 0) (mkL 0) (mkC 0 cr))) :=
    ((((HBL1.trans (HW2.out.mono HBL1.size)).setCell (by simp; omega) _).setCell (by simp; omega) _).setCell (by simp; omega) _).setCell (by simp; omega) _
  have hsq3 := ((HSQ.out.below HW2.out).after2 (g := w.heap.size + 1 + 1) (by omega) (.bool (mkN (!nb) ql)) (.slice (mkA aq ql) (mkL ql) (mkC ql cq))).after2 (g := w.heap.size + 1 + 1 + 1) (by omega) (.bool (mkN false 0)) (.slice (mkA ar 0) (mkL 0) (mkC 0 cr))
  have hsr3 := ((HSR.out.below HW2.out).after2 (g := w.heap.size + 1 + 1) (by omega) (.bool (mkN (!nb) ql)) (.slice (mkA aq ql) (mkL ql) (mkC ql cq))).after2 (g := w.heap.size + 1 + 1 + 1) (by omega) (.bool (mkN false 0)) (.slice (mkA ar 0) (mkL 0) (mkC 0 cr))
  revert z0 z1 z2 z3 hfin hsq3 hsr3
  generalize ((((W2.setCell ⟨w.heap.size + 1 + 1, 0, none⟩ (.bool (mkN (!nb) ql))).setCell ⟨w.heap.size + 1 + 1, 1, none⟩ (.slice (mkA aq ql) (mkL ql) (mkC ql cq))).setCell ⟨w.heap.size + 1 + 1 + 1, 0, none⟩ (.bool (mkN false 0))).setCell ⟨w.heap.size + 1 + 1 + 1, 1, none⟩ (.slice (mkA ar 0) (mkL 0) (mkC 0 cr))) = W3
  intro z0 z1 z2 z3 hfin hsq3 hsr3
  have H1 := Lib.hid hsq3
  have H2 := Lib.hid hsr3
  have HF := Lib.hid hfin
  clear hsq3 hsr3 hfin x0 x1 y0 y1 u0 u1 uf0 uf1 v0 v1 vf0 vf1
  go_wp2
  refine bodyPost_ret (v := .tuple #[.agg #[.bool (mkN (!nb) ql), .slice (mkA aq ql) (mkL ql) (mkC ql cq)], .agg #[.bool (mkN false 0), .slice (mkA ar 0) (mkL 0) (mkC 0 cr)], .bool true]) (by simp [results, Tryz.results15, go_sem, z0, z1, z2, z3]) rfl ?_
  obtain ⟨p1, p2⟩ := D1.out (.inr hm0)
  have m1 := mk_ok (n := ql) (ao := aq) (cap := cq) (z := a / b) (neg := !nb) (by rw [p1]; exact HQL.out) (by rw [HQL.out]; exact Nat.le_trans (digs_mono (Nat.div_le_self _ _)) la) (fun hz => by have := D3.out hz; simpa using this) (fun _ => by rw [p1]; exact H1.out)
  have m2 := mk_ok (B := w.heap.size + 4) (W := W3) (n := 0) (ao := ar) (cap := cr) (z := a % b) (neg := false) (by rw [p2]; exact HRL.out) (by omega) (fun _ => by have := D4.out; simp; omega) (fun h => absurd rfl h)
  refine ⟨_, _, _, _, _, _, _, _, rfl, HF.out.drew, ⟨_, by rw [m1.1], m1.2.sl.below (Below.drew (Below.refl _ _)), ?_⟩, ⟨_, by rw [m2.1], m2.2.sl.below (Below.drew (Below.refl _ _)), ?_⟩⟩
  · rw [p1]; exact Nat.le_trans (digs_mono (Nat.div_le_self _ _)) la
  · rw [p2]; exact Nat.le_trans (digs_mono (Nat.mod_le _ _)) la

end Go.Proofs.YtdgmjmckeeeljaaGreatDoor
