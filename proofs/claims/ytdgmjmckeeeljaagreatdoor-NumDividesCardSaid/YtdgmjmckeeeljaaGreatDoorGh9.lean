/- Contracts of the reference: divide of right numbers; Div of right numbers. Contracts of the reference: Gcd of right numbers. Contracts at numbers that are not right, and at the divisor 0: Div, Gcd of num and of the reference. The contract of guessed: a digit of a long quotient, or one more. Conditions: the part has one digit more than the divisor, which has at least two, the highest not 0; the quotient is one digit. The contracts of takeAway and giveBack: a multiple taken away from a part of a row, a number given back. Conditions: the part has one digit more than the divisor may have, and the divisor lies elsewhere. The contract of giveBack: a number given back to a part of a row. Conditions: the part has one digit more than the number may have, and the number lies elsewhere. Digits moved up and down by binary digits: arithmetic. No condition. The contract of lowered: digits moved down by binary digits. Condition: fewer than 33 of them. -/
import Derived.Test.YtdgmjmckeeeljaaGreatDoorGh8
import Derived.Test.YtdgmjmckeeeljaaGreatDoorGh3
import Derived.Test.YtdgmjmckeeeljaaGreatDoorGh7
import Derived.Deep.QuietTactic
import Derived.BigQuiet
import Derived.Test.YtdgmjmckeeeljaaGreatDoorGh1
import Derived.Test.YtdgmjmckeeeljaaGreatDoorGh6
import Derived.BigRegion
import Derived.Lib.ItoaNum
import Derived.Test.YtdgmjmckeeeljaaGreatDoorGh2
namespace Go.Proofs.YtdgmjmckeeeljaaGreatDoor
open Go.RowKit

theorem divide48_any {w : World} {va vb : Value} {x y : Nat} (ha : Sl w va (digs x)) (hb : Sl w vb (digs y)) (h0 : y ≠ 0) (hla : (digs x).length ≤ 256) (hlb : (digs y).length ≤ 256) :
    Calls Tryz.prog 48 #[va, vb] w (DivR w x y) := by
  by_cases h2 : (digs x).length ≤ 2
  · by_cases h3 : (digs y).length ≤ 2
    · exact divide48_small ha hb h0 h2 h3
    · exact divide48_far ha hb h0 hla hlb (.inr ⟨h2, by omega⟩) (lenB_two h2 hlb (by omega))
  · rcases Nat.lt_or_ge (lenB (digs x)) (lenB (digs y)) with h | h
    · exact divide48_far ha hb h0 hla hlb (.inl (by omega)) h
    · exact divide48_long ha hb h0 hla hlb (by omega) h

set_option maxRecDepth 10000 in
set_option maxHeartbeats 2000000 in
theorem div16_any {w : World} {x y : Value} {a b : Int} (hx : Nu w x a) (hy : Nu w y b) (hb0 : b ≠ 0) :
    Calls Tryz.prog 16 #[x, y] w (DivOut w a b) := by
  obtain ⟨sa, rfl, ha, la⟩ := hx
  obtain ⟨sb, rfl, hb, lb'⟩ := hy
  obtain ⟨d1, d2, d3, d4⟩ := div_signs a b hb0
  have ra := rightB_digs a la
  have rb := rightB_digs b lb'
  obtain ⟨ab, cb, rfl⟩ := hb.mk'
  obtain ⟨lb, hlb⟩ : ∃ lb, lb = (digs b.natAbs).length := ⟨_, rfl⟩
  have hlb0 : lb ≠ 0 := by
    intro h0
    have : digs b.natAbs = [] := List.eq_nil_of_length_eq_zero (by omega)
    have : b.natAbs = 0 := digs_inj (by rw [this, digs_zero])
    omega
  rw [← hlb] at hb lb' ⊢
  obtain ⟨na, hna⟩ : ∃ na, na = decide (a < 0) := ⟨_, rfl⟩
  obtain ⟨nb, hnb⟩ : ∃ nb, nb = decide (b < 0) := ⟨_, rfl⟩
  rw [← hna] at ra ⊢
  rw [← hnb] at rb ⊢
  have R1 : ∀ W, Sl W sa (digs a.natAbs) → Calls Tryz.prog 41 #[.agg #[.bool na, sa]] W fun e w' => e = .returned (.bool true) ∧ w' = W.alloc (.cells #[.bool na, sa] 27) := fun W h => by have := right41_any na h (by omega); rwa [ra] at this
  have R2 : ∀ W, Sl W (.slice ab lb cb) (digs b.natAbs) → Calls Tryz.prog 41 #[.agg #[.bool nb, .slice ab lb cb]] W fun e w' => e = .returned (.bool true) ∧ w' = W.alloc (.cells #[.bool nb, .slice ab lb cb] 27) := fun W h => by have := right41_any nb h (by omega); rwa [rb] at this
  have hd : ∀ W va vb, Sl W va (digs a.natAbs) → Sl W vb (digs b.natAbs) → Calls Tryz.prog 48 #[va, vb] W (DivR W a.natAbs b.natAbs) := fun W va vb h1 h2 => divide48_any h1 h2 (by omega) la (by rw [← hlb]; exact lb')
  have HR1 := Lib.hid R1
  have HR2 := Lib.hid R2
  have HD := Lib.hid hd
  have HNA := Lib.hid hna
  have HNB := Lib.hid hnb
  have HLB := Lib.hid hlb
  have D1 := Lib.hid d1
  have D2 := Lib.hid d2
  have D3 := Lib.hid d3
  have D4 := Lib.hid d4
  have hlz : ((lb : Int) == 0) = false := by simp; omega
  clear R1 R2 ra rb hd hna hnb hlb d1 d2 d3 d4 hb0
  go_enter Tryz.func16, Tryz.ntmps16
  go_wp2_with (first | (go_at_call_of 41 (Value.agg #[.bool na, sa]); refine (HR1.out _ (ha.below (by go_grown))).mono ?_; rintro e w' ⟨rfl, rfl⟩) | (go_at_call_of 41 (Value.agg #[.bool nb, .slice ab lb cb]); refine (HR2.out _ (hb.below (by go_grown))).mono ?_; rintro e w' ⟨rfl, rfl⟩))
  have HB : Box4 ((((((w.alloc (.cells #[.bool na, sa] 27)).alloc (.cells #[.bool nb, .slice ab lb cb] 27)).alloc (.cells #[.bool false, .slice none 0 0] 27)).alloc (.cells #[.bool false, .slice none 0 0] 27)).alloc (.cells #[.bool na, sa] 27)).alloc (.cells #[.bool nb, .slice ab lb cb] 27)) w.heap.size na nb sa (.slice ab lb cb) a.natAbs b.natAbs := box4_new ha hb (by go_grown)
  have HBL : Below w.heap.size w ((((((w.alloc (.cells #[.bool na, sa] 27)).alloc (.cells #[.bool nb, .slice ab lb cb] 27)).alloc (.cells #[.bool false, .slice none 0 0] 27)).alloc (.cells #[.bool false, .slice none 0 0] 27)).alloc (.cells #[.bool na, sa] 27)).alloc (.cells #[.bool nb, .slice ab lb cb] 27)) := by go_grown
  obtain ⟨f0, f1, -⟩ := cells_two HB.a
  obtain ⟨g0, g1, -⟩ := cells_two HB.b
  revert HB HBL f0 f1 g0 g1
  generalize ((((((w.alloc (.cells #[.bool na, sa] 27)).alloc (.cells #[.bool nb, .slice ab lb cb] 27)).alloc (.cells #[.bool false, .slice none 0 0] 27)).alloc (.cells #[.bool false, .slice none 0 0] 27)).alloc (.cells #[.bool na, sa] 27)).alloc (.cells #[.bool nb, .slice ab lb cb] 27)) = W
  intro HB HBL f0 f1 g0 g1
  refine (HD.out _ _ _ HB.sa HB.sb).mono ?_
  rintro e W1 ⟨aq, cq, ar, cr, rfl, hsq, hsr, hb1⟩
  have HB1 := HB.below hb1
  have HBL1 := HBL.trans (hb1.mono HBL.size)
  obtain ⟨f0', f1', -⟩ := cells_two HB1.a
  obtain ⟨g0', g1', -⟩ := cells_two HB1.b
  obtain ⟨q0', q1', qf0, qf1⟩ := HB1.q.cells
  obtain ⟨r0', r1', rf0, rf1⟩ := HB1.r.cells
  have hlt1 := HB1.lt
  obtain ⟨ql, hql⟩ : ∃ ql, ql = (digs (a.natAbs / b.natAbs)).length := ⟨_, rfl⟩
  obtain ⟨rl, hrl⟩ : ∃ rl, rl = (digs (a.natAbs % b.natAbs)).length := ⟨_, rfl⟩
  rw [← hql] at hsq ⊢
  rw [← hrl] at hsr ⊢
  have HSQ := Lib.hid hsq
  have HSR := Lib.hid hsr
  have HQL := Lib.hid hql
  have HRL := Lib.hid hrl
  have HBB1 := Lib.hid HB1
  clear hsq hsr hql hrl HB1 HB hb1
  by_cases h0 : a < 0 ∧ a.natAbs % b.natAbs ≠ 0
  · obtain ⟨h0, hm0⟩ := h0
    obtain rfl : na = true := by rw [HNA.out]; exact decide_eq_true h0
    have hrl0 : 0 < (rl : Int) := by
      have : rl ≠ 0 := by
        intro h
        apply hm0
        have : digs (a.natAbs % b.natAbs) = [] := List.eq_nil_of_length_eq_zero (by rw [← HRL.out]; exact h)
        exact digs_inj (by rw [this, digs_zero])
      omega
    have hone : digs 1 = [1] := digs_small (by omega) (by omega)
    have hq2 := digs_mono (x := a.natAbs / b.natAbs) (y := a.natAbs) (Nat.div_le_self _ _)
    have hr2 := digs_mono (x := a.natAbs % b.natAbs) (y := a.natAbs) (Nat.mod_le _ _)
    have hb0 : 0 < b.natAbs := by
      rcases Nat.eq_zero_or_pos b.natAbs with h | h
      · exfalso; apply hlb0; rw [HLB.out, h, digs_zero]; rfl
      · exact h
    have hmlt := Nat.mod_lt a.natAbs hb0
    have HO : Hid (∀ W : World, Sl (W.alloc (.cells #[.int .u32 1] 59)) (.slice (some ⟨W.heap.size, 0, none⟩) 1 1) (digs 1)) := fun W => by rw [hone]; exact (sl_one W 1 (by omega)).sl
    have HQ2 := Lib.hid hq2
    have HR2B := Lib.hid hr2
    have HML := Lib.hid hmlt
    clear hone hq2 hr2 hmlt hb0
    go_wp2_with fail
    refine (plus49_at (HSQ.out.below (by go_grown)) (HO.out W1) (by have := HQ2.out; omega) (by rw [digs_small (by omega) (by omega)]; simp) rfl).mono ?_
    rintro e W2' ⟨aq', cq', rfl, hsq', hb2'⟩
    have hb2 : Below W1.heap.size W1 W2' := Below.trans (by go_grown) (hb2'.mono (by simp))
    have HSQ' := Lib.hid hsq'.sl
    have HSR' := Lib.hid (HSR.out.below hb2)
    clear hsq' HSQ HSR hb2' HQL
    have HB1 := HBB1.out.below hb2
    replace HBL1 := HBL1.trans (hb2.mono HBL1.size)
    clear hb2 f0' f1' g0' g1' q0' q1' qf0 qf1 r0' r1' rf0 rf1 HBB1
    obtain ⟨f0', f1', -⟩ := cells_two HB1.a
    obtain ⟨g0', g1', -⟩ := cells_two HB1.b
    obtain ⟨q0', q1', qf0, qf1⟩ := HB1.q.cells
    obtain ⟨r0', r1', rf0, rf1⟩ := HB1.r.cells
    replace hlt1 := HB1.lt
    have HBB1 := Lib.hid HB1
    clear HB1
    obtain ⟨W1, rfl⟩ : ∃ W1, W1 = W2' := ⟨_, rfl⟩
    go_wp2_with fail
    refine (minus50_at HBB1.out.sb HSR'.out (by rw [← HLB.out]; exact lb') (by have := HR2B.out; omega) (Nat.le_of_lt HML.out) rfl).mono ?_
    rintro e W3' ⟨ar', cr', rfl, hsr', hb3⟩
    have HSR := Lib.hid hsr'.sl
    have HSQ := Lib.hid (HSQ'.out.below hb3)
    clear hsr' HSQ' HSR' HRL hrl0
    have HB1 := HBB1.out.below hb3
    replace HBL1 := HBL1.trans (hb3.mono HBL1.size)
    clear hb3 f0' f1' g0' g1' q0' q1' qf0 qf1 r0' r1' rf0 rf1 HBB1
    obtain ⟨f0', f1', -⟩ := cells_two HB1.a
    obtain ⟨g0', g1', -⟩ := cells_two HB1.b
    obtain ⟨q0', q1', qf0, qf1⟩ := HB1.q.cells
    obtain ⟨r0', r1', rf0, rf1⟩ := HB1.r.cells
    replace hlt1 := HB1.lt
    have HBB1 := Lib.hid HB1
    clear HB1
    obtain ⟨W1, rfl⟩ : ∃ W1, W1 = W3' := ⟨_, rfl⟩
    obtain ⟨ql, hql⟩ : ∃ ql, ql = (digs (a.natAbs / b.natAbs + 1)).length := ⟨_, rfl⟩
    obtain ⟨rl, hrl⟩ : ∃ rl, rl = (digs (b.natAbs - a.natAbs % b.natAbs)).length := ⟨_, rfl⟩
    rw [← hql] at HSQ ⊢
    rw [← hrl] at HSR ⊢
    have HQL := Lib.hid hql
    have HRL := Lib.hid hrl
    clear hql hrl
    obtain ⟨aq, rfl⟩ : ∃ aq, aq = aq' := ⟨_, rfl⟩
    obtain ⟨cq, rfl⟩ : ∃ cq, cq = cq' := ⟨_, rfl⟩
    obtain ⟨ar, rfl⟩ : ∃ ar, ar = ar' := ⟨_, rfl⟩
    obtain ⟨cr, rfl⟩ : ∃ cr, cr = cr' := ⟨_, rfl⟩
    obtain ⟨p1, p2⟩ := D2.out h0 hm0
    have q1 : a.natAbs / b.natAbs + 1 ≤ a.natAbs := by
      have h1 := Nat.div_add_mod a.natAbs b.natAbs
      have h2 := HML.out
      have h3 : 2 * (a.natAbs / b.natAbs) ≤ b.natAbs * (a.natAbs / b.natAbs) := Nat.mul_le_mul_right _ (by omega)
      omega
    have hz1 : a / b = if (!nb) = true then -((a.natAbs / b.natAbs + 1 : Nat) : Int) else ((a.natAbs / b.natAbs + 1 : Nat) : Int) := by
      rw [← p1]
      have hz : a / b ≠ 0 := fun h => by have p3 := p1; rw [h, show (0 : Int).natAbs = 0 from rfl] at p3; exact absurd p3 (by exact (Nat.succ_ne_zero _).symm)
      have := D3.out hz
      rw [decide_eq_true h0, ← HNB.out] at this
      rw [show (!nb) = decide (a / b < 0) by simpa using this]
      by_cases h : a / b < 0 <;> simp [h] <;> omega
    have hz2 : a % b = if false = true then -((b.natAbs - a.natAbs % b.natAbs : Nat) : Int) else ((b.natAbs - a.natAbs % b.natAbs : Nat) : Int) := by
      rw [← p2]
      have := D4.out
      simp
      omega
    have HFL1 : Hid ((digs (a / b).natAbs).length ≤ 256) := Lib.hid (by rw [p1]; exact Nat.le_trans (digs_mono q1) la)
    have HFL2 : Hid ((digs (a % b).natAbs).length ≤ 256) := Lib.hid (by rw [p2]; exact Nat.le_trans (digs_mono (Nat.sub_le _ _)) (by rw [← HLB.out]; exact lb'))
    have hf1 : fitsB (a / b).natAbs = true := decide_eq_true HFL1.out
    have hf2 : fitsB (a % b).natAbs = true := decide_eq_true HFL2.out
    have hS1 := fun W (h : Below W1.heap.size W1 W) => signed36_at (!nb) (HSQ.out.below h) hz1
    have hS2 := fun W (h : Below W1.heap.size W1 W) => signed36_at false (HSR.out.below h) hz2
    have HS1 := Lib.hid hS1
    have HS2 := Lib.hid hS2
    clear hS1 hS2 hz1 hz2 h0 p1 p2 hm0
    go_wp2_with fail
    refine (HS1.out _ (Below.refl _ _)).mono ?_
    rintro e w2 ⟨n1, a1, l1, c1, rfl, hb2, hy1, -⟩
    have HBB2 := Lib.hid (HBB1.out.below hb2)
    have HL2 := Lib.hid hb2
    have HY1 := Lib.hid hy1
    clear hy1 hb2
    go_wp2_with fail
    refine (HS2.out _ (HL2.out.trans ((alloc_b w2 _).mono HL2.out.size))).mono ?_
    rintro e w3 ⟨n2, a2, l2, c2, rfl, hb3, hy2, -⟩
    have hw23 : w2.heap.size < w3.heap.size := by have := hb3.size; rw [World.size_alloc] at this; omega
    have hX : w3.heap[w2.heap.size]? = some (.cells #[.bool n1, .slice a1 l1 c1] 27 (0, 0)) := (hb3.block _ (by simp)).trans (heap_alloc_new _ _)
    have hb23 : Below w2.heap.size w2 w3 := (alloc_b w2 _).trans (hb3.mono (by simp))
    have hw12 := HL2.out.size
    have HBB3 := Lib.hid (HBB2.out.below hb23)
    have HL23 := Lib.hid hb23
    have HY2 := Lib.hid hy2
    have HX := Lib.hid hX
    have hb24 := hb3.size
    rw [World.size_alloc] at hb24
    clear hy2 hb3 hb23 hX
    go_wp2_with fail
    have k4 := heap_alloc_new w3 (.cells #[.bool n2, .slice a2 l2 c2] 27)
    have k2 : (w3.alloc (.cells #[.bool n2, .slice a2 l2 c2] 27)).heap[w2.heap.size]? = some (.cells #[.bool n1, .slice a1 l1 c1] 27 (0, 0)) := (Below.heap_alloc _ _ _ hw23).trans HX.out
    have hW2 : Below w3.heap.size w3 (w3.alloc (.cells #[.bool n2, .slice a2 l2 c2] 27)) := alloc_b _ _
    revert k2 k4 hW2
    generalize w3.alloc (.cells #[.bool n2, .slice a2 l2 c2] 27) = W2
    intro k2 k4 hW2
    obtain ⟨x0, x1, -⟩ := cells_two k2
    obtain ⟨y0, y1, -⟩ := cells_two k4
    have HQ2 := HBB3.out.q.below hW2
    have HR2' := HBB3.out.r.below hW2
    obtain ⟨u0, u1, uf0, uf1⟩ := HQ2.cells
    obtain ⟨v0, v1, vf0, vf1⟩ := HR2'.cells
    have K2 := Lib.hid k2
    have K4 := Lib.hid k4
    have HW2 := Lib.hid hW2
    have HQ2' := Lib.hid HQ2
    have HR2'' := Lib.hid HR2'
    have hgt2 : w.heap.size + 1 + 1 + 1 < w2.heap.size := by omega
    clear k2 k4 hW2 HQ2 HR2' f0' f1' g0' g1' q0' q1' qf0 qf1 r0' r1' rf0 rf1 f0 f1 g0 g1 HBL
    go_region
    obtain ⟨z0, z1, z2, z3⟩ := res_two HQ2'.out HR2''.out (.inl trivial) (.bool n1) (.slice a1 l1 c1) (.bool n2) (.slice a2 l2 c2)
    have hb1W : Below w.heap.size w W2 := HBL1.trans (((HL2.out.trans (HL23.out.mono hw12)).trans (HW2.out.mono (by omega))).mono HBL1.size)
    have hfin : Below w.heap.size w ((((W2.setCell ⟨w.heap.size + 1 + 1, 0, none⟩ (.bool n1)).setCell ⟨w.heap.size + 1 + 1, 1, none⟩ (.slice a1 l1 c1)).setCell ⟨w.heap.size + 1 + 1 + 1, 0, none⟩ (.bool n2)).setCell ⟨w.heap.size + 1 + 1 + 1, 1, none⟩ (.slice a2 l2 c2)) :=
      (((hb1W.setCell (by simp; omega) _).setCell (by simp; omega) _).setCell (by simp; omega) _).setCell (by simp; omega) _
    have hsq3 := (((((HY1.out hf1).2).below HL23.out).below HW2.out).after2 (g := w.heap.size + 1 + 1) (by omega) (.bool n1) (.slice a1 l1 c1)).after2 (g := w.heap.size + 1 + 1 + 1) (by omega) (.bool n2) (.slice a2 l2 c2)
    have hsr3 := ((((HY2.out hf2).2).below HW2.out).after2 (g := w.heap.size + 1 + 1) (by rw [World.size_alloc]; omega) (.bool n1) (.slice a1 l1 c1)).after2 (g := w.heap.size + 1 + 1 + 1) (by rw [World.size_alloc]; omega) (.bool n2) (.slice a2 l2 c2)
    revert z0 z1 z2 z3 hfin hsq3 hsr3
    generalize ((((W2.setCell ⟨w.heap.size + 1 + 1, 0, none⟩ (.bool n1)).setCell ⟨w.heap.size + 1 + 1, 1, none⟩ (.slice a1 l1 c1)).setCell ⟨w.heap.size + 1 + 1 + 1, 0, none⟩ (.bool n2)).setCell ⟨w.heap.size + 1 + 1 + 1, 1, none⟩ (.slice a2 l2 c2)) = W3
    intro z0 z1 z2 z3 hfin hsq3 hsr3
    have H1 := Lib.hid hsq3
    have H2 := Lib.hid hsr3
    have HF := Lib.hid hfin
    clear hsq3 hsr3 hfin x0 x1 y0 y1 u0 u1 uf0 uf1 v0 v1 vf0 vf1 hb1W
    go_wp2
    refine bodyPost_ret (v := .tuple #[.agg #[.bool n1, .slice a1 l1 c1], .agg #[.bool n2, .slice a2 l2 c2], .bool true]) (by simp [results, Tryz.results16, go_sem, z0, z1, z2, z3]) rfl ?_
    refine ⟨_, _, _, _, _, _, _, _, rfl, HF.out.drew, ⟨_, by rw [(HY1.out hf1).1], H1.out.sl.below (Below.drew (Below.refl _ _)), HFL1.out⟩, ⟨_, by rw [(HY2.out hf2).1], H2.out.sl.below (Below.drew (Below.refl _ _)), HFL2.out⟩⟩
  · have hna2 : na = false ∨ rl = 0 := by
      by_cases h1 : a < 0
      · right
        have : a.natAbs % b.natAbs = 0 := Decidable.of_not_not fun h2 => h0 ⟨h1, h2⟩
        rw [HRL.out, this, digs_zero]; rfl
      · left; rw [HNA.out]; exact decide_eq_false h1
    obtain ⟨p1, p2⟩ := D1.out (by omega)
    have HP1 := Lib.hid p1
    have HP2 := Lib.hid p2
    have hz1 : a / b = if (!(na == nb)) = true then -((a.natAbs / b.natAbs : Nat) : Int) else ((a.natAbs / b.natAbs : Nat) : Int) := by
      rw [← p1]
      by_cases hz : a / b = 0
      · rw [hz]; simp
      · rw [HNA.out, HNB.out, D3.out hz]
        by_cases h : a / b < 0 <;> simp [h] <;> omega
    have hz2 : a % b = if false = true then -((a.natAbs % b.natAbs : Nat) : Int) else ((a.natAbs % b.natAbs : Nat) : Int) := by
      rw [← p2]
      have := D4.out
      simp
      omega
    have HFL1 : Hid ((digs (a / b).natAbs).length ≤ 256) := Lib.hid (by rw [p1]; exact Nat.le_trans (digs_mono (Nat.div_le_self _ _)) la)
    have HFL2 : Hid ((digs (a % b).natAbs).length ≤ 256) := Lib.hid (by rw [p2]; exact Nat.le_trans (digs_mono (Nat.mod_le _ _)) la)
    have hf1 : fitsB (a / b).natAbs = true := decide_eq_true HFL1.out
    have hf2 : fitsB (a % b).natAbs = true := decide_eq_true HFL2.out
    obtain ⟨sg, hsg⟩ : ∃ sg, sg = (!(na == nb)) := ⟨_, rfl⟩
    rw [← hsg] at hz1
    have hS1 := fun W (h : Below W1.heap.size W1 W) => signed36_at sg (HSQ.out.below h) hz1
    have hS2 := fun W (h : Below W1.heap.size W1 W) => signed36_at false (HSR.out.below h) hz2
    have HS1 := Lib.hid hS1
    have HS2 := Lib.hid hS2
    have hall : (na = false ∧ sg = nb) ∨ (na = true ∧ rl = 0 ∧ sg = !nb) := by rw [hsg]; cases na <;> cases nb <;> simp_all
    clear hS1 hS2 hz1 hz2 h0 p1 p2 hsg
    rcases hall with ⟨rfl, rfl⟩ | ⟨rfl, rfl, rfl⟩
    · go_wp2_with fail
      refine (HS1.out _ (Below.refl _ _)).mono ?_
      rintro e w2 ⟨n1, a1, l1, c1, rfl, hb2, hy1, -⟩
      have HBB2 := Lib.hid (HBB1.out.below hb2)
      have HL2 := Lib.hid hb2
      have HY1 := Lib.hid hy1
      clear hy1 hb2
      go_wp2_with fail
      refine (HS2.out _ (HL2.out.trans ((alloc_b w2 _).mono HL2.out.size))).mono ?_
      rintro e w3 ⟨n2, a2, l2, c2, rfl, hb3, hy2, -⟩
      have hw23 : w2.heap.size < w3.heap.size := by have := hb3.size; rw [World.size_alloc] at this; omega
      have hX : w3.heap[w2.heap.size]? = some (.cells #[.bool n1, .slice a1 l1 c1] 27 (0, 0)) := (hb3.block _ (by simp)).trans (heap_alloc_new _ _)
      have hb23 : Below w2.heap.size w2 w3 := (alloc_b w2 _).trans (hb3.mono (by simp))
      have hw12 := HL2.out.size
      have HBB3 := Lib.hid (HBB2.out.below hb23)
      have HL23 := Lib.hid hb23
      have HY2 := Lib.hid hy2
      have HX := Lib.hid hX
      have hb24 := hb3.size
      rw [World.size_alloc] at hb24
      clear hy2 hb3 hb23 hX
      go_wp2_with fail
      have k4 := heap_alloc_new w3 (.cells #[.bool n2, .slice a2 l2 c2] 27)
      have k2 : (w3.alloc (.cells #[.bool n2, .slice a2 l2 c2] 27)).heap[w2.heap.size]? = some (.cells #[.bool n1, .slice a1 l1 c1] 27 (0, 0)) := (Below.heap_alloc _ _ _ hw23).trans HX.out
      have hW2 : Below w3.heap.size w3 (w3.alloc (.cells #[.bool n2, .slice a2 l2 c2] 27)) := alloc_b _ _
      revert k2 k4 hW2
      generalize w3.alloc (.cells #[.bool n2, .slice a2 l2 c2] 27) = W2
      intro k2 k4 hW2
      obtain ⟨x0, x1, -⟩ := cells_two k2
      obtain ⟨y0, y1, -⟩ := cells_two k4
      have HQ2 := HBB3.out.q.below hW2
      have HR2' := HBB3.out.r.below hW2
      obtain ⟨u0, u1, uf0, uf1⟩ := HQ2.cells
      obtain ⟨v0, v1, vf0, vf1⟩ := HR2'.cells
      have K2 := Lib.hid k2
      have K4 := Lib.hid k4
      have HW2 := Lib.hid hW2
      have HQ2' := Lib.hid HQ2
      have HR2'' := Lib.hid HR2'
      have hgt2 : w.heap.size + 1 + 1 + 1 < w2.heap.size := by omega
      clear k2 k4 hW2 HQ2 HR2' f0' f1' g0' g1' q0' q1' qf0 qf1 r0' r1' rf0 rf1 f0 f1 g0 g1 HBL
      go_region
      obtain ⟨z0, z1, z2, z3⟩ := res_two HQ2'.out HR2''.out (.inl trivial) (.bool n1) (.slice a1 l1 c1) (.bool n2) (.slice a2 l2 c2)
      have hb1W : Below w.heap.size w W2 := HBL1.trans (((HL2.out.trans (HL23.out.mono hw12)).trans (HW2.out.mono (by omega))).mono HBL1.size)
      have hfin : Below w.heap.size w ((((W2.setCell ⟨w.heap.size + 1 + 1, 0, none⟩ (.bool n1)).setCell ⟨w.heap.size + 1 + 1, 1, none⟩ (.slice a1 l1 c1)).setCell ⟨w.heap.size + 1 + 1 + 1, 0, none⟩ (.bool n2)).setCell ⟨w.heap.size + 1 + 1 + 1, 1, none⟩ (.slice a2 l2 c2)) :=
        (((hb1W.setCell (by simp; omega) _).setCell (by simp; omega) _).setCell (by simp; omega) _).setCell (by simp; omega) _
      have hsq3 := (((((HY1.out hf1).2).below HL23.out).below HW2.out).after2 (g := w.heap.size + 1 + 1) (by omega) (.bool n1) (.slice a1 l1 c1)).after2 (g := w.heap.size + 1 + 1 + 1) (by omega) (.bool n2) (.slice a2 l2 c2)
      have hsr3 := ((((HY2.out hf2).2).below HW2.out).after2 (g := w.heap.size + 1 + 1) (by rw [World.size_alloc]; omega) (.bool n1) (.slice a1 l1 c1)).after2 (g := w.heap.size + 1 + 1 + 1) (by rw [World.size_alloc]; omega) (.bool n2) (.slice a2 l2 c2)
      revert z0 z1 z2 z3 hfin hsq3 hsr3
      generalize ((((W2.setCell ⟨w.heap.size + 1 + 1, 0, none⟩ (.bool n1)).setCell ⟨w.heap.size + 1 + 1, 1, none⟩ (.slice a1 l1 c1)).setCell ⟨w.heap.size + 1 + 1 + 1, 0, none⟩ (.bool n2)).setCell ⟨w.heap.size + 1 + 1 + 1, 1, none⟩ (.slice a2 l2 c2)) = W3
      intro z0 z1 z2 z3 hfin hsq3 hsr3
      have H1 := Lib.hid hsq3
      have H2 := Lib.hid hsr3
      have HF := Lib.hid hfin
      clear hsq3 hsr3 hfin x0 x1 y0 y1 u0 u1 uf0 uf1 v0 v1 vf0 vf1 hb1W
      go_wp2
      refine bodyPost_ret (v := .tuple #[.agg #[.bool n1, .slice a1 l1 c1], .agg #[.bool n2, .slice a2 l2 c2], .bool true]) (by simp [results, Tryz.results16, go_sem, z0, z1, z2, z3]) rfl ?_
      refine ⟨_, _, _, _, _, _, _, _, rfl, HF.out.drew, ⟨_, by rw [(HY1.out hf1).1], H1.out.sl.below (Below.drew (Below.refl _ _)), HFL1.out⟩, ⟨_, by rw [(HY2.out hf2).1], H2.out.sl.below (Below.drew (Below.refl _ _)), HFL2.out⟩⟩
    · go_wp2_with fail
      refine (HS1.out _ (Below.refl _ _)).mono ?_
      rintro e w2 ⟨n1, a1, l1, c1, rfl, hb2, hy1, -⟩
      have HBB2 := Lib.hid (HBB1.out.below hb2)
      have HL2 := Lib.hid hb2
      have HY1 := Lib.hid hy1
      clear hy1 hb2
      go_wp2_with fail
      refine (HS2.out _ (HL2.out.trans ((alloc_b w2 _).mono HL2.out.size))).mono ?_
      rintro e w3 ⟨n2, a2, l2, c2, rfl, hb3, hy2, -⟩
      have hw23 : w2.heap.size < w3.heap.size := by have := hb3.size; rw [World.size_alloc] at this; omega
      have hX : w3.heap[w2.heap.size]? = some (.cells #[.bool n1, .slice a1 l1 c1] 27 (0, 0)) := (hb3.block _ (by simp)).trans (heap_alloc_new _ _)
      have hb23 : Below w2.heap.size w2 w3 := (alloc_b w2 _).trans (hb3.mono (by simp))
      have hw12 := HL2.out.size
      have HBB3 := Lib.hid (HBB2.out.below hb23)
      have HL23 := Lib.hid hb23
      have HY2 := Lib.hid hy2
      have HX := Lib.hid hX
      have hb24 := hb3.size
      rw [World.size_alloc] at hb24
      clear hy2 hb3 hb23 hX
      go_wp2_with fail
      have k4 := heap_alloc_new w3 (.cells #[.bool n2, .slice a2 l2 c2] 27)
      have k2 : (w3.alloc (.cells #[.bool n2, .slice a2 l2 c2] 27)).heap[w2.heap.size]? = some (.cells #[.bool n1, .slice a1 l1 c1] 27 (0, 0)) := (Below.heap_alloc _ _ _ hw23).trans HX.out
      have hW2 : Below w3.heap.size w3 (w3.alloc (.cells #[.bool n2, .slice a2 l2 c2] 27)) := alloc_b _ _
      revert k2 k4 hW2
      generalize w3.alloc (.cells #[.bool n2, .slice a2 l2 c2] 27) = W2
      intro k2 k4 hW2
      obtain ⟨x0, x1, -⟩ := cells_two k2
      obtain ⟨y0, y1, -⟩ := cells_two k4
      have HQ2 := HBB3.out.q.below hW2
      have HR2' := HBB3.out.r.below hW2
      obtain ⟨u0, u1, uf0, uf1⟩ := HQ2.cells
      obtain ⟨v0, v1, vf0, vf1⟩ := HR2'.cells
      have K2 := Lib.hid k2
      have K4 := Lib.hid k4
      have HW2 := Lib.hid hW2
      have HQ2' := Lib.hid HQ2
      have HR2'' := Lib.hid HR2'
      have hgt2 : w.heap.size + 1 + 1 + 1 < w2.heap.size := by omega
      clear k2 k4 hW2 HQ2 HR2' f0' f1' g0' g1' q0' q1' qf0 qf1 r0' r1' rf0 rf1 f0 f1 g0 g1 HBL
      go_region
      obtain ⟨z0, z1, z2, z3⟩ := res_two HQ2'.out HR2''.out (.inl trivial) (.bool n1) (.slice a1 l1 c1) (.bool n2) (.slice a2 l2 c2)
      have hb1W : Below w.heap.size w W2 := HBL1.trans (((HL2.out.trans (HL23.out.mono hw12)).trans (HW2.out.mono (by omega))).mono HBL1.size)
      have hfin : Below w.heap.size w ((((W2.setCell ⟨w.heap.size + 1 + 1, 0, none⟩ (.bool n1)).setCell ⟨w.heap.size + 1 + 1, 1, none⟩ (.slice a1 l1 c1)).setCell ⟨w.heap.size + 1 + 1 + 1, 0, none⟩ (.bool n2)).setCell ⟨w.heap.size + 1 + 1 + 1, 1, none⟩ (.slice a2 l2 c2)) :=
        (((hb1W.setCell (by simp; omega) _).setCell (by simp; omega) _).setCell (by simp; omega) _).setCell (by simp; omega) _
      have hsq3 := (((((HY1.out hf1).2).below HL23.out).below HW2.out).after2 (g := w.heap.size + 1 + 1) (by omega) (.bool n1) (.slice a1 l1 c1)).after2 (g := w.heap.size + 1 + 1 + 1) (by omega) (.bool n2) (.slice a2 l2 c2)
      have hsr3 := ((((HY2.out hf2).2).below HW2.out).after2 (g := w.heap.size + 1 + 1) (by rw [World.size_alloc]; omega) (.bool n1) (.slice a1 l1 c1)).after2 (g := w.heap.size + 1 + 1 + 1) (by rw [World.size_alloc]; omega) (.bool n2) (.slice a2 l2 c2)
      revert z0 z1 z2 z3 hfin hsq3 hsr3
      generalize ((((W2.setCell ⟨w.heap.size + 1 + 1, 0, none⟩ (.bool n1)).setCell ⟨w.heap.size + 1 + 1, 1, none⟩ (.slice a1 l1 c1)).setCell ⟨w.heap.size + 1 + 1 + 1, 0, none⟩ (.bool n2)).setCell ⟨w.heap.size + 1 + 1 + 1, 1, none⟩ (.slice a2 l2 c2)) = W3
      intro z0 z1 z2 z3 hfin hsq3 hsr3
      have H1 := Lib.hid hsq3
      have H2 := Lib.hid hsr3
      have HF := Lib.hid hfin
      clear hsq3 hsr3 hfin x0 x1 y0 y1 u0 u1 uf0 uf1 v0 v1 vf0 vf1 hb1W
      go_wp2
      refine bodyPost_ret (v := .tuple #[.agg #[.bool n1, .slice a1 l1 c1], .agg #[.bool n2, .slice a2 l2 c2], .bool true]) (by simp [results, Tryz.results16, go_sem, z0, z1, z2, z3]) rfl ?_
      refine ⟨_, _, _, _, _, _, _, _, rfl, HF.out.drew, ⟨_, by rw [(HY1.out hf1).1], H1.out.sl.below (Below.drew (Below.refl _ _)), HFL1.out⟩, ⟨_, by rw [(HY2.out hf2).1], H2.out.sl.below (Below.drew (Below.refl _ _)), HFL2.out⟩⟩

end Go.Proofs.YtdgmjmckeeeljaaGreatDoor

namespace Go.Proofs.YtdgmjmckeeeljaaGreatDoor
open Go.RowKit

theorem sl_same2 {w : World} {v : Value} {ds es : List Nat} (h : Sl w v ds) (k : Sl w v es) : ds = es := by
  have e1 := h.is
  have e2 := k.is
  rcases e1 with ⟨rfl, ao, cap, rfl⟩ | ⟨b, off, cap, rfl, hc, hl⟩
  · have := k.size
    exact (List.eq_nil_of_length_eq_zero this.symm).symm
  · rcases e2 with ⟨rfl, ao, cap', e⟩ | ⟨b', off', cap', e, hc', hl'⟩
    · have := k.size
      exact List.eq_nil_of_length_eq_zero this
    · have hs := k.size
      simp only [Value.slice.injEq, Option.some.injEq, Addr.mk.injEq] at e
      obtain ⟨⟨rfl, rfl, _⟩, _, _⟩ := e
      refine eq_of_getD hs (fun j hj => ?_)
      have q1 := hl j hj
      have q2 := hl' j (by omega)
      rw [q1] at q2
      injection q2 with q2
      injection q2 with _ q2
      omega
theorem eps_eq2 {w : World} {v : Value} {n : Nat} (h : Sl w v (digs n)) : Classical.epsilon (fun n => Sl w v (digs n)) = n := by
  have := Classical.epsilon_spec (p := fun n => Sl w v (digs n)) ⟨n, h⟩
  exact digs_inj (sl_same2 this h)

/-- What a round of Gcd begins with. -/
def GcdR (w : World) (G : Nat) (av bv : Value) (wr : World) : Prop :=
  ∃ u v : Nat, Sl wr av (digs u) ∧ Sl wr bv (digs v) ∧ (digs u).length ≤ 256 ∧ (digs v).length ≤ 256 ∧ Nat.gcd u v = G ∧ Below w.heap.size w wr

set_option maxRecDepth 10000 in
set_option maxHeartbeats 2000000 in
theorem gcd18_any {w : World} {x y : Value} {a b : Int} (hx : Nu w x a) (hy : Nu w y b) :
    Calls Tryz.prog 18 #[x, y] w (NumRes w (Nat.gcd a.natAbs b.natAbs : Nat)) := by
  obtain ⟨sa, rfl, ha, la⟩ := hx
  obtain ⟨sb, rfl, hb, lb⟩ := hy
  have ra := rightB_digs a la
  have rb := rightB_digs b lb
  obtain ⟨na, hna⟩ : ∃ na, na = decide (a < 0) := ⟨_, rfl⟩
  obtain ⟨nb, hnb⟩ : ∃ nb, nb = decide (b < 0) := ⟨_, rfl⟩
  rw [← hna] at ra ⊢
  rw [← hnb] at rb ⊢
  have HNA := Lib.hid hna
  have HNB := Lib.hid hnb
  clear hna hnb
  have R1 : ∀ W, Sl W sa (digs a.natAbs) → Calls Tryz.prog 41 #[.agg #[.bool na, sa]] W fun e w' => e = .returned (.bool true) ∧ w' = W.alloc (.cells #[.bool na, sa] 27) := fun W h => by have := right41_any na h (by omega); rwa [ra] at this
  have R2 : ∀ W, Sl W sb (digs b.natAbs) → Calls Tryz.prog 41 #[.agg #[.bool nb, sb]] W fun e w' => e = .returned (.bool true) ∧ w' = W.alloc (.cells #[.bool nb, sb] 27) := fun W h => by have := right41_any nb h (by omega); rwa [rb] at this
  have HR1 := Lib.hid R1
  have HR2 := Lib.hid R2
  clear R1 R2 ra rb
  go_enter Tryz.func18, Tryz.ntmps18
  go_wp2_with (first | (go_at_call_of 41 (Value.agg #[.bool na, sa]); refine (HR1.out _ (ha.below (by go_grown))).mono ?_; rintro e w' ⟨rfl, rfl⟩) | (go_at_call_of 41 (Value.agg #[.bool nb, sb]); refine (HR2.out _ (hb.below (by go_grown))).mono ?_; rintro e w' ⟨rfl, rfl⟩))
  have HB : Box3 ((((w.alloc (.cells #[.bool na, sa] 27)).alloc (.cells #[.bool nb, sb] 27)).alloc (.cells #[.bool false, .slice none 0 0] 27)).alloc (.cells #[.bool na, sa] 27) |>.alloc (.cells #[.bool nb, sb] 27)) w.heap.size na nb sa sb a.natAbs b.natAbs :=
    box3_new ha hb (by go_grown)
  have HBL : Below w.heap.size w ((((w.alloc (.cells #[.bool na, sa] 27)).alloc (.cells #[.bool nb, sb] 27)).alloc (.cells #[.bool false, .slice none 0 0] 27)).alloc (.cells #[.bool na, sa] 27) |>.alloc (.cells #[.bool nb, sb] 27)) := by go_grown
  revert HB HBL
  generalize ((((w.alloc (.cells #[.bool na, sa] 27)).alloc (.cells #[.bool nb, sb] 27)).alloc (.cells #[.bool false, .slice none 0 0] 27)).alloc (.cells #[.bool na, sa] 27) |>.alloc (.cells #[.bool nb, sb] 27)) = W
  intro HB HBL
  have a0 := HB.a0
  have a1 := HB.a1
  have b0 := HB.b0
  have b1 := HB.b1
  obtain ⟨G, hG⟩ : ∃ G, G = Nat.gcd a.natAbs b.natAbs := ⟨_, rfl⟩
  have HST : Hid (GcdR W G sa sb W) := Lib.hid ⟨a.natAbs, b.natAbs, HB.sa, HB.sb, la, lb, hG.symm, Below.refl _ _⟩
  have HGD := Lib.hid hG
  have HBX := Lib.hid HB
  have HLW := Lib.hid HBL
  go_wp2_with fail
  clear hG HB HBL a0 a1 b0 b1
  go_loopw [6, 7] (fun av bv wr => GcdR W G av bv wr) (fun _ bv wr => Classical.epsilon (fun n => Sl wr bv (digs n)))
  case atStart => exact HST.out
  case round =>
    obtain ⟨u, v, hu, hv, hlu, hlv, hG, hbl⟩ := hrel
    clear HST
    obtain ⟨aa, ca, rfl⟩ := hu.mk'
    obtain ⟨ab, cb, rfl⟩ := hv.mk'
    obtain ⟨na', hna⟩ : ∃ na, na = (digs u).length := ⟨_, rfl⟩
    obtain ⟨nb', hnb⟩ : ∃ nb, nb = (digs v).length := ⟨_, rfl⟩
    rw [← hna] at hu hlu ⊢
    rw [← hnb] at hv hlv ⊢
    have HU := Lib.hid hu
    have HV := Lib.hid hv
    have HNA' := Lib.hid hna
    have HNB' := Lib.hid hnb
    have HGG := Lib.hid hG
    have HBL := Lib.hid hbl
    have HLU := Lib.hid hlu
    have HLV := Lib.hid hlv
    by_cases h0 : nb' = 0
    · subst h0
      have hy : v = 0 := digs_inj (by rw [digs_zero]; exact List.eq_nil_of_length_eq_zero hnb.symm)
      have hgu : G = u := by rw [← hG, hy, Nat.gcd_zero_right]
      have hsg := signed36_at (z := (G : Int)) false hu (by rw [hgu]; rfl)
      have HSG := Lib.hid hsg
      have HB1 := HBX.out.below hbl
      have hz := HB1.lt
      have hbw := hbl.mono (Nat.le_of_lt HBX.out.lt)
      have HB1B := Lib.hid HB1
      clear hu hv hna hnb hG hbl hlu hlv hy hgu hsg HB1
      go_wp2_with (go_at_call 36; refine HSG.out.mono ?_; rintro e w2 ⟨neg2, ao2, n2, cap2, rfl, hb2, hyes, hno⟩; have HB2 := HB1B.out.below hb2; obtain ⟨r2, r3, f2, f3⟩ := HB2.cells; have hz2 := HB2.lt)
      obtain ⟨q0, q1⟩ := (show ResBox w2 (w.heap.size + 1 + 1) from HB2.r).stored (.bool neg2) (.slice ao2 n2 cap2)
      have hfin : Below w.heap.size w ((w2.setCell ⟨w.heap.size + 1 + 1, 0, none⟩ (.bool neg2)).setCell ⟨w.heap.size + 1 + 1, 1, none⟩ (.slice ao2 n2 cap2)) :=
        (((HLW.out.trans ((HBL.out.trans (hb2.mono HBL.out.size)).mono HLW.out.size)).setCell (by simp; omega) _).setCell (by simp; omega) _)
      rw [← HGD.out]
      refine bodyPost_ret (v := .tuple #[.agg #[.bool neg2, .slice ao2 n2 cap2], .bool (fitsB G)]) (by simp [results, Tryz.results18, go_sem, q0, q1]) rfl ?_
      exact ⟨_, _, _, _, rfl, hfin, fun hf => ⟨(hyes hf).1, ((hyes hf).2.after2 (g := w.heap.size + 1 + 1) hz (.bool neg2) (.slice ao2 n2 cap2)).mono (B' := w.heap.size) (by omega)⟩, hno⟩
    · have hnb0 : 0 < nb' := by omega
      have hv0 : v ≠ 0 := fun h => h0 (by rw [hnb, h, digs_zero]; rfl)
      have hdv := divide48_any hu hv hv0 (by rw [← hna]; exact hlu) (by rw [← hnb]; exact hlv)
      have hg : Nat.gcd v (u % v) = G := by rw [← hG, Nat.gcd_comm u v, Nat.gcd_rec v u, Nat.gcd_comm]
      have hr : u % v < v := Nat.mod_lt _ (by omega)
      have HDV := Lib.hid hdv
      have HG2 := Lib.hid hg
      have HR := Lib.hid hr
      clear hu hv hna hnb hG hbl hlu hlv hdv hg hr hv0 h0
      go_wp2_with (go_at_call 48; refine HDV.out.mono ?_; rintro e w1 ⟨aq, cq, ar, cr, rfl, hsq, hsr, hb1⟩; have HSR := Lib.hid hsr; have HB1 := Lib.hid hb1; clear hsq hsr hb1)
      go_roundw
      case rel => exact ⟨v, u % v, HV.out.below HB1.out, HSR.out, by rw [← HNB'.out]; exact HLV.out, Nat.le_trans (digs_mono (Nat.le_of_lt HR.out)) (by rw [← HNB'.out]; exact HLV.out), HG2.out, HBL.out.trans (HB1.out.mono HBL.out.size)⟩
      case measure =>
        rw [eps_eq2 HSR.out, eps_eq2 (n := v) HV.out]
        exact HR.out

end Go.Proofs.YtdgmjmckeeeljaaGreatDoor

namespace Go.Proofs.YtdgmjmckeeeljaaGreatDoor
open Go.RowKit

/-- No numbers, and false. -/
def DivNo (w : World) (e : Ending) (w' : World) : Prop := e = .returned (.tuple #[.agg #[.bool false, .slice none 0 0], .agg #[.bool false, .slice none 0 0], .bool false]) ∧ Below w.heap.size w w'

set_option maxRecDepth 10000 in
set_option maxHeartbeats 1000000 in
theorem gcd17_no {w : World} {na nb : Bool} {sa sb : Value} {xs ys : List Nat} (ha : Sl w sa xs) (hb : Sl w sb ys) (hla : xs.length ≤ 1000) (hlb : ys.length ≤ 1000) (h : rightB na xs = false ∨ rightB nb ys = false) :
    Calls Tryz.prog 17 #[.agg #[.bool na, sa], .agg #[.bool nb, sb]] w (NumNo w) := by
  have HR1 := Lib.hid (fun W (h : Sl W sa xs) => right_any na h (by omega))
  have HR2 := Lib.hid (fun W (h : Sl W sb ys) => right_any nb h (by omega))
  obtain ⟨p, hp⟩ : ∃ p, p = rightB na xs := ⟨_, rfl⟩
  obtain ⟨q, hq⟩ : ∃ q, q = rightB nb ys := ⟨_, rfl⟩
  rw [← hp] at HR1 h
  rw [← hq] at HR2 h
  have HA := Lib.hid ha
  have HB := Lib.hid hb
  clear hp hq ha hb
  cases p
  · go_enter Tryz.func17, Tryz.ntmps17
    go_wp2_with (go_at_call 32; refine (HR1.out _ (HA.out.below (by go_grown))).mono ?_; rintro e w' ⟨rfl, rfl⟩)
    go_returns
    exact ⟨rfl, by go_grown⟩
  · obtain rfl : q = false := by simpa using h
    go_enter Tryz.func17, Tryz.ntmps17
    go_wp2_with (first | (go_at_call_of 32 (Value.agg #[.bool na, sa]); (with_reducible refine (HR1.out _ (HA.out.below (by go_grown))).mono ?_); rintro e w' ⟨rfl, rfl⟩) | (go_at_call_of 32 (Value.agg #[.bool nb, sb]); (with_reducible refine (HR2.out _ (HB.out.below (by go_grown))).mono ?_); rintro e w' ⟨rfl, rfl⟩))
    go_returns
    exact ⟨rfl, by go_grown⟩

set_option maxRecDepth 10000 in
set_option maxHeartbeats 1000000 in
theorem gcd18_no {w : World} {na nb : Bool} {sa sb : Value} {xs ys : List Nat} (ha : Sl w sa xs) (hb : Sl w sb ys) (hla : xs.length ≤ 1000) (hlb : ys.length ≤ 1000) (h : rightB na xs = false ∨ rightB nb ys = false) :
    Calls Tryz.prog 18 #[.agg #[.bool na, sa], .agg #[.bool nb, sb]] w (NumNo w) := by
  have HR1 := Lib.hid (fun W (h : Sl W sa xs) => right41_any na h (by omega))
  have HR2 := Lib.hid (fun W (h : Sl W sb ys) => right41_any nb h (by omega))
  obtain ⟨p, hp⟩ : ∃ p, p = rightB na xs := ⟨_, rfl⟩
  obtain ⟨q, hq⟩ : ∃ q, q = rightB nb ys := ⟨_, rfl⟩
  rw [← hp] at HR1 h
  rw [← hq] at HR2 h
  have HA := Lib.hid ha
  have HB := Lib.hid hb
  clear hp hq ha hb
  cases p
  · go_enter Tryz.func18, Tryz.ntmps18
    go_wp2_with (go_at_call 41; refine (HR1.out _ (HA.out.below (by go_grown))).mono ?_; rintro e w' ⟨rfl, rfl⟩)
    go_returns
    exact ⟨rfl, by go_grown⟩
  · obtain rfl : q = false := by simpa using h
    go_enter Tryz.func18, Tryz.ntmps18
    go_wp2_with (first | (go_at_call_of 41 (Value.agg #[.bool na, sa]); (with_reducible refine (HR1.out _ (HA.out.below (by go_grown))).mono ?_); rintro e w' ⟨rfl, rfl⟩) | (go_at_call_of 41 (Value.agg #[.bool nb, sb]); (with_reducible refine (HR2.out _ (HB.out.below (by go_grown))).mono ?_); rintro e w' ⟨rfl, rfl⟩))
    go_returns
    exact ⟨rfl, by go_grown⟩

set_option maxRecDepth 10000 in
set_option maxHeartbeats 1000000 in
theorem div15_no {w : World} {na nb : Bool} {sa sb : Value} {xs ys : List Nat} (ha : Sl w sa xs) (hb : Sl w sb ys) (hla : xs.length ≤ 1000) (hlb : ys.length ≤ 1000) (h : rightB na xs = false ∨ rightB nb ys = false) :
    Calls Tryz.prog 15 #[.agg #[.bool na, sa], .agg #[.bool nb, sb]] w (DivNo w) := by
  have HR1 := Lib.hid (fun W (h : Sl W sa xs) => right_any na h (by omega))
  have HR2 := Lib.hid (fun W (h : Sl W sb ys) => right_any nb h (by omega))
  obtain ⟨p, hp⟩ : ∃ p, p = rightB na xs := ⟨_, rfl⟩
  obtain ⟨q, hq⟩ : ∃ q, q = rightB nb ys := ⟨_, rfl⟩
  rw [← hp] at HR1 h
  rw [← hq] at HR2 h
  have HA := Lib.hid ha
  have HB := Lib.hid hb
  clear hp hq ha hb
  cases p
  · go_enter Tryz.func15, Tryz.ntmps15
    go_wp2_with (go_at_call 32; refine (HR1.out _ (HA.out.below (by go_grown))).mono ?_; rintro e w' ⟨rfl, rfl⟩)
    go_returns
    exact ⟨rfl, by go_grown⟩
  · obtain rfl : q = false := by simpa using h
    go_enter Tryz.func15, Tryz.ntmps15
    go_wp2_with (first | (go_at_call_of 32 (Value.agg #[.bool na, sa]); (with_reducible refine (HR1.out _ (HA.out.below (by go_grown))).mono ?_); rintro e w' ⟨rfl, rfl⟩) | (go_at_call_of 32 (Value.agg #[.bool nb, sb]); (with_reducible refine (HR2.out _ (HB.out.below (by go_grown))).mono ?_); rintro e w' ⟨rfl, rfl⟩))
    go_returns
    exact ⟨rfl, by go_grown⟩

set_option maxRecDepth 10000 in
set_option maxHeartbeats 1000000 in
theorem div16_no {w : World} {na nb : Bool} {sa sb : Value} {xs ys : List Nat} (ha : Sl w sa xs) (hb : Sl w sb ys) (hla : xs.length ≤ 1000) (hlb : ys.length ≤ 1000) (h : rightB na xs = false ∨ rightB nb ys = false) :
    Calls Tryz.prog 16 #[.agg #[.bool na, sa], .agg #[.bool nb, sb]] w (DivNo w) := by
  have HR1 := Lib.hid (fun W (h : Sl W sa xs) => right41_any na h (by omega))
  have HR2 := Lib.hid (fun W (h : Sl W sb ys) => right41_any nb h (by omega))
  obtain ⟨p, hp⟩ : ∃ p, p = rightB na xs := ⟨_, rfl⟩
  obtain ⟨q, hq⟩ : ∃ q, q = rightB nb ys := ⟨_, rfl⟩
  rw [← hp] at HR1 h
  rw [← hq] at HR2 h
  have HA := Lib.hid ha
  have HB := Lib.hid hb
  clear hp hq ha hb
  cases p
  · go_enter Tryz.func16, Tryz.ntmps16
    go_wp2_with (go_at_call 41; refine (HR1.out _ (HA.out.below (by go_grown))).mono ?_; rintro e w' ⟨rfl, rfl⟩)
    go_returns
    exact ⟨rfl, by go_grown⟩
  · obtain rfl : q = false := by simpa using h
    go_enter Tryz.func16, Tryz.ntmps16
    go_wp2_with (first | (go_at_call_of 41 (Value.agg #[.bool na, sa]); (with_reducible refine (HR1.out _ (HA.out.below (by go_grown))).mono ?_); rintro e w' ⟨rfl, rfl⟩) | (go_at_call_of 41 (Value.agg #[.bool nb, sb]); (with_reducible refine (HR2.out _ (HB.out.below (by go_grown))).mono ?_); rintro e w' ⟨rfl, rfl⟩))
    go_returns
    exact ⟨rfl, by go_grown⟩

set_option maxRecDepth 10000 in
set_option maxHeartbeats 1000000 in
theorem div15_zero {w : World} {na : Bool} {sa sb : Value} {xs : List Nat} (ha : Sl w sa xs) (hb : Sl w sb []) (hla : xs.length ≤ 1000) (h : rightB na xs = true) :
    Calls Tryz.prog 15 #[.agg #[.bool na, sa], .agg #[.bool false, sb]] w (DivNo w) := by
  have HR1 := Lib.hid (fun W (h : Sl W sa xs) => right_any na h (by omega))
  have HR2 := Lib.hid (fun W (h : Sl W sb []) => right_any false h (by simp))
  rw [h] at HR1
  rw [show rightB false [] = true from rfl] at HR2
  obtain ⟨ab, cb, rfl⟩ := hb.mk'
  rw [List.length_nil] at HR2 ⊢
  have HA := Lib.hid ha
  have HB := Lib.hid hb
  clear ha hb h
  go_enter Tryz.func15, Tryz.ntmps15
  go_wp2_with (first | (go_at_call_of 32 (Value.agg #[.bool na, sa]); (with_reducible refine (HR1.out _ (HA.out.below (by go_grown))).mono ?_); rintro e w' ⟨rfl, rfl⟩) | (go_at_call_of 32 (Value.agg #[.bool false, .slice ab 0 cb]); (with_reducible refine (HR2.out _ (HB.out.below (by go_grown))).mono ?_); rintro e w' ⟨rfl, rfl⟩))
  go_returns
  exact ⟨rfl, by go_grown⟩

set_option maxRecDepth 10000 in
set_option maxHeartbeats 1000000 in
theorem div16_zero {w : World} {na : Bool} {sa sb : Value} {xs : List Nat} (ha : Sl w sa xs) (hb : Sl w sb []) (hla : xs.length ≤ 1000) (h : rightB na xs = true) :
    Calls Tryz.prog 16 #[.agg #[.bool na, sa], .agg #[.bool false, sb]] w (DivNo w) := by
  have HR1 := Lib.hid (fun W (h : Sl W sa xs) => right41_any na h (by omega))
  have HR2 := Lib.hid (fun W (h : Sl W sb []) => right41_any false h (by simp))
  rw [h] at HR1
  rw [show rightB false [] = true from rfl] at HR2
  obtain ⟨ab, cb, rfl⟩ := hb.mk'
  rw [List.length_nil] at HR2 ⊢
  have HA := Lib.hid ha
  have HB := Lib.hid hb
  clear ha hb h
  go_enter Tryz.func16, Tryz.ntmps16
  go_wp2_with (first | (go_at_call_of 41 (Value.agg #[.bool na, sa]); (with_reducible refine (HR1.out _ (HA.out.below (by go_grown))).mono ?_); rintro e w' ⟨rfl, rfl⟩) | (go_at_call_of 41 (Value.agg #[.bool false, .slice ab 0 cb]); (with_reducible refine (HR2.out _ (HB.out.below (by go_grown))).mono ?_); rintro e w' ⟨rfl, rfl⟩))
  go_returns
  exact ⟨rfl, by go_grown⟩

end Go.Proofs.YtdgmjmckeeeljaaGreatDoor

namespace Go.Proofs.YtdgmjmckeeeljaaGreatDoor
open Go.RowKit

/-- What a loop of guesses holds. -/
def GuessR (w : World) (hi top S B : Nat) (qv rv : Value) (wr : World) : Prop :=
  ∃ q r : Nat, qv = .int .u64 q ∧ rv = .int .u64 r ∧ q / 4294967296 < 4294967296 ∧ r < 8589934592 ∧ Guessing hi top S B q r ∧ ∃ n, wr = w.drewN n

def GuessE (w : World) (S B : Nat) (e : Ending) (w' : World) : Prop := ∃ q : Nat, e = .returned (.int .u32 q) ∧ Guess S B q ∧ ∃ n, w' = w.drewN n

theorem dn2 (w : World) (a b : Nat) : ∃ k, (w.drewN a).drewN b = w.drewN k := ⟨_, by rw [World.drewN_drewN]⟩
theorem dn3 (w : World) (a b c : Nat) : ∃ k, ((w.drewN a).drewN b).drewN c = w.drewN k := ⟨_, by rw [World.drewN_drewN, World.drewN_drewN]⟩

set_option maxRecDepth 100000 in
theorem lss32 (x : Nat) (h : x < 4294967296) : binOp BinOp.lss 69 (.int .u64 (x : Int)) (.int .u64 4294967296) = (pure (.bool true) : Sem Value) := by
  have e : binOp BinOp.lss 69 (.int .u64 (x : Int)) (.int .u64 4294967296) = (pure (.bool (decide ((x : Int) < 4294967296))) : Sem Value) := rfl
  rw [e, decide_eq_true (by omega)]
set_option maxRecDepth 100000 in
theorem lss32' (x : Nat) (h : ¬ x < 4294967296) : binOp BinOp.lss 69 (.int .u64 (x : Int)) (.int .u64 4294967296) = (pure (.bool false) : Sem Value) := by
  have e : binOp BinOp.lss 69 (.int .u64 (x : Int)) (.int .u64 4294967296) = (pure (.bool (decide ((x : Int) < 4294967296))) : Sem Value) := rfl
  rw [e, decide_eq_false (by omega)]
set_option maxRecDepth 100000 in
theorem geq32 (x : Nat) (h : 4294967296 ≤ x) : binOp BinOp.geq 69 (.int .u64 (x : Int)) (.int .u64 4294967296) = (pure (.bool true) : Sem Value) := by
  have e : binOp BinOp.geq 69 (.int .u64 (x : Int)) (.int .u64 4294967296) = (pure (.bool (decide ((4294967296 : Int) ≤ x))) : Sem Value) := rfl
  rw [e, decide_eq_true (by omega)]
set_option maxRecDepth 100000 in
theorem geq32' (x : Nat) (h : ¬ 4294967296 ≤ x) : binOp BinOp.geq 69 (.int .u64 (x : Int)) (.int .u64 4294967296) = (pure (.bool false) : Sem Value) := by
  have e : binOp BinOp.geq 69 (.int .u64 (x : Int)) (.int .u64 4294967296) = (pure (.bool (decide ((4294967296 : Int) ≤ x))) : Sem Value) := rfl
  rw [e, decide_eq_false (by omega)]

theorem guess_div {top hi q r : Nat} (hq : top / hi = q) (hr : top % hi = r) : ((top : Int) / (hi : Int) = (q : Int)) ∧ ((top : Int) % (hi : Int) = (r : Int)) := by
  subst hq hr
  exact ⟨rfl, rfl⟩

set_option maxRecDepth 10000 in
set_option maxHeartbeats 2000000 in
theorem guessed_any {w : World} {b off pc d doff bc m : Nat} {ps bs : List Nat} (hp : ps.length = m + 3) (hb : bs.length = m + 2) (cp : Cl w b off ps) (cb : Cl w d doff bs) (hm : m ≤ 1000000)
    (hbp : Bd ps) (hbb : Bd bs) (h0 : bs.getD (m + 1) 0 ≠ 0) (hlt : val ps < 4294967296 * val bs) :
    Calls Tryz.prog 103 #[.slice (some ⟨b, off, none⟩) (m + 3) pc, .slice (some ⟨d, doff, none⟩) (m + 2) bc] w (GuessE w (val ps) (val bs)) := by
  have c0 := cp m (by omega)
  have c1 := cp (m + 1) (by omega)
  have c2 := cp (m + 2) (by omega)
  have e0 := cb m (by omega)
  have e1 := cb (m + 1) (by omega)
  have l0 : ps.getD m 0 < 4294967296 := by rw [val_digit hbp]; exact Nat.mod_lt _ (by omega)
  have l1 : ps.getD (m + 1) 0 < 4294967296 := by rw [val_digit hbp]; exact Nat.mod_lt _ (by omega)
  have l2 : ps.getD (m + 2) 0 < 4294967296 := by rw [val_digit hbp]; exact Nat.mod_lt _ (by omega)
  have k0 : bs.getD m 0 < 4294967296 := by rw [val_digit hbb]; exact Nat.mod_lt _ (by omega)
  have k1 : bs.getD (m + 1) 0 < 4294967296 := by rw [val_digit hbb]; exact Nat.mod_lt _ (by omega)
  have HST := guessing_start hp hb hbp h0
  have HSEC := Lib.hid (fun q r => guess_second (q := q) (rest := r) hp hb hbp)
  have HKEP := Lib.hid (fun q r => guess_kept (q := q) (rest := r) hp hb hbp hbb h0 hlt)
  have HBIG := Lib.hid (fun q => guess_big (q := q) hlt)
  obtain ⟨p0, hp0⟩ : ∃ p, p = ps.getD m 0 := ⟨_, rfl⟩
  obtain ⟨p1, hp1⟩ : ∃ p, p = ps.getD (m + 1) 0 := ⟨_, rfl⟩
  obtain ⟨p2, hp2⟩ : ∃ p, p = ps.getD (m + 2) 0 := ⟨_, rfl⟩
  obtain ⟨b1, hb1⟩ : ∃ p, p = bs.getD m 0 := ⟨_, rfl⟩
  obtain ⟨hi, hhi⟩ : ∃ p, p = bs.getD (m + 1) 0 := ⟨_, rfl⟩
  obtain ⟨S, hS⟩ : ∃ S, S = val ps := ⟨_, rfl⟩
  obtain ⟨B, hB⟩ : ∃ B, B = val bs := ⟨_, rfl⟩
  rw [← hp0] at c0 l0 HSEC HKEP
  rw [← hp1] at c1 l1 HST HSEC HKEP
  rw [← hp2] at c2 l2 HST HSEC HKEP
  rw [← hb1] at e0 k0 HSEC HKEP
  rw [← hhi] at e1 k1 h0 HST HSEC HKEP
  rw [← hS] at HST HSEC HKEP HBIG ⊢
  rw [← hB] at HST HSEC HKEP HBIG ⊢
  clear hp0 hp1 hp2 hb1 hhi hS hB hp hb hbp hbb hlt cp cb
  have ht := or_join p2 p1 l2 l1
  have etop : p2 * 4294967296 + p1 = p1 + 4294967296 * p2 := by omega
  rw [etop] at HST HSEC HKEP
  have hth : (p1 + 4294967296 * p2) / 4294967296 < 4294967296 := by omega
  obtain ⟨top, htop⟩ : ∃ t, t = p1 + 4294967296 * p2 := ⟨_, rfl⟩
  rw [← htop] at ht HST HSEC HKEP hth
  clear htop etop
  obtain ⟨q0, hq0⟩ : ∃ q, q = top / hi := ⟨_, rfl⟩
  obtain ⟨r0, hr0⟩ : ∃ r, r = top % hi := ⟨_, rfl⟩
  obtain ⟨f1, f2⟩ := guess_div hq0.symm hr0.symm
  have g3 : ((hi : Int) == 0) = false := by simp; omega
  have lq : q0 / 4294967296 < 4294967296 := by rw [hq0]; exact Nat.lt_of_le_of_lt (Nat.div_le_div_right (Nat.div_le_self _ _)) hth
  have lr : r0 < 4294967296 := by rw [hr0]; exact Nat.lt_trans (Nat.mod_lt _ (by omega)) k1
  rw [← hq0, ← hr0] at HST
  have HST := Lib.hid HST
  clear hq0 hr0
  go_enter Tryz.func103, Tryz.ntmps103
  go_wp2
  go_quiet (fail)
  go_wp2
  go_quiet (fail)
  go_wp2
  go_loopw [8, 9] (fun qv rv wr => GuessR w hi top S B qv rv wr) (fun _ rv _ => (8589934592 - intOf rv).toNat)
  case atStart => exact ⟨q0, r0, by first | rfl | rw [f1], by first | rfl | rw [f2], lq, by omega, HST.out, dn2 _ _ _⟩
  case round =>
    obtain ⟨q, r, rfl, rfl, bq, br, hg, nn, rfl⟩ := hrel
    have HG := Lib.hid hg
    clear hg lq lr HST f1 f2 g3 ht
    by_cases hr : r < 4294967296
    · have b1r := lss32 r hr
      by_cases hq : 4294967296 ≤ q
      · have b2r := geq32 q hq
        have hd := guess_down HG.out (HBIG.out q hq)
        have hq1 := hd.1
        have HN := Lib.hid hd.2
        clear hd hq
        go_wp2
        go_quiet (fail)
        go_wp2
        go_roundw
        case rel => exact ⟨q - 1, r + hi, by go_num, by go_num, by omega, by omega, HN.out, _, rfl⟩
        case measure => simp [intOf]; omega
      · have hj := or_join r p0 hr l0
        have b2r := geq32' q hq
        have hm1 : q * b1 / 4294967296 < 4294967296 := by
          have := Nat.mul_le_mul (show q ≤ 4294967295 by omega) (show b1 ≤ 4294967295 by omega)
          omega
        have wm : IntKind.u64.wrap ((q : Int) * (b1 : Int)) = ((q * b1 : Nat) : Int) := by rw [IntKind.wrap_u64]; push_cast; omega
        obtain ⟨X, hX⟩ : ∃ X, X = q * b1 := ⟨_, rfl⟩
        obtain ⟨Y, hY⟩ : ∃ Y, Y = p0 + 4294967296 * r := ⟨_, rfl⟩
        rw [← hX] at wm hm1
        rw [← hY] at hj
        by_cases hx : Y < X
        · have hd := guess_down HG.out (HSEC.out q r HG.out (by omega))
          have hq1 := hd.1
          have HN := Lib.hid hd.2
          clear hd hX hY
          go_wp2
          go_quiet (fail)
          go_wp2
          go_roundw
          case rel => exact ⟨q - 1, r + hi, by go_num, by go_num, by omega, by omega, HN.out, _, rfl⟩
          case measure => simp [intOf]; omega
        · have HK := Lib.hid (HKEP.out q r HG.out (.inr ⟨by omega, by omega⟩))
          have lq := HK.out.1
          clear hX hY
          go_wp2
          go_quiet (fail)
          go_wp2
          go_ret
          exact ⟨q, by go_num, HK.out, _, rfl⟩
    · have b1r := lss32' r hr
      have HK := Lib.hid (HKEP.out q r HG.out (.inl (by omega)))
      have lq := HK.out.1
      go_wp2
      go_quiet (fail)
      go_wp2
      go_ret
      exact ⟨q, by go_num, HK.out, _, rfl⟩

end Go.Proofs.YtdgmjmckeeeljaaGreatDoor

namespace Go.Proofs.YtdgmjmckeeeljaaGreatDoor
open Go.RowKit

/-- Nothing but block g has changed. -/
structure Only (g : Nat) (w w' : World) : Prop where
  bel : Below g w w'
  size : w'.heap.size = w.heap.size
  oth : ∀ b, b ≠ g → w'.heap[b]? = w.heap[b]?

theorem Only.refl (g : Nat) (w : World) : Only g w w := ⟨Below.refl _ _, rfl, fun _ _ => rfl⟩
theorem Only.trans {g : Nat} {a b c : World} (h : Only g a b) (k : Only g b c) : Only g a c := ⟨h.bel.trans k.bel, k.size.trans h.size, fun x hx => (k.oth x hx).trans (h.oth x hx)⟩
theorem Only.set (g : Nat) (w : World) (o : Nat) (u : Value) : Only g w (w.setCell ⟨g, o, none⟩ u) :=
  ⟨(Below.refl g w).setCell (p := ⟨g, o, none⟩) (Nat.le_refl g) u, by simp, fun b hb => heap_setCell_other w ⟨g, o, none⟩ b u (by simpa using hb)⟩
theorem Only.drew (g : Nat) (w : World) (n : Nat) : Only g w (w.drewN n) := ⟨⟨rfl, rfl, rfl, Nat.le_refl _, fun _ _ => rfl⟩, rfl, fun _ _ => rfl⟩

/-- The slice lies elsewhere. -/
def Off (g : Nat) (v : Value) : Prop := ∀ b off n cap, v = .slice (some ⟨b, off, none⟩) n cap → n ≠ 0 → b ≠ g

theorem cell_of_block {w w' : World} {c : Addr} (h : w'.heap[c.block]? = w.heap[c.block]?) : w'.cell? c = w.cell? c := by
  unfold World.cell?
  rw [h]

theorem Sl.only {g : Nat} {w w' : World} {v : Value} {ds : List Nat} (h : Sl w v ds) (ho : Off g v) (hk : Only g w w') : Sl w' v ds := by
  refine ⟨h.bd, h.len, ?_⟩
  rcases h.is with h1 | ⟨b, off, cap, e, hc, hl⟩
  · exact .inl h1
  · refine .inr ⟨b, off, cap, e, hc, fun j hj => ?_⟩
    rw [← hl j hj]
    exact cell_of_block (hk.oth b (ho _ _ _ _ e (by omega)))

/-- A digit of the part. -/
theorem mid_get {pre zs post : List Nat} {j : Nat} (hj : j < zs.length) : (pre ++ zs ++ post).getD (pre.length + j) 0 = zs.getD j 0 := by
  simp only [List.getD_eq_getElem?_getD]
  rw [List.append_assoc, List.getElem?_append_right (by omega), Nat.add_sub_cancel_left, List.getElem?_append_left hj]

theorem mid_set {pre zs post : List Nat} {j d : Nat} (hj : j < zs.length) : (pre ++ zs ++ post).set (pre.length + j) d = pre ++ zs.set j d ++ post := by
  rw [List.append_assoc, List.append_assoc, List.set_append_right _ _ (by omega), Nat.add_sub_cancel_left, List.set_append_left _ _ hj]

def TakeR (w : World) (g q n : Nat) (pre ms post bs : List Nat) (cv bv kv : Value) (wr : World) : Prop :=
  ∃ (k c bo : Nat) (zs : List Nat), k ≤ n ∧ cv = .int .u64 c ∧ bv = .int .u32 bo ∧ kv = .int .i64 k ∧ Taking q ms bs zs k c bo ∧ Row wr g (pre ++ zs ++ post) ∧ Only g w wr

def TakeE (w : World) (g q n : Nat) (pre ms post bs : List Nat) (e : Ending) (w' : World) : Prop :=
  ∃ (bo : Nat) (zs : List Nat), e = .returned (.bool (decide (bo = 1))) ∧ zs.length = n ∧ Bd zs ∧ bo ≤ 1 ∧ val zs + q * val bs = val ms + 4294967296 ^ n * bo ∧ Row w' g (pre ++ zs ++ post) ∧ Only g w w'

theorem u64_div (t c' : Nat) (h : t / 4294967296 = c') : ((t : Int) / 4294967296) = (c' : Int) := by subst h; rfl

set_option maxRecDepth 10000 in
set_option maxHeartbeats 2000000 in
theorem takeAway_any {w : World} {g q n cap p : Nat} {vb : Value} {pre ms post bs : List Nat} (hr : Row w g (pre ++ ms ++ post)) (hm : ms.length = n + 1) (hn : n ≤ 1000000) (hp : pre.length = p) (hbm : Bd ms) (hb : Sl w vb bs) (hbl : bs.length ≤ n) (ho : Off g vb) (hq : q < 4294967296) :
    Calls Tryz.prog 104 #[.slice (some ⟨g, p, none⟩) (n + 1) cap, vb, .int .u32 q] w (TakeE w g q (n + 1) pre ms post bs) := by
  have HEND := Lib.hid (fun (c bo : Nat) (zs : List Nat) (h : Taking q ms bs zs ms.length c bo) => taking_end h hm hq hbl hb.bd)
  have HD : Hid (∀ W (k : Nat), Only g w W → Calls Tryz.prog 78 #[vb, .int .i64 k] W fun e w' => e = .returned (.int .u32 (bs.getD k 0 : Nat)) ∧ w' = W) := Lib.hid (fun W k h => by
    have := digit_any (hb.only ho h) k
    rwa [show dg bs (k : Nat) = bs.getD k 0 from rfl] at this)
  have HBL : Hid (∀ k, bs.getD k 0 < 4294967296) := Lib.hid (fun k => by rw [val_digit hb.bd]; exact Nat.mod_lt _ (by omega))
  have HR := Lib.hid hr
  have HST := Lib.hid (taking_start q ms bs hbm)
  have HP := Lib.hid hp
  have HM := Lib.hid hm
  have HBM := Lib.hid hbm
  clear hr hb hbl ho hp hm hbm
  go_enter Tryz.func104, Tryz.ntmps104
  go_wp2
  go_loopw [7, 8, 12] (fun cv bv kv wr => TakeR w g q (n + 1) pre ms post bs cv bv kv wr) (fun _ _ kv _ => (n + 1 - intOf kv).toNat)
  case atStart => exact ⟨0, 0, 0, ms, by omega, rfl, rfl, rfl, HST.out, HR.out, Only.refl _ _⟩
  case round =>
    obtain ⟨k, c, bo, zs, hk, rfl, rfl, rfl, hT, hrow, hon⟩ := hrel
    have hc := hT.2.2.2.1
    have hbo := hT.2.2.2.2.1
    have HT := Lib.hid hT
    have HON := Lib.hid hon
    have HROW := Lib.hid hrow
    clear hT hon hrow HST HR
    by_cases hlt : k < n + 1
    · have hzl : k < zs.length := by rw [HT.out.1, HM.out]; exact hlt
      have hx := HROW.out.cell (pre.length + k) (by simp only [List.length_append]; omega)
      rw [mid_get hzl, HP.out, drop_at HT.out.2.2.1] at hx
      have hfree := HROW.out.free (p + k)
      have hxl : ms.getD k 0 < 4294967296 := by rw [val_digit HBM.out]; exact Nat.mod_lt _ (by omega)
      have hd := HD.out wr k HON.out
      have hyl := HBL.out k
      have hstep := fun d low c' bo' h1 h2 h3 h4 h5 h6 => taking_step (q := q) (d := d) (low := low) (c' := c') (bo' := bo') HT.out (by rw [HM.out]; exact hlt) h1 h2 h3 h4 h5 h6
      obtain ⟨x, hxx⟩ : ∃ x, x = ms.getD k 0 := ⟨_, rfl⟩
      obtain ⟨y, hyy⟩ : ∃ y, y = bs.getD k 0 := ⟨_, rfl⟩
      rw [← hxx] at hx hxl hstep
      rw [← hyy] at hd hyl hstep
      clear hxx hyy
      have hqy : q * y ≤ 4294967295 * 4294967295 := Nat.mul_le_mul (by omega) (by omega)
      obtain ⟨t, ht⟩ : ∃ t, t = c + q * y := ⟨_, rfl⟩
      obtain ⟨c', hc'⟩ : ∃ c', c' = t / 4294967296 := ⟨_, rfl⟩
      obtain ⟨low, hlow⟩ : ∃ low, low = t % 4294967296 := ⟨_, rfl⟩
      have hc2 : c' < 4294967296 := by omega
      have hl2 : low < 4294967296 := by omega
      have hqy2 : q * y / 4294967296 < 4294967296 := by omega
      have ht2 : t / 4294967296 < 4294967296 := by omega
      have wm : IntKind.u64.wrap ((q : Int) * (y : Int)) = ((q * y : Nat) : Int) := by rw [IntKind.wrap_u64]; push_cast; omega
      have ws : IntKind.u64.wrap ((c : Int) + ((q * y : Nat) : Int)) = (t : Int) := by rw [IntKind.wrap_u64]; omega
      have ws2 : IntKind.u64.wrap ((c : Int) + (q : Int) * (y : Int)) = (t : Int) := by
        have e : (q : Int) * (y : Int) = ((q * y : Nat) : Int) := by push_cast; rfl
        rw [e]; exact ws
      have fl : (t : Int) % 4294967296 = (low : Int) := by rw [hlow]; rfl
      have fc : (t : Int) / 4294967296 = (c' : Int) := by rw [hc']; rfl
      obtain ⟨s1, s2, s3⟩ := sb_eq hxl hl2 hbo
      have HN := Lib.hid (hstep (sbd x low bo) low c' (sbb x low bo) (by omega) hl2 hc2 (by omega) s2 (by omega))
      clear hstep ht hc' hlow hqy s1
      go_wp2_with (first | (go_at_call 78; (with_reducible refine hd.mono ?_); rintro e w' ⟨rfl, rfl⟩) | (go_at_call 79; (with_reducible refine (sub32_any x low bo _ hxl hl2 hbo).mono ?_); rintro e w' ⟨rfl, rfl⟩))
      go_roundw
      case rel => exact ⟨k + 1, c', sbb x low bo, zs.set k (sbd x low bo), by omega, by first | rfl | go_num, by first | rfl | go_num, by go_num, HN.out, by have := HROW.out.set (p + k) (sbd x low bo); rw [← HP.out, mid_set (by rw [HT.out.1, HM.out]; exact hlt)] at this; rw [← HP.out]; exact this, HON.out.trans (Only.set _ _ _ _)⟩
      case measure => simp [intOf]; omega
    · obtain rfl : k = n + 1 := by omega
      have hE := Lib.hid (HEND.out c bo zs (by rw [HM.out]; exact HT.out))
      rcases (show bo = 0 ∨ bo = 1 by omega) with rfl | rfl
      all_goals
        go_wp2
        go_ret
        exact ⟨_, zs, rfl, HT.out.1.trans HM.out, HT.out.2.1, by omega, hE.out, HROW.out, HON.out⟩

end Go.Proofs.YtdgmjmckeeeljaaGreatDoor

namespace Go.Proofs.YtdgmjmckeeeljaaGreatDoor
open Go.RowKit

def gbCh : List (Nat × Nat) := [(16, 13), (13, 11), (11, 10), (10, 9), (10, 8), (10, 5), (15, 12), (12, 11)]

set_option maxHeartbeats 400000 in
theorem add32_any (x y c : Nat) (w : World) (hx : x < 4294967296) (hy : y < 4294967296) (hc : c ≤ 1) :
    Calls Tryz.prog 122 #[.int .u32 x, .int .u32 y, .int .u32 c] w fun e w' => e = .returned (.tuple #[.int .u32 ((x + y + c) % 4294967296 : Nat), .int .u32 ((x + y + c) / 4294967296 : Nat)]) ∧ w' = w := by
  go_enter Tryz.func122, Tryz.ntmps122
  go_wp2
  go_ret2
  refine ⟨?_, rfl⟩
  first | rfl | (congr 3 <;> omega) | (push_cast; rfl)

def GiveR (w : World) (g n : Nat) (pre ms post bs : List Nat) (cv kv : Value) (wr : World) : Prop :=
  ∃ (k c : Nat) (zs : List Nat), k ≤ n ∧ cv = .int .u32 c ∧ kv = .int .i64 k ∧ Giving ms bs zs k c ∧ Row wr g (pre ++ zs ++ post) ∧ Only g w wr

def GiveE (w : World) (g n : Nat) (pre ms post bs : List Nat) (e : Ending) (w' : World) : Prop :=
  ∃ (c : Nat) (zs : List Nat), e = .returned (.tuple #[]) ∧ zs.length = n ∧ Bd zs ∧ c ≤ 1 ∧ val zs + 4294967296 ^ n * c = val ms + val bs ∧ Row w' g (pre ++ zs ++ post) ∧ Only g w w'

set_option maxRecDepth 10000 in
set_option maxHeartbeats 4000000 in
theorem giveBack_any {w : World} {g n cap p : Nat} {vb : Value} {pre ms post bs : List Nat} (hr : Row w g (pre ++ ms ++ post)) (hm : ms.length = n + 1) (hn : n ≤ 1000000) (hp : pre.length = p) (hbm : Bd ms) (hb : Sl w vb bs) (hbl : bs.length ≤ n) (ho : Off g vb) :
    Calls Tryz.prog 105 #[.slice (some ⟨g, p, none⟩) (n + 1) cap, vb] w (GiveE w g (n + 1) pre ms post bs) := by
  have HEND := Lib.hid (fun (c : Nat) (zs : List Nat) (h : Giving ms bs zs ms.length c) => giving_end h hm hbl)
  have HD : Hid (∀ W (k : Nat), Only g w W → Calls Tryz.prog 78 #[vb, .int .i64 k] W fun e w' => e = .returned (.int .u32 (bs.getD k 0 : Nat)) ∧ w' = W) := Lib.hid (fun W k h => by
    have := digit_any (hb.only ho h) k
    rwa [show dg bs (k : Nat) = bs.getD k 0 from rfl] at this)
  have HBL : Hid (∀ k, bs.getD k 0 < 4294967296) := Lib.hid (fun k => by rw [val_digit hb.bd]; exact Nat.mod_lt _ (by omega))
  have HR := Lib.hid hr
  have HST := Lib.hid (giving_start ms bs hbm)
  have HP := Lib.hid hp
  have HM := Lib.hid hm
  have HBM := Lib.hid hbm
  clear hr hb hbl ho hp hm hbm
  go_enter Tryz.func105, Tryz.ntmps105
  go_wp2
  go_loopw [4, 8] (fun cv kv wr => GiveR w g (n + 1) pre ms post bs cv kv wr) (fun _ kv _ => (n + 1 - intOf kv).toNat)
  case atStart => exact ⟨0, 0, ms, by omega, rfl, rfl, HST.out, HR.out, Only.refl _ _⟩
  case round =>
    obtain ⟨k, c, zs, hk, rfl, rfl, hT, hrow, hon⟩ := hrel
    have hc := hT.2.2.2.1
    have HT := Lib.hid hT
    have HON := Lib.hid hon
    have HROW := Lib.hid hrow
    clear hT hon hrow HST HR
    by_cases hlt : k < n + 1
    · have hzl : k < zs.length := by rw [HT.out.1, HM.out]; exact hlt
      have HON2 : Hid (Only g w wr.drew) := Lib.hid (HON.out.trans (Only.drew g wr 1))
      have hx : wr.drew.cell? ⟨g, p + k, none⟩ = some (.int .u32 ((ms.getD k 0 : Nat) : Int)) := by
        have hx := HROW.out.cell (pre.length + k) (by simp only [List.length_append]; omega)
        rw [mid_get hzl, HP.out, drop_at HT.out.2.2.1] at hx
        exact hx
      have hfree : wr.drew.frozen? ⟨g, p + k, none⟩ = false := HROW.out.free (p + k)
      have hxl : ms.getD k 0 < 4294967296 := by rw [val_digit HBM.out]; exact Nat.mod_lt _ (by omega)
      have hd := HD.out wr.drew k HON2.out
      have hyl := HBL.out k
      have hstep := fun d c' h1 h2 h3 => giving_step (d := d) (c' := c') HT.out (by rw [HM.out]; exact hlt) h1 h2 h3
      obtain ⟨x, hxx⟩ : ∃ x, x = ms.getD k 0 := ⟨_, rfl⟩
      obtain ⟨y, hyy⟩ : ∃ y, y = bs.getD k 0 := ⟨_, rfl⟩
      rw [← hxx] at hx hxl hstep
      rw [← hyy] at hd hyl hstep
      have h122 := fun W => add32_any x y c W hxl hyl hc
      obtain ⟨d, hdd⟩ : ∃ d, d = (x + y + c) % 4294967296 := ⟨_, rfl⟩
      obtain ⟨c2, hcc⟩ : ∃ c2, c2 = (x + y + c) / 4294967296 := ⟨_, rfl⟩
      rw [← hdd, ← hcc] at h122
      have HN := Lib.hid (hstep d c2 (by omega) (by omega) (by omega))
      clear hxx hyy hdd hcc hstep
      have hlI : (k : Int) < (n : Int) + 1 := by omega
      go_wp2
      refine frame_named ?_
      intro T hT
      obtain ⟨vals, hvals⟩ : ∃ vals : Nat → Value, vals = (fun i => if i = 0 then .slice (some ⟨g, p, none⟩) (n + 1) cap else if i = 1 then .int .i64 (k : Nat) else if i = 2 then .slice (some ⟨g, p, none⟩) (n + 1) cap else if i = 3 then .int .i64 (k : Nat) else if i = 4 then .pointer (some ⟨g, p + k, none⟩) else if i = 5 then .int .u32 (x : Nat) else if i = 6 then vb else if i = 7 then .int .i64 (k : Nat) else if i = 8 then .int .u32 (y : Nat) else if i = 9 then .int .u32 (c : Nat) else if i = 10 then .tuple #[.int .u32 (d : Nat), .int .u32 (c2 : Nat)] else if i = 11 then .tuple #[.int .u32 (d : Nat), .int .u32 (c2 : Nat)] else if i = 12 then .int .u32 (d : Nat) else if i = 13 then .int .u32 (c2 : Nat) else if i = 14 then .pointer (some ⟨g, p + k, none⟩) else if i = 16 then .int .u32 (c2 : Nat) else undef) := ⟨_, rfl⟩
      have v0 : vals 0 = .slice (some ⟨g, p, none⟩) (n + 1) cap := by rw [hvals]; rfl
      have v1 : vals 1 = .int .i64 (k : Nat) := by rw [hvals]; rfl
      have v2 : vals 2 = .slice (some ⟨g, p, none⟩) (n + 1) cap := by rw [hvals]; rfl
      have v3 : vals 3 = .int .i64 (k : Nat) := by rw [hvals]; rfl
      have v4 : vals 4 = .pointer (some ⟨g, p + k, none⟩) := by rw [hvals]; rfl
      have v5 : vals 5 = .int .u32 (x : Nat) := by rw [hvals]; rfl
      have v6 : vals 6 = vb := by rw [hvals]; rfl
      have v7 : vals 7 = .int .i64 (k : Nat) := by rw [hvals]; rfl
      have v8 : vals 8 = .int .u32 (y : Nat) := by rw [hvals]; rfl
      have v9 : vals 9 = .int .u32 (c : Nat) := by rw [hvals]; rfl
      have v10 : vals 10 = .tuple #[.int .u32 (d : Nat), .int .u32 (c2 : Nat)] := by rw [hvals]; rfl
      have v11 : vals 11 = .tuple #[.int .u32 (d : Nat), .int .u32 (c2 : Nat)] := by rw [hvals]; rfl
      have v12 : vals 12 = .int .u32 (d : Nat) := by rw [hvals]; rfl
      have v13 : vals 13 = .int .u32 (c2 : Nat) := by rw [hvals]; rfl
      have v14 : vals 14 = .pointer (some ⟨g, p + k, none⟩) := by rw [hvals]; rfl
      have v16 : vals 16 = .int .u32 (c2 : Nat) := by rw [hvals]; rfl
      clear hvals
      refine regionP_inv (by kernel_rfl) (fun l a w' => RV wr.drew ⟨g, p + k, none⟩ (.int .u32 (d : Nat)) 15 gbCh T [some 12, some 13, some 14, some 15, some 16, some 17, some 18, some 19, some 20, some 21, some 22, some 11, some 23, some 24, some 25, none, some 4] vals l a w') ?h0 ?step ?fin
      case h0 => exact RV.start rfl (fun i j h => by simp [gbCh] at h; simp only [List.length_cons, List.length_nil]; omega) (by decide)
      case step =>
          rintro l a w' i' hR hi'
          obtain ⟨hl0, o, ho, hdep⟩ := mem_ready.1 hi'
          have h15 : i' < 17 := by
            have := (Array.getElem?_eq_some_iff.1 ho).1
            simpa using this
          rcases (show i' = 0 ∨ i' = 1 ∨ i' = 2 ∨ i' = 3 ∨ i' = 4 ∨ i' = 5 ∨ i' = 6 ∨ i' = 7 ∨ i' = 8 ∨ i' = 9 ∨ i' = 10 ∨ i' = 11 ∨ i' = 12 ∨ i' = 13 ∨ i' = 14 ∨ i' = 15 ∨ i' = 16 by omega) with rfl | rfl | rfl | rfl | rfl | rfl | rfl | rfl | rfl | rfl | rfl | rfl | rfl | rfl | rfl | rfl | rfl
          · simp at ho
            subst ho
            simp [Region.binds] at hdep
            have k0 : a.tmps.getD 0 undef = _ := (hR.fr.kept rfl (by simp [hT])).trans (by rw [hT]; try rfl)
            have hc : ∀ j, (0, j) ∈ gbCh → l.getD j true = true := by intro j hj; simp [gbCh] at hj
            clear hi' hdep
            unfold wpOp
            simp [Region.wanted]
            refine .inl ?_
            unfold Oper.wp
            simp [execOp, go_sem, Act.eval, k0]
            exact hR.op 0 12 v0 rfl (by decide) hl0 (by decide) hc
          · simp at ho
            subst ho
            simp [Region.binds] at hdep
            have k0 : a.tmps.getD 5 undef = _ := (hR.fr.kept rfl (by simp [hT])).trans (by rw [hT]; try rfl)
            have hc : ∀ j, (1, j) ∈ gbCh → l.getD j true = true := by intro j hj; simp [gbCh] at hj
            clear hi' hdep
            unfold wpOp
            simp [Region.wanted]
            refine .inl ?_
            unfold Oper.wp
            simp [execOp, go_sem, Act.eval, k0]
            exact hR.op 1 13 v1 rfl (by decide) hl0 (by decide) hc
          · simp at ho
            subst ho
            simp [Region.binds] at hdep
            have k0 : a.tmps.getD 0 undef = _ := (hR.fr.kept rfl (by simp [hT])).trans (by rw [hT]; try rfl)
            have hc : ∀ j, (2, j) ∈ gbCh → l.getD j true = true := by intro j hj; simp [gbCh] at hj
            clear hi' hdep
            unfold wpOp
            simp [Region.wanted]
            refine .inl ?_
            unfold Oper.wp
            simp [execOp, go_sem, Act.eval, k0]
            exact hR.op 2 14 v2 rfl (by decide) hl0 (by decide) hc
          · simp at ho
            subst ho
            simp [Region.binds] at hdep
            have k0 : a.tmps.getD 5 undef = _ := (hR.fr.kept rfl (by simp [hT])).trans (by rw [hT]; try rfl)
            have hc : ∀ j, (3, j) ∈ gbCh → l.getD j true = true := by intro j hj; simp [gbCh] at hj
            clear hi' hdep
            unfold wpOp
            simp [Region.wanted]
            refine .inl ?_
            unfold Oper.wp
            simp [execOp, go_sem, Act.eval, k0]
            exact hR.op 3 15 v3 rfl (by decide) hl0 (by decide) hc
          · simp at ho
            subst ho
            simp [Region.binds] at hdep
            have k0 : a.tmps.getD 14 undef = _ := (hR.fr.done (i := 2) rfl (by simp_all) (by simp [hT])).trans v2
            have k1 : a.tmps.getD 15 undef = _ := (hR.fr.done (i := 3) rfl (by simp_all) (by simp [hT])).trans v3
            have hc : ∀ j, (4, j) ∈ gbCh → l.getD j true = true := by intro j hj; simp [gbCh] at hj
            clear hi' hdep
            unfold wpOp
            simp [Region.wanted]
            refine .inl ?_
            unfold Oper.wp
            simp [execOp, go_sem, Act.eval, k0, k1, hlI]
            exact hR.op 4 16 v4 rfl (by decide) hl0 (by decide) hc
          · simp at ho
            subst ho
            simp [Region.binds] at hdep
            have k0 : a.tmps.getD 16 undef = _ := (hR.fr.done (i := 4) rfl (by simp_all) (by simp [hT])).trans v4
            have hc : ∀ j, (5, j) ∈ gbCh → l.getD j true = true := by intro j hj; simp [gbCh] at hj
            have hw' := hR.before hl0 (fun hs => (hR.dep 10 5 (by decide) (hR.dep 11 10 (by decide) (hR.dep 12 11 (by decide) (hR.dep 15 12 (by decide) hs)))))
            subst hw'
            clear hi' hdep
            unfold wpOp
            simp [Region.wanted]
            refine .inl ?_
            unfold Oper.wp
            simp [execOp, go_sem, Act.eval, k0, hx]
            exact hR.op 5 17 v5 rfl (by decide) hl0 (by decide) hc
          · simp at ho
            subst ho
            simp [Region.binds] at hdep
            have k0 : a.tmps.getD 1 undef = _ := (hR.fr.kept rfl (by simp [hT])).trans (by rw [hT]; try rfl)
            have hc : ∀ j, (6, j) ∈ gbCh → l.getD j true = true := by intro j hj; simp [gbCh] at hj
            clear hi' hdep
            unfold wpOp
            simp [Region.wanted]
            refine .inl ?_
            unfold Oper.wp
            simp [execOp, go_sem, Act.eval, k0]
            exact hR.op 6 18 v6 rfl (by decide) hl0 (by decide) hc
          · simp at ho
            subst ho
            simp [Region.binds] at hdep
            have k0 : a.tmps.getD 5 undef = _ := (hR.fr.kept rfl (by simp [hT])).trans (by rw [hT]; try rfl)
            have hc : ∀ j, (7, j) ∈ gbCh → l.getD j true = true := by intro j hj; simp [gbCh] at hj
            clear hi' hdep
            unfold wpOp
            simp [Region.wanted]
            refine .inl ?_
            unfold Oper.wp
            simp [execOp, go_sem, Act.eval, k0]
            exact hR.op 7 19 v7 rfl (by decide) hl0 (by decide) hc
          · simp at ho
            subst ho
            simp [Region.binds] at hdep
            have k0 : a.tmps.getD 18 undef = _ := (hR.fr.done (i := 6) rfl (by simp_all) (by simp [hT])).trans v6
            have k1 : a.tmps.getD 19 undef = _ := (hR.fr.done (i := 7) rfl (by simp_all) (by simp [hT])).trans v7
            have hc : ∀ j, (8, j) ∈ gbCh → l.getD j true = true := by intro j hj; simp [gbCh] at hj
            have hw' := hR.before hl0 (fun hs => (hR.dep 10 8 (by decide) (hR.dep 11 10 (by decide) (hR.dep 12 11 (by decide) (hR.dep 15 12 (by decide) hs)))))
            subst hw'
            clear hi' hdep
            unfold wpOp
            simp [Region.wanted]
            refine .inl ?_
            unfold Oper.wp
            simp [execOp, go_sem, Act.eval, k0, k1]
            refine hd.mono ?_
            rintro e w'' ⟨rfl, rfl⟩
            exact hR.op 8 20 v8 rfl (by decide) hl0 (by decide) hc
          · simp at ho
            subst ho
            simp [Region.binds] at hdep
            have k0 : a.tmps.getD 4 undef = _ := (hR.fr.undone (i := 16) rfl (false_of hl0 (fun hs => (hR.dep 10 9 (by decide) (hR.dep 11 10 (by decide) (hR.dep 13 11 (by decide) (hR.dep 16 13 (by decide) hs)))))) (by simp [hT])).trans (by rw [hT]; try rfl)
            have hc : ∀ j, (9, j) ∈ gbCh → l.getD j true = true := by intro j hj; simp [gbCh] at hj
            clear hi' hdep
            unfold wpOp
            simp [Region.wanted]
            refine .inl ?_
            unfold Oper.wp
            simp [execOp, go_sem, Act.eval, k0]
            exact hR.op 9 21 v9 rfl (by decide) hl0 (by decide) hc
          · simp at ho
            subst ho
            simp [Region.binds] at hdep
            have k0 : a.tmps.getD 17 undef = _ := (hR.fr.done (i := 5) rfl (by simp_all) (by simp [hT])).trans v5
            have k1 : a.tmps.getD 20 undef = _ := (hR.fr.done (i := 8) rfl (by simp_all) (by simp [hT])).trans v8
            have k2 : a.tmps.getD 21 undef = _ := (hR.fr.done (i := 9) rfl (by simp_all) (by simp [hT])).trans v9
            have hc : ∀ j, (10, j) ∈ gbCh → l.getD j true = true := by intro j hj; simp [gbCh] at hj; rcases hj with rfl | rfl | rfl <;> exact getD_true (by simp_all)
            clear hi' hdep
            unfold wpOp
            simp [Region.wanted]
            refine .inl ?_
            unfold Oper.wp
            simp [execOp, go_sem, Act.eval, k0, k1, k2]
            refine (h122 _).mono ?_
            rintro e w'' ⟨rfl, rfl⟩
            exact hR.op 10 22 v10 rfl (by decide) hl0 (by decide) hc
          · simp at ho
            subst ho
            simp [Region.binds] at hdep
            have k0 : a.tmps.getD 22 undef = _ := (hR.fr.done (i := 10) rfl (by simp_all) (by simp [hT])).trans v10
            have hc : ∀ j, (11, j) ∈ gbCh → l.getD j true = true := by intro j hj; simp [gbCh] at hj; rcases hj with rfl <;> exact getD_true (by simp_all)
            clear hi' hdep
            unfold wpOp
            simp [Region.wanted]
            refine .inl ?_
            unfold Oper.wp
            simp [execOp, go_sem, Act.eval, k0]
            exact hR.op 11 11 v11 rfl (by decide) hl0 (by decide) hc
          · simp at ho
            subst ho
            simp [Region.binds] at hdep
            have k0 : a.tmps.getD 11 undef = _ := (hR.fr.done (i := 11) rfl (by simp_all) (by simp [hT])).trans v11
            have hc : ∀ j, (12, j) ∈ gbCh → l.getD j true = true := by intro j hj; simp [gbCh] at hj; rcases hj with rfl <;> exact getD_true (by simp_all)
            clear hi' hdep
            unfold wpOp
            simp [Region.wanted]
            refine .inl ?_
            unfold Oper.wp
            simp [execOp, go_sem, Act.eval, k0]
            exact hR.op 12 23 v12 rfl (by decide) hl0 (by decide) hc
          · simp at ho
            subst ho
            simp [Region.binds] at hdep
            have k0 : a.tmps.getD 11 undef = _ := (hR.fr.done (i := 11) rfl (by simp_all) (by simp [hT])).trans v11
            have hc : ∀ j, (13, j) ∈ gbCh → l.getD j true = true := by intro j hj; simp [gbCh] at hj; rcases hj with rfl <;> exact getD_true (by simp_all)
            clear hi' hdep
            unfold wpOp
            simp [Region.wanted]
            refine .inl ?_
            unfold Oper.wp
            simp [execOp, go_sem, Act.eval, k0]
            exact hR.op 13 24 v13 rfl (by decide) hl0 (by decide) hc
          · simp at ho
            subst ho
            simp [Region.binds] at hdep
            have k0 : a.tmps.getD 12 undef = _ := (hR.fr.done (i := 0) rfl (by simp_all) (by simp [hT])).trans v0
            have k1 : a.tmps.getD 13 undef = _ := (hR.fr.done (i := 1) rfl (by simp_all) (by simp [hT])).trans v1
            have hc : ∀ j, (14, j) ∈ gbCh → l.getD j true = true := by intro j hj; simp [gbCh] at hj
            clear hi' hdep
            unfold wpOp
            simp [Region.wanted]
            refine .inl ?_
            unfold Oper.wp
            simp [execOp, go_sem, Act.eval, k0, k1, hlI]
            exact hR.op 14 25 v14 rfl (by decide) hl0 (by decide) hc
          · simp at ho
            subst ho
            simp [Region.binds] at hdep
            have k0 : a.tmps.getD 25 undef = _ := (hR.fr.done (i := 14) rfl (by simp_all) (by simp [hT])).trans v14
            have k1 : a.tmps.getD 23 undef = _ := (hR.fr.done (i := 12) rfl (by simp_all) (by simp [hT])).trans v12
            have hc : ∀ j, (15, j) ∈ gbCh → l.getD j true = true := by intro j hj; simp [gbCh] at hj; rcases hj with rfl <;> exact getD_true (by simp_all)
            have hw' := hR.before hl0 (fun hs => hs)
            subst hw'
            clear hi' hdep
            unfold wpOp
            simp [Region.wanted]
            refine .inl ?_
            unfold Oper.wp
            simp [execOp, go_sem, Act.eval, k0, k1, hx, hfree]
            exact hR.store rfl hl0 hc undef
          · simp at ho
            subst ho
            simp [Region.binds] at hdep
            have k0 : a.tmps.getD 24 undef = _ := (hR.fr.done (i := 13) rfl (by simp_all) (by simp [hT])).trans v13
            have hc : ∀ j, (16, j) ∈ gbCh → l.getD j true = true := by intro j hj; simp [gbCh] at hj; rcases hj with rfl <;> exact getD_true (by simp_all)
            clear hi' hdep
            unfold wpOp
            simp [Region.wanted]
            refine .inl ?_
            unfold Oper.wp
            simp [execOp, go_sem, Act.eval, k0]
            exact hR.op 16 4 v16 rfl (by decide) hl0 (by decide) hc
      case' fin =>
          rintro l a w' hR hz
          have hnot := List.eq_nil_iff_forall_not_mem.1 hz
          have hk : ∀ k, k < 17 → (l.getD k true = false → False) → l.getD k false = true := fun k h12 h => by
            have hs := hR.size
            cases h' : l.getD k true with
            | false => exact (h h').elim
            | true => simp at hs; simp [Array.getD, hs, h12] at h' ⊢; exact h'
          have st0 := hk 0 (by omega) (fun h => hnot 0 (mem_ready.2 ⟨h, _, rfl, by simp [Region.binds]⟩))
          have st1 := hk 1 (by omega) (fun h => hnot 1 (mem_ready.2 ⟨h, _, rfl, by simp [Region.binds]⟩))
          have st2 := hk 2 (by omega) (fun h => hnot 2 (mem_ready.2 ⟨h, _, rfl, by simp [Region.binds]⟩))
          have st3 := hk 3 (by omega) (fun h => hnot 3 (mem_ready.2 ⟨h, _, rfl, by simp [Region.binds]⟩))
          have st4 := hk 4 (by omega) (fun h => hnot 4 (mem_ready.2 ⟨h, _, rfl, by simp [Region.binds] <;> simp_all⟩))
          have st5 := hk 5 (by omega) (fun h => hnot 5 (mem_ready.2 ⟨h, _, rfl, by simp [Region.binds] <;> simp_all⟩))
          have st6 := hk 6 (by omega) (fun h => hnot 6 (mem_ready.2 ⟨h, _, rfl, by simp [Region.binds]⟩))
          have st7 := hk 7 (by omega) (fun h => hnot 7 (mem_ready.2 ⟨h, _, rfl, by simp [Region.binds]⟩))
          have st8 := hk 8 (by omega) (fun h => hnot 8 (mem_ready.2 ⟨h, _, rfl, by simp [Region.binds] <;> simp_all⟩))
          have st9 := hk 9 (by omega) (fun h => hnot 9 (mem_ready.2 ⟨h, _, rfl, by simp [Region.binds] <;> simp_all⟩))
          have st10 := hk 10 (by omega) (fun h => hnot 10 (mem_ready.2 ⟨h, _, rfl, by simp [Region.binds] <;> simp_all⟩))
          have st11 := hk 11 (by omega) (fun h => hnot 11 (mem_ready.2 ⟨h, _, rfl, by simp [Region.binds] <;> simp_all⟩))
          have st12 := hk 12 (by omega) (fun h => hnot 12 (mem_ready.2 ⟨h, _, rfl, by simp [Region.binds] <;> simp_all⟩))
          have st13 := hk 13 (by omega) (fun h => hnot 13 (mem_ready.2 ⟨h, _, rfl, by simp [Region.binds] <;> simp_all⟩))
          have st14 := hk 14 (by omega) (fun h => hnot 14 (mem_ready.2 ⟨h, _, rfl, by simp [Region.binds] <;> simp_all⟩))
          have st15 := hk 15 (by omega) (fun h => hnot 15 (mem_ready.2 ⟨h, _, rfl, by simp [Region.binds] <;> simp_all⟩))
          have st16 := hk 16 (by omega) (fun h => hnot 16 (mem_ready.2 ⟨h, _, rfl, by simp [Region.binds] <;> simp_all⟩))
          have hall : ∀ i, i < 17 → l.getD i true = true := fun i hi => by
            rcases (show i = 0 ∨ i = 1 ∨ i = 2 ∨ i = 3 ∨ i = 4 ∨ i = 5 ∨ i = 6 ∨ i = 7 ∨ i = 8 ∨ i = 9 ∨ i = 10 ∨ i = 11 ∨ i = 12 ∨ i = 13 ∨ i = 14 ∨ i = 15 ∨ i = 16 by omega) with rfl | rfl | rfl | rfl | rfl | rfl | rfl | rfl | rfl | rfl | rfl | rfl | rfl | rfl | rfl | rfl | rfl
            · exact getD_true st0
            · exact getD_true st1
            · exact getD_true st2
            · exact getD_true st3
            · exact getD_true st4
            · exact getD_true st5
            · exact getD_true st6
            · exact getD_true st7
            · exact getD_true st8
            · exact getD_true st9
            · exact getD_true st10
            · exact getD_true st11
            · exact getD_true st12
            · exact getD_true st13
            · exact getD_true st14
            · exact getD_true st15
            · exact getD_true st16
          clear st0 st1 st2 st3 st4 st5 st6 st7 st8 st9 st10 st11 st12 st13 st14 st15 st16 hk hnot hz
          have hTs : T.size = 27 := by rw [hT]; rfl
          obtain ⟨ha, hw'⟩ := hR.all (T' := ((((((((((((((((T.setIfInBounds 12 (vals 0)).setIfInBounds 13 (vals 1)).setIfInBounds 14 (vals 2)).setIfInBounds 15 (vals 3)).setIfInBounds 16 (vals 4)).setIfInBounds 17 (vals 5)).setIfInBounds 18 (vals 6)).setIfInBounds 19 (vals 7)).setIfInBounds 20 (vals 8)).setIfInBounds 21 (vals 9)).setIfInBounds 22 (vals 10)).setIfInBounds 11 (vals 11)).setIfInBounds 23 (vals 12)).setIfInBounds 24 (vals 13)).setIfInBounds 25 (vals 14)).setIfInBounds 4 (vals 16))) (fun i hi => hall i (by simpa using hi)) (by decide) (by simp) (fun j hj => by
            by_cases h1 : j = 12 ∨ j = 13 ∨ j = 14 ∨ j = 15 ∨ j = 16 ∨ j = 17 ∨ j = 18 ∨ j = 19 ∨ j = 20 ∨ j = 21 ∨ j = 22 ∨ j = 11 ∨ j = 23 ∨ j = 24 ∨ j = 25 ∨ j = 4
            · rcases h1 with rfl | rfl | rfl | rfl | rfl | rfl | rfl | rfl | rfl | rfl | rfl | rfl | rfl | rfl | rfl | rfl <;> simp [rv_sets, tOwn, List.findIdx?, List.findIdx?.go, hTs]
            · simp only [not_or] at h1
              obtain ⟨m12, m13, m14, m15, m16, m17, m18, m19, m20, m21, m22, m11, m23, m24, m25, m4⟩ := h1
              have e : tOwn [some 12, some 13, some 14, some 15, some 16, some 17, some 18, some 19, some 20, some 21, some 22, some 11, some 23, some 24, some 25, none, some 4] vals j = none := by
                unfold tOwn
                simp [List.findIdx?, List.findIdx?.go, Ne.symm m12, Ne.symm m13, Ne.symm m14, Ne.symm m15, Ne.symm m16, Ne.symm m17, Ne.symm m18, Ne.symm m19, Ne.symm m20, Ne.symm m21, Ne.symm m22, Ne.symm m11, Ne.symm m23, Ne.symm m24, Ne.symm m25, Ne.symm m4]
              rw [e]
              simp only [rv_sets]
              repeat rw [if_neg (by omega)])
          subst ha hw'
          clear hR hall hTs
          rw [v0, v1, v2, v3, v4, v5, v6, v7, v8, v9, v10, v11, v12, v13, v14, v16, hT]
          simp only [List.setIfInBounds_toArray, List.set_cons_succ, List.set_cons_zero]
          clear v0 v1 v2 v3 v4 v5 v6 v7 v8 v9 v10 v11 v12 v13 v14 v16 vals hT T
      go_wp2
      go_roundw
      case rel => exact ⟨k + 1, c2, zs.set k d, by omega, rfl, by go_num, HN.out, by have := (show Row wr.drew g _ from HROW.out).set (p + k) d; rw [← HP.out, mid_set (by rw [HT.out.1, HM.out]; exact hlt)] at this; rw [← HP.out]; exact this, HON2.out.trans (Only.set _ _ _ _)⟩
      case measure => simp [intOf]; omega
    · obtain rfl : k = n + 1 := by omega
      have hE := Lib.hid (HEND.out c zs (by rw [HM.out]; exact HT.out))
      go_wp2
      go_end0
      exact ⟨c, zs, rfl, HT.out.1.trans HM.out, HT.out.2.1, by omega, hE.out, HROW.out, HON.out⟩

end Go.Proofs.YtdgmjmckeeeljaaGreatDoor

namespace Go.Proofs.YtdgmjmckeeeljaaGreatDoor
open Go.RowKit

theorem shr_u32 (n k : Nat) (hk : k ≤ 32) : binOp BinOp.shr 59 (.int .u32 (n : Int)) (.int .i64 (k : Int)) = (pure (.int .u32 ((n / 2 ^ k : Nat) : Int)) : Sem Value) := by
  have e : binOp BinOp.shr 59 (.int .u32 (n : Int)) (.int .i64 (k : Int)) = Op.shift .shr .u32 (n : Int) .i64 (k : Int) := rfl
  have h0 : ¬ ((k : Int) < 0) := by omega
  have hm : min ((k : Int)).toNat (IntKind.bits .u32) = k := by
    rw [show IntKind.bits .u32 = 32 from rfl, Int.toNat_natCast]; omega
  rw [e]
  unfold Op.shift
  rw [if_neg h0]
  simp only [hm]
  congr 2
  rw [Int.fdiv_eq_ediv_of_nonneg _ (by exact Int.pow_nonneg (by omega))]
  simp

theorem shl_u32 (n k : Nat) (hk : k ≤ 32) : binOp BinOp.shl 59 (.int .u32 (n : Int)) (.int .i64 (k : Int)) = (pure (.int .u32 ((n * 2 ^ k % 4294967296 : Nat) : Int)) : Sem Value) := by
  have e : binOp BinOp.shl 59 (.int .u32 (n : Int)) (.int .i64 (k : Int)) = Op.shift .shl .u32 (n : Int) .i64 (k : Int) := rfl
  have h0 : ¬ ((k : Int) < 0) := by omega
  have hm : min ((k : Int)).toNat (IntKind.bits .u32) = k := by
    rw [show IntKind.bits .u32 = 32 from rfl, Int.toNat_natCast]; omega
  rw [e]
  unfold Op.shift
  rw [if_neg h0]
  simp only [hm]
  congr 2

theorem or_u32 (a b : Nat) (ha : a < 4294967296) (hb : b < 4294967296) : binOp BinOp.or 59 (.int .u32 (a : Int)) (.int .u32 (b : Int)) = (pure (.int .u32 ((a ||| b : Nat) : Int)) : Sem Value) := by
  have e : binOp BinOp.or 59 (.int .u32 (a : Int)) (.int .u32 (b : Int)) = (pure (.int .u32 (bits .or .u32 (a : Int) (b : Int))) : Sem Value) := rfl
  rw [e, u32_or_nat a b ha hb]

theorem pow_parts {s t : Nat} (h : s + t = 32) : 2 ^ s * 2 ^ t = 4294967296 := by rw [← Nat.pow_add, h]

/-- The remainder of a multiple and of something small beside it. -/
theorem beside {T c e Y : Nat} (hc : 0 < c) (he : e < T) : (e + T * Y) % (T * c) = e + (T * Y) % (T * c) ∧ (T * Y) % (T * c) % T = 0 := by
  have hm : (T * Y) % (T * c) = T * (Y % c) := Nat.mul_mod_mul_left _ _ _
  refine ⟨?_, by rw [hm]; exact Nat.mul_mod_right _ _⟩
  rw [hm, Nat.add_mod, hm, Nat.mod_eq_of_lt (a := e)]
  · have h1 : T * (Y % c) + T ≤ T * c := by
      have := Nat.mul_le_mul_left T (show Y % c + 1 ≤ c by have := Nat.mod_lt Y hc; omega)
      rwa [Nat.mul_succ] at this
    rw [Nat.mod_eq_of_lt (by omega)]
  · have := Nat.mul_le_mul_left T (show 1 ≤ c by omega)
    omega

/-- A digit of a number moved down. -/
theorem low_digit {V s t k : Nat} (h : s + t = 32) : ((V / 4294967296 ^ k % 4294967296) / 2 ^ s) ||| ((V / 4294967296 ^ (k + 1) % 4294967296) * 2 ^ t % 4294967296) = V / 2 ^ s / 4294967296 ^ k % 4294967296 := by
  have hB := pow_parts h
  have hS : 0 < 2 ^ s := Nat.pow_pos (by omega)
  have hT : 0 < 2 ^ t := Nat.pow_pos (by omega)
  rw [Nat.pow_succ, ← Nat.div_div_eq_div_mul, Nat.div_div_eq_div_mul V (2 ^ s), Nat.mul_comm (2 ^ s), ← Nat.div_div_eq_div_mul]
  obtain ⟨X, hX⟩ : ∃ X, X = V / 4294967296 ^ k := ⟨_, rfl⟩
  rw [← hX]
  obtain ⟨S, hSe⟩ : ∃ S, S = 2 ^ s := ⟨_, rfl⟩
  obtain ⟨T, hTe⟩ : ∃ T, T = 2 ^ t := ⟨_, rfl⟩
  rw [← hSe, ← hTe] at hB
  rw [← hSe] at hS
  rw [← hTe] at hT
  rw [← hSe, ← hTe]
  have hd : X % 4294967296 / S < T := Nat.div_lt_of_lt_mul (by rw [hB]; exact Nat.mod_lt _ (by omega))
  have e1 : X / S = X % 4294967296 / S + T * (X / 4294967296) := by
    have e2 : X = X % 4294967296 + S * (T * (X / 4294967296)) := by rw [← Nat.mul_assoc, hB]; omega
    rw [show X / S = (X % 4294967296 + S * (T * (X / 4294967296))) / S by rw [← e2], Nat.add_mul_div_left _ _ hS]
  have hb := beside (T := T) (c := S) (Y := X / 4294967296) hS hd
  rw [Nat.mul_comm T S, hB] at hb
  have e3 : X / 4294967296 % 4294967296 * T % 4294967296 = T * (X / 4294967296) % 4294967296 := by
    rw [Nat.mul_comm, Nat.mul_mod, Nat.mod_mod, ← Nat.mul_mod]
  rw [e3, e1, hb.1, Nat.or_comm]
  rw [nat_join t _ _ (by rw [← hTe]; exact hb.2) (by rw [← hTe]; exact hd)]
  omega

/-- A digit of a number moved up; the digit below it is 0 below the lowest one. -/
theorem up_digit {V s t k : Nat} (h : s + t = 32) : ((V / 4294967296 ^ (k + 1) % 4294967296) * 2 ^ s % 4294967296) ||| ((V / 4294967296 ^ k % 4294967296) / 2 ^ t) = V * 2 ^ s / 4294967296 ^ (k + 1) % 4294967296 := by
  have hB := pow_parts h
  have hS : 0 < 2 ^ s := Nat.pow_pos (by omega)
  have hT : 0 < 2 ^ t := Nat.pow_pos (by omega)
  have hP : 0 < 4294967296 ^ k := Nat.pow_pos (by omega)
  rw [Nat.pow_succ]
  obtain ⟨P, hPe⟩ : ∃ P, P = 4294967296 ^ k := ⟨_, rfl⟩
  rw [← hPe] at hP ⊢
  obtain ⟨S, hSe⟩ : ∃ S, S = 2 ^ s := ⟨_, rfl⟩
  obtain ⟨T, hTe⟩ : ∃ T, T = 2 ^ t := ⟨_, rfl⟩
  rw [← hSe, ← hTe] at hB
  rw [← hSe] at hS
  rw [← hTe] at hT
  rw [← hSe, ← hTe]
  -- V S / (P 2^32) = V / P / T
  have e0 : V * S / (P * 4294967296) = V / P / T := by
    rw [← hB, Nat.div_div_eq_div_mul, show P * (S * T) = (P * T) * S by grind, Nat.mul_div_mul_right _ _ hS]
  have e00 : V / (P * 4294967296) = V / P / 4294967296 := by rw [Nat.div_div_eq_div_mul]
  rw [e0, e00]
  obtain ⟨X, hX⟩ : ∃ X, X = V / P := ⟨_, rfl⟩
  rw [← hX]
  have hd : X % 4294967296 / T < S := Nat.div_lt_of_lt_mul (by rw [Nat.mul_comm, hB]; exact Nat.mod_lt _ (by omega))
  have e1 : X / T = X % 4294967296 / T + S * (X / 4294967296) := by
    have e2 : X = X % 4294967296 + T * (S * (X / 4294967296)) := by rw [← Nat.mul_assoc, Nat.mul_comm T S, hB]; omega
    rw [show X / T = (X % 4294967296 + T * (S * (X / 4294967296))) / T by rw [← e2], Nat.add_mul_div_left _ _ hT]
  have hb := beside (T := S) (c := T) (Y := X / 4294967296) hT hd
  rw [hB] at hb
  have e3 : X / 4294967296 % 4294967296 * S % 4294967296 = S * (X / 4294967296) % 4294967296 := by
    rw [Nat.mul_comm, Nat.mul_mod, Nat.mod_mod, ← Nat.mul_mod]
  rw [e3, e1, hb.1]
  rw [nat_join s _ _ (by rw [← hSe]; exact hb.2) (by rw [← hSe]; exact hd)]
  omega
theorem up_first {V s : Nat} : ((V / 4294967296 ^ 0 % 4294967296) * 2 ^ s % 4294967296) ||| 0 = V * 2 ^ s / 4294967296 ^ 0 % 4294967296 := by
  rw [Nat.pow_zero, Nat.div_one, Nat.div_one, Nat.or_zero, Nat.mul_mod, Nat.mod_mod, ← Nat.mul_mod]

/-- k digits are moved down. -/
def Lowering (ds zs : List Nat) (s k : Nat) : Prop := zs.length = ds.length ∧ Bd zs ∧ zs.drop k = ds.drop k ∧ val (zs.take k) = val ds / 2 ^ s % 4294967296 ^ k
theorem lowering_start (ds : List Nat) (s : Nat) (h : Bd ds) : Lowering ds ds s 0 := ⟨rfl, h, rfl, by simp [val]; omega⟩
theorem lowering_step {ds zs : List Nat} {s t k d : Nat} (h : Lowering ds zs s k) (hb : Bd ds) (hst : s + t = 32) (hk : k < ds.length) (hd : d = (ds.getD k 0 / 2 ^ s) ||| (ds.getD (k + 1) 0 * 2 ^ t % 4294967296)) : Lowering ds (zs.set k d) s (k + 1) := by
  obtain ⟨h1, h2, h3, h4⟩ := h
  have e : d = val ds / 2 ^ s / 4294967296 ^ k % 4294967296 := by rw [hd, val_digit hb, val_digit hb, low_digit hst]
  have hdl : d < 4294967296 := by rw [e]; exact Nat.mod_lt _ (by omega)
  refine ⟨by rw [List.length_set]; exact h1, h2.set _ hdl, drop_set h3, ?_⟩
  rw [take_set (by omega), h4, e, Nat.mod_pow_succ]
theorem lowering_end {ds zs : List Nat} {s : Nat} (h : Lowering ds zs s ds.length) (hb : Bd ds) : val zs = val ds / 2 ^ s := by
  obtain ⟨h1, h2, h3, h4⟩ := h
  rw [List.take_of_length_le (by omega)] at h4
  rw [h4, Nat.mod_eq_of_lt]
  exact Nat.lt_of_le_of_lt (Nat.div_le_self _ _) (val_lt hb)

/-- Digits from k on are moved up. -/
def Raising (ds zs : List Nat) (s k : Nat) : Prop := zs.length = ds.length ∧ Bd zs ∧ zs.take k = ds.take k ∧ val (zs.drop k) = val ds * 2 ^ s / 4294967296 ^ k
theorem raising_start {ds : List Nat} {s : Nat} (h : Bd ds) (hlt : val ds * 2 ^ s < 4294967296 ^ ds.length) : Raising ds ds s ds.length :=
  ⟨rfl, h, rfl, by rw [List.drop_of_length_le (Nat.le_refl _), Nat.div_eq_of_lt hlt]; rfl⟩
theorem raising_step {ds zs : List Nat} {s t k d : Nat} (h : Raising ds zs s (k + 1)) (hb : Bd ds) (hst : s + t = 32) (hk : k < ds.length) (hd : d = (ds.getD k 0 * 2 ^ s % 4294967296) ||| (dg ds ((k : Int) - 1) / 2 ^ t)) : Raising ds (zs.set k d) s k := by
  obtain ⟨h1, h2, h3, h4⟩ := h
  have e : d = val ds * 2 ^ s / 4294967296 ^ k % 4294967296 := by
    rw [hd]
    cases k with
    | zero =>
      rw [show dg ds (((0 : Nat) : Int) - 1) = 0 from rfl, Nat.zero_div, val_digit hb]
      exact up_first
    | succ k =>
      rw [show (((k + 1 : Nat) : Int) - 1) = (k : Nat) by omega, dg_nat hb, val_digit hb]
      exact up_digit hst
  have hdl : d < 4294967296 := by rw [e]; exact Nat.mod_lt _ (by omega)
  refine ⟨by rw [List.length_set]; exact h1, h2.set _ hdl, ?_, ?_⟩
  · rw [List.take_set_of_le (Nat.le_refl _)]
    have := congrArg (List.take k) h3
    rwa [List.take_take, List.take_take, Nat.min_eq_left (by omega)] at this
  · rw [drop_val (by rw [List.length_set]; omega), List.drop_set_of_lt (by omega), h4, Nat.pow_succ, ← Nat.div_div_eq_div_mul]
    have eg : (zs.set k d).getD k 0 = d := by simp [List.getD, show k < zs.length by omega]
    rw [eg, e]
    omega
theorem raising_end {ds zs : List Nat} {s : Nat} (h : Raising ds zs s 0) : val zs = val ds * 2 ^ s := by
  obtain ⟨h1, h2, h3, h4⟩ := h
  simpa using h4

end Go.Proofs.YtdgmjmckeeeljaaGreatDoor

namespace Go.Proofs.YtdgmjmckeeeljaaGreatDoor
open Go.RowKit

def loCh : List (Nat × Nat) := [(17, 15), (15, 7), (7, 5), (15, 14), (14, 11)]

def LowR (w : World) (ds : List Nat) (s n : Nat) (ao : Option Addr) (cap : Nat) (kv : Value) (wr : World) : Prop :=
  ∃ (k : Nat) (zs : List Nat), k ≤ n ∧ kv = .int .i64 k ∧ Lowering ds zs s k ∧ Sw w.heap.size wr (.slice ao n cap) zs ∧ Below w.heap.size w wr

theorem below_drew (B : Nat) (w : World) : Below B w w.drew := ⟨rfl, rfl, rfl, Nat.le_refl _, fun _ _ => rfl⟩

set_option maxRecDepth 10000 in
set_option maxHeartbeats 4000000 in
theorem lowered_any {w : World} {va : Value} {ds : List Nat} {s t : Nat} (ha : Sl w va ds) (hst : s + t = 32) (hl : 4 * ds.length ≤ 140737488351232) :
    Calls Tryz.prog 106 #[va, .int .i64 s] w (NewDigs w (val ds / 2 ^ s)) := by
  have hcl := clone_any ha hl
  obtain ⟨n, hn⟩ : ∃ n, n = ds.length := ⟨_, rfl⟩
  have HN := Lib.hid hn
  have HBD := Lib.hid ha.bd
  have HCL := Lib.hid hcl
  have HST := Lib.hid hst
  have HS0 := Lib.hid (lowering_start ds s ha.bd)
  rw [← hn] at hl
  clear hn hcl ha
  go_enter Tryz.func106, Tryz.ntmps106
  go_wp2_with (go_at_call 74; refine HCL.out.mono ?_; rintro e w1 ⟨ao, cap, rfl, hsw, hb⟩; rw [← HN.out] at hsw ⊢; have HSW := Lib.hid hsw; have HB := Lib.hid hb; clear hsw hb)
  go_loopw [11] (fun kv wr => LowR w ds s n ao cap kv wr) (fun kv _ => (n - intOf kv).toNat)
  case atStart => exact ⟨0, ds, by omega, rfl, HS0.out, HSW.out, HB.out⟩
  case round =>
    obtain ⟨k, zs, hk, rfl, hT, hsw, hbl⟩ := hrel
    clear HSW HB HS0 HCL
    by_cases hlt : k < n
    · obtain ⟨b, off, rfl, hcap, hblt, hcl⟩ := hsw.sl.at (by omega)
      obtain ⟨b', off', e0, hBb, hfr⟩ := hsw.own _ _ _ rfl (by omega)
      cases e0
      have hzl := hsw.sl.size
      have hsw2 := hsw.below (below_drew _ wr)
      have hx : wr.drew.cell? ⟨b, off + k, none⟩ = some (.int .u32 ((ds.getD k 0 : Nat) : Int)) := by
        have := hcl k (by omega)
        rw [drop_at hT.2.2.1] at this
        exact this
      have hfree : wr.drew.frozen? ⟨b, off + k, none⟩ = false := hfr k hlt
      have hd := digit_any hsw2.sl ((k : Int) + 1)
      rw [show dg zs ((k : Int) + 1) = ds.getD (k + 1) 0 from (show zs.getD (k + 1) 0 = ds.getD (k + 1) 0 from drop_at (by rw [← List.drop_drop, ← List.drop_drop, hT.2.2.1]))] at hd
      have hxl : ds.getD k 0 < 4294967296 := by rw [val_digit HBD.out]; exact Nat.mod_lt _ (by omega)
      have hyl : ds.getD (k + 1) 0 < 4294967296 := by rw [val_digit HBD.out]; exact Nat.mod_lt _ (by omega)
      have hstep := fun d hd => lowering_step (d := d) hT HBD.out HST.out (by rw [← HN.out]; exact hlt) hd
      obtain ⟨x, hxx⟩ : ∃ x, x = ds.getD k 0 := ⟨_, rfl⟩
      obtain ⟨y, hyy⟩ : ∃ y, y = ds.getD (k + 1) 0 := ⟨_, rfl⟩
      rw [← hxx] at hx hxl hstep
      rw [← hyy] at hd hyl hstep
      obtain ⟨x1, hx1⟩ : ∃ x1, x1 = x / 2 ^ s := ⟨_, rfl⟩
      obtain ⟨y1, hy1⟩ : ∃ y1, y1 = y * 2 ^ t % 4294967296 := ⟨_, rfl⟩
      have q1 := shr_u32 x s (by omega)
      have q2 := shl_u32 y t (by omega)
      rw [← hx1] at q1 hstep
      rw [← hy1] at q2 hstep
      have hx1l : x1 < 4294967296 := by rw [hx1]; exact Nat.lt_of_le_of_lt (Nat.div_le_self _ _) hxl
      have hy1l : y1 < 4294967296 := by rw [hy1]; exact Nat.mod_lt _ (by omega)
      have q3 := or_u32 x1 y1 hx1l hy1l
      obtain ⟨d, hdd⟩ : ∃ d, d = x1 ||| y1 := ⟨_, rfl⟩
      rw [← hdd] at q3
      have HN1 := Lib.hid (hstep d hdd)
      have hdl : d < 4294967296 := HN1.out.2.1 d (by
        refine List.mem_iff_getElem.2 ⟨k, by rw [List.length_set]; omega, by simp⟩)
      have HSW3 := Lib.hid (hsw2.set k d hlt hdl)
      have HBL3 : Hid (Below w.heap.size w (wr.drew.setCell ⟨b, off + k, none⟩ (.int .u32 (d : Nat)))) := Lib.hid ((hbl.trans (below_drew _ wr)).setCell (by exact hBb) _)
      have wk : IntKind.i64.wrap ((k : Int) + 1) = (k : Int) + 1 := by rw [IntKind.wrap_i64]; omega
      have wt : IntKind.i64.wrap (32 - (s : Int)) = (t : Int) := by rw [IntKind.wrap_i64]; have := HST.out; omega
      have hlI : (k : Int) < (n : Int) := by omega
      clear hxx hyy hdd hx1 hy1 hstep hT hsw hsw2 hbl hfr hBb hcl hzl
      go_wp2
      refine frame_named ?_
      intro T hT
      obtain ⟨vals, hvals⟩ : ∃ vals : Nat → Value, vals = (fun i => if i = 0 then .slice (some ⟨b, off, none⟩) n cap else if i = 1 then .int .i64 (k : Nat) else if i = 2 then .slice (some ⟨b, off, none⟩) n cap else if i = 3 then .int .i64 (k : Nat) else if i = 4 then .pointer (some ⟨b, off + k, none⟩) else if i = 5 then .int .u32 (x : Nat) else if i = 6 then .int .i64 (s : Nat) else if i = 7 then .int .u32 (x1 : Nat) else if i = 8 then .slice (some ⟨b, off, none⟩) n cap else if i = 9 then .int .i64 (k : Nat) else if i = 10 then .int .i64 ((k : Int) + 1) else if i = 11 then .int .u32 (y : Nat) else if i = 12 then .int .i64 (s : Nat) else if i = 13 then .int .i64 (t : Nat) else if i = 14 then .int .u32 (y1 : Nat) else if i = 15 then .int .u32 (d : Nat) else if i = 16 then .pointer (some ⟨b, off + k, none⟩) else undef) := ⟨_, rfl⟩
      have v0 : vals 0 = .slice (some ⟨b, off, none⟩) n cap := by rw [hvals]; rfl
      have v1 : vals 1 = .int .i64 (k : Nat) := by rw [hvals]; rfl
      have v2 : vals 2 = .slice (some ⟨b, off, none⟩) n cap := by rw [hvals]; rfl
      have v3 : vals 3 = .int .i64 (k : Nat) := by rw [hvals]; rfl
      have v4 : vals 4 = .pointer (some ⟨b, off + k, none⟩) := by rw [hvals]; rfl
      have v5 : vals 5 = .int .u32 (x : Nat) := by rw [hvals]; rfl
      have v6 : vals 6 = .int .i64 (s : Nat) := by rw [hvals]; rfl
      have v7 : vals 7 = .int .u32 (x1 : Nat) := by rw [hvals]; rfl
      have v8 : vals 8 = .slice (some ⟨b, off, none⟩) n cap := by rw [hvals]; rfl
      have v9 : vals 9 = .int .i64 (k : Nat) := by rw [hvals]; rfl
      have v10 : vals 10 = .int .i64 ((k : Int) + 1) := by rw [hvals]; rfl
      have v11 : vals 11 = .int .u32 (y : Nat) := by rw [hvals]; rfl
      have v12 : vals 12 = .int .i64 (s : Nat) := by rw [hvals]; rfl
      have v13 : vals 13 = .int .i64 (t : Nat) := by rw [hvals]; rfl
      have v14 : vals 14 = .int .u32 (y1 : Nat) := by rw [hvals]; rfl
      have v15 : vals 15 = .int .u32 (d : Nat) := by rw [hvals]; rfl
      have v16 : vals 16 = .pointer (some ⟨b, off + k, none⟩) := by rw [hvals]; rfl
      clear hvals
      refine regionP_inv (by kernel_rfl) (fun l a w' => RV wr.drew ⟨b, off + k, none⟩ (.int .u32 (d : Nat)) 17 loCh T [some 14, some 15, some 16, some 17, some 18, some 19, some 20, some 21, some 22, some 23, some 24, some 25, some 26, some 27, some 28, some 29, some 30, none] vals l a w') ?h0v1 ?stepv1 ?finv1
      case h0v1 => exact RV.start rfl (fun i j h => by simp [loCh] at h; simp only [List.length_cons, List.length_nil]; omega) (by decide)
      case stepv1 =>
          rintro l a w' i' hR hi'
          obtain ⟨hl0, o, ho, hdep⟩ := mem_ready.1 hi'
          have h15 : i' < 18 := by
            have := (Array.getElem?_eq_some_iff.1 ho).1
            simpa using this
          rcases (show i' = 0 ∨ i' = 1 ∨ i' = 2 ∨ i' = 3 ∨ i' = 4 ∨ i' = 5 ∨ i' = 6 ∨ i' = 7 ∨ i' = 8 ∨ i' = 9 ∨ i' = 10 ∨ i' = 11 ∨ i' = 12 ∨ i' = 13 ∨ i' = 14 ∨ i' = 15 ∨ i' = 16 ∨ i' = 17 by omega) with rfl | rfl | rfl | rfl | rfl | rfl | rfl | rfl | rfl | rfl | rfl | rfl | rfl | rfl | rfl | rfl | rfl | rfl
          · simp at ho
            subst ho
            simp [Region.binds] at hdep
            have k0 : a.tmps.getD 5 undef = _ := (hR.fr.kept rfl (by simp [hT])).trans (by rw [hT]; try rfl)
            have hc : ∀ j, (0, j) ∈ loCh → l.getD j true = true := by intro j hj; simp [loCh] at hj
            clear hi' hdep
            unfold wpOp
            simp [Region.wanted]
            refine .inl ?_
            unfold Oper.wp
            simp [execOp, go_sem, Act.eval, k0]
            exact hR.op 0 14 v0 rfl (by decide) hl0 (by decide) hc
          · simp at ho
            subst ho
            simp [Region.binds] at hdep
            have k0 : a.tmps.getD 6 undef = _ := (hR.fr.kept rfl (by simp [hT])).trans (by rw [hT]; try rfl)
            have hc : ∀ j, (1, j) ∈ loCh → l.getD j true = true := by intro j hj; simp [loCh] at hj
            clear hi' hdep
            unfold wpOp
            simp [Region.wanted]
            refine .inl ?_
            unfold Oper.wp
            simp [execOp, go_sem, Act.eval, k0]
            exact hR.op 1 15 v1 rfl (by decide) hl0 (by decide) hc
          · simp at ho
            subst ho
            simp [Region.binds] at hdep
            have k0 : a.tmps.getD 5 undef = _ := (hR.fr.kept rfl (by simp [hT])).trans (by rw [hT]; try rfl)
            have hc : ∀ j, (2, j) ∈ loCh → l.getD j true = true := by intro j hj; simp [loCh] at hj
            clear hi' hdep
            unfold wpOp
            simp [Region.wanted]
            refine .inl ?_
            unfold Oper.wp
            simp [execOp, go_sem, Act.eval, k0]
            exact hR.op 2 16 v2 rfl (by decide) hl0 (by decide) hc
          · simp at ho
            subst ho
            simp [Region.binds] at hdep
            have k0 : a.tmps.getD 6 undef = _ := (hR.fr.kept rfl (by simp [hT])).trans (by rw [hT]; try rfl)
            have hc : ∀ j, (3, j) ∈ loCh → l.getD j true = true := by intro j hj; simp [loCh] at hj
            clear hi' hdep
            unfold wpOp
            simp [Region.wanted]
            refine .inl ?_
            unfold Oper.wp
            simp [execOp, go_sem, Act.eval, k0]
            exact hR.op 3 17 v3 rfl (by decide) hl0 (by decide) hc
          · simp at ho
            subst ho
            simp [Region.binds] at hdep
            have k0 : a.tmps.getD 16 undef = _ := (hR.fr.done (i := 2) rfl (by simp_all) (by simp [hT])).trans v2
            have k1 : a.tmps.getD 17 undef = _ := (hR.fr.done (i := 3) rfl (by simp_all) (by simp [hT])).trans v3
            have hc : ∀ j, (4, j) ∈ loCh → l.getD j true = true := by intro j hj; simp [loCh] at hj
            clear hi' hdep
            unfold wpOp
            simp [Region.wanted]
            refine .inl ?_
            unfold Oper.wp
            simp [execOp, go_sem, Act.eval, k0, k1, hlI]
            exact hR.op 4 18 v4 rfl (by decide) hl0 (by decide) hc
          · simp at ho
            subst ho
            simp [Region.binds] at hdep
            have k0 : a.tmps.getD 18 undef = _ := (hR.fr.done (i := 4) rfl (by simp_all) (by simp [hT])).trans v4
            have hc : ∀ j, (5, j) ∈ loCh → l.getD j true = true := by intro j hj; simp [loCh] at hj
            have hw' := hR.before hl0 (fun hs => (hR.dep 7 5 (by decide) (hR.dep 15 7 (by decide) (hR.dep 17 15 (by decide) hs))))
            subst hw'
            clear hi' hdep
            unfold wpOp
            simp [Region.wanted]
            refine .inl ?_
            unfold Oper.wp
            simp [execOp, go_sem, Act.eval, k0, hx]
            exact hR.op 5 19 v5 rfl (by decide) hl0 (by decide) hc
          · simp at ho
            subst ho
            simp [Region.binds] at hdep
            have k0 : a.tmps.getD 1 undef = _ := (hR.fr.kept rfl (by simp [hT])).trans (by rw [hT]; try rfl)
            have hc : ∀ j, (6, j) ∈ loCh → l.getD j true = true := by intro j hj; simp [loCh] at hj
            clear hi' hdep
            unfold wpOp
            simp [Region.wanted]
            refine .inl ?_
            unfold Oper.wp
            simp [execOp, go_sem, Act.eval, k0]
            exact hR.op 6 20 v6 rfl (by decide) hl0 (by decide) hc
          · simp at ho
            subst ho
            simp [Region.binds] at hdep
            have k0 : a.tmps.getD 19 undef = _ := (hR.fr.done (i := 5) rfl (by simp_all) (by simp [hT])).trans v5
            have k1 : a.tmps.getD 20 undef = _ := (hR.fr.done (i := 6) rfl (by simp_all) (by simp [hT])).trans v6
            have hc : ∀ j, (7, j) ∈ loCh → l.getD j true = true := by intro j hj; simp [loCh] at hj; rcases hj with rfl <;> exact getD_true (by simp_all)
            clear hi' hdep
            unfold wpOp
            simp [Region.wanted]
            refine .inl ?_
            unfold Oper.wp
            simp [execOp, go_sem, Act.eval, k0, k1, q1]
            exact hR.op 7 21 v7 rfl (by decide) hl0 (by decide) hc
          · simp at ho
            subst ho
            simp [Region.binds] at hdep
            have k0 : a.tmps.getD 5 undef = _ := (hR.fr.kept rfl (by simp [hT])).trans (by rw [hT]; try rfl)
            have hc : ∀ j, (8, j) ∈ loCh → l.getD j true = true := by intro j hj; simp [loCh] at hj
            clear hi' hdep
            unfold wpOp
            simp [Region.wanted]
            refine .inl ?_
            unfold Oper.wp
            simp [execOp, go_sem, Act.eval, k0]
            exact hR.op 8 22 v8 rfl (by decide) hl0 (by decide) hc
          · simp at ho
            subst ho
            simp [Region.binds] at hdep
            have k0 : a.tmps.getD 6 undef = _ := (hR.fr.kept rfl (by simp [hT])).trans (by rw [hT]; try rfl)
            have hc : ∀ j, (9, j) ∈ loCh → l.getD j true = true := by intro j hj; simp [loCh] at hj
            clear hi' hdep
            unfold wpOp
            simp [Region.wanted]
            refine .inl ?_
            unfold Oper.wp
            simp [execOp, go_sem, Act.eval, k0]
            exact hR.op 9 23 v9 rfl (by decide) hl0 (by decide) hc
          · simp at ho
            subst ho
            simp [Region.binds] at hdep
            have k0 : a.tmps.getD 23 undef = _ := (hR.fr.done (i := 9) rfl (by simp_all) (by simp [hT])).trans v9
            have hc : ∀ j, (10, j) ∈ loCh → l.getD j true = true := by intro j hj; simp [loCh] at hj
            clear hi' hdep
            unfold wpOp
            simp [Region.wanted]
            refine .inl ?_
            unfold Oper.wp
            simp [execOp, go_sem, Act.eval, k0, wk]
            exact hR.op 10 24 v10 rfl (by decide) hl0 (by decide) hc
          · simp at ho
            subst ho
            simp [Region.binds] at hdep
            have k0 : a.tmps.getD 22 undef = _ := (hR.fr.done (i := 8) rfl (by simp_all) (by simp [hT])).trans v8
            have k1 : a.tmps.getD 24 undef = _ := (hR.fr.done (i := 10) rfl (by simp_all) (by simp [hT])).trans v10
            have hc : ∀ j, (11, j) ∈ loCh → l.getD j true = true := by intro j hj; simp [loCh] at hj
            have hw' := hR.before hl0 (fun hs => (hR.dep 14 11 (by decide) (hR.dep 15 14 (by decide) (hR.dep 17 15 (by decide) hs))))
            subst hw'
            clear hi' hdep
            unfold wpOp
            simp [Region.wanted]
            refine .inl ?_
            unfold Oper.wp
            simp [execOp, go_sem, Act.eval, k0, k1]
            refine hd.mono ?_
            rintro e w'' ⟨rfl, rfl⟩
            exact hR.op 11 25 v11 rfl (by decide) hl0 (by decide) hc
          · simp at ho
            subst ho
            simp [Region.binds] at hdep
            have k0 : a.tmps.getD 1 undef = _ := (hR.fr.kept rfl (by simp [hT])).trans (by rw [hT]; try rfl)
            have hc : ∀ j, (12, j) ∈ loCh → l.getD j true = true := by intro j hj; simp [loCh] at hj
            clear hi' hdep
            unfold wpOp
            simp [Region.wanted]
            refine .inl ?_
            unfold Oper.wp
            simp [execOp, go_sem, Act.eval, k0]
            exact hR.op 12 26 v12 rfl (by decide) hl0 (by decide) hc
          · simp at ho
            subst ho
            simp [Region.binds] at hdep
            have k0 : a.tmps.getD 26 undef = _ := (hR.fr.done (i := 12) rfl (by simp_all) (by simp [hT])).trans v12
            have hc : ∀ j, (13, j) ∈ loCh → l.getD j true = true := by intro j hj; simp [loCh] at hj
            clear hi' hdep
            unfold wpOp
            simp [Region.wanted]
            refine .inl ?_
            unfold Oper.wp
            simp [execOp, go_sem, Act.eval, k0, wt]
            exact hR.op 13 27 v13 rfl (by decide) hl0 (by decide) hc
          · simp at ho
            subst ho
            simp [Region.binds] at hdep
            have k0 : a.tmps.getD 25 undef = _ := (hR.fr.done (i := 11) rfl (by simp_all) (by simp [hT])).trans v11
            have k1 : a.tmps.getD 27 undef = _ := (hR.fr.done (i := 13) rfl (by simp_all) (by simp [hT])).trans v13
            have hc : ∀ j, (14, j) ∈ loCh → l.getD j true = true := by intro j hj; simp [loCh] at hj; rcases hj with rfl <;> exact getD_true (by simp_all)
            clear hi' hdep
            unfold wpOp
            simp [Region.wanted]
            refine .inl ?_
            unfold Oper.wp
            simp [execOp, go_sem, Act.eval, k0, k1, q2]
            exact hR.op 14 28 v14 rfl (by decide) hl0 (by decide) hc
          · simp at ho
            subst ho
            simp [Region.binds] at hdep
            have k0 : a.tmps.getD 21 undef = _ := (hR.fr.done (i := 7) rfl (by simp_all) (by simp [hT])).trans v7
            have k1 : a.tmps.getD 28 undef = _ := (hR.fr.done (i := 14) rfl (by simp_all) (by simp [hT])).trans v14
            have hc : ∀ j, (15, j) ∈ loCh → l.getD j true = true := by intro j hj; simp [loCh] at hj; rcases hj with rfl | rfl <;> exact getD_true (by simp_all)
            clear hi' hdep
            unfold wpOp
            simp [Region.wanted]
            refine .inl ?_
            unfold Oper.wp
            simp [execOp, go_sem, Act.eval, k0, k1, q3]
            exact hR.op 15 29 v15 rfl (by decide) hl0 (by decide) hc
          · simp at ho
            subst ho
            simp [Region.binds] at hdep
            have k0 : a.tmps.getD 14 undef = _ := (hR.fr.done (i := 0) rfl (by simp_all) (by simp [hT])).trans v0
            have k1 : a.tmps.getD 15 undef = _ := (hR.fr.done (i := 1) rfl (by simp_all) (by simp [hT])).trans v1
            have hc : ∀ j, (16, j) ∈ loCh → l.getD j true = true := by intro j hj; simp [loCh] at hj
            clear hi' hdep
            unfold wpOp
            simp [Region.wanted]
            refine .inl ?_
            unfold Oper.wp
            simp [execOp, go_sem, Act.eval, k0, k1, hlI]
            exact hR.op 16 30 v16 rfl (by decide) hl0 (by decide) hc
          · simp at ho
            subst ho
            simp [Region.binds] at hdep
            have k0 : a.tmps.getD 30 undef = _ := (hR.fr.done (i := 16) rfl (by simp_all) (by simp [hT])).trans v16
            have k1 : a.tmps.getD 29 undef = _ := (hR.fr.done (i := 15) rfl (by simp_all) (by simp [hT])).trans v15
            have hc : ∀ j, (17, j) ∈ loCh → l.getD j true = true := by intro j hj; simp [loCh] at hj; rcases hj with rfl <;> exact getD_true (by simp_all)
            have hw' := hR.before hl0 (fun hs => hs)
            subst hw'
            clear hi' hdep
            unfold wpOp
            simp [Region.wanted]
            refine .inl ?_
            unfold Oper.wp
            simp [execOp, go_sem, Act.eval, k0, k1, hx, hfree]
            exact hR.store rfl hl0 hc undef
      case' finv1 =>
          rintro l a w' hR hz
          have hnot := List.eq_nil_iff_forall_not_mem.1 hz
          have hk : ∀ k, k < 18 → (l.getD k true = false → False) → l.getD k false = true := fun k h12 h => by
            have hs := hR.size
            cases h' : l.getD k true with
            | false => exact (h h').elim
            | true => simp at hs; simp [Array.getD, hs, h12] at h' ⊢; exact h'
          have st0 := hk 0 (by omega) (fun h => hnot 0 (mem_ready.2 ⟨h, _, rfl, by simp [Region.binds]⟩))
          have st1 := hk 1 (by omega) (fun h => hnot 1 (mem_ready.2 ⟨h, _, rfl, by simp [Region.binds]⟩))
          have st2 := hk 2 (by omega) (fun h => hnot 2 (mem_ready.2 ⟨h, _, rfl, by simp [Region.binds]⟩))
          have st3 := hk 3 (by omega) (fun h => hnot 3 (mem_ready.2 ⟨h, _, rfl, by simp [Region.binds]⟩))
          have st4 := hk 4 (by omega) (fun h => hnot 4 (mem_ready.2 ⟨h, _, rfl, by simp [Region.binds] <;> simp_all⟩))
          have st5 := hk 5 (by omega) (fun h => hnot 5 (mem_ready.2 ⟨h, _, rfl, by simp [Region.binds] <;> simp_all⟩))
          have st6 := hk 6 (by omega) (fun h => hnot 6 (mem_ready.2 ⟨h, _, rfl, by simp [Region.binds]⟩))
          have st7 := hk 7 (by omega) (fun h => hnot 7 (mem_ready.2 ⟨h, _, rfl, by simp [Region.binds] <;> simp_all⟩))
          have st8 := hk 8 (by omega) (fun h => hnot 8 (mem_ready.2 ⟨h, _, rfl, by simp [Region.binds]⟩))
          have st9 := hk 9 (by omega) (fun h => hnot 9 (mem_ready.2 ⟨h, _, rfl, by simp [Region.binds]⟩))
          have st10 := hk 10 (by omega) (fun h => hnot 10 (mem_ready.2 ⟨h, _, rfl, by simp [Region.binds] <;> simp_all⟩))
          have st11 := hk 11 (by omega) (fun h => hnot 11 (mem_ready.2 ⟨h, _, rfl, by simp [Region.binds] <;> simp_all⟩))
          have st12 := hk 12 (by omega) (fun h => hnot 12 (mem_ready.2 ⟨h, _, rfl, by simp [Region.binds]⟩))
          have st13 := hk 13 (by omega) (fun h => hnot 13 (mem_ready.2 ⟨h, _, rfl, by simp [Region.binds] <;> simp_all⟩))
          have st14 := hk 14 (by omega) (fun h => hnot 14 (mem_ready.2 ⟨h, _, rfl, by simp [Region.binds] <;> simp_all⟩))
          have st15 := hk 15 (by omega) (fun h => hnot 15 (mem_ready.2 ⟨h, _, rfl, by simp [Region.binds] <;> simp_all⟩))
          have st16 := hk 16 (by omega) (fun h => hnot 16 (mem_ready.2 ⟨h, _, rfl, by simp [Region.binds] <;> simp_all⟩))
          have st17 := hk 17 (by omega) (fun h => hnot 17 (mem_ready.2 ⟨h, _, rfl, by simp [Region.binds] <;> simp_all⟩))
          have hall : ∀ i, i < 18 → l.getD i true = true := fun i hi => by
            rcases (show i = 0 ∨ i = 1 ∨ i = 2 ∨ i = 3 ∨ i = 4 ∨ i = 5 ∨ i = 6 ∨ i = 7 ∨ i = 8 ∨ i = 9 ∨ i = 10 ∨ i = 11 ∨ i = 12 ∨ i = 13 ∨ i = 14 ∨ i = 15 ∨ i = 16 ∨ i = 17 by omega) with rfl | rfl | rfl | rfl | rfl | rfl | rfl | rfl | rfl | rfl | rfl | rfl | rfl | rfl | rfl | rfl | rfl | rfl
            · exact getD_true st0
            · exact getD_true st1
            · exact getD_true st2
            · exact getD_true st3
            · exact getD_true st4
            · exact getD_true st5
            · exact getD_true st6
            · exact getD_true st7
            · exact getD_true st8
            · exact getD_true st9
            · exact getD_true st10
            · exact getD_true st11
            · exact getD_true st12
            · exact getD_true st13
            · exact getD_true st14
            · exact getD_true st15
            · exact getD_true st16
            · exact getD_true st17
          clear st0 st1 st2 st3 st4 st5 st6 st7 st8 st9 st10 st11 st12 st13 st14 st15 st16 st17 hk hnot hz
          have hTs : T.size = 34 := by rw [hT]; rfl
          obtain ⟨ha, hw'⟩ := hR.all (T' := (((((((((((((((((T.setIfInBounds 14 (vals 0)).setIfInBounds 15 (vals 1)).setIfInBounds 16 (vals 2)).setIfInBounds 17 (vals 3)).setIfInBounds 18 (vals 4)).setIfInBounds 19 (vals 5)).setIfInBounds 20 (vals 6)).setIfInBounds 21 (vals 7)).setIfInBounds 22 (vals 8)).setIfInBounds 23 (vals 9)).setIfInBounds 24 (vals 10)).setIfInBounds 25 (vals 11)).setIfInBounds 26 (vals 12)).setIfInBounds 27 (vals 13)).setIfInBounds 28 (vals 14)).setIfInBounds 29 (vals 15)).setIfInBounds 30 (vals 16))) (fun i hi => hall i (by simpa using hi)) (by decide) (by simp) (fun j hj => by
            by_cases h1 : j = 14 ∨ j = 15 ∨ j = 16 ∨ j = 17 ∨ j = 18 ∨ j = 19 ∨ j = 20 ∨ j = 21 ∨ j = 22 ∨ j = 23 ∨ j = 24 ∨ j = 25 ∨ j = 26 ∨ j = 27 ∨ j = 28 ∨ j = 29 ∨ j = 30
            · rcases h1 with rfl | rfl | rfl | rfl | rfl | rfl | rfl | rfl | rfl | rfl | rfl | rfl | rfl | rfl | rfl | rfl | rfl <;> simp [rv_sets, tOwn, List.findIdx?, List.findIdx?.go, hTs]
            · simp only [not_or] at h1
              obtain ⟨m14, m15, m16, m17, m18, m19, m20, m21, m22, m23, m24, m25, m26, m27, m28, m29, m30⟩ := h1
              have e : tOwn [some 14, some 15, some 16, some 17, some 18, some 19, some 20, some 21, some 22, some 23, some 24, some 25, some 26, some 27, some 28, some 29, some 30, none] vals j = none := by
                unfold tOwn
                simp [List.findIdx?, List.findIdx?.go, Ne.symm m14, Ne.symm m15, Ne.symm m16, Ne.symm m17, Ne.symm m18, Ne.symm m19, Ne.symm m20, Ne.symm m21, Ne.symm m22, Ne.symm m23, Ne.symm m24, Ne.symm m25, Ne.symm m26, Ne.symm m27, Ne.symm m28, Ne.symm m29, Ne.symm m30]
              rw [e]
              simp only [rv_sets]
              repeat rw [if_neg (by omega)])
          subst ha hw'
          clear hR hall hTs
          rw [v0, v1, v2, v3, v4, v5, v6, v7, v8, v9, v10, v11, v12, v13, v14, v15, v16, hT]
          simp only [List.setIfInBounds_toArray, List.set_cons_succ, List.set_cons_zero]
          clear v0 v1 v2 v3 v4 v5 v6 v7 v8 v9 v10 v11 v12 v13 v14 v15 v16 vals hT T
      go_wp2
      go_roundw
      case rel => exact ⟨k + 1, zs.set k d, by omega, by go_num, HN1.out, HSW3.out, HBL3.out⟩
      case measure => simp [intOf]; omega
    · obtain rfl : k = n := by omega
      have hv := lowering_end (by rw [← HN.out]; exact hT) HBD.out
      have ht := trim_any _ _ _ hsw.sl
      have hu := hsw.trim
      rw [hv] at ht hu
      have HU := Lib.hid hu
      clear hv hu hT hsw
      go_wp2_with (go_at_call 76; refine ht.mono ?_; rintro e w' ⟨rfl, rfl⟩)
      go_ret
      exact ⟨_, rfl, HU.out, hbl⟩

end Go.Proofs.YtdgmjmckeeeljaaGreatDoor
