/- Contracts of the reference: divide of right numbers; Div of right numbers. Contracts of the reference: Gcd of right numbers. Contracts of the reference: Pow of right numbers. Contracts at numbers that are not right, and at the divisor 0: Div, Gcd of num and of the reference. Contracts of the reference: Pow of right numbers, by multiplying; Pow at a negative exponent or a number that is not right. Contracts of the reference: Pow of right numbers, for exponents 0 and 1; all of Pow: both sides answer alike. Pow: both sides answer alike, whatever the number and the exponent. Text and Parse: both sides answer alike, whatever the number and the string. Condition of num's Text: the table of powers of ten is laid. The law NumWrites, walked. Condition: the table of powers of ten is laid. Numbers that came in. Two numbers that came in. The given statement NumWrites: whatever the input, the law returns true and leaves its arguments as they were. Condition: the listed variables hold what the program's text lays in them (the given tie). -/
import Derived.Test.YtdgmjmckeeeljaaGreatDoorGi8
import Derived.Test.YtdgmjmckeeeljaaGreatDoorGi3
import Derived.Test.YtdgmjmckeeeljaaGreatDoorGi2
import Derived.Test.YtdgmjmckeeeljaaGreatDoorGi7
import Derived.Test.YtdgmjmckeeeljaaGreatDoorGi6
import Derived.Test.YtdgmjmckeeeljaaGreatDoorGi4
import Derived.Deep.RegionHeld3
import Derived.Deep.CutRange
import Derived.Deep.RegionLaw
import Derived.Test.YtdgmjmckeeeljaaGreatDoorGi5
import Derived.ChangeSame
namespace Go.Proofs.YtdgmjmckeeeljaaGreatDoor
open Go.RowKit

theorem divide48_any {w : World} {va vb : Value} {x y : Nat} (ha : Sl w va (digs x)) (hb : Sl w vb (digs y)) (h0 : y ≠ 0) (hla : (digs x).length ≤ 256) (hlb : (digs y).length ≤ 256) :
    Calls Tryz.prog 48 #[va, vb] w (DivR w x y) := by
  by_cases h2 : (digs x).length ≤ 2
  · by_cases h3 : (digs y).length ≤ 2
    · exact divide48_small ha hb h0 h2 h3
    · exact divide48_far ha hb h0 hla hlb (.inr ⟨h2, by omega⟩) (lenB_two h2 hlb (by omega))
  · rcases Nat.lt_or_ge (lenB (digs x)) (lenB (digs y)) with h | h
    · exact divide48_far ha hb h0 hla hlb (.inl (by omega)) h
    · exact divide48_long ha hb h0 hla hlb (by omega) h

set_option maxRecDepth 10000 in
set_option maxHeartbeats 2000000 in
theorem div16_any {w : World} {x y : Value} {a b : Int} (hx : Nu w x a) (hy : Nu w y b) (hb0 : b ≠ 0) :
    Calls Tryz.prog 16 #[x, y] w (DivOut w a b) := by
  obtain ⟨sa, rfl, ha, la⟩ := hx
  obtain ⟨sb, rfl, hb, lb'⟩ := hy
  obtain ⟨d1, d2, d3, d4⟩ := div_signs a b hb0
  have ra := rightB_digs a la
  have rb := rightB_digs b lb'
  obtain ⟨ab, cb, rfl⟩ := hb.mk'
  obtain ⟨lb, hlb⟩ : ∃ lb, lb = (digs b.natAbs).length := ⟨_, rfl⟩
  have hlb0 : lb ≠ 0 := by
    intro h0
    have : digs b.natAbs = [] := List.eq_nil_of_length_eq_zero (by omega)
    have : b.natAbs = 0 := digs_inj (by rw [this, digs_zero])
    omega
  rw [← hlb] at hb lb' ⊢
  obtain ⟨na, hna⟩ : ∃ na, na = decide (a < 0) := ⟨_, rfl⟩
  obtain ⟨nb, hnb⟩ : ∃ nb, nb = decide (b < 0) := ⟨_, rfl⟩
  rw [← hna] at ra ⊢
  rw [← hnb] at rb ⊢
  have R1 : ∀ W, Sl W sa (digs a.natAbs) → Calls Tryz.prog 41 #[.agg #[.bool na, sa]] W fun e w' => e = .returned (.bool true) ∧ w' = W.alloc (.cells #[.bool na, sa] 27) := fun W h => by have := right41_any na h (by omega); rwa [ra] at this
  have R2 : ∀ W, Sl W (.slice ab lb cb) (digs b.natAbs) → Calls Tryz.prog 41 #[.agg #[.bool nb, .slice ab lb cb]] W fun e w' => e = .returned (.bool true) ∧ w' = W.alloc (.cells #[.bool nb, .slice ab lb cb] 27) := fun W h => by have := right41_any nb h (by omega); rwa [rb] at this
  have hd : ∀ W va vb, Sl W va (digs a.natAbs) → Sl W vb (digs b.natAbs) → Calls Tryz.prog 48 #[va, vb] W (DivR W a.natAbs b.natAbs) := fun W va vb h1 h2 => divide48_any h1 h2 (by omega) la (by rw [← hlb]; exact lb')
  have HR1 := Lib.hid R1
  have HR2 := Lib.hid R2
  have HD := Lib.hid hd
  have HNA := Lib.hid hna
  have HNB := Lib.hid hnb
  have HLB := Lib.hid hlb
  have D1 := Lib.hid d1
  have D2 := Lib.hid d2
  have D3 := Lib.hid d3
  have D4 := Lib.hid d4
  have hlz : ((lb : Int) == 0) = false := by simp; omega
  clear R1 R2 ra rb hd hna hnb hlb d1 d2 d3 d4 hb0
  go_enter Tryz.func16, Tryz.ntmps16
  go_wp2_with (first | (go_at_call_of 41 (Value.agg #[.bool na, sa]); refine (HR1.out _ (ha.below (by go_grown))).mono ?_; rintro e w' ⟨rfl, rfl⟩) | (go_at_call_of 41 (Value.agg #[.bool nb, .slice ab lb cb]); refine (HR2.out _ (hb.below (by go_grown))).mono ?_; rintro e w' ⟨rfl, rfl⟩))
  have HB : Box4 ((((((w.alloc (.cells #[.bool na, sa] 27)).alloc (.cells #[.bool nb, .slice ab lb cb] 27)).alloc (.cells #[.bool false, .slice none 0 0] 27)).alloc (.cells #[.bool false, .slice none 0 0] 27)).alloc (.cells #[.bool na, sa] 27)).alloc (.cells #[.bool nb, .slice ab lb cb] 27)) w.heap.size na nb sa (.slice ab lb cb) a.natAbs b.natAbs := box4_new ha hb (by go_grown)
  have HBL : Below w.heap.size w ((((((w.alloc (.cells #[.bool na, sa] 27)).alloc (.cells #[.bool nb, .slice ab lb cb] 27)).alloc (.cells #[.bool false, .slice none 0 0] 27)).alloc (.cells #[.bool false, .slice none 0 0] 27)).alloc (.cells #[.bool na, sa] 27)).alloc (.cells #[.bool nb, .slice ab lb cb] 27)) := by go_grown
  obtain ⟨f0, f1, -⟩ := cells_two HB.a
  obtain ⟨g0, g1, -⟩ := cells_two HB.b
  revert HB HBL f0 f1 g0 g1
  generalize ((((((w.alloc (.cells #[.bool na, sa] 27)).alloc (.cells #[.bool nb, .slice ab lb cb] 27)).alloc (.cells #[.bool false, .slice none 0 0] 27)).alloc (.cells #[.bool false, .slice none 0 0] 27)).alloc (.cells #[.bool na, sa] 27)).alloc (.cells #[.bool nb, .slice ab lb cb] 27)) = W
  intro HB HBL f0 f1 g0 g1
  refine (HD.out _ _ _ HB.sa HB.sb).mono ?_
  rintro e W1 ⟨aq, cq, ar, cr, rfl, hsq, hsr, hb1⟩
  have HB1 := HB.below hb1
  have HBL1 := HBL.trans (hb1.mono HBL.size)
  obtain ⟨f0', f1', -⟩ := cells_two HB1.a
  obtain ⟨g0', g1', -⟩ := cells_two HB1.b
  obtain ⟨q0', q1', qf0, qf1⟩ := HB1.q.cells
  obtain ⟨r0', r1', rf0, rf1⟩ := HB1.r.cells
  have hlt1 := HB1.lt
  obtain ⟨ql, hql⟩ : ∃ ql, ql = (digs (a.natAbs / b.natAbs)).length := ⟨_, rfl⟩
  obtain ⟨rl, hrl⟩ : ∃ rl, rl = (digs (a.natAbs % b.natAbs)).length := ⟨_, rfl⟩
  rw [← hql] at hsq ⊢
  rw [← hrl] at hsr ⊢
  have HSQ := Lib.hid hsq
  have HSR := Lib.hid hsr
  have HQL := Lib.hid hql
  have HRL := Lib.hid hrl
  have HBB1 := Lib.hid HB1
  clear hsq hsr hql hrl HB1 HB hb1
  by_cases h0 : a < 0 ∧ a.natAbs % b.natAbs ≠ 0
  · obtain ⟨h0, hm0⟩ := h0
    obtain rfl : na = true := by rw [HNA.out]; exact decide_eq_true h0
    have hrl0 : 0 < (rl : Int) := by
      have : rl ≠ 0 := by
        intro h
        apply hm0
        have : digs (a.natAbs % b.natAbs) = [] := List.eq_nil_of_length_eq_zero (by rw [← HRL.out]; exact h)
        exact digs_inj (by rw [this, digs_zero])
      omega
    have hone : digs 1 = [1] := digs_small (by omega) (by omega)
    have hq2 := digs_mono (x := a.natAbs / b.natAbs) (y := a.natAbs) (Nat.div_le_self _ _)
    have hr2 := digs_mono (x := a.natAbs % b.natAbs) (y := a.natAbs) (Nat.mod_le _ _)
    have hb0 : 0 < b.natAbs := by
      rcases Nat.eq_zero_or_pos b.natAbs with h | h
      · exfalso; apply hlb0; rw [HLB.out, h, digs_zero]; rfl
      · exact h
    have hmlt := Nat.mod_lt a.natAbs hb0
    have HO : Hid (∀ W : World, Sl (W.alloc (.cells #[.int .u32 1] 59)) (.slice (some ⟨W.heap.size, 0, none⟩) 1 1) (digs 1)) := fun W => by rw [hone]; exact (sl_one W 1 (by omega)).sl
    have HQ2 := Lib.hid hq2
    have HR2B := Lib.hid hr2
    have HML := Lib.hid hmlt
    clear hone hq2 hr2 hmlt hb0
    go_wp2_with fail
    refine (plus49_at (HSQ.out.below (by go_grown)) (HO.out W1) (by have := HQ2.out; omega) (by rw [digs_small (by omega) (by omega)]; simp) rfl).mono ?_
    rintro e W2' ⟨aq', cq', rfl, hsq', hb2'⟩
    have hb2 : Below W1.heap.size W1 W2' := Below.trans (by go_grown) (hb2'.mono (by simp))
    have HSQ' := Lib.hid hsq'.sl
    have HSR' := Lib.hid (HSR.out.below hb2)
    clear hsq' HSQ HSR hb2' HQL
    have HB1 := HBB1.out.below hb2
    replace HBL1 := HBL1.trans (hb2.mono HBL1.size)
    clear hb2 f0' f1' g0' g1' q0' q1' qf0 qf1 r0' r1' rf0 rf1 HBB1
    obtain ⟨f0', f1', -⟩ := cells_two HB1.a
    obtain ⟨g0', g1', -⟩ := cells_two HB1.b
    obtain ⟨q0', q1', qf0, qf1⟩ := HB1.q.cells
    obtain ⟨r0', r1', rf0, rf1⟩ := HB1.r.cells
    replace hlt1 := HB1.lt
    have HBB1 := Lib.hid HB1
    clear HB1
    obtain ⟨W1, rfl⟩ : ∃ W1, W1 = W2' := ⟨_, rfl⟩
    go_wp2_with fail
    refine (minus50_at HBB1.out.sb HSR'.out (by rw [← HLB.out]; exact lb') (by have := HR2B.out; omega) (Nat.le_of_lt HML.out) rfl).mono ?_
    rintro e W3' ⟨ar', cr', rfl, hsr', hb3⟩
    have HSR := Lib.hid hsr'.sl
    have HSQ := Lib.hid (HSQ'.out.below hb3)
    clear hsr' HSQ' HSR' HRL hrl0
    have HB1 := HBB1.out.below hb3
    replace HBL1 := HBL1.trans (hb3.mono HBL1.size)
    clear hb3 f0' f1' g0' g1' q0' q1' qf0 qf1 r0' r1' rf0 rf1 HBB1
    obtain ⟨f0', f1', -⟩ := cells_two HB1.a
    obtain ⟨g0', g1', -⟩ := cells_two HB1.b
    obtain ⟨q0', q1', qf0, qf1⟩ := HB1.q.cells
    obtain ⟨r0', r1', rf0, rf1⟩ := HB1.r.cells
    replace hlt1 := HB1.lt
    have HBB1 := Lib.hid HB1
    clear HB1
    obtain ⟨W1, rfl⟩ : ∃ W1, W1 = W3' := ⟨_, rfl⟩
    obtain ⟨ql, hql⟩ : ∃ ql, ql = (digs (a.natAbs / b.natAbs + 1)).length := ⟨_, rfl⟩
    obtain ⟨rl, hrl⟩ : ∃ rl, rl = (digs (b.natAbs - a.natAbs % b.natAbs)).length := ⟨_, rfl⟩
    rw [← hql] at HSQ ⊢
    rw [← hrl] at HSR ⊢
    have HQL := Lib.hid hql
    have HRL := Lib.hid hrl
    clear hql hrl
    obtain ⟨aq, rfl⟩ : ∃ aq, aq = aq' := ⟨_, rfl⟩
    obtain ⟨cq, rfl⟩ : ∃ cq, cq = cq' := ⟨_, rfl⟩
    obtain ⟨ar, rfl⟩ : ∃ ar, ar = ar' := ⟨_, rfl⟩
    obtain ⟨cr, rfl⟩ : ∃ cr, cr = cr' := ⟨_, rfl⟩
    obtain ⟨p1, p2⟩ := D2.out h0 hm0
    have q1 : a.natAbs / b.natAbs + 1 ≤ a.natAbs := by
      have h1 := Nat.div_add_mod a.natAbs b.natAbs
      have h2 := HML.out
      have h3 : 2 * (a.natAbs / b.natAbs) ≤ b.natAbs * (a.natAbs / b.natAbs) := Nat.mul_le_mul_right _ (by omega)
      omega
    have hz1 : a / b = if (!nb) = true then -((a.natAbs / b.natAbs + 1 : Nat) : Int) else ((a.natAbs / b.natAbs + 1 : Nat) : Int) := by
      rw [← p1]
      have hz : a / b ≠ 0 := fun h => by have p3 := p1; rw [h, show (0 : Int).natAbs = 0 from rfl] at p3; exact absurd p3 (by exact (Nat.succ_ne_zero _).symm)
      have := D3.out hz
      rw [decide_eq_true h0, ← HNB.out] at this
      rw [show (!nb) = decide (a / b < 0) by simpa using this]
      by_cases h : a / b < 0 <;> simp [h] <;> omega
    have hz2 : a % b = if false = true then -((b.natAbs - a.natAbs % b.natAbs : Nat) : Int) else ((b.natAbs - a.natAbs % b.natAbs : Nat) : Int) := by
      rw [← p2]
      have := D4.out
      simp
      omega
    have HFL1 : Hid ((digs (a / b).natAbs).length ≤ 256) := Lib.hid (by rw [p1]; exact Nat.le_trans (digs_mono q1) la)
    have HFL2 : Hid ((digs (a % b).natAbs).length ≤ 256) := Lib.hid (by rw [p2]; exact Nat.le_trans (digs_mono (Nat.sub_le _ _)) (by rw [← HLB.out]; exact lb'))
    have hf1 : fitsB (a / b).natAbs = true := decide_eq_true HFL1.out
    have hf2 : fitsB (a % b).natAbs = true := decide_eq_true HFL2.out
    have hS1 := fun W (h : Below W1.heap.size W1 W) => signed36_at (!nb) (HSQ.out.below h) hz1
    have hS2 := fun W (h : Below W1.heap.size W1 W) => signed36_at false (HSR.out.below h) hz2
    have HS1 := Lib.hid hS1
    have HS2 := Lib.hid hS2
    clear hS1 hS2 hz1 hz2 h0 p1 p2 hm0
    go_wp2_with fail
    refine (HS1.out _ (Below.refl _ _)).mono ?_
    rintro e w2 ⟨n1, a1, l1, c1, rfl, hb2, hy1, -⟩
    have HBB2 := Lib.hid (HBB1.out.below hb2)
    have HL2 := Lib.hid hb2
    have HY1 := Lib.hid hy1
    clear hy1 hb2
    go_wp2_with fail
    refine (HS2.out _ (HL2.out.trans ((alloc_b w2 _).mono HL2.out.size))).mono ?_
    rintro e w3 ⟨n2, a2, l2, c2, rfl, hb3, hy2, -⟩
    have hw23 : w2.heap.size < w3.heap.size := by have := hb3.size; rw [World.size_alloc] at this; omega
    have hX : w3.heap[w2.heap.size]? = some (.cells #[.bool n1, .slice a1 l1 c1] 27 (0, 0)) := (hb3.block _ (by simp)).trans (heap_alloc_new _ _)
    have hb23 : Below w2.heap.size w2 w3 := (alloc_b w2 _).trans (hb3.mono (by simp))
    have hw12 := HL2.out.size
    have HBB3 := Lib.hid (HBB2.out.below hb23)
    have HL23 := Lib.hid hb23
    have HY2 := Lib.hid hy2
    have HX := Lib.hid hX
    have hb24 := hb3.size
    rw [World.size_alloc] at hb24
    clear hy2 hb3 hb23 hX
    go_wp2_with fail
    have k4 := heap_alloc_new w3 (.cells #[.bool n2, .slice a2 l2 c2] 27)
    have k2 : (w3.alloc (.cells #[.bool n2, .slice a2 l2 c2] 27)).heap[w2.heap.size]? = some (.cells #[.bool n1, .slice a1 l1 c1] 27 (0, 0)) := (Below.heap_alloc _ _ _ hw23).trans HX.out
    have hW2 : Below w3.heap.size w3 (w3.alloc (.cells #[.bool n2, .slice a2 l2 c2] 27)) := alloc_b _ _
    revert k2 k4 hW2
    generalize w3.alloc (.cells #[.bool n2, .slice a2 l2 c2] 27) = W2
    intro k2 k4 hW2
    obtain ⟨x0, x1, -⟩ := cells_two k2
    obtain ⟨y0, y1, -⟩ := cells_two k4
    have HQ2 := HBB3.out.q.below hW2
    have HR2' := HBB3.out.r.below hW2
    obtain ⟨u0, u1, uf0, uf1⟩ := HQ2.cells
    obtain ⟨v0, v1, vf0, vf1⟩ := HR2'.cells
    have K2 := Lib.hid k2
    have K4 := Lib.hid k4
    have HW2 := Lib.hid hW2
    have HQ2' := Lib.hid HQ2
    have HR2'' := Lib.hid HR2'
    have hgt2 : w.heap.size + 1 + 1 + 1 < w2.heap.size := by omega
    clear k2 k4 hW2 HQ2 HR2' f0' f1' g0' g1' q0' q1' qf0 qf1 r0' r1' rf0 rf1 f0 f1 g0 g1 HBL
    go_region
    obtain ⟨z0, z1, z2, z3⟩ := res_two HQ2'.out HR2''.out (.inl trivial) (.bool n1) (.slice a1 l1 c1) (.bool n2) (.slice a2 l2 c2)
    have hb1W : Below w.heap.size w W2 := HBL1.trans (((HL2.out.trans (HL23.out.mono hw12)).trans (HW2.out.mono (by omega))).mono HBL1.size)
    have hfin : Below w.heap.size w ((((W2.setCell ⟨w.heap.size + 1 + 1, 0, none⟩ (.bool n1)).setCell ⟨w.heap.size + 1 + 1, 1, none⟩ (.slice a1 l1 c1)).setCell ⟨w.heap.size + 1 + 1 + 1, 0, none⟩ (.bool n2)).setCell ⟨w.heap.size + 1 + 1 + 1, 1, none⟩ (.slice a2 l2 c2)) :=
      (((hb1W.setCell (by simp; omega) _).setCell (by simp; omega) _).setCell (by simp; omega) _).setCell (by simp; omega) _
    have hsq3 := (((((HY1.out hf1).2).below HL23.out).below HW2.out).after2 (g := w.heap.size + 1 + 1) (by omega) (.bool n1) (.slice a1 l1 c1)).after2 (g := w.heap.size + 1 + 1 + 1) (by omega) (.bool n2) (.slice a2 l2 c2)
    have hsr3 := ((((HY2.out hf2).2).below HW2.out).after2 (g := w.heap.size + 1 + 1) (by rw [World.size_alloc]; omega) (.bool n1) (.slice a1 l1 c1)).after2 (g := w.heap.size + 1 + 1 + 1) (by rw [World.size_alloc]; omega) (.bool n2) (.slice a2 l2 c2)
    revert z0 z1 z2 z3 hfin hsq3 hsr3
    generalize ((((W2.setCell ⟨w.heap.size + 1 + 1, 0, none⟩ (.bool n1)).setCell ⟨w.heap.size + 1 + 1, 1, none⟩ (.slice a1 l1 c1)).setCell ⟨w.heap.size + 1 + 1 + 1, 0, none⟩ (.bool n2)).setCell ⟨w.heap.size + 1 + 1 + 1, 1, none⟩ (.slice a2 l2 c2)) = W3
    intro z0 z1 z2 z3 hfin hsq3 hsr3
    have H1 := Lib.hid hsq3
    have H2 := Lib.hid hsr3
    have HF := Lib.hid hfin
    clear hsq3 hsr3 hfin x0 x1 y0 y1 u0 u1 uf0 uf1 v0 v1 vf0 vf1 hb1W
    go_wp2
    refine bodyPost_ret (v := .tuple #[.agg #[.bool n1, .slice a1 l1 c1], .agg #[.bool n2, .slice a2 l2 c2], .bool true]) (by simp [results, Tryz.results16, go_sem, z0, z1, z2, z3]) rfl ?_
    refine ⟨_, _, _, _, _, _, _, _, rfl, HF.out.drew, ⟨_, by rw [(HY1.out hf1).1], H1.out.sl.below (Below.drew (Below.refl _ _)), HFL1.out⟩, ⟨_, by rw [(HY2.out hf2).1], H2.out.sl.below (Below.drew (Below.refl _ _)), HFL2.out⟩⟩
  · have hna2 : na = false ∨ rl = 0 := by
      by_cases h1 : a < 0
      · right
        have : a.natAbs % b.natAbs = 0 := Decidable.of_not_not fun h2 => h0 ⟨h1, h2⟩
        rw [HRL.out, this, digs_zero]; rfl
      · left; rw [HNA.out]; exact decide_eq_false h1
    obtain ⟨p1, p2⟩ := D1.out (by omega)
    have HP1 := Lib.hid p1
    have HP2 := Lib.hid p2
    have hz1 : a / b = if (!(na == nb)) = true then -((a.natAbs / b.natAbs : Nat) : Int) else ((a.natAbs / b.natAbs : Nat) : Int) := by
      rw [← p1]
      by_cases hz : a / b = 0
      · rw [hz]; simp
      · rw [HNA.out, HNB.out, D3.out hz]
        by_cases h : a / b < 0 <;> simp [h] <;> omega
    have hz2 : a % b = if false = true then -((a.natAbs % b.natAbs : Nat) : Int) else ((a.natAbs % b.natAbs : Nat) : Int) := by
      rw [← p2]
      have := D4.out
      simp
      omega
    have HFL1 : Hid ((digs (a / b).natAbs).length ≤ 256) := Lib.hid (by rw [p1]; exact Nat.le_trans (digs_mono (Nat.div_le_self _ _)) la)
    have HFL2 : Hid ((digs (a % b).natAbs).length ≤ 256) := Lib.hid (by rw [p2]; exact Nat.le_trans (digs_mono (Nat.mod_le _ _)) la)
    have hf1 : fitsB (a / b).natAbs = true := decide_eq_true HFL1.out
    have hf2 : fitsB (a % b).natAbs = true := decide_eq_true HFL2.out
    obtain ⟨sg, hsg⟩ : ∃ sg, sg = (!(na == nb)) := ⟨_, rfl⟩
    rw [← hsg] at hz1
    have hS1 := fun W (h : Below W1.heap.size W1 W) => signed36_at sg (HSQ.out.below h) hz1
    have hS2 := fun W (h : Below W1.heap.size W1 W) => signed36_at false (HSR.out.below h) hz2
    have HS1 := Lib.hid hS1
    have HS2 := Lib.hid hS2
    have hall : (na = false ∧ sg = nb) ∨ (na = true ∧ rl = 0 ∧ sg = !nb) := by rw [hsg]; cases na <;> cases nb <;> simp_all
    clear hS1 hS2 hz1 hz2 h0 p1 p2 hsg
    rcases hall with ⟨rfl, rfl⟩ | ⟨rfl, rfl, rfl⟩
    · go_wp2_with fail
      refine (HS1.out _ (Below.refl _ _)).mono ?_
      rintro e w2 ⟨n1, a1, l1, c1, rfl, hb2, hy1, -⟩
      have HBB2 := Lib.hid (HBB1.out.below hb2)
      have HL2 := Lib.hid hb2
      have HY1 := Lib.hid hy1
      clear hy1 hb2
      go_wp2_with fail
      refine (HS2.out _ (HL2.out.trans ((alloc_b w2 _).mono HL2.out.size))).mono ?_
      rintro e w3 ⟨n2, a2, l2, c2, rfl, hb3, hy2, -⟩
      have hw23 : w2.heap.size < w3.heap.size := by have := hb3.size; rw [World.size_alloc] at this; omega
      have hX : w3.heap[w2.heap.size]? = some (.cells #[.bool n1, .slice a1 l1 c1] 27 (0, 0)) := (hb3.block _ (by simp)).trans (heap_alloc_new _ _)
      have hb23 : Below w2.heap.size w2 w3 := (alloc_b w2 _).trans (hb3.mono (by simp))
      have hw12 := HL2.out.size
      have HBB3 := Lib.hid (HBB2.out.below hb23)
      have HL23 := Lib.hid hb23
      have HY2 := Lib.hid hy2
      have HX := Lib.hid hX
      have hb24 := hb3.size
      rw [World.size_alloc] at hb24
      clear hy2 hb3 hb23 hX
      go_wp2_with fail
      have k4 := heap_alloc_new w3 (.cells #[.bool n2, .slice a2 l2 c2] 27)
      have k2 : (w3.alloc (.cells #[.bool n2, .slice a2 l2 c2] 27)).heap[w2.heap.size]? = some (.cells #[.bool n1, .slice a1 l1 c1] 27 (0, 0)) := (Below.heap_alloc _ _ _ hw23).trans HX.out
      have hW2 : Below w3.heap.size w3 (w3.alloc (.cells #[.bool n2, .slice a2 l2 c2] 27)) := alloc_b _ _
      revert k2 k4 hW2
      generalize w3.alloc (.cells #[.bool n2, .slice a2 l2 c2] 27) = W2
      intro k2 k4 hW2
      obtain ⟨x0, x1, -⟩ := cells_two k2
      obtain ⟨y0, y1, -⟩ := cells_two k4
      have HQ2 := HBB3.out.q.below hW2
      have HR2' := HBB3.out.r.below hW2
      obtain ⟨u0, u1, uf0, uf1⟩ := HQ2.cells
      obtain ⟨v0, v1, vf0, vf1⟩ := HR2'.cells
      have K2 := Lib.hid k2
      have K4 := Lib.hid k4
      have HW2 := Lib.hid hW2
      have HQ2' := Lib.hid HQ2
      have HR2'' := Lib.hid HR2'
      have hgt2 : w.heap.size + 1 + 1 + 1 < w2.heap.size := by omega
      clear k2 k4 hW2 HQ2 HR2' f0' f1' g0' g1' q0' q1' qf0 qf1 r0' r1' rf0 rf1 f0 f1 g0 g1 HBL
      go_region
      obtain ⟨z0, z1, z2, z3⟩ := res_two HQ2'.out HR2''.out (.inl trivial) (.bool n1) (.slice a1 l1 c1) (.bool n2) (.slice a2 l2 c2)
      have hb1W : Below w.heap.size w W2 := HBL1.trans (((HL2.out.trans (HL23.out.mono hw12)).trans (HW2.out.mono (by omega))).mono HBL1.size)
      have hfin : Below w.heap.size w ((((W2.setCell ⟨w.heap.size + 1 + 1, 0, none⟩ (.bool n1)).setCell ⟨w.heap.size + 1 + 1, 1, none⟩ (.slice a1 l1 c1)).setCell ⟨w.heap.size + 1 + 1 + 1, 0, none⟩ (.bool n2)).setCell ⟨w.heap.size + 1 + 1 + 1, 1, none⟩ (.slice a2 l2 c2)) :=
        (((hb1W.setCell (by simp; omega) _).setCell (by simp; omega) _).setCell (by simp; omega) _).setCell (by simp; omega) _
      have hsq3 := (((((HY1.out hf1).2).below HL23.out).below HW2.out).after2 (g := w.heap.size + 1 + 1) (by omega) (.bool n1) (.slice a1 l1 c1)).after2 (g := w.heap.size + 1 + 1 + 1) (by omega) (.bool n2) (.slice a2 l2 c2)
      have hsr3 := ((((HY2.out hf2).2).below HW2.out).after2 (g := w.heap.size + 1 + 1) (by rw [World.size_alloc]; omega) (.bool n1) (.slice a1 l1 c1)).after2 (g := w.heap.size + 1 + 1 + 1) (by rw [World.size_alloc]; omega) (.bool n2) (.slice a2 l2 c2)
      revert z0 z1 z2 z3 hfin hsq3 hsr3
      generalize ((((W2.setCell ⟨w.heap.size + 1 + 1, 0, none⟩ (.bool n1)).setCell ⟨w.heap.size + 1 + 1, 1, none⟩ (.slice a1 l1 c1)).setCell ⟨w.heap.size + 1 + 1 + 1, 0, none⟩ (.bool n2)).setCell ⟨w.heap.size + 1 + 1 + 1, 1, none⟩ (.slice a2 l2 c2)) = W3
      intro z0 z1 z2 z3 hfin hsq3 hsr3
      have H1 := Lib.hid hsq3
      have H2 := Lib.hid hsr3
      have HF := Lib.hid hfin
      clear hsq3 hsr3 hfin x0 x1 y0 y1 u0 u1 uf0 uf1 v0 v1 vf0 vf1 hb1W
      go_wp2
      refine bodyPost_ret (v := .tuple #[.agg #[.bool n1, .slice a1 l1 c1], .agg #[.bool n2, .slice a2 l2 c2], .bool true]) (by simp [results, Tryz.results16, go_sem, z0, z1, z2, z3]) rfl ?_
      refine ⟨_, _, _, _, _, _, _, _, rfl, HF.out.drew, ⟨_, by rw [(HY1.out hf1).1], H1.out.sl.below (Below.drew (Below.refl _ _)), HFL1.out⟩, ⟨_, by rw [(HY2.out hf2).1], H2.out.sl.below (Below.drew (Below.refl _ _)), HFL2.out⟩⟩
    · go_wp2_with fail
      refine (HS1.out _ (Below.refl _ _)).mono ?_
      rintro e w2 ⟨n1, a1, l1, c1, rfl, hb2, hy1, -⟩
      have HBB2 := Lib.hid (HBB1.out.below hb2)
      have HL2 := Lib.hid hb2
      have HY1 := Lib.hid hy1
      clear hy1 hb2
      go_wp2_with fail
      refine (HS2.out _ (HL2.out.trans ((alloc_b w2 _).mono HL2.out.size))).mono ?_
      rintro e w3 ⟨n2, a2, l2, c2, rfl, hb3, hy2, -⟩
      have hw23 : w2.heap.size < w3.heap.size := by have := hb3.size; rw [World.size_alloc] at this; omega
      have hX : w3.heap[w2.heap.size]? = some (.cells #[.bool n1, .slice a1 l1 c1] 27 (0, 0)) := (hb3.block _ (by simp)).trans (heap_alloc_new _ _)
      have hb23 : Below w2.heap.size w2 w3 := (alloc_b w2 _).trans (hb3.mono (by simp))
      have hw12 := HL2.out.size
      have HBB3 := Lib.hid (HBB2.out.below hb23)
      have HL23 := Lib.hid hb23
      have HY2 := Lib.hid hy2
      have HX := Lib.hid hX
      have hb24 := hb3.size
      rw [World.size_alloc] at hb24
      clear hy2 hb3 hb23 hX
      go_wp2_with fail
      have k4 := heap_alloc_new w3 (.cells #[.bool n2, .slice a2 l2 c2] 27)
      have k2 : (w3.alloc (.cells #[.bool n2, .slice a2 l2 c2] 27)).heap[w2.heap.size]? = some (.cells #[.bool n1, .slice a1 l1 c1] 27 (0, 0)) := (Below.heap_alloc _ _ _ hw23).trans HX.out
      have hW2 : Below w3.heap.size w3 (w3.alloc (.cells #[.bool n2, .slice a2 l2 c2] 27)) := alloc_b _ _
      revert k2 k4 hW2
      generalize w3.alloc (.cells #[.bool n2, .slice a2 l2 c2] 27) = W2
      intro k2 k4 hW2
      obtain ⟨x0, x1, -⟩ := cells_two k2
      obtain ⟨y0, y1, -⟩ := cells_two k4
      have HQ2 := HBB3.out.q.below hW2
      have HR2' := HBB3.out.r.below hW2
      obtain ⟨u0, u1, uf0, uf1⟩ := HQ2.cells
      obtain ⟨v0, v1, vf0, vf1⟩ := HR2'.cells
      have K2 := Lib.hid k2
      have K4 := Lib.hid k4
      have HW2 := Lib.hid hW2
      have HQ2' := Lib.hid HQ2
      have HR2'' := Lib.hid HR2'
      have hgt2 : w.heap.size + 1 + 1 + 1 < w2.heap.size := by omega
      clear k2 k4 hW2 HQ2 HR2' f0' f1' g0' g1' q0' q1' qf0 qf1 r0' r1' rf0 rf1 f0 f1 g0 g1 HBL
      go_region
      obtain ⟨z0, z1, z2, z3⟩ := res_two HQ2'.out HR2''.out (.inl trivial) (.bool n1) (.slice a1 l1 c1) (.bool n2) (.slice a2 l2 c2)
      have hb1W : Below w.heap.size w W2 := HBL1.trans (((HL2.out.trans (HL23.out.mono hw12)).trans (HW2.out.mono (by omega))).mono HBL1.size)
      have hfin : Below w.heap.size w ((((W2.setCell ⟨w.heap.size + 1 + 1, 0, none⟩ (.bool n1)).setCell ⟨w.heap.size + 1 + 1, 1, none⟩ (.slice a1 l1 c1)).setCell ⟨w.heap.size + 1 + 1 + 1, 0, none⟩ (.bool n2)).setCell ⟨w.heap.size + 1 + 1 + 1, 1, none⟩ (.slice a2 l2 c2)) :=
        (((hb1W.setCell (by simp; omega) _).setCell (by simp; omega) _).setCell (by simp; omega) _).setCell (by simp; omega) _
      have hsq3 := (((((HY1.out hf1).2).below HL23.out).below HW2.out).after2 (g := w.heap.size + 1 + 1) (by omega) (.bool n1) (.slice a1 l1 c1)).after2 (g := w.heap.size + 1 + 1 + 1) (by omega) (.bool n2) (.slice a2 l2 c2)
      have hsr3 := ((((HY2.out hf2).2).below HW2.out).after2 (g := w.heap.size + 1 + 1) (by rw [World.size_alloc]; omega) (.bool n1) (.slice a1 l1 c1)).after2 (g := w.heap.size + 1 + 1 + 1) (by rw [World.size_alloc]; omega) (.bool n2) (.slice a2 l2 c2)
      revert z0 z1 z2 z3 hfin hsq3 hsr3
      generalize ((((W2.setCell ⟨w.heap.size + 1 + 1, 0, none⟩ (.bool n1)).setCell ⟨w.heap.size + 1 + 1, 1, none⟩ (.slice a1 l1 c1)).setCell ⟨w.heap.size + 1 + 1 + 1, 0, none⟩ (.bool n2)).setCell ⟨w.heap.size + 1 + 1 + 1, 1, none⟩ (.slice a2 l2 c2)) = W3
      intro z0 z1 z2 z3 hfin hsq3 hsr3
      have H1 := Lib.hid hsq3
      have H2 := Lib.hid hsr3
      have HF := Lib.hid hfin
      clear hsq3 hsr3 hfin x0 x1 y0 y1 u0 u1 uf0 uf1 v0 v1 vf0 vf1 hb1W
      go_wp2
      refine bodyPost_ret (v := .tuple #[.agg #[.bool n1, .slice a1 l1 c1], .agg #[.bool n2, .slice a2 l2 c2], .bool true]) (by simp [results, Tryz.results16, go_sem, z0, z1, z2, z3]) rfl ?_
      refine ⟨_, _, _, _, _, _, _, _, rfl, HF.out.drew, ⟨_, by rw [(HY1.out hf1).1], H1.out.sl.below (Below.drew (Below.refl _ _)), HFL1.out⟩, ⟨_, by rw [(HY2.out hf2).1], H2.out.sl.below (Below.drew (Below.refl _ _)), HFL2.out⟩⟩

end Go.Proofs.YtdgmjmckeeeljaaGreatDoor

namespace Go.Proofs.YtdgmjmckeeeljaaGreatDoor
open Go.RowKit

theorem sl_same2 {w : World} {v : Value} {ds es : List Nat} (h : Sl w v ds) (k : Sl w v es) : ds = es := by
  have e1 := h.is
  have e2 := k.is
  rcases e1 with ⟨rfl, ao, cap, rfl⟩ | ⟨b, off, cap, rfl, hc, hl⟩
  · have := k.size
    exact (List.eq_nil_of_length_eq_zero this.symm).symm
  · rcases e2 with ⟨rfl, ao, cap', e⟩ | ⟨b', off', cap', e, hc', hl'⟩
    · have := k.size
      exact List.eq_nil_of_length_eq_zero this
    · have hs := k.size
      simp only [Value.slice.injEq, Option.some.injEq, Addr.mk.injEq] at e
      obtain ⟨⟨rfl, rfl, _⟩, _, _⟩ := e
      refine eq_of_getD hs (fun j hj => ?_)
      have q1 := hl j hj
      have q2 := hl' j (by omega)
      rw [q1] at q2
      injection q2 with q2
      injection q2 with _ q2
      omega
theorem eps_eq2 {w : World} {v : Value} {n : Nat} (h : Sl w v (digs n)) : Classical.epsilon (fun n => Sl w v (digs n)) = n := by
  have := Classical.epsilon_spec (p := fun n => Sl w v (digs n)) ⟨n, h⟩
  exact digs_inj (sl_same2 this h)

/-- What a round of Gcd begins with. -/
def GcdR (w : World) (G : Nat) (av bv : Value) (wr : World) : Prop :=
  ∃ u v : Nat, Sl wr av (digs u) ∧ Sl wr bv (digs v) ∧ (digs u).length ≤ 256 ∧ (digs v).length ≤ 256 ∧ Nat.gcd u v = G ∧ Below w.heap.size w wr

set_option maxRecDepth 10000 in
set_option maxHeartbeats 2000000 in
theorem gcd18_any {w : World} {x y : Value} {a b : Int} (hx : Nu w x a) (hy : Nu w y b) :
    Calls Tryz.prog 18 #[x, y] w (NumRes w (Nat.gcd a.natAbs b.natAbs : Nat)) := by
  obtain ⟨sa, rfl, ha, la⟩ := hx
  obtain ⟨sb, rfl, hb, lb⟩ := hy
  have ra := rightB_digs a la
  have rb := rightB_digs b lb
  obtain ⟨na, hna⟩ : ∃ na, na = decide (a < 0) := ⟨_, rfl⟩
  obtain ⟨nb, hnb⟩ : ∃ nb, nb = decide (b < 0) := ⟨_, rfl⟩
  rw [← hna] at ra ⊢
  rw [← hnb] at rb ⊢
  have HNA := Lib.hid hna
  have HNB := Lib.hid hnb
  clear hna hnb
  have R1 : ∀ W, Sl W sa (digs a.natAbs) → Calls Tryz.prog 41 #[.agg #[.bool na, sa]] W fun e w' => e = .returned (.bool true) ∧ w' = W.alloc (.cells #[.bool na, sa] 27) := fun W h => by have := right41_any na h (by omega); rwa [ra] at this
  have R2 : ∀ W, Sl W sb (digs b.natAbs) → Calls Tryz.prog 41 #[.agg #[.bool nb, sb]] W fun e w' => e = .returned (.bool true) ∧ w' = W.alloc (.cells #[.bool nb, sb] 27) := fun W h => by have := right41_any nb h (by omega); rwa [rb] at this
  have HR1 := Lib.hid R1
  have HR2 := Lib.hid R2
  clear R1 R2 ra rb
  go_enter Tryz.func18, Tryz.ntmps18
  go_wp2_with (first | (go_at_call_of 41 (Value.agg #[.bool na, sa]); refine (HR1.out _ (ha.below (by go_grown))).mono ?_; rintro e w' ⟨rfl, rfl⟩) | (go_at_call_of 41 (Value.agg #[.bool nb, sb]); refine (HR2.out _ (hb.below (by go_grown))).mono ?_; rintro e w' ⟨rfl, rfl⟩))
  have HB : Box3 ((((w.alloc (.cells #[.bool na, sa] 27)).alloc (.cells #[.bool nb, sb] 27)).alloc (.cells #[.bool false, .slice none 0 0] 27)).alloc (.cells #[.bool na, sa] 27) |>.alloc (.cells #[.bool nb, sb] 27)) w.heap.size na nb sa sb a.natAbs b.natAbs :=
    box3_new ha hb (by go_grown)
  have HBL : Below w.heap.size w ((((w.alloc (.cells #[.bool na, sa] 27)).alloc (.cells #[.bool nb, sb] 27)).alloc (.cells #[.bool false, .slice none 0 0] 27)).alloc (.cells #[.bool na, sa] 27) |>.alloc (.cells #[.bool nb, sb] 27)) := by go_grown
  revert HB HBL
  generalize ((((w.alloc (.cells #[.bool na, sa] 27)).alloc (.cells #[.bool nb, sb] 27)).alloc (.cells #[.bool false, .slice none 0 0] 27)).alloc (.cells #[.bool na, sa] 27) |>.alloc (.cells #[.bool nb, sb] 27)) = W
  intro HB HBL
  have a0 := HB.a0
  have a1 := HB.a1
  have b0 := HB.b0
  have b1 := HB.b1
  obtain ⟨G, hG⟩ : ∃ G, G = Nat.gcd a.natAbs b.natAbs := ⟨_, rfl⟩
  have HST : Hid (GcdR W G sa sb W) := Lib.hid ⟨a.natAbs, b.natAbs, HB.sa, HB.sb, la, lb, hG.symm, Below.refl _ _⟩
  have HGD := Lib.hid hG
  have HBX := Lib.hid HB
  have HLW := Lib.hid HBL
  go_wp2_with fail
  clear hG HB HBL a0 a1 b0 b1
  go_loopw [6, 7] (fun av bv wr => GcdR W G av bv wr) (fun _ bv wr => Classical.epsilon (fun n => Sl wr bv (digs n)))
  case atStart => exact HST.out
  case round =>
    obtain ⟨u, v, hu, hv, hlu, hlv, hG, hbl⟩ := hrel
    clear HST
    obtain ⟨aa, ca, rfl⟩ := hu.mk'
    obtain ⟨ab, cb, rfl⟩ := hv.mk'
    obtain ⟨na', hna⟩ : ∃ na, na = (digs u).length := ⟨_, rfl⟩
    obtain ⟨nb', hnb⟩ : ∃ nb, nb = (digs v).length := ⟨_, rfl⟩
    rw [← hna] at hu hlu ⊢
    rw [← hnb] at hv hlv ⊢
    have HU := Lib.hid hu
    have HV := Lib.hid hv
    have HNA' := Lib.hid hna
    have HNB' := Lib.hid hnb
    have HGG := Lib.hid hG
    have HBL := Lib.hid hbl
    have HLU := Lib.hid hlu
    have HLV := Lib.hid hlv
    by_cases h0 : nb' = 0
    · subst h0
      have hy : v = 0 := digs_inj (by rw [digs_zero]; exact List.eq_nil_of_length_eq_zero hnb.symm)
      have hgu : G = u := by rw [← hG, hy, Nat.gcd_zero_right]
      have hsg := signed36_at (z := (G : Int)) false hu (by rw [hgu]; rfl)
      have HSG := Lib.hid hsg
      have HB1 := HBX.out.below hbl
      have hz := HB1.lt
      have hbw := hbl.mono (Nat.le_of_lt HBX.out.lt)
      have HB1B := Lib.hid HB1
      clear hu hv hna hnb hG hbl hlu hlv hy hgu hsg HB1
      go_wp2_with (go_at_call 36; refine HSG.out.mono ?_; rintro e w2 ⟨neg2, ao2, n2, cap2, rfl, hb2, hyes, hno⟩; have HB2 := HB1B.out.below hb2; obtain ⟨r2, r3, f2, f3⟩ := HB2.cells; have hz2 := HB2.lt)
      obtain ⟨q0, q1⟩ := (show ResBox w2 (w.heap.size + 1 + 1) from HB2.r).stored (.bool neg2) (.slice ao2 n2 cap2)
      have hfin : Below w.heap.size w ((w2.setCell ⟨w.heap.size + 1 + 1, 0, none⟩ (.bool neg2)).setCell ⟨w.heap.size + 1 + 1, 1, none⟩ (.slice ao2 n2 cap2)) :=
        (((HLW.out.trans ((HBL.out.trans (hb2.mono HBL.out.size)).mono HLW.out.size)).setCell (by simp; omega) _).setCell (by simp; omega) _)
      rw [← HGD.out]
      refine bodyPost_ret (v := .tuple #[.agg #[.bool neg2, .slice ao2 n2 cap2], .bool (fitsB G)]) (by simp [results, Tryz.results18, go_sem, q0, q1]) rfl ?_
      exact ⟨_, _, _, _, rfl, hfin, fun hf => ⟨(hyes hf).1, ((hyes hf).2.after2 (g := w.heap.size + 1 + 1) hz (.bool neg2) (.slice ao2 n2 cap2)).mono (B' := w.heap.size) (by omega)⟩, hno⟩
    · have hnb0 : 0 < nb' := by omega
      have hv0 : v ≠ 0 := fun h => h0 (by rw [hnb, h, digs_zero]; rfl)
      have hdv := divide48_any hu hv hv0 (by rw [← hna]; exact hlu) (by rw [← hnb]; exact hlv)
      have hg : Nat.gcd v (u % v) = G := by rw [← hG, Nat.gcd_comm u v, Nat.gcd_rec v u, Nat.gcd_comm]
      have hr : u % v < v := Nat.mod_lt _ (by omega)
      have HDV := Lib.hid hdv
      have HG2 := Lib.hid hg
      have HR := Lib.hid hr
      clear hu hv hna hnb hG hbl hlu hlv hdv hg hr hv0 h0
      go_wp2_with (go_at_call 48; refine HDV.out.mono ?_; rintro e w1 ⟨aq, cq, ar, cr, rfl, hsq, hsr, hb1⟩; have HSR := Lib.hid hsr; have HB1 := Lib.hid hb1; clear hsq hsr hb1)
      go_roundw
      case rel => exact ⟨v, u % v, HV.out.below HB1.out, HSR.out, by rw [← HNB'.out]; exact HLV.out, Nat.le_trans (digs_mono (Nat.le_of_lt HR.out)) (by rw [← HNB'.out]; exact HLV.out), HG2.out, HBL.out.trans (HB1.out.mono HBL.out.size)⟩
      case measure =>
        rw [eps_eq2 HSR.out, eps_eq2 (n := v) HV.out]
        exact HR.out

end Go.Proofs.YtdgmjmckeeeljaaGreatDoor

namespace Go.Proofs.YtdgmjmckeeeljaaGreatDoor
open Go.RowKit

/-- A power's sign and size. -/
theorem pow_signed (a : Int) (n : Nat) : a ^ n = if (decide (a < 0) && decide (n % 2 = 1)) = true then -((a.natAbs ^ n : Nat) : Int) else ((a.natAbs ^ n : Nat) : Int) := by
  rw [Int.natCast_pow]
  by_cases h : a < 0
  · rw [show (a.natAbs : Int) = -a by omega]
    obtain ⟨q, hq | hq⟩ : ∃ q, n = 2 * q ∨ n = 2 * q + 1 := ⟨n / 2, by omega⟩
    · subst hq
      rw [if_neg (by simp), Int.pow_mul, Int.pow_mul, show (-a) ^ 2 = a ^ 2 by grind]
    · subst hq
      rw [if_pos (by simp [h]), Int.pow_succ, Int.pow_succ, Int.pow_mul, Int.pow_mul, show (-a) ^ 2 = a ^ 2 by grind]
      grind
  · rw [show (a.natAbs : Int) = a by omega, if_neg (by simp [h])]

theorem pow_len {x : Nat} (hl : (digs x).length ≤ 256) (h : lenB (digs x) < 2) : x ≤ 1 := by
  by_cases h0 : x = 0
  · omega
  · obtain ⟨h1, h2, h3⟩ := lenB_bounds h0 hl
    have : lenB (digs x) = 1 := by omega
    rw [this] at h3
    omega

theorem pow_one {a : Int} {n : Nat} (h : a.natAbs ≤ 1) (hn : n ≠ 0) : a.natAbs ^ n = a.natAbs := by
  rcases (show a.natAbs = 0 ∨ a.natAbs = 1 by omega) with h | h
  · rw [h, Nat.zero_pow (by omega)]
  · rw [h, Nat.one_pow]

set_option maxRecDepth 10000 in
set_option maxHeartbeats 2000000 in
theorem pow21_few {w : World} {x : Value} {a : Int} (hx : Nu w x a) (n : Nat) (hn : n < 9223372036854775808) (h1 : 1 < n) (hL : lenB (digs a.natAbs) < 2) :
    Calls Tryz.prog 21 #[x, .int .i64 n] w (NumRes w (a ^ n)) := by
  obtain ⟨sa, rfl, ha, la⟩ := hx
  have ra := rightB_digs a la
  obtain ⟨na, hna⟩ : ∃ na, na = decide (a < 0) := ⟨_, rfl⟩
  rw [← hna] at ra ⊢
  have HR : Hid (∀ W, Sl W sa (digs a.natAbs) → Calls Tryz.prog 41 #[.agg #[.bool na, sa]] W fun e w' => e = .returned (.bool true) ∧ w' = W.alloc (.cells #[.bool na, sa] 27)) := Lib.hid (fun W h => by have := right41_any na h (by omega); rwa [ra] at this)
  have HLB : Hid (∀ W, Sl W sa (digs a.natAbs) → Calls Tryz.prog 53 #[sa] W fun e w' => e = .returned (.int .i64 (lenB (digs a.natAbs) : Nat)) ∧ w' = W) := Lib.hid (fun W h => length53_any h (by omega))
  obtain ⟨A, hA⟩ : ∃ A, A = lenB (digs a.natAbs) := ⟨_, rfl⟩
  rw [← hA] at HLB hL
  have hsz := pow_len la (by rw [← hA]; exact hL)
  have hz := pow_signed a n
  rw [pow_one hsz (by omega), ← hna] at hz
  obtain ⟨r, hr⟩ : ∃ r, r = n % 2 := ⟨_, rfl⟩
  rw [← hr] at hz
  have f1 : (n : Int).tmod 2 = (r : Int) := by rw [hr]; rfl
  have hA2 : (A : Int) < 2 := by omega
  have hn1 : 1 < (n : Int) := by omega
  have HZ := Lib.hid hz
  have HN := Lib.hid hn
  have HNA := Lib.hid hna
  clear hna ra hA hz hr hsz hn
  cases na
  · go_enter Tryz.func21, Tryz.ntmps21
    go_wp2_with (first | (go_at_call 41; refine (HR.out _ (ha.below (by go_grown))).mono ?_; rintro e w' ⟨rfl, rfl⟩) | (go_at_call 53; refine (HLB.out _ (ha.below (by go_grown))).mono ?_; rintro e w' ⟨rfl, hw'⟩; subst w'))
    obtain ⟨k1, k2, _⟩ := heap_three w (.cells #[.bool false, sa] 27) (.cells #[.bool false, .slice none 0 0] 27) (.cells #[.bool false, sa] 27)
    have hB : Below w.heap.size w (((w.alloc (.cells #[.bool false, sa] 27)).alloc (.cells #[.bool false, .slice none 0 0] 27)).alloc (.cells #[.bool false, sa] 27)) := by go_grown
    revert k1 k2 hB
    generalize ((w.alloc (.cells #[.bool false, sa] 27)).alloc (.cells #[.bool false, .slice none 0 0] 27)).alloc (.cells #[.bool false, sa] 27) = W
    intro k1 k2 hB
    have hl2 : w.heap.size + 1 < W.heap.size := (Array.getElem?_eq_some_iff.1 k2).1
    refine (signed36_at _ (ha.below hB) (z := a ^ n) (by rw [HZ.out]; simp)).mono ?_
    rintro e w2 ⟨neg2, ao2, n2, cap2, rfl, hb2, hyes, hno⟩
    have HB2 : ResBox w2 (w.heap.size + 1) := (show ResBox W (w.heap.size + 1) from k2).below hb2
    obtain ⟨r2, r3, f2, f3⟩ := HB2.cells
    have hl3 := hb2.size
    go_wp2
    obtain ⟨q0, q1⟩ := HB2.stored (.bool neg2) (.slice ao2 n2 cap2)
    have hfin : Below w.heap.size w ((w2.setCell ⟨w.heap.size + 1, 0, none⟩ (.bool neg2)).setCell ⟨w.heap.size + 1, 1, none⟩ (.slice ao2 n2 cap2)) :=
      (((hB.trans (hb2.mono hB.size)).setCell (by simp) _).setCell (by simp) _)
    refine bodyPost_ret (v := .tuple #[.agg #[.bool neg2, .slice ao2 n2 cap2], .bool (fitsB (a ^ n).natAbs)]) (by simp [results, Tryz.results21, go_sem, q0, q1]) rfl ?_
    exact ⟨_, _, _, _, rfl, hfin, fun hf => ⟨(hyes hf).1, ((hyes hf).2.after2 (g := w.heap.size + 1) hl2 (.bool neg2) (.slice ao2 n2 cap2)).mono (B' := w.heap.size) (by omega)⟩, hno⟩

  · go_enter Tryz.func21, Tryz.ntmps21
    go_wp2_with (first | (go_at_call 41; refine (HR.out _ (ha.below (by go_grown))).mono ?_; rintro e w' ⟨rfl, rfl⟩) | (go_at_call 53; refine (HLB.out _ (ha.below (by go_grown))).mono ?_; rintro e w' ⟨rfl, hw'⟩; subst w'))
    obtain ⟨k1, k2, _⟩ := heap_three w (.cells #[.bool true, sa] 27) (.cells #[.bool false, .slice none 0 0] 27) (.cells #[.bool true, sa] 27)
    have hB : Below w.heap.size w (((w.alloc (.cells #[.bool true, sa] 27)).alloc (.cells #[.bool false, .slice none 0 0] 27)).alloc (.cells #[.bool true, sa] 27)) := by go_grown
    revert k1 k2 hB
    generalize ((w.alloc (.cells #[.bool true, sa] 27)).alloc (.cells #[.bool false, .slice none 0 0] 27)).alloc (.cells #[.bool true, sa] 27) = W
    intro k1 k2 hB
    have hl2 : w.heap.size + 1 < W.heap.size := (Array.getElem?_eq_some_iff.1 k2).1
    refine (signed36_at _ (ha.below hB) (z := a ^ n) (by rw [HZ.out]; simp only [Bool.true_and]; rw [show ((r : Int) == 1) = decide (r = 1) by rw [Bool.eq_iff_iff]; simp; omega])).mono ?_
    rintro e w2 ⟨neg2, ao2, n2, cap2, rfl, hb2, hyes, hno⟩
    have HB2 : ResBox w2 (w.heap.size + 1) := (show ResBox W (w.heap.size + 1) from k2).below hb2
    obtain ⟨r2, r3, f2, f3⟩ := HB2.cells
    have hl3 := hb2.size
    go_wp2
    obtain ⟨q0, q1⟩ := HB2.stored (.bool neg2) (.slice ao2 n2 cap2)
    have hfin : Below w.heap.size w ((w2.setCell ⟨w.heap.size + 1, 0, none⟩ (.bool neg2)).setCell ⟨w.heap.size + 1, 1, none⟩ (.slice ao2 n2 cap2)) :=
      (((hB.trans (hb2.mono hB.size)).setCell (by simp) _).setCell (by simp) _)
    refine bodyPost_ret (v := .tuple #[.agg #[.bool neg2, .slice ao2 n2 cap2], .bool (fitsB (a ^ n).natAbs)]) (by simp [results, Tryz.results21, go_sem, q0, q1]) rfl ?_
    exact ⟨_, _, _, _, rfl, hfin, fun hf => ⟨(hyes hf).1, ((hyes hf).2.after2 (g := w.heap.size + 1) hl2 (.bool neg2) (.slice ao2 n2 cap2)).mono (B' := w.heap.size) (by omega)⟩, hno⟩

end Go.Proofs.YtdgmjmckeeeljaaGreatDoor

namespace Go.Proofs.YtdgmjmckeeeljaaGreatDoor
open Go.RowKit

/-- No numbers, and false. -/
def DivNo (w : World) (e : Ending) (w' : World) : Prop := e = .returned (.tuple #[.agg #[.bool false, .slice none 0 0], .agg #[.bool false, .slice none 0 0], .bool false]) ∧ Below w.heap.size w w'

set_option maxRecDepth 10000 in
set_option maxHeartbeats 1000000 in
theorem gcd17_no {w : World} {na nb : Bool} {sa sb : Value} {xs ys : List Nat} (ha : Sl w sa xs) (hb : Sl w sb ys) (hla : xs.length ≤ 1000) (hlb : ys.length ≤ 1000) (h : rightB na xs = false ∨ rightB nb ys = false) :
    Calls Tryz.prog 17 #[.agg #[.bool na, sa], .agg #[.bool nb, sb]] w (NumNo w) := by
  have HR1 := Lib.hid (fun W (h : Sl W sa xs) => right_any na h (by omega))
  have HR2 := Lib.hid (fun W (h : Sl W sb ys) => right_any nb h (by omega))
  obtain ⟨p, hp⟩ : ∃ p, p = rightB na xs := ⟨_, rfl⟩
  obtain ⟨q, hq⟩ : ∃ q, q = rightB nb ys := ⟨_, rfl⟩
  rw [← hp] at HR1 h
  rw [← hq] at HR2 h
  have HA := Lib.hid ha
  have HB := Lib.hid hb
  clear hp hq ha hb
  cases p
  · go_enter Tryz.func17, Tryz.ntmps17
    go_wp2_with (go_at_call 32; refine (HR1.out _ (HA.out.below (by go_grown))).mono ?_; rintro e w' ⟨rfl, rfl⟩)
    go_returns
    exact ⟨rfl, by go_grown⟩
  · obtain rfl : q = false := by simpa using h
    go_enter Tryz.func17, Tryz.ntmps17
    go_wp2_with (first | (go_at_call_of 32 (Value.agg #[.bool na, sa]); (with_reducible refine (HR1.out _ (HA.out.below (by go_grown))).mono ?_); rintro e w' ⟨rfl, rfl⟩) | (go_at_call_of 32 (Value.agg #[.bool nb, sb]); (with_reducible refine (HR2.out _ (HB.out.below (by go_grown))).mono ?_); rintro e w' ⟨rfl, rfl⟩))
    go_returns
    exact ⟨rfl, by go_grown⟩

set_option maxRecDepth 10000 in
set_option maxHeartbeats 1000000 in
theorem gcd18_no {w : World} {na nb : Bool} {sa sb : Value} {xs ys : List Nat} (ha : Sl w sa xs) (hb : Sl w sb ys) (hla : xs.length ≤ 1000) (hlb : ys.length ≤ 1000) (h : rightB na xs = false ∨ rightB nb ys = false) :
    Calls Tryz.prog 18 #[.agg #[.bool na, sa], .agg #[.bool nb, sb]] w (NumNo w) := by
  have HR1 := Lib.hid (fun W (h : Sl W sa xs) => right41_any na h (by omega))
  have HR2 := Lib.hid (fun W (h : Sl W sb ys) => right41_any nb h (by omega))
  obtain ⟨p, hp⟩ : ∃ p, p = rightB na xs := ⟨_, rfl⟩
  obtain ⟨q, hq⟩ : ∃ q, q = rightB nb ys := ⟨_, rfl⟩
  rw [← hp] at HR1 h
  rw [← hq] at HR2 h
  have HA := Lib.hid ha
  have HB := Lib.hid hb
  clear hp hq ha hb
  cases p
  · go_enter Tryz.func18, Tryz.ntmps18
    go_wp2_with (go_at_call 41; refine (HR1.out _ (HA.out.below (by go_grown))).mono ?_; rintro e w' ⟨rfl, rfl⟩)
    go_returns
    exact ⟨rfl, by go_grown⟩
  · obtain rfl : q = false := by simpa using h
    go_enter Tryz.func18, Tryz.ntmps18
    go_wp2_with (first | (go_at_call_of 41 (Value.agg #[.bool na, sa]); (with_reducible refine (HR1.out _ (HA.out.below (by go_grown))).mono ?_); rintro e w' ⟨rfl, rfl⟩) | (go_at_call_of 41 (Value.agg #[.bool nb, sb]); (with_reducible refine (HR2.out _ (HB.out.below (by go_grown))).mono ?_); rintro e w' ⟨rfl, rfl⟩))
    go_returns
    exact ⟨rfl, by go_grown⟩

set_option maxRecDepth 10000 in
set_option maxHeartbeats 1000000 in
theorem div15_no {w : World} {na nb : Bool} {sa sb : Value} {xs ys : List Nat} (ha : Sl w sa xs) (hb : Sl w sb ys) (hla : xs.length ≤ 1000) (hlb : ys.length ≤ 1000) (h : rightB na xs = false ∨ rightB nb ys = false) :
    Calls Tryz.prog 15 #[.agg #[.bool na, sa], .agg #[.bool nb, sb]] w (DivNo w) := by
  have HR1 := Lib.hid (fun W (h : Sl W sa xs) => right_any na h (by omega))
  have HR2 := Lib.hid (fun W (h : Sl W sb ys) => right_any nb h (by omega))
  obtain ⟨p, hp⟩ : ∃ p, p = rightB na xs := ⟨_, rfl⟩
  obtain ⟨q, hq⟩ : ∃ q, q = rightB nb ys := ⟨_, rfl⟩
  rw [← hp] at HR1 h
  rw [← hq] at HR2 h
  have HA := Lib.hid ha
  have HB := Lib.hid hb
  clear hp hq ha hb
  cases p
  · go_enter Tryz.func15, Tryz.ntmps15
    go_wp2_with (go_at_call 32; refine (HR1.out _ (HA.out.below (by go_grown))).mono ?_; rintro e w' ⟨rfl, rfl⟩)
    go_returns
    exact ⟨rfl, by go_grown⟩
  · obtain rfl : q = false := by simpa using h
    go_enter Tryz.func15, Tryz.ntmps15
    go_wp2_with (first | (go_at_call_of 32 (Value.agg #[.bool na, sa]); (with_reducible refine (HR1.out _ (HA.out.below (by go_grown))).mono ?_); rintro e w' ⟨rfl, rfl⟩) | (go_at_call_of 32 (Value.agg #[.bool nb, sb]); (with_reducible refine (HR2.out _ (HB.out.below (by go_grown))).mono ?_); rintro e w' ⟨rfl, rfl⟩))
    go_returns
    exact ⟨rfl, by go_grown⟩

set_option maxRecDepth 10000 in
set_option maxHeartbeats 1000000 in
theorem div16_no {w : World} {na nb : Bool} {sa sb : Value} {xs ys : List Nat} (ha : Sl w sa xs) (hb : Sl w sb ys) (hla : xs.length ≤ 1000) (hlb : ys.length ≤ 1000) (h : rightB na xs = false ∨ rightB nb ys = false) :
    Calls Tryz.prog 16 #[.agg #[.bool na, sa], .agg #[.bool nb, sb]] w (DivNo w) := by
  have HR1 := Lib.hid (fun W (h : Sl W sa xs) => right41_any na h (by omega))
  have HR2 := Lib.hid (fun W (h : Sl W sb ys) => right41_any nb h (by omega))
  obtain ⟨p, hp⟩ : ∃ p, p = rightB na xs := ⟨_, rfl⟩
  obtain ⟨q, hq⟩ : ∃ q, q = rightB nb ys := ⟨_, rfl⟩
  rw [← hp] at HR1 h
  rw [← hq] at HR2 h
  have HA := Lib.hid ha
  have HB := Lib.hid hb
  clear hp hq ha hb
  cases p
  · go_enter Tryz.func16, Tryz.ntmps16
    go_wp2_with (go_at_call 41; refine (HR1.out _ (HA.out.below (by go_grown))).mono ?_; rintro e w' ⟨rfl, rfl⟩)
    go_returns
    exact ⟨rfl, by go_grown⟩
  · obtain rfl : q = false := by simpa using h
    go_enter Tryz.func16, Tryz.ntmps16
    go_wp2_with (first | (go_at_call_of 41 (Value.agg #[.bool na, sa]); (with_reducible refine (HR1.out _ (HA.out.below (by go_grown))).mono ?_); rintro e w' ⟨rfl, rfl⟩) | (go_at_call_of 41 (Value.agg #[.bool nb, sb]); (with_reducible refine (HR2.out _ (HB.out.below (by go_grown))).mono ?_); rintro e w' ⟨rfl, rfl⟩))
    go_returns
    exact ⟨rfl, by go_grown⟩

set_option maxRecDepth 10000 in
set_option maxHeartbeats 1000000 in
theorem div15_zero {w : World} {na : Bool} {sa sb : Value} {xs : List Nat} (ha : Sl w sa xs) (hb : Sl w sb []) (hla : xs.length ≤ 1000) (h : rightB na xs = true) :
    Calls Tryz.prog 15 #[.agg #[.bool na, sa], .agg #[.bool false, sb]] w (DivNo w) := by
  have HR1 := Lib.hid (fun W (h : Sl W sa xs) => right_any na h (by omega))
  have HR2 := Lib.hid (fun W (h : Sl W sb []) => right_any false h (by simp))
  rw [h] at HR1
  rw [show rightB false [] = true from rfl] at HR2
  obtain ⟨ab, cb, rfl⟩ := hb.mk'
  rw [List.length_nil] at HR2 ⊢
  have HA := Lib.hid ha
  have HB := Lib.hid hb
  clear ha hb h
  go_enter Tryz.func15, Tryz.ntmps15
  go_wp2_with (first | (go_at_call_of 32 (Value.agg #[.bool na, sa]); (with_reducible refine (HR1.out _ (HA.out.below (by go_grown))).mono ?_); rintro e w' ⟨rfl, rfl⟩) | (go_at_call_of 32 (Value.agg #[.bool false, .slice ab 0 cb]); (with_reducible refine (HR2.out _ (HB.out.below (by go_grown))).mono ?_); rintro e w' ⟨rfl, rfl⟩))
  go_returns
  exact ⟨rfl, by go_grown⟩

set_option maxRecDepth 10000 in
set_option maxHeartbeats 1000000 in
theorem div16_zero {w : World} {na : Bool} {sa sb : Value} {xs : List Nat} (ha : Sl w sa xs) (hb : Sl w sb []) (hla : xs.length ≤ 1000) (h : rightB na xs = true) :
    Calls Tryz.prog 16 #[.agg #[.bool na, sa], .agg #[.bool false, sb]] w (DivNo w) := by
  have HR1 := Lib.hid (fun W (h : Sl W sa xs) => right41_any na h (by omega))
  have HR2 := Lib.hid (fun W (h : Sl W sb []) => right41_any false h (by simp))
  rw [h] at HR1
  rw [show rightB false [] = true from rfl] at HR2
  obtain ⟨ab, cb, rfl⟩ := hb.mk'
  rw [List.length_nil] at HR2 ⊢
  have HA := Lib.hid ha
  have HB := Lib.hid hb
  clear ha hb h
  go_enter Tryz.func16, Tryz.ntmps16
  go_wp2_with (first | (go_at_call_of 41 (Value.agg #[.bool na, sa]); (with_reducible refine (HR1.out _ (HA.out.below (by go_grown))).mono ?_); rintro e w' ⟨rfl, rfl⟩) | (go_at_call_of 41 (Value.agg #[.bool false, .slice ab 0 cb]); (with_reducible refine (HR2.out _ (HB.out.below (by go_grown))).mono ?_); rintro e w' ⟨rfl, rfl⟩))
  go_returns
  exact ⟨rfl, by go_grown⟩

end Go.Proofs.YtdgmjmckeeeljaaGreatDoor

namespace Go.Proofs.YtdgmjmckeeeljaaGreatDoor
open Go.RowKit

/-- What a round of Pow begins with. -/
structure PowB (W : World) (B : Nat) (na : Bool) (sa : Value) (x : Nat) : Prop where
  c0 : W.cell? ⟨B, 0, none⟩ = some (.bool na)
  c1 : W.cell? ⟨B, 1, none⟩ = some sa
  r : ResBox W (B + 1)
  sa : Sl W sa (digs x)
  lt : B + 1 < W.heap.size

theorem PowB.below {W W1 : World} {B : Nat} {na : Bool} {sa : Value} {x : Nat} (h : PowB W B na sa x) (hb : Below W.heap.size W W1) : PowB W1 B na sa x :=
  ⟨(hb.cell (p := ⟨B, 0, none⟩) (by have := h.lt; show B < W.heap.size; omega)).trans h.c0, (hb.cell (p := ⟨B, 1, none⟩) (by have := h.lt; show B < W.heap.size; omega)).trans h.c1, h.r.below hb, h.sa.below hb, Nat.lt_of_lt_of_le h.lt hb.size⟩

def PowL (W : World) (B : Nat) (na : Bool) (sa : Value) (x n : Nat) (ov kv : Value) (wr : World) : Prop :=
  ∃ (k : Nat) (ao : Option Addr) (cap : Nat), ov = .slice ao (digs (x ^ k)).length cap ∧ kv = .int .i64 k ∧ k ≤ n ∧ (digs (x ^ k)).length ≤ 256 ∧ Sl wr (.slice ao (digs (x ^ k)).length cap) (digs (x ^ k)) ∧ PowB wr B na sa x ∧ Below W.heap.size W wr

set_option maxRecDepth 10000 in
set_option maxHeartbeats 1000000 in
theorem pow21_neg {w : World} {na : Bool} {sa : Value} {xs : List Nat} (ha : Sl w sa xs) (hla : xs.length ≤ 1000) (n : Int) (h : rightB na xs = false ∨ n < 0) :
    Calls Tryz.prog 21 #[.agg #[.bool na, sa], .int .i64 n] w (NumNo w) := by
  have HR1 := Lib.hid (fun W (h : Sl W sa xs) => right41_any na h (by omega))
  obtain ⟨p, hp⟩ : ∃ p, p = rightB na xs := ⟨_, rfl⟩
  rw [← hp] at HR1 h
  have HA := Lib.hid ha
  clear hp ha
  cases p
  · clear h
    go_enter Tryz.func21, Tryz.ntmps21
    go_wp2_with (go_at_call 41; refine (HR1.out _ (HA.out.below (by go_grown))).mono ?_; rintro e w' ⟨rfl, rfl⟩)
    go_returns
    exact ⟨rfl, by go_grown⟩
  · have h2 : n < 0 := by simpa using h
    clear h
    go_enter Tryz.func21, Tryz.ntmps21
    go_wp2_with (go_at_call 41; refine (HR1.out _ (HA.out.below (by go_grown))).mono ?_; rintro e w' ⟨rfl, rfl⟩)
    go_returns
    exact ⟨rfl, by go_grown⟩

set_option maxRecDepth 10000 in
set_option maxHeartbeats 4000000 in
theorem pow21_many {w : World} {x : Value} {a : Int} (hx : Nu w x a) (n : Nat) (hn : n < 9223372036854775808) (hg : 1 < n ∧ 2 ≤ lenB (digs a.natAbs)) :
    Calls Tryz.prog 21 #[x, .int .i64 n] w (NumRes w (a ^ n)) := by
  obtain ⟨sa, rfl, ha, la⟩ := hx
  have ra := rightB_digs a la
  obtain ⟨na, hna⟩ : ∃ na, na = decide (a < 0) := ⟨_, rfl⟩
  rw [← hna] at ra ⊢
  have HR : Hid (∀ W, Sl W sa (digs a.natAbs) → Calls Tryz.prog 41 #[.agg #[.bool na, sa]] W fun e w' => e = .returned (.bool true) ∧ w' = W.alloc (.cells #[.bool na, sa] 27)) := Lib.hid (fun W h => by have := right41_any na h (by omega); rwa [ra] at this)
  have HLB : Hid (∀ W, Sl W sa (digs a.natAbs) → Calls Tryz.prog 53 #[sa] W fun e w' => e = .returned (.int .i64 (lenB (digs a.natAbs) : Nat)) ∧ w' = W) := Lib.hid (fun W h => length53_any h (by omega))
  obtain ⟨A, hA⟩ : ∃ A, A = lenB (digs a.natAbs) := ⟨_, rfl⟩
  rw [← hA] at HLB hg
  obtain ⟨h1, hA2⟩ := hg
  have hz := pow_signed a n
  rw [← hna] at hz
  obtain ⟨r, hr⟩ : ∃ r, r = n % 2 := ⟨_, rfl⟩
  rw [← hr] at hz
  have f1 : (n : Int).tmod 2 = (r : Int) := by rw [hr]; rfl
  have hA3 : ¬ (A : Int) < 2 := by omega
  have hn1 : 1 < (n : Int) := by omega
  have HZ := Lib.hid hz
  have HN := Lib.hid hn
  have HNA := Lib.hid hna
  have HLA := Lib.hid la
  have HO : Hid (∀ W : World, Sl (W.alloc (.cells #[.int .u32 1] 59)) (.slice (some ⟨W.heap.size, 0, none⟩) 1 1) (digs 1)) := Lib.hid fun W => by rw [show digs 1 = [1] from digs_small (by omega) (by omega)]; exact (sl_one W 1 (by omega)).sl
  clear hna ra hA hz hr hn
  go_enter Tryz.func21, Tryz.ntmps21
  go_wp2_with (first | (go_at_call 41; refine (HR.out _ (ha.below (by go_grown))).mono ?_; rintro e w' ⟨rfl, rfl⟩) | (go_at_call 53; refine (HLB.out _ (ha.below (by go_grown))).mono ?_; rintro e w' ⟨rfl, hw'⟩; subst w'))
  obtain ⟨k1, k2, _⟩ := heap_three w (.cells #[.bool na, sa] 27) (.cells #[.bool false, .slice none 0 0] 27) (.cells #[.bool na, sa] 27)
  have hB : Below w.heap.size w (((w.alloc (.cells #[.bool na, sa] 27)).alloc (.cells #[.bool false, .slice none 0 0] 27)).alloc (.cells #[.bool na, sa] 27)) := by go_grown
  have hsz : (((w.alloc (.cells #[.bool na, sa] 27)).alloc (.cells #[.bool false, .slice none 0 0] 27)).alloc (.cells #[.bool na, sa] 27)).heap.size = w.heap.size + 1 + 1 + 1 := by simp
  revert k1 k2 hB hsz
  generalize ((w.alloc (.cells #[.bool na, sa] 27)).alloc (.cells #[.bool false, .slice none 0 0] 27)).alloc (.cells #[.bool na, sa] 27) = W
  intro k1 k2 hB hsz
  have hsl : Sl (W.alloc (.cells #[.int .u32 1] 59)) (.slice (some ⟨w.heap.size + 1 + 1 + 1, 0, none⟩) 1 1) (digs 1) := by
    have := HO.out W
    rwa [hsz] at this
  obtain ⟨c0, c1, _⟩ := cells_two k1
  have hP : PowB (W.alloc (.cells #[.int .u32 1] 59)) w.heap.size na sa a.natAbs := PowB.below ⟨c0, c1, k2, ha.below hB, by omega⟩ (alloc_b _ _)
  have hB1 : Below w.heap.size w (W.alloc (.cells #[.int .u32 1] 59)) := hB.trans ((alloc_b W _).mono hB.size)
  clear c0 c1 k1 k2 hB HO ha la
  revert hsl hP hB1
  generalize W.alloc (.cells #[.int .u32 1] 59) = W1
  intro hsl hP hB1
  have HSL := Lib.hid hsl
  have HP0 := Lib.hid hP
  have HBW := Lib.hid hB1
  clear hsl hP hB1 hsz
  go_loopw [6, 7] (fun ov kv wr => PowL W1 w.heap.size na sa a.natAbs n ov kv wr) (fun _ kv _ => (n - intOf kv).toNat)
  case atStart =>
    have hone : digs 1 = [1] := digs_small (by omega) (by omega)
    have h0 : digs (a.natAbs ^ 0) = digs 1 := by rw [Nat.pow_zero]
    refine ⟨0, some ⟨w.heap.size + 1 + 1 + 1, 0, none⟩, 1, ?_, rfl, by omega, ?_, ?_, HP0.out, Below.refl _ _⟩
    · rw [h0, hone]; rfl
    · rw [h0, hone]; simp
    · rw [h0]; have := HSL.out; rw [hone] at this ⊢; exact this
  case round =>
    obtain ⟨k, ao, cap, rfl, rfl, hk, hl, hs, hp, hbl⟩ := hrel
    have HS := Lib.hid hs
    have HP := Lib.hid hp
    have HBL := Lib.hid hbl
    have c0 := hp.c0
    have c1 := hp.c1
    obtain ⟨r0, r1, rf0, rf1⟩ := hp.r.cells
    have hlt := hp.lt
    obtain ⟨m, hm⟩ : ∃ m, m = (digs (a.natAbs ^ k)).length := ⟨_, rfl⟩
    have HMM := Lib.hid hm
    rw [← hm] at hl HS ⊢
    clear hs hp hbl hm
    by_cases hkn : k < n
    · have hx : a.natAbs ^ k * a.natAbs = a.natAbs ^ (k + 1) := (Nat.pow_succ _ _).symm
      have htm := fun W' (h : Below wr.heap.size wr W') => times54_at (HS.out.below h) (HP.out.sa.below h) (by rw [← HMM.out]; exact hl) HLA.out (hn := rfl)
      rw [hx] at htm
      obtain ⟨m2, hm2⟩ : ∃ m, m = (digs (a.natAbs ^ (k + 1))).length := ⟨_, rfl⟩
      rw [← hm2] at htm
      have HT := Lib.hid htm
      have HM2 := Lib.hid hm2
      clear htm hm2 hx
      have hkI : (k : Int) < (n : Int) := by omega
      have hkw : IntKind.i64.wrap ((k : Int) + 1) = (k : Int) + 1 := by rw [IntKind.wrap_i64]; have := HN.out; omega
      by_cases hl2 : m2 ≤ 256
      · go_wp2_with (go_at_call 54; (with_reducible refine (HT.out _ (Below.refl _ _)).mono ?_); rintro e w2 ⟨ao2, cap2, rfl, hs2, hb2⟩; have HS2 := Lib.hid hs2; have HB2 := Lib.hid hb2; clear hs2 hb2)
        go_roundw
        case rel => exact ⟨k + 1, ao2, cap2, by rw [← HM2.out], by go_num, by omega, by rw [← HM2.out]; exact hl2, by rw [← HM2.out]; exact HS2.out.sl, HP.out.below HB2.out, HBL.out.trans (HB2.out.mono HBL.out.size)⟩
        case measure => simp [intOf]; omega
      · have hm256 : ¬ (m2 : Int) ≤ 256 := by omega
        have hfin : fitsB (a ^ n).natAbs = false := pow_over (m := k + 1) (by omega) (by rw [Int.natAbs_pow]; exact decide_eq_false (by rw [← HM2.out]; exact hl2))
        have HFI := Lib.hid hfin
        clear hfin
        go_wp2_with (go_at_call 54; (with_reducible refine (HT.out _ (Below.refl _ _)).mono ?_); rintro e w2 ⟨ao2, cap2, rfl, hs2, hb2⟩; have hp2 := HP.out.below hb2; obtain ⟨r0, r1, rf0, rf1⟩ := hp2.r.cells; have HB2 := Lib.hid hb2; have HP2 := Lib.hid hp2; clear hs2 hb2 hp2)
        obtain ⟨q0, q1⟩ := HP2.out.r.stored (.bool false) (.slice none 0 0)
        have hfw : Below w.heap.size w ((w2.setCell ⟨w.heap.size + 1, 0, none⟩ (.bool false)).setCell ⟨w.heap.size + 1, 1, none⟩ (.slice none 0 0)) :=
          (((HBW.out.trans ((HBL.out.trans (HB2.out.mono HBL.out.size)).mono HBW.out.size)).setCell (by simp) _).setCell (by simp) _)
        refine bodyPost_ret (v := .tuple #[.agg #[.bool false, .slice none 0 0], .bool false]) (by simp [results, Tryz.results21, go_sem, q0, q1]) rfl ?_
        exact ⟨false, none, 0, 0, by rw [HFI.out], hfw, fun hf => absurd (HFI.out.symm.trans hf) (by decide), fun _ => ⟨rfl, rfl, rfl, rfl⟩⟩
    · have hkn2 : n = k := by omega
      have hz' : a ^ n = if (na && decide (r = 1)) = true then -((a.natAbs ^ k : Nat) : Int) else ((a.natAbs ^ k : Nat) : Int) := by rw [← hkn2]; exact HZ.out
      have HZ2 := Lib.hid hz'
      have hkI : ¬ (k : Int) < (n : Int) := by omega
      clear hkn2 hz'
      cases na
      · go_wp2_with fail
        refine (signed36_at _ HS.out (z := a ^ n) (by rw [HZ2.out]; simp)).mono ?_
        rintro e w2 ⟨neg2, ao2, n2, cap2, rfl, hb2, hyes, hno⟩
        have HR2 := HP.out.r.below hb2
        obtain ⟨r2, r3, f2, f3⟩ := HR2.cells
        have hl3 := hb2.size
        go_wp2
        obtain ⟨q0, q1⟩ := HR2.stored (.bool neg2) (.slice ao2 n2 cap2)
        have hfin : Below w.heap.size w ((w2.setCell ⟨w.heap.size + 1, 0, none⟩ (.bool neg2)).setCell ⟨w.heap.size + 1, 1, none⟩ (.slice ao2 n2 cap2)) :=
          (((HBW.out.trans ((HBL.out.trans (hb2.mono HBL.out.size)).mono HBW.out.size)).setCell (by simp) _).setCell (by simp) _)
        refine bodyPost_ret (v := .tuple #[.agg #[.bool neg2, .slice ao2 n2 cap2], .bool (fitsB (a ^ n).natAbs)]) (by simp [results, Tryz.results21, go_sem, q0, q1]) rfl ?_
        exact ⟨_, _, _, _, rfl, hfin, fun hf => ⟨(hyes hf).1, ((hyes hf).2.after2 (g := w.heap.size + 1) hlt (.bool neg2) (.slice ao2 n2 cap2)).mono (B' := w.heap.size) (by omega)⟩, hno⟩
      · go_wp2_with fail
        refine (signed36_at _ HS.out (z := a ^ n) (by rw [HZ2.out]; simp only [Bool.true_and]; rw [show ((r : Int) == 1) = decide (r = 1) by rw [Bool.eq_iff_iff]; simp; omega])).mono ?_
        rintro e w2 ⟨neg2, ao2, n2, cap2, rfl, hb2, hyes, hno⟩
        have HR2 := HP.out.r.below hb2
        obtain ⟨r2, r3, f2, f3⟩ := HR2.cells
        have hl3 := hb2.size
        go_wp2
        obtain ⟨q0, q1⟩ := HR2.stored (.bool neg2) (.slice ao2 n2 cap2)
        have hfin : Below w.heap.size w ((w2.setCell ⟨w.heap.size + 1, 0, none⟩ (.bool neg2)).setCell ⟨w.heap.size + 1, 1, none⟩ (.slice ao2 n2 cap2)) :=
          (((HBW.out.trans ((HBL.out.trans (hb2.mono HBL.out.size)).mono HBW.out.size)).setCell (by simp) _).setCell (by simp) _)
        refine bodyPost_ret (v := .tuple #[.agg #[.bool neg2, .slice ao2 n2 cap2], .bool (fitsB (a ^ n).natAbs)]) (by simp [results, Tryz.results21, go_sem, q0, q1]) rfl ?_
        exact ⟨_, _, _, _, rfl, hfin, fun hf => ⟨(hyes hf).1, ((hyes hf).2.after2 (g := w.heap.size + 1) hlt (.bool neg2) (.slice ao2 n2 cap2)).mono (B' := w.heap.size) (by omega)⟩, hno⟩

end Go.Proofs.YtdgmjmckeeeljaaGreatDoor

namespace Go.Proofs.YtdgmjmckeeeljaaGreatDoor
open Go.RowKit

set_option maxRecDepth 10000 in
set_option maxHeartbeats 4000000 in
theorem pow21_low {w : World} {x : Value} {a : Int} (hx : Nu w x a) (n : Nat) (hn : n < 9223372036854775808) (hg : n ≤ 1) :
    Calls Tryz.prog 21 #[x, .int .i64 n] w (NumRes w (a ^ n)) := by
  obtain ⟨sa, rfl, ha, la⟩ := hx
  have ra := rightB_digs a la
  obtain ⟨na, hna⟩ : ∃ na, na = decide (a < 0) := ⟨_, rfl⟩
  rw [← hna] at ra ⊢
  have HR : Hid (∀ W, Sl W sa (digs a.natAbs) → Calls Tryz.prog 41 #[.agg #[.bool na, sa]] W fun e w' => e = .returned (.bool true) ∧ w' = W.alloc (.cells #[.bool na, sa] 27)) := Lib.hid (fun W h => by have := right41_any na h (by omega); rwa [ra] at this)
  have hz := pow_signed a n
  rw [← hna] at hz
  obtain ⟨r, hr⟩ : ∃ r, r = n % 2 := ⟨_, rfl⟩
  rw [← hr] at hz
  have f1 : (n : Int).tmod 2 = (r : Int) := by rw [hr]; rfl
  have hn1 : ¬ 1 < (n : Int) := by omega
  have HZ := Lib.hid hz
  have HN := Lib.hid hn
  have HNA := Lib.hid hna
  have HLA := Lib.hid la
  have HO : Hid (∀ W : World, Sl (W.alloc (.cells #[.int .u32 1] 59)) (.slice (some ⟨W.heap.size, 0, none⟩) 1 1) (digs 1)) := Lib.hid fun W => by rw [show digs 1 = [1] from digs_small (by omega) (by omega)]; exact (sl_one W 1 (by omega)).sl
  clear hna ra hz hr hn
  go_enter Tryz.func21, Tryz.ntmps21
  go_wp2_with (first | (go_at_call 41; refine (HR.out _ (ha.below (by go_grown))).mono ?_; rintro e w' ⟨rfl, rfl⟩))
  obtain ⟨k1, k2, _⟩ := heap_three w (.cells #[.bool na, sa] 27) (.cells #[.bool false, .slice none 0 0] 27) (.cells #[.bool na, sa] 27)
  have hB : Below w.heap.size w (((w.alloc (.cells #[.bool na, sa] 27)).alloc (.cells #[.bool false, .slice none 0 0] 27)).alloc (.cells #[.bool na, sa] 27)) := by go_grown
  have hsz : (((w.alloc (.cells #[.bool na, sa] 27)).alloc (.cells #[.bool false, .slice none 0 0] 27)).alloc (.cells #[.bool na, sa] 27)).heap.size = w.heap.size + 1 + 1 + 1 := by simp
  revert k1 k2 hB hsz
  generalize ((w.alloc (.cells #[.bool na, sa] 27)).alloc (.cells #[.bool false, .slice none 0 0] 27)).alloc (.cells #[.bool na, sa] 27) = W
  intro k1 k2 hB hsz
  have hsl : Sl (W.alloc (.cells #[.int .u32 1] 59)) (.slice (some ⟨w.heap.size + 1 + 1 + 1, 0, none⟩) 1 1) (digs 1) := by
    have := HO.out W
    rwa [hsz] at this
  obtain ⟨c0, c1, _⟩ := cells_two k1
  have hP : PowB (W.alloc (.cells #[.int .u32 1] 59)) w.heap.size na sa a.natAbs := PowB.below ⟨c0, c1, k2, ha.below hB, by omega⟩ (alloc_b _ _)
  have hB1 : Below w.heap.size w (W.alloc (.cells #[.int .u32 1] 59)) := hB.trans ((alloc_b W _).mono hB.size)
  clear c0 c1 k1 k2 hB HO ha la
  revert hsl hP hB1
  generalize W.alloc (.cells #[.int .u32 1] 59) = W1
  intro hsl hP hB1
  have HSL := Lib.hid hsl
  have HP0 := Lib.hid hP
  have HBW := Lib.hid hB1
  clear hsl hP hB1 hsz
  go_loopw [6, 7] (fun ov kv wr => PowL W1 w.heap.size na sa a.natAbs n ov kv wr) (fun _ kv _ => (n - intOf kv).toNat)
  case atStart =>
    have hone : digs 1 = [1] := digs_small (by omega) (by omega)
    have h0 : digs (a.natAbs ^ 0) = digs 1 := by rw [Nat.pow_zero]
    refine ⟨0, some ⟨w.heap.size + 1 + 1 + 1, 0, none⟩, 1, ?_, rfl, by omega, ?_, ?_, HP0.out, Below.refl _ _⟩
    · rw [h0, hone]; rfl
    · rw [h0, hone]; simp
    · rw [h0]; have := HSL.out; rw [hone] at this ⊢; exact this
  case round =>
    obtain ⟨k, ao, cap, rfl, rfl, hk, hl, hs, hp, hbl⟩ := hrel
    have HS := Lib.hid hs
    have HP := Lib.hid hp
    have HBL := Lib.hid hbl
    have c0 := hp.c0
    have c1 := hp.c1
    obtain ⟨r0, r1, rf0, rf1⟩ := hp.r.cells
    have hlt := hp.lt
    obtain ⟨m, hm⟩ : ∃ m, m = (digs (a.natAbs ^ k)).length := ⟨_, rfl⟩
    have HMM := Lib.hid hm
    rw [← hm] at hl HS ⊢
    clear hs hp hbl hm
    by_cases hkn : k < n
    · have hx : a.natAbs ^ k * a.natAbs = a.natAbs ^ (k + 1) := (Nat.pow_succ _ _).symm
      have htm := fun W' (h : Below wr.heap.size wr W') => times54_at (HS.out.below h) (HP.out.sa.below h) (by rw [← HMM.out]; exact hl) HLA.out (hn := rfl)
      rw [hx] at htm
      obtain ⟨m2, hm2⟩ : ∃ m, m = (digs (a.natAbs ^ (k + 1))).length := ⟨_, rfl⟩
      rw [← hm2] at htm
      have HT := Lib.hid htm
      have HM2 := Lib.hid hm2
      clear htm hm2 hx
      have hkI : (k : Int) < (n : Int) := by omega
      have hkw : IntKind.i64.wrap ((k : Int) + 1) = (k : Int) + 1 := by rw [IntKind.wrap_i64]; have := HN.out; omega
      by_cases hl2 : m2 ≤ 256
      · go_wp2_with (go_at_call 54; (with_reducible refine (HT.out _ (Below.refl _ _)).mono ?_); rintro e w2 ⟨ao2, cap2, rfl, hs2, hb2⟩; have HS2 := Lib.hid hs2; have HB2 := Lib.hid hb2; clear hs2 hb2)
        go_roundw
        case rel => exact ⟨k + 1, ao2, cap2, by rw [← HM2.out], by go_num, by omega, by rw [← HM2.out]; exact hl2, by rw [← HM2.out]; exact HS2.out.sl, HP.out.below HB2.out, HBL.out.trans (HB2.out.mono HBL.out.size)⟩
        case measure => simp [intOf]; omega
      · have hm256 : ¬ (m2 : Int) ≤ 256 := by omega
        have hfin : fitsB (a ^ n).natAbs = false := pow_over (m := k + 1) (by omega) (by rw [Int.natAbs_pow]; exact decide_eq_false (by rw [← HM2.out]; exact hl2))
        have HFI := Lib.hid hfin
        clear hfin
        go_wp2_with (go_at_call 54; (with_reducible refine (HT.out _ (Below.refl _ _)).mono ?_); rintro e w2 ⟨ao2, cap2, rfl, hs2, hb2⟩; have hp2 := HP.out.below hb2; obtain ⟨r0, r1, rf0, rf1⟩ := hp2.r.cells; have HB2 := Lib.hid hb2; have HP2 := Lib.hid hp2; clear hs2 hb2 hp2)
        obtain ⟨q0, q1⟩ := HP2.out.r.stored (.bool false) (.slice none 0 0)
        have hfw : Below w.heap.size w ((w2.setCell ⟨w.heap.size + 1, 0, none⟩ (.bool false)).setCell ⟨w.heap.size + 1, 1, none⟩ (.slice none 0 0)) :=
          (((HBW.out.trans ((HBL.out.trans (HB2.out.mono HBL.out.size)).mono HBW.out.size)).setCell (by simp) _).setCell (by simp) _)
        refine bodyPost_ret (v := .tuple #[.agg #[.bool false, .slice none 0 0], .bool false]) (by simp [results, Tryz.results21, go_sem, q0, q1]) rfl ?_
        exact ⟨false, none, 0, 0, by rw [HFI.out], hfw, fun hf => absurd (HFI.out.symm.trans hf) (by decide), fun _ => ⟨rfl, rfl, rfl, rfl⟩⟩
    · have hkn2 : n = k := by omega
      have hz' : a ^ n = if (na && decide (r = 1)) = true then -((a.natAbs ^ k : Nat) : Int) else ((a.natAbs ^ k : Nat) : Int) := by rw [← hkn2]; exact HZ.out
      have HZ2 := Lib.hid hz'
      have hkI : ¬ (k : Int) < (n : Int) := by omega
      clear hkn2 hz'
      cases na
      · go_wp2_with fail
        refine (signed36_at _ HS.out (z := a ^ n) (by rw [HZ2.out]; simp)).mono ?_
        rintro e w2 ⟨neg2, ao2, n2, cap2, rfl, hb2, hyes, hno⟩
        have HR2 := HP.out.r.below hb2
        obtain ⟨r2, r3, f2, f3⟩ := HR2.cells
        have hl3 := hb2.size
        go_wp2
        obtain ⟨q0, q1⟩ := HR2.stored (.bool neg2) (.slice ao2 n2 cap2)
        have hfin : Below w.heap.size w ((w2.setCell ⟨w.heap.size + 1, 0, none⟩ (.bool neg2)).setCell ⟨w.heap.size + 1, 1, none⟩ (.slice ao2 n2 cap2)) :=
          (((HBW.out.trans ((HBL.out.trans (hb2.mono HBL.out.size)).mono HBW.out.size)).setCell (by simp) _).setCell (by simp) _)
        refine bodyPost_ret (v := .tuple #[.agg #[.bool neg2, .slice ao2 n2 cap2], .bool (fitsB (a ^ n).natAbs)]) (by simp [results, Tryz.results21, go_sem, q0, q1]) rfl ?_
        exact ⟨_, _, _, _, rfl, hfin, fun hf => ⟨(hyes hf).1, ((hyes hf).2.after2 (g := w.heap.size + 1) hlt (.bool neg2) (.slice ao2 n2 cap2)).mono (B' := w.heap.size) (by omega)⟩, hno⟩
      · go_wp2_with fail
        refine (signed36_at _ HS.out (z := a ^ n) (by rw [HZ2.out]; simp only [Bool.true_and]; rw [show ((r : Int) == 1) = decide (r = 1) by rw [Bool.eq_iff_iff]; simp; omega])).mono ?_
        rintro e w2 ⟨neg2, ao2, n2, cap2, rfl, hb2, hyes, hno⟩
        have HR2 := HP.out.r.below hb2
        obtain ⟨r2, r3, f2, f3⟩ := HR2.cells
        have hl3 := hb2.size
        go_wp2
        obtain ⟨q0, q1⟩ := HR2.stored (.bool neg2) (.slice ao2 n2 cap2)
        have hfin : Below w.heap.size w ((w2.setCell ⟨w.heap.size + 1, 0, none⟩ (.bool neg2)).setCell ⟨w.heap.size + 1, 1, none⟩ (.slice ao2 n2 cap2)) :=
          (((HBW.out.trans ((HBL.out.trans (hb2.mono HBL.out.size)).mono HBW.out.size)).setCell (by simp) _).setCell (by simp) _)
        refine bodyPost_ret (v := .tuple #[.agg #[.bool neg2, .slice ao2 n2 cap2], .bool (fitsB (a ^ n).natAbs)]) (by simp [results, Tryz.results21, go_sem, q0, q1]) rfl ?_
        exact ⟨_, _, _, _, rfl, hfin, fun hf => ⟨(hyes hf).1, ((hyes hf).2.after2 (g := w.heap.size + 1) hlt (.bool neg2) (.slice ao2 n2 cap2)).mono (B' := w.heap.size) (by omega)⟩, hno⟩

theorem pow21_any {w : World} {x : Value} {a : Int} (hx : Nu w x a) (n : Nat) (hn : n < 9223372036854775808) : Calls Tryz.prog 21 #[x, .int .i64 n] w (NumRes w (a ^ n)) := by
  rcases Nat.lt_or_ge 1 n with h | h
  · rcases Nat.lt_or_ge (lenB (digs a.natAbs)) 2 with h2 | h2
    · exact pow21_few hx n hn h h2
    · exact pow21_many hx n hn ⟨h, h2⟩
  · exact pow21_low hx n hn h

end Go.Proofs.YtdgmjmckeeeljaaGreatDoor

namespace Go.Proofs.YtdgmjmckeeeljaaGreatDoor
open Go.RowKit

set_option maxRecDepth 10000 in
set_option maxHeartbeats 1000000 in
theorem pow20_no {w : World} {na : Bool} {sa : Value} {xs : List Nat} (ha : Sl w sa xs) (hla : xs.length ≤ 1000) (n : Int) (h : rightB na xs = false ∨ n < 0) :
    Calls Tryz.prog 20 #[.agg #[.bool na, sa], .int .i64 n] w (NumNo w) := by
  have HR1 := Lib.hid (fun W (h : Sl W sa xs) => right_any na h (by omega))
  obtain ⟨p, hp⟩ : ∃ p, p = rightB na xs := ⟨_, rfl⟩
  rw [← hp] at HR1 h
  have HA := Lib.hid ha
  clear hp ha
  cases p
  · clear h
    go_enter Tryz.func20, Tryz.ntmps20
    go_wp2_with (go_at_call 32; refine (HR1.out _ (HA.out.below (by go_grown))).mono ?_; rintro e w' ⟨rfl, rfl⟩)
    go_returns
    exact ⟨rfl, by go_grown⟩
  · have h2 : n < 0 := by simpa using h
    clear h
    go_enter Tryz.func20, Tryz.ntmps20
    go_wp2_with (go_at_call 32; refine (HR1.out _ (HA.out.below (by go_grown))).mono ?_; rintro e w' ⟨rfl, rfl⟩)
    go_returns
    exact ⟨rfl, by go_grown⟩

theorem both_pow {na : Bool} {xs : List Nat} (bx : Bd xs) (lx : xs.length ≤ 1000) (n : Int) (hn : n < 9223372036854775808) : ∃ ng ds ok, ∀ W sa, Sl W sa xs →
    Calls Tryz.prog 20 #[.agg #[.bool na, sa], .int .i64 n] W (RetN W ng ds ok) ∧ Calls Tryz.prog 21 #[.agg #[.bool na, sa], .int .i64 n] W (RetN W ng ds ok) := by
  by_cases h : rightB na xs = true ∧ 0 ≤ n
  · obtain ⟨z, rfl, rfl, hz⟩ := of_right bx h.1
    obtain ⟨k, rfl⟩ : ∃ k : Nat, n = k := ⟨n.toNat, by omega⟩
    exact ⟨_, _, _, fun W sa ha => ⟨(pow_any (nu_of ha hz) k (by omega)).mono fun _ _ h => h.ret, (pow21_any (nu_of ha hz) k (by omega)).mono fun _ _ h => h.ret⟩⟩
  · have h' : rightB na xs = false ∨ n < 0 := by
      cases h1 : rightB na xs
      · exact .inl rfl
      · exact .inr (Int.not_le.1 fun h2 => h ⟨h1, h2⟩)
    exact ⟨_, _, _, fun W sa ha => ⟨(pow20_no ha lx n h').mono fun _ _ h => h.ret, (pow21_neg ha lx n h').mono fun _ _ h => h.ret⟩⟩

end Go.Proofs.YtdgmjmckeeeljaaGreatDoor

namespace Go.Proofs.YtdgmjmckeeeljaaGreatDoor
open Go.RowKit

theorem ParseRes.ret {w w' : World} {r : Option Int} {e : Ending} (h : ParseRes w r e w') : RetN w (r.elim false rnN) (r.elim [] rnD) (r.elim false fun z => fitsB z.natAbs) e w' := by
  cases r with
  | none => exact NumNo.ret h
  | some z => exact NumRes.ret h

theorem both_parse (s : ByteArray) (hs : s.size ≤ 140737488355328) : ∃ ng ds ok, ∀ W, Calls Tryz.prog 24 #[.string s] W (RetN W ng ds ok) ∧ Calls Tryz.prog 25 #[.string s] W (RetN W ng ds ok) :=
  ⟨_, _, _, fun W => ⟨(parse_any s W).mono fun _ _ h => h.ret, (rparse_any s hs W).mono fun _ _ h => h.ret⟩⟩

set_option maxRecDepth 10000 in
set_option maxHeartbeats 1000000 in
theorem text23_no {w : World} {na : Bool} {sa : Value} {xs : List Nat} (ha : Sl w sa xs) (hla : xs.length ≤ 1000) (h : rightB na xs = false) :
    Calls Tryz.prog 23 #[.agg #[.bool na, sa]] w fun e w' => e = .returned (.string ⟨#[]⟩) ∧ Below w.heap.size w w' := by
  have HR1 := Lib.hid (fun W (h : Sl W sa xs) => right_any na h (by omega))
  rw [h] at HR1
  have HA := Lib.hid ha
  clear h ha
  go_enter Tryz.func23, Tryz.ntmps23
  go_wp2_with (go_at_call 32; refine (HR1.out _ (HA.out.below (by go_grown))).mono ?_; rintro e w' ⟨rfl, rfl⟩)
  go_ret
  exact ⟨rfl, by go_grown⟩

def TextR (W : World) (t : ByteArray) (e : Ending) (w' : World) : Prop := e = .returned (.string t) ∧ Below W.heap.size W w'

theorem both_text {na : Bool} {xs : List Nat} (bx : Bd xs) (lx : xs.length ≤ 1000) : ∃ t : ByteArray, t.size ≤ 3000 ∧ ∀ W sa, Sl W sa xs →
    Calls Tryz.prog 22 #[.agg #[.bool na, sa]] W (TextR W t) ∧ (Tab W → Calls Tryz.prog 23 #[.agg #[.bool na, sa]] W (TextR W t)) := by
  cases h : rightB na xs with
  | true =>
    obtain ⟨z, rfl, rfl, hz⟩ := of_right bx h
    refine ⟨⟨(txt z).toArray⟩, ?_, fun W sa ha => ⟨rText_any (nu_of ha hz), fun ht => text_any (nu_of ha hz) ht⟩⟩
    have h1 : (⟨(txt z).toArray⟩ : ByteArray).size = (txt z).length := rfl
    have h2 := dec_small hz
    rw [h1]
    unfold txt
    rw [List.length_append]
    split <;> simp <;> omega
  | false => exact ⟨⟨#[]⟩, Nat.zero_le _, fun W sa ha => ⟨rText_no ha lx h, fun _ => text23_no ha lx h⟩⟩

end Go.Proofs.YtdgmjmckeeeljaaGreatDoor

namespace Go.Proofs.YtdgmjmckeeeljaaGreatDoor
open Go.RowKit

/-- A number that may be any. -/
def Nm (W : World) (p : Value) : Prop := ∃ ng ao n cap xs, p = .agg #[.bool ng, .slice ao n cap] ∧ Sl W (.slice ao n cap) xs ∧ xs.length ≤ 512

theorem made_nm {w : World} {v : Value} {zs : List Int} (h : Li w v zs) : Calls Tryz.prog 11 #[v] w fun e w' => ∃ ng ao n cap xs, e = .returned (.agg #[.bool ng, .slice ao n cap]) ∧ Sl w' (.slice ao n cap) xs ∧ xs.length ≤ 512 ∧ Below w.heap.size w w' :=
  (made_parts h).mono fun e w' ⟨ng, ao, n, cap, z, h1, ⟨s, h2, h3, h4⟩, h5, h6⟩ => by
    injection h2 with h2
    have e1 : s = .slice ao n cap := by simpa using (congrArg (fun a : Array Value => a.getD 1 undef) h2).symm
    subst e1
    exact ⟨ng, ao, n, cap, _, h1, h3, by omega, h6⟩

theorem cut_nm {w : World} {neg : Bool} {ao : Option Addr} {n cap : Nat} {ds : List Nat} (h : Sl w (.slice ao n cap) ds) :
    Calls Tryz.prog 13 #[.agg #[.bool neg, .slice ao n cap], .int .i64 20] w fun e w' => ∃ ng ao n cap xs, e = .returned (.agg #[.bool ng, .slice ao n cap]) ∧ Sl w' (.slice ao n cap) xs ∧ xs.length ≤ 512 ∧ Below w.heap.size w w' :=
  (cut20_any h).mono fun e w' ⟨h1, h2, h3⟩ => ⟨_, _, _, _, ds.take (min n 20), h1, h2, by rw [List.length_take]; omega, h3⟩

/-- Two numbers that lie in one block. -/
def Two2 (W : World) (b : Nat) : Prop := ∃ u0 u1 u2 u3 t, W.heap[b]? = some (.cells #[u0, u1, u2, u3] t (0, 0)) ∧ Nm W (.agg #[u0, u1]) ∧ Nm W (.agg #[u2, u3])
theorem Nm.below {W W1 : World} {p : Value} (h : Nm W p) (hb : Below W.heap.size W W1) : Nm W1 p := by
  obtain ⟨ng, ao, n, cap, xs, h1, h2, h3⟩ := h
  exact ⟨ng, ao, n, cap, xs, h1, h2.below hb, h3⟩
theorem Two2.below {W W1 : World} {b : Nat} (h : Two2 W b) (hb : Below W.heap.size W W1) : Two2 W1 b := by
  obtain ⟨u0, u1, u2, u3, t, h1, h2, h3⟩ := h
  exact ⟨u0, u1, u2, u3, t, (hb.block b (Array.getElem?_eq_some_iff.1 h1).1).trans h1, h2.below hb, h3.below hb⟩
theorem Two2.at {W : World} {b : Nat} (h : Two2 W b) (i : Nat) (hi : i < 2) : ∃ ng ao n cap xs, W.cell? ⟨b, i * 2, none⟩ = some (.bool ng) ∧ W.cell? ⟨b, i * 2 + 1, none⟩ = some (.slice ao n cap) ∧ Sl W (.slice ao n cap) xs ∧ xs.length ≤ 512 := by
  obtain ⟨u0, u1, u2, u3, t, h1, ⟨g1, a1, k1, l1, y1, e1, e2, e3⟩, ⟨g2, a2, k2, l2, y2, d1, d2, d3⟩⟩ := h
  injection e1 with e1
  injection d1 with d1
  have ea : u0 = .bool g1 ∧ u1 = .slice a1 k1 l1 := by simpa using e1
  have eb : u2 = .bool g2 ∧ u3 = .slice a2 k2 l2 := by simpa using d1
  obtain ⟨rfl, rfl⟩ := ea
  obtain ⟨rfl, rfl⟩ := eb
  rcases (show i = 0 ∨ i = 1 by omega) with rfl | rfl
  · exact ⟨g1, a1, k1, l1, y1, by rw [cell_of_row _ _ _ _ _ _ h1]; rfl, by rw [cell_of_row _ _ _ _ _ _ h1]; rfl, e2, e3⟩
  · exact ⟨g2, a2, k2, l2, y2, by rw [cell_of_row _ _ _ _ _ _ h1]; rfl, by rw [cell_of_row _ _ _ _ _ _ h1]; rfl, d2, d3⟩

theorem ext_size (s : ByteArray) (k : Int) : (s.extract 0 (min k 40).toNat).size ≤ 40 := by
  rw [ByteArray.size_extract]
  omega

set_option maxRecDepth 100000 in
set_option maxHeartbeats 8000000 in
theorem nwrites_any {w : World} {s0 : Option Addr} {n0 c0 : Nat} {z0 : List Int} (h0 : Li w (.slice s0 n0 c0) z0) (p0 : Bool) {x0 : Option Addr} {m0 d0 : Nat} {r0 : List Nat} (q0 : Sl w (.slice x0 m0 d0) r0)
    (N : Int) (hN : -9223372036854775808 ≤ N ∧ N ≤ 9223372036854775807) (s : ByteArray) (htab : ∀ W, Below w.heap.size w W → Tab W) :
    Calls Tryz.prog 5 #[.slice s0 n0 c0, .agg #[.bool p0, .slice x0 m0 d0], .int .i64 N, .string s] w fun e w' => e = .returned (.bool true) ∧ Below w.heap.size w w' := by
  have HM0 := Lib.hid (fun W (hb : Below w.heap.size w W) => made_nm (h0.below hb))
  have HC0 := Lib.hid (fun W (hb : Below w.heap.size w W) => cut_nm (neg := p0) (q0.below hb))
  have HSA : Hid (∀ W, Below w.heap.size w W → Calls Tryz.prog 10 #[] W fun e w' => e = .returned (.bool true) ∧ Below W.heap.size W w') := Lib.hid (fun W hb => sanity_any W (fun W' hb' => htab W' (hb.trans (hb'.mono hb.size))))
  have HTAB := Lib.hid htab
  have HW : Hid (Below w.heap.size w w) := Lib.hid (Below.refl _ _)
  have HZ : Hid (w.heap.size ≤ w.heap.size) := Lib.hid (Nat.le_refl _)
  clear h0 q0 htab
  go_enter Tryz.func5, Tryz.ntmps5
  go_upto_region 1 with fail
  obtain ⟨W, hW⟩ : ∃ W, W = w.alloc (.cells #[.bool p0, .slice x0 m0 d0] 27) := ⟨_, rfl⟩
  have hb : Below w.heap.size w W := by rw [hW]; go_grown
  have HBR : Hid (Bk W w.heap.size (.bool p0) (.slice x0 m0 d0)) := Lib.hid (by rw [hW]; exact heap_alloc_new _ _)
  have HWW := step1 HW HZ hb
  have HW := HWW.1
  have HZ := HWW.2
  have HD : Hid (Below W.heap.size W W) := Lib.hid (Below.refl _ _)
  have HE : Hid (W.heap.size ≤ W.heap.size) := Lib.hid (Nat.le_refl _)
  rw [← hW]
  clear hW hb HWW
  go_upto_region 2 with (go_at_call 10; refine (HSA.out _ HW.out).mono ?_; rintro e wz ⟨rfl, hb⟩; have HBR := Lib.hid (HBR.out.below hb); have HWW := step1 HW HZ hb; have HW := HWW.1; have HZ := HWW.2; clear HWW hb)
  go_upto_region 3 with fail
  have hs40 := ext_size s s.size
  revert hs40
  generalize s.extract 0 (min (s.size : Int) 40).toNat = s2
  intro hs40
  obtain ⟨c0, c1⟩ := HBR.out.cells
  go_cut [35, 36, 37] from 31 to 37 (fun v35 v36 v37 wx => ∃ b, v35 = .slice (some ⟨b, 0, none⟩) 2 2 ∧ v36 = .int .i64 2 ∧ v37 = .int .i64 0 ∧ Hid (Two2 wx b) ∧ Hid (Below wz.heap.size wz wx))
  case first =>
    go_region_law (go_simp; first
      | (go_at_call 11; refine (HM0.out _ ?_).mono ?_; (first | exact HWB.out | exact HW.out | exact HW.out.trans (Below.mono (by go_grown) HZ.out)); rintro e w1 ⟨g1, a1, k1, l1, y1, rfl, hs1, hl1, hb1⟩; (first | have hbz1 : Below wz.heap.size wz w1 := hbz2.trans (hb1.mono hbz2.size) | have hbz1 : Below wz.heap.size wz w1 := hb1 | have hbz1 : Below wz.heap.size wz w1 := (show Below wz.heap.size wz wz.drew from ⟨rfl, rfl, rfl, Nat.le_refl _, fun _ _ => rfl⟩).trans hb1); have HWA := Lib.hid (HW.out.trans (hbz1.mono HZ.out)); obtain ⟨c2, c3⟩ := (HBR.out.below hbz1).cells)
      | (go_at_call 13; refine (HC0.out _ ?_).mono ?_; (first | exact HWA.out | exact HW.out | exact HW.out.trans (Below.mono (by go_grown) HZ.out)); rintro e w2 ⟨g2, a2, k2, l2, y2, rfl, hs2, hl2, hb2⟩; (first | have hbz2 : Below wz.heap.size wz w2 := hbz1.trans (hb2.mono hbz1.size) | have hbz2 : Below wz.heap.size wz w2 := hb2 | have hbz2 : Below wz.heap.size wz w2 := (show Below wz.heap.size wz wz.drew from ⟨rfl, rfl, rfl, Nat.le_refl _, fun _ _ => rfl⟩).trans hb2); have HWB := Lib.hid (HW.out.trans (hbz2.mono HZ.out)); obtain ⟨c4, c5⟩ := (HBR.out.below hbz2).cells))
    all_goals (go_wp2_with fail; go_meet; exact ⟨w2.heap.size, rfl, rfl, rfl, ⟨_, _, _, _, _, heap_alloc_new _ _, ⟨g1, a1, k1, l1, y1, rfl, (hs1.below hb2).below (alloc_b _ _), hl1⟩, ⟨g2, a2, k2, l2, y2, rfl, hs2.below (alloc_b _ _), hl2⟩⟩, hbz2.trans ((alloc_b _ _).mono hbz2.size)⟩)
  case rest =>
    obtain ⟨b, rfl, rfl, rfl, HNM, hbc⟩ := hcut
    have HW := Lib.hid (carryB HW hbc.out)
    clear hbc c0 c1 HM0 HC0 HBR HSA HZ HD HE
    go_wp2
    go_loopw [37] (fun iv wr => ∃ i : Nat, i ≤ 2 ∧ iv = .int .i64 i ∧ Hid (Two2 wr b) ∧ Hid (Below w.heap.size w wr)) (fun iv _ => (2 - intOf iv).toNat)
    case atStart => exact ⟨0, by omega, rfl, HNM, HW⟩
    case round =>
      obtain ⟨i, hi, rfl, HNM, HB⟩ := hrel
      by_cases h2 : i = 2
      · subst h2
        go_wp2
        go_ret
        exact ⟨rfl, HB.out⟩
      · have hi2 : i < 2 := by omega
        have hiI : (i : Int) < 2 := by omega
        obtain ⟨ng, ao, n, cap, xs, k0, k1, SX, lx⟩ := HNM.out.at i hi2
        obtain ⟨t, ht, htext⟩ := both_text (na := ng) SX.bd (by omega)
        have HTX := Lib.hid htext
        have HPOW : Hid (∀ E : Int, E < 9223372036854775808 → ∃ ng2 ds2 ok2, ∀ W sa, Sl W sa xs → Calls Tryz.prog 20 #[.agg #[.bool ng, sa], .int .i64 E] W (RetN W ng2 ds2 ok2) ∧ Calls Tryz.prog 21 #[.agg #[.bool ng, sa], .int .i64 E] W (RetN W ng2 ds2 ok2)) := Lib.hid fun E hE => both_pow SX.bd (by omega) E hE
        have HSX := Lib.hid SX
        clear h2 htext SX lx
        go_upto_region 6 with fail
        obtain ⟨W1, hW1⟩ : ∃ W1, W1 = wr.alloc (.cells #[.bool ng, .slice ao n cap] 27) := ⟨_, rfl⟩
        obtain ⟨gx, hgx⟩ : ∃ g, g = wr.heap.size := ⟨_, rfl⟩
        have hb1 : Below wr.heap.size wr W1 := by rw [hW1]; exact alloc_b _ _
        have HBX : Hid (Bk W1 gx (.bool ng) (.slice ao n cap)) := Lib.hid (by rw [hW1, hgx]; exact heap_alloc_new _ _)
        have HSX := Lib.hid (HSX.out.below hb1)
        have HNM := Lib.hid (HNM.out.below hb1)
        have HB := Lib.hid (carryB HB hb1)
        rw [← hW1, ← hgx]
        clear hb1 k0 k1 hW1 hgx
        go_wp2
        obtain ⟨W2, hW2⟩ : ∃ W2, W2 = W1.alloc (.cells #[.int .i64 N, .int .i64 (N.tmod 40)] 3) := ⟨_, rfl⟩
        obtain ⟨gi, hgi⟩ : ∃ g, g = W1.heap.size := ⟨_, rfl⟩
        have hb1 : Below W1.heap.size W1 W2 := by rw [hW2]; exact alloc_b _ _
        have HIE : Hid (∀ W, Below W2.heap.size W2 W → ∀ j : Nat, j < 2 → ∃ E : Int, E < 9223372036854775808 ∧ W.cell? ⟨gi, j, none⟩ = some (.int .i64 E)) := Lib.hid fun W hbW j hj => by
          have r0 : W2.heap[gi]? = some (.cells #[.int .i64 N, .int .i64 (N.tmod 40)] 3 (0, 0)) := by rw [hW2, hgi]; exact heap_alloc_new _ _
          have r1 := (hbW.block gi (Array.getElem?_eq_some_iff.1 r0).1).trans r0
          rcases (show j = 0 ∨ j = 1 by omega) with rfl | rfl
          · exact ⟨N, by omega, by rw [cell_of_row _ _ _ _ _ _ r1]; rfl⟩
          · refine ⟨N.tmod 40, ?_, by rw [cell_of_row _ _ _ _ _ _ r1]; rfl⟩
            have := Int.tmod_lt_of_pos N (show (0 : Int) < 40 by omega)
            omega
        have HBX := Lib.hid (HBX.out.below hb1)
        have HSX := Lib.hid (HSX.out.below hb1)
        have HNM := Lib.hid (HNM.out.below hb1)
        have HB := Lib.hid (carryB HB hb1)
        rw [← hW2, ← hgi]
        clear hb1 hW2 hgi
        go_loopw [46] (fun jv wr => ∃ j : Nat, j ≤ 2 ∧ jv = .int .i64 j ∧ Hid (Below W2.heap.size W2 wr)) (fun jv _ => (2 - intOf jv).toNat)
        case atStart => exact ⟨0, by omega, rfl, Lib.hid (Below.refl _ _)⟩
        case round =>
          obtain ⟨j, hj, rfl, hbj⟩ := hrel
          by_cases hj2 : j = 2
          · subst hj2
            have HA := Lib.hid (HBX.out.below hbj.out)
            have SA := Lib.hid (HSX.out.below hbj.out)
            have HNM := Lib.hid (HNM.out.below hbj.out)
            have HB := Lib.hid (carryB HB hbj.out)
            clear HPOW HIE HBX HSX hbj
            obtain ⟨c0, c1⟩ := HA.out.cells
            go_upto_region 15 with (go_at_call 22; refine (HTX.out _ _ SA.out).1.mono ?_; rintro e wn ⟨rfl, hb⟩; have HNM := Lib.hid (HNM.out.below hb); have HA := Lib.hid (HA.out.below hb); have SA := Lib.hid (SA.out.below hb); have HB := Lib.hid (carryB HB hb); clear hb)
            clear c0 c1
            obtain ⟨c0, c1⟩ := HA.out.cells
            go_upto_region 17 with (go_at_call 23; refine ((HTX.out _ _ SA.out).2 (HTAB.out _ HB.out)).mono ?_; rintro e wn ⟨rfl, hb⟩; have HNM := Lib.hid (HNM.out.below hb); have HB := Lib.hid (carryB HB hb); clear hb)
            clear c0 c1
            go_wp2
            obtain ⟨W5, hW5⟩ : ∃ W5, W5 = wn.alloc (.cells #[.string t, .string s2, .string (t ++ s2), .string (s2 ++ t), .string (⟨#[48]⟩ ++ t), .string (⟨#[45]⟩ ++ t)] 9) := ⟨_, rfl⟩
            obtain ⟨gs, hgs⟩ : ∃ g, g = wn.heap.size := ⟨_, rfl⟩
            have hb1 : Below wn.heap.size wn W5 := by rw [hW5]; exact alloc_b _ _
            have HST : Hid (∀ W, Below W5.heap.size W5 W → ∀ j : Nat, j < 6 → ∃ u : ByteArray, u.size ≤ 4000 ∧ W.cell? ⟨gs, j, none⟩ = some (.string u)) := Lib.hid fun W hbW j hj => by
              have r0 : W5.heap[gs]? = some (.cells #[.string t, .string s2, .string (t ++ s2), .string (s2 ++ t), .string (⟨#[48]⟩ ++ t), .string (⟨#[45]⟩ ++ t)] 9 (0, 0)) := by rw [hW5, hgs]; exact heap_alloc_new _ _
              have r1 := (hbW.block gs (Array.getElem?_eq_some_iff.1 r0).1).trans r0
              have e1 : (⟨#[48]⟩ : ByteArray).size = 1 := rfl
              have e2 : (⟨#[45]⟩ : ByteArray).size = 1 := rfl
              rcases (show j = 0 ∨ j = 1 ∨ j = 2 ∨ j = 3 ∨ j = 4 ∨ j = 5 by omega) with rfl | rfl | rfl | rfl | rfl | rfl
              · exact ⟨t, by omega, by rw [cell_of_row _ _ _ _ _ _ r1]; rfl⟩
              · exact ⟨s2, by omega, by rw [cell_of_row _ _ _ _ _ _ r1]; rfl⟩
              · exact ⟨t ++ s2, by rw [ByteArray.size_append]; omega, by rw [cell_of_row _ _ _ _ _ _ r1]; rfl⟩
              · exact ⟨s2 ++ t, by rw [ByteArray.size_append]; omega, by rw [cell_of_row _ _ _ _ _ _ r1]; rfl⟩
              · exact ⟨⟨#[48]⟩ ++ t, by rw [ByteArray.size_append, e1]; omega, by rw [cell_of_row _ _ _ _ _ _ r1]; rfl⟩
              · exact ⟨⟨#[45]⟩ ++ t, by rw [ByteArray.size_append, e2]; omega, by rw [cell_of_row _ _ _ _ _ _ r1]; rfl⟩
            have HNM := Lib.hid (HNM.out.below hb1)
            have HB := Lib.hid (carryB HB hb1)
            rw [← hW5, ← hgs]
            clear hb1 hW5 hgs
            go_loopw [92] (fun jv wr => ∃ j : Nat, j ≤ 6 ∧ jv = .int .i64 j ∧ Hid (Below W5.heap.size W5 wr)) (fun jv _ => (6 - intOf jv).toNat)
            case atStart => exact ⟨0, by omega, rfl, Lib.hid (Below.refl _ _)⟩
            case round =>
              obtain ⟨j, hj, rfl, hbj⟩ := hrel
              by_cases hj6 : j = 6
              · subst hj6
                have HNM := Lib.hid (HNM.out.below hbj.out)
                have HB := Lib.hid (carryB HB hbj.out)
                have hiw : IntKind.i64.wrap ((i : Int) + 1) = (i : Int) + 1 := by rw [IntKind.wrap_i64]; omega
                go_wp2
                go_roundw
                case rel => exact ⟨i + 1, by omega, by go_num, HNM, HB⟩
                case measure => simp [intOf]; omega
              · have hjI : (j : Int) < 6 := by omega
                obtain ⟨u, hu, kE⟩ := HST.out wr hbj.out j (by omega)
                obtain ⟨g2, ds2, ok2, hp⟩ := both_parse u (by omega)
                have HP := Lib.hid hp
                have HBW := hbj
                have hjw : IntKind.i64.wrap ((j : Int) + 1) = (j : Int) + 1 := by rw [IntKind.wrap_i64]; omega
                clear hu hp
                go_upto_region 20 with fail
                go_upto_region 21 with (go_at_call 24; refine (HP.out _).1.mono ?_; rintro e wn ⟨a1, m1, k1, rfl, hs, hb⟩; have Q1 := Lib.hid hs; have HBW := Lib.hid (HBW.out.trans (hb.mono HBW.out.size)); clear hb; clear hs)
                have hb : Below wn.heap.size wn (wn.alloc (.cells #[.bool g2, .slice a1 m1 k1] 27)) := by go_grown
                have Q1 := Lib.hid (Q1.out.below hb)
                have HBW := Lib.hid (HBW.out.trans (hb.mono HBW.out.size))
                have R1 : Hid (Bk (wn.alloc (.cells #[.bool g2, .slice a1 m1 k1] 27)) wn.heap.size (.bool g2) (.slice a1 m1 k1)) := Lib.hid (heap_alloc_new _ _)
                clear hb
                revert HBW; revert R1; revert Q1
                generalize (wn.alloc (.cells #[.bool g2, .slice a1 m1 k1] 27)) = W6
                generalize wn.heap.size = gp
                intro Q1 R1 HBW
                go_upto_region 22 with (go_at_call 25; refine (HP.out _).2.mono ?_; rintro e wn ⟨a2, m2, k2, rfl, hs, hb⟩; have Q2 := Lib.hid hs; have Q1 := Lib.hid (Q1.out.below hb); have R1 := Lib.hid (R1.out.below hb); have HBW := Lib.hid (HBW.out.trans (hb.mono HBW.out.size)); clear hb; clear hs)
                have hb : Below wn.heap.size wn (wn.alloc (.cells #[.bool g2, .slice a2 m2 k2] 27)) := by go_grown
                have Q1 := Lib.hid (Q1.out.below hb)
                have Q2 := Lib.hid (Q2.out.below hb)
                have R1 := Lib.hid (R1.out.below hb)
                have HBW := Lib.hid (HBW.out.trans (hb.mono HBW.out.size))
                have R2 : Hid (Bk (wn.alloc (.cells #[.bool g2, .slice a2 m2 k2] 27)) wn.heap.size (.bool g2) (.slice a2 m2 k2)) := Lib.hid (heap_alloc_new _ _)
                clear hb
                revert HBW; revert R2; revert R1; revert Q2; revert Q1
                generalize (wn.alloc (.cells #[.bool g2, .slice a2 m2 k2] 27)) = W7
                generalize wn.heap.size = gq
                intro Q1 Q2 R1 R2 HBW
                obtain ⟨c0, c1⟩ := R1.out.cells
                obtain ⟨c2, c3⟩ := R2.out.cells
                cases ok2
                · go_wp2_with (go_at_call 19; refine (same_eq Q1.out Q2.out).mono ?_; rintro e wn ⟨rfl, hb⟩; have HBW := Lib.hid (HBW.out.trans (hb.mono HBW.out.size)); clear hb)
                  go_roundw
                  case rel => exact ⟨j + 1, by omega, by go_num, HBW⟩
                  case measure => simp [intOf]; omega
                · go_wp2_with (go_at_call 19; refine (same_eq Q1.out Q2.out).mono ?_; rintro e wn ⟨rfl, hb⟩; have HBW := Lib.hid (HBW.out.trans (hb.mono HBW.out.size)); clear hb)
                  go_roundw
                  case rel => exact ⟨j + 1, by omega, by go_num, HBW⟩
                  case measure => simp [intOf]; omega
          · have hjI : (j : Int) < 2 := by omega
            obtain ⟨E, hE, kE⟩ := HIE.out wr hbj.out j (by omega)
            obtain ⟨g2, ds2, ok2, hp⟩ := HPOW.out E hE
            have HP := Lib.hid hp
            have HA := Lib.hid (HBX.out.below hbj.out)
            have SA := Lib.hid (HSX.out.below hbj.out)
            have HBW := hbj
            clear hE hp
            go_upto_region 9 with fail
            obtain ⟨c0, c1⟩ := HA.out.cells
            go_upto_region 10 with (go_at_call 20; refine (HP.out _ _ SA.out).1.mono ?_; rintro e wn ⟨a1, m1, k1, rfl, hs, hb⟩; have Q1 := Lib.hid hs; have HA := Lib.hid (HA.out.below hb); have SA := Lib.hid (SA.out.below hb); have HBW := Lib.hid (HBW.out.trans (hb.mono HBW.out.size)); clear hb; clear hs)
            clear c0 c1
            have hb : Below wn.heap.size wn (wn.alloc (.cells #[.bool g2, .slice a1 m1 k1] 27)) := by go_grown
            have HA := Lib.hid (HA.out.below hb)
            have SA := Lib.hid (SA.out.below hb)
            have Q1 := Lib.hid (Q1.out.below hb)
            have HBW := Lib.hid (HBW.out.trans (hb.mono HBW.out.size))
            have R1 : Hid (Bk (wn.alloc (.cells #[.bool g2, .slice a1 m1 k1] 27)) wn.heap.size (.bool g2) (.slice a1 m1 k1)) := Lib.hid (heap_alloc_new _ _)
            clear hb
            revert HBW; revert R1; revert Q1; revert SA; revert HA
            generalize (wn.alloc (.cells #[.bool g2, .slice a1 m1 k1] 27)) = W3
            generalize wn.heap.size = gp
            intro HA SA Q1 R1 HBW
            obtain ⟨c0, c1⟩ := HA.out.cells
            go_upto_region 11 with (go_at_call 21; refine (HP.out _ _ SA.out).2.mono ?_; rintro e wn ⟨a2, m2, k2, rfl, hs, hb⟩; have Q2 := Lib.hid hs; have Q1 := Lib.hid (Q1.out.below hb); have R1 := Lib.hid (R1.out.below hb); have HBW := Lib.hid (HBW.out.trans (hb.mono HBW.out.size)); clear hb; clear hs)
            clear c0 c1
            have hb : Below wn.heap.size wn (wn.alloc (.cells #[.bool g2, .slice a2 m2 k2] 27)) := by go_grown
            have Q1 := Lib.hid (Q1.out.below hb)
            have Q2 := Lib.hid (Q2.out.below hb)
            have R1 := Lib.hid (R1.out.below hb)
            have HBW := Lib.hid (HBW.out.trans (hb.mono HBW.out.size))
            have R2 : Hid (Bk (wn.alloc (.cells #[.bool g2, .slice a2 m2 k2] 27)) wn.heap.size (.bool g2) (.slice a2 m2 k2)) := Lib.hid (heap_alloc_new _ _)
            clear hb
            revert HBW; revert R2; revert R1; revert Q2; revert Q1
            generalize (wn.alloc (.cells #[.bool g2, .slice a2 m2 k2] 27)) = W4
            generalize wn.heap.size = gq
            intro Q1 Q2 R1 R2 HBW
            obtain ⟨c0, c1⟩ := R1.out.cells
            obtain ⟨c2, c3⟩ := R2.out.cells
            cases ok2
            · go_wp2_with (go_at_call 19; refine (same_eq Q1.out Q2.out).mono ?_; rintro e wn ⟨rfl, hb⟩; have HBW := Lib.hid (HBW.out.trans (hb.mono HBW.out.size)); clear hb)
              go_roundw
              case rel => exact ⟨j + 1, by omega, by go_num, HBW⟩
              case measure => simp [intOf]; omega
            · go_wp2_with (go_at_call 19; refine (same_eq Q1.out Q2.out).mono ?_; rintro e wn ⟨rfl, hb⟩; have HBW := Lib.hid (HBW.out.trans (hb.mono HBW.out.size)); clear hb)
              go_roundw
              case rel => exact ⟨j + 1, by omega, by go_num, HBW⟩
              case measure => simp [intOf]; omega

end Go.Proofs.YtdgmjmckeeeljaaGreatDoor

namespace Go.Proofs.YtdgmjmckeeeljaaGreatDoor
open Go.ChangeShapes Go.WideShapes Go.ChangeAt Go.RowKit

theorem cells59 : Tryz.prog.cellsOf 59 = 1 := by kernel_rfl

/-- A number that fits a digit. -/
theorem u32_wf {a : Int} (h : (Lit.int .u32 a).wf = true) : 0 ≤ a ∧ a < 4294967296 := by
  simp only [Lit.wf, IntKind.min, IntKind.max, IntKind.signed, IntKind.bits, Bool.and_eq_true, decide_eq_true_eq] at h
  have h2 : 0 ≤ a ∧ a ≤ 4294967295 := by simpa using h
  omega

/-- A slice of digits that came in. -/
theorem open_sl {H : Type} {enc : TypeId × Value → H} {W : World} {fuel : Nat} {c : Value} {y : DataW H × List MemPlace} (h : DataW.trod enc Tryz.prog W 0 (fun _ => true) true fuel 25 [c] = some y) : ∃ ao n cap ds, c = .slice ao n cap ∧ Sl W (.slice ao n cap) ds := by
  rcases open_ints Tryz.underlying25 Tryz.underlying59 cells59 h with ⟨hcs, _⟩ | ⟨a, len, cap, zs, hcs, _, hl, hm, hz, _, hcell, hwf⟩
  · simp only [List.cons.injEq, and_true] at hcs
    subst hcs
    exact ⟨none, 0, 0, [], rfl, Sl.nil _ _ _⟩
  · simp only [List.cons.injEq, and_true] at hcs
    subst hcs
    simp only [if_true] at hz
    have hlen : ((zs.take len).map Int.toNat).length = len := by rw [List.length_map, List.length_take]; omega
    refine ⟨some a, len, cap, (zs.take len).map Int.toNat, rfl, ⟨fun x hx => ?_, by rw [hlen]; omega, ?_⟩⟩
    · simp only [List.mem_map] at hx
      obtain ⟨z, hz1, rfl⟩ := hx
      have := u32_wf (hwf z (List.mem_of_mem_take hz1))
      omega
    · by_cases h0 : len = 0
      · subst h0
        exact .inl ⟨by simp, _, _, rfl⟩
      · have hs0 := spotless (hcell 0 (by omega))
        obtain ⟨b, off, spot⟩ := a
        have hs1 : spot = none := hs0
        subst hs1
        refine .inr ⟨b, off, cap, by rw [hlen], by rw [hlen]; exact hl, fun j hj => ?_⟩
        rw [hlen] at hj
        have hc := hcell j (by omega)
        have e : (Addr.mk b off none).add j = ⟨b, off + j, none⟩ := by
          unfold Addr.add
          by_cases hj0 : j = 0
          · subst hj0; rfl
          · rw [if_neg hj0]
        rw [e] at hc
        rw [hc]
        have hw := u32_wf (hwf (zs.getD j 0) (by
          rw [List.getD_eq_getElem?_getD, List.getElem?_eq_getElem (show j < zs.length by omega)]
          exact List.getElem_mem _))
        have e2 : ((zs.take len).map Int.toNat).getD j 0 = (zs.getD j 0).toNat := by
          simp [List.getD, List.getElem?_take, hj]
          rw [List.getElem?_eq_getElem (show j < zs.length by omega)]
          rfl
        rw [e2]
        congr 2
        omega

end Go.Proofs.YtdgmjmckeeeljaaGreatDoor

namespace Go.Proofs.YtdgmjmckeeeljaaGreatDoor
open Go.ChangeShapes Go.WideShapes Go.ChangeAt Go.RowKit

theorem cells28 : Tryz.prog.cellsOf 28 = 4 := by kernel_rfl
theorem cells27 : Tryz.prog.cellsOf 27 = 2 := by kernel_rfl

theorem array_four {cs : Array Value} (h : cs.size = 4) : ∃ a b c d, cs = #[a, b, c, d] := by
  obtain ⟨l⟩ := cs
  match l, h with
  | [a, b, c, d], _ => exact ⟨a, b, c, d, rfl⟩

theorem trod_arr22 {H : Type} {enc : TypeId × Value → H} {P : Program} {w : World} {base : Nat} {spare : Nat → Bool} {held : Bool} {t e : TypeId} {fuel : Nat} {c0 c1 c2 c3 : Value} {x : DataW H × List MemPlace} (ht : P.underlying t = some (.array 2 e)) (hce : P.cellsOf e = 2)
    (h : DataW.trod enc P w base spare held fuel t [c0, c1, c2, c3] = some x) :
    ∃ y0 y1 n, DataW.trod enc P w base spare held n e [c0, c1] = some y0 ∧ DataW.trod enc P w base spare held n e [c2, c3] = some y1 := by
  cases fuel with
  | zero => simp [DataW.trod] at h
  | succ n =>
    unfold DataW.trod at h
    rw [ht] at h
    have r2 : List.range 2 = [0, 1] := rfl
    simp [r2, hce] at h
    obtain ⟨_, h⟩ := h
    cases h0 : DataW.trod enc P w base spare held n e [c0, c1] with
    | none => simp [h0] at h
    | some y0 =>
      cases h1 : DataW.trod enc P w base spare held n e [c2, c3] with
      | none => simp [h0, h1] at h
      | some y1 => exact ⟨y0, y1, n, h0, h1⟩

/-- A number that came in. -/
theorem open_num {H : Type} {enc : TypeId × Value → H} {W : World} {fuel : Nat} {c0 c1 : Value} {y : DataW H × List MemPlace} (h : DataW.trod enc Tryz.prog W 0 (fun _ => true) true fuel 27 [c0, c1] = some y) : ∃ p ao n cap ds, c0 = .bool p ∧ c1 = .slice ao n cap ∧ Sl W (.slice ao n cap) ds := by
  obtain ⟨y0, y1, n, _, _, h0, h1⟩ := trod_struct2 Tryz.underlying27 h
  have e4 : Tryz.prog.cellsOf 4 = 1 := by kernel_rfl
  have e25 : Tryz.prog.cellsOf 25 = 1 := by kernel_rfl
  have h0' : DataW.trod enc Tryz.prog W 0 (fun _ => true) true n 4 (([c0, c1].drop 0).take (Tryz.prog.cellsOf 4)) = some y0 := h0
  have h1' : DataW.trod enc Tryz.prog W 0 (fun _ => true) true n 25 (([c0, c1].drop 1).take (Tryz.prog.cellsOf 25)) = some y1 := h1
  rw [e4] at h0'
  rw [e25] at h1'
  obtain ⟨b, q0, _⟩ := DataW.trod_bool Tryz.underlying4 h0'
  obtain ⟨ao, m, cap, ds, q1, hs⟩ := open_sl h1'
  have e0 : c0 = .bool b := by
    have : [c0] = [Value.bool b] := q0
    simpa using this
  exact ⟨b, ao, m, cap, ds, e0, q1, hs⟩

end Go.Proofs.YtdgmjmckeeeljaaGreatDoor

namespace Go.Proofs.YtdgmjmckeeeljaaGreatDoor
open Go.ChangeShapes Go.WideShapes Go.ChangeAt Go.RowKit

open Go.ChangeMaps (open_string shut_string)

/-- A number that fits an int lies within its bounds. -/
theorem i64_wfW {a : Int} (h : (Lit.int .i64 a).wf = true) : -9223372036854775808 ≤ a ∧ a ≤ 9223372036854775807 := by
  simp only [Lit.wf, IntKind.min, IntKind.max, IntKind.signed, IntKind.bits, Bool.and_eq_true, decide_eq_true_eq] at h
  simpa using h

set_option maxRecDepth 100000 in
theorem nwrites_lifted (os : Os) (started : os.Started) (H : Type) (enc : TypeId × Value → H) :
    ReturnsInHanded {} Tryz.checked os 5 .any (fun w args => (Rows.numWritesSpec.pre enc Tryz.prog Tryz.f5 [] false w args ∧ laidMetH Tryz.prog laidL w) ∧ sizedMet enc Tryz.prog Tryz.f5 (OpenSpec.ofChange Rows.numWritesSpec) false w args)
      (Rows.numWritesSpec.post enc Tryz.prog Tryz.f5 false true false false) := by
  refine returnsInHanded_of_change_and (C := Tryz.checked) (X := fun w _ => laidMetH Tryz.prog laidL w) (fun _ _ _ hh h => h.of_heap hh) ownR started (by kernel_rfl) Tryz.func5
    (ChangeSpec.witness_at (enc := enc) (C := Tryz.checked) (os := os) (X := fun w _ => laidMetH Tryz.prog laidL w) false (laidWorld os) #[.slice none 0 0, .agg #[.bool false, .slice none 0 0], .int .i64 0, .string ByteArray.empty] 8 rfl (by kernel_rfl) (by kernel_rfl) (by kernel_rfl) (by kernel_rfl) (by kernel_rfl) (laidWorld_met os _)) ?_
  intro W base args ds gs before hval0 hW _ _ hL _
  have hval : ∀ (j : Nat) t v, Tryz.f5.params[j]? = some t → args[j]? = some v → Value.okWide Tryz.prog W .any base t v := hval0
  have hW' := hW
  obtain ⟨p, q, hA0, hV, rfl, hfz, hnd⟩ := hW
  have hA : DataW.TrodAll enc Tryz.prog W 0 (fun _ => true) true Tryz.f5.params.toList args.toList ds p := hA0
  rw [Tryz.params5] at hA hval
  obtain ⟨v0, vs0, d0, ds0, p0, q0, hargs, rfl, rfl, h0, r0⟩ := trodAll_cons hA
  obtain ⟨v1, vs1, d1, ds1, p1, q1, rfl, rfl, rfl, h1, r1⟩ := trodAll_cons r0
  obtain ⟨v2, vs2, d2, ds2, p2, q2, rfl, rfl, rfl, h2, r2⟩ := trodAll_cons r1
  obtain ⟨v3, vs3, d3, ds3, p3, q3, rfl, rfl, rfl, h3, r3⟩ := trodAll_cons r2
  obtain ⟨rfl, rfl, rfl⟩ := trodAll_nil r3
  obtain rfl : args = #[v0, v1, v2, v3] := by cases args; simp_all
  obtain ⟨rfl, rfl⟩ := trodVars_none hV
  have k0 := h0
  have k1 := h1
  have lt0 : ∀ x ∈ p0, x.block < W.heap.size := by obtain ⟨m, hm⟩ := k0; exact DataW.trod_lt m _ _ _ hm
  have lt1 : ∀ x ∈ p1, x.block < W.heap.size := by obtain ⟨m, hm⟩ := k1; exact DataW.trod_lt m _ _ _ hm
  obtain ⟨a0, len0, cap0, rfl⟩ := okWide_slice Tryz.underlying22 (hval 0 22 v0 rfl rfl)
  obtain ⟨f0, hf0⟩ := h0
  obtain ⟨ao0, n0, c0, z0, e0, L0⟩ := open_li hf0
  injection e0 with ea eb ec
  subst ea eb ec
  obtain ⟨cs1, rfl, hs1⟩ := okWide_struct Tryz.underlying27 (hval 1 27 v1 rfl rfl)
  obtain ⟨u0, u1, rfl⟩ := array_two (hs1.trans cells27)
  obtain ⟨f1, hf1⟩ := h1
  obtain ⟨g1, ao1, n1, c1, x1, rfl, rfl, S1⟩ := open_num hf1
  obtain ⟨a2, rfl, rfl, rfl, w2⟩ := open_int Tryz.underlying3 (hval 2 3 v2 rfl rfl) h2
  obtain ⟨a3, rfl, rfl, rfl, w3⟩ := open_string Tryz.underlying9 (hval 3 9 v3 rfl rfl) h3
  clear hA0 hval0
  try simp only [List.append_nil] at hW'
  have htab := tab_of_laid hL
  refine (nwrites_any L0 g1 S1 a2 (i64_wfW w2) a3 (fun W' hb => tab_below htab hb)).mono fun e W' ⟨he, bel⟩ => ?_
  subst he
  exact ⟨_, rfl, _, _, _, [], _, [], hW', trodAll_mk1 (shut_bool Tryz.underlying4 _), (trodAll_cons_mk (Below.trod laidOut (by kernel_rfl) (of_decide_eq_true (by kernel_rfl)) k0 bel lt0) (trodAll_cons_mk (Below.trod laidOut (by kernel_rfl) (of_decide_eq_true (by kernel_rfl)) k1 bel lt1) (trodAll_cons_mk (shut_int Tryz.underlying3 w2) (trodAll_cons_mk (shut_string Tryz.underlying9 w3) trodAll_mk0)))), rfl, bel.frame _, fun h => by cases h⟩

theorem nwrites_over : Rows.NumWritesSaid :=
  OpenClaim.holds_of_wide 5 Tryz.f5 rfl rfl rfl rfl rfl rfl rfl ⟨rfl, rfl, rfl, rfl, rfl⟩ rfl rfl rfl rfl rfl (by kernel_rfl) Tryz.func5 (by kernel_rfl)
    (of_decide_eq_true (by kernel_rfl)) (by unfold Func.isWrapper; first | (rw [if_pos (by decide +kernel)]; kernel_rfl) | (rw [if_neg (by decide +kernel)]; exact ⟨rfl, rfl⟩))
    (fun os started H enc _ => nwrites_lifted os started H enc)

/-- The statement. -/
theorem numWrites_holds : Rows.NumWritesCardSaid :=
  Claim7.holds_tied_plain_at .later [] [.data, .data, .data, .sentinel, .sentinel] true (true, "958520932160259f8438aa7be4506227f44fa7fbd0be64069e22fe8a588b6fcf") true
    nwrites_over (fun _ h => by cases h) (by kernel_rfl) (fun _ h => by cases h) numWrites_row_tie rfl ⟨rfl, rfl⟩ (by kernel_rfl) rfl
    (fun f fn hf hfn => by
      obtain rfl : f = 5 := Option.some.inj ((show Tryz.prog.funcNamed "equipoise/equipoiselaw01.NumWrites" = some 5 by kernel_rfl).symm.trans hf) |>.symm
      obtain rfl : fn = Tryz.f5 := (Option.some.inj (Tryz.func5.symm.trans hfn)).symm
      exact ⟨by kernel_rfl, fun j t ht => by
        rw [Tryz.params5] at ht
        have h3 : t = 22 ∨ t = 27 ∨ t = 3 ∨ t = 9 := by
          rcases j with _ | _ | _ | _ | j
          · exact .inl (by simpa using ht.symm)
          · exact .inr (.inl (by simpa using ht.symm))
          · exact .inr (.inr (.inl (by simpa using ht.symm)))
          · exact .inr (.inr (.inr (by simpa using ht.symm)))
          · simp at ht
        rcases h3 with rfl | rfl | rfl | rfl
        · exact (show Tryz.prog.wantsStandIn 22 = false by kernel_rfl)
        · exact (show Tryz.prog.wantsStandIn 27 = false by kernel_rfl)
        · exact (show Tryz.prog.wantsStandIn 3 = false by kernel_rfl)
        · exact (show Tryz.prog.wantsStandIn 9 = false by kernel_rfl)⟩)
    (by kernel_rfl)

end Go.Proofs.YtdgmjmckeeeljaaGreatDoor
