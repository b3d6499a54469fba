/- Contracts of num: Mul. Contracts of num: Add. Contracts of num: Sub, Of, Int, Cmp, Bits. Contracts of num: Of, Int, Cmp. Contracts of num: Int. Contracts of num: Cmp, Bits. What BlockFair asks of numbers: Of, Mul, Cmp of num. -/
import Derived.Test.YtjlneggfkpjnpaaMb7
import Derived.Deep.RegionHeld3
import Derived.Test.YtjlneggfkpjnpaaMb6
import Derived.Deep.CutRange
set_option linter.unusedSimpArgs false
set_option linter.unusedVariables false
namespace Go.Proofs.Ytjlneggfkpjnpaa.Nums
open Go.RowKit

/-- The right Num of an integer. -/
def Nu (w : World) (x : Value) (z : Int) : Prop := ∃ s, x = .agg #[.bool (decide (z < 0)), s] ∧ Sl w s (digs z.natAbs) ∧ (digs z.natAbs).length ≤ 256

theorem rightB_digs (z : Int) (h : (digs z.natAbs).length ≤ 256) : rightB (decide (z < 0)) (digs z.natAbs) = true := by
  unfold rightB
  by_cases h0 : digs z.natAbs = []
  · rw [if_pos h0]
    have : z.natAbs = 0 := digs_inj (by rw [h0, digs_zero])
    simp; omega
  · rw [if_neg h0]
    have hl := digs_last z.natAbs
    rw [List.getLast?_eq_getElem?] at hl
    have h1 : (digs z.natAbs).length - 1 < (digs z.natAbs).length := by
      have := List.length_pos_iff.2 h0; omega
    simp only [h, decide_true, Bool.true_and, decide_eq_true_eq, ne_eq]
    intro h2
    apply hl
    rw [List.getElem?_eq_getElem h1]
    simp only [List.getD, List.getElem?_eq_getElem h1, Option.getD_some] at h2
    rw [h2]

/-- Three boxes that a call made: two that were read, one for the result. -/
structure Box3 (W : World) (B : Nat) (na nb : Bool) (sa sb : Value) (x y : Nat) : Prop where
  a0 : W.cell? ⟨B, 0, none⟩ = some (.bool na)
  a1 : W.cell? ⟨B, 1, none⟩ = some sa
  b0 : W.cell? ⟨B + 1, 0, none⟩ = some (.bool nb)
  b1 : W.cell? ⟨B + 1, 1, none⟩ = some sb
  r : W.heap[B + 1 + 1]? = some (.cells #[.bool false, .slice none 0 0] 54 (0, 0))
  sa : Sl W sa (digs x)
  sb : Sl W sb (digs y)

theorem Box3.below {W W' : World} {B : Nat} {na nb : Bool} {sa sb : Value} {x y : Nat} (h : Box3 W B na nb sa sb x y) (hb : Below W.heap.size W W') : Box3 W' B na nb sa sb x y :=
  ⟨cell_later hb h.a0, cell_later hb h.a1, cell_later hb h.b0, cell_later hb h.b1, (hb.block _ (Array.getElem?_eq_some_iff.1 h.r).1).trans h.r, h.sa.below hb, h.sb.below hb⟩

theorem Box3.keep {W W' : World} {B : Nat} {na nb : Bool} {sa sb : Value} {x y : Nat} (h : Box3 W B na nb sa sb x y) (hb : Below (B + 1 + 1) W W') :
    W'.cell? ⟨B, 0, none⟩ = some (.bool na) ∧ W'.cell? ⟨B, 1, none⟩ = some sa ∧ W'.cell? ⟨B + 1, 0, none⟩ = some (.bool nb) ∧ W'.cell? ⟨B + 1, 1, none⟩ = some sb :=
  ⟨(hb.cell (p := ⟨B, 0, none⟩) (by simp; omega)).trans h.a0, (hb.cell (p := ⟨B, 1, none⟩) (by simp; omega)).trans h.a1, (hb.cell (p := ⟨B + 1, 0, none⟩) (by simp)).trans h.b0, (hb.cell (p := ⟨B + 1, 1, none⟩) (by simp)).trans h.b1⟩

theorem Box3.lt {W : World} {B : Nat} {na nb : Bool} {sa sb : Value} {x y : Nat} (h : Box3 W B na nb sa sb x y) : B + 1 + 1 < W.heap.size := (Array.getElem?_eq_some_iff.1 h.r).1
theorem Box3.cells {W : World} {B : Nat} {na nb : Bool} {sa sb : Value} {x y : Nat} (h : Box3 W B na nb sa sb x y) :
    W.cell? ⟨B + 1 + 1, 0, none⟩ = some (.bool false) ∧ W.cell? ⟨B + 1 + 1, 1, none⟩ = some (.slice none 0 0) ∧ W.frozen? ⟨B + 1 + 1, 0, none⟩ = false ∧ W.frozen? ⟨B + 1 + 1, 1, none⟩ = false := by
  refine ⟨?_, ?_, frozen_of_row W _ _ _ _ h.r, frozen_of_row W _ _ _ _ h.r⟩ <;> rw [cell_of_row W _ _ _ _ _ h.r] <;> rfl

/-- The result's two cells, when they were stored. -/
theorem res_cells {w1 : World} {g : Nat} {v0 v1 : Value} (h : w1.heap[g]? = some (.cells #[v0, v1] 54 (0, 0))) (u0 u1 : Value) (o : Obj) :
    (((w1.setCell ⟨g, 0, none⟩ u0).setCell ⟨g, 1, none⟩ u1).alloc o).cell? ⟨g, 0, none⟩ = some u0 ∧ (((w1.setCell ⟨g, 0, none⟩ u0).setCell ⟨g, 1, none⟩ u1).alloc o).cell? ⟨g, 1, none⟩ = some u1 := by
  have h1 := heap_setCell_same w1 g 0 _ 54 u0 h
  have h2 := heap_setCell_same _ g 1 _ 54 u1 h1
  have h3 : (((w1.setCell ⟨g, 0, none⟩ u0).setCell ⟨g, 1, none⟩ u1).alloc o).heap[g]? = _ := (Below.heap_alloc _ _ _ (Array.getElem?_eq_some_iff.1 h2).1).trans h2
  constructor <;> rw [cell_of_row _ _ _ _ _ _ h3] <;> rfl

theorem sign_mul {a b : Int} (h : a * b ≠ 0) : (!(decide (a < 0) == decide (b < 0))) = decide (a * b < 0) := by
  have ha : a ≠ 0 := fun h0 => h (by rw [h0, Int.zero_mul])
  have hb : b ≠ 0 := fun h0 => h (by rw [h0, Int.mul_zero])
  rcases Int.lt_or_gt_of_ne ha with h1 | h1 <;> rcases Int.lt_or_gt_of_ne hb with h2 | h2
  · have := Int.mul_pos_of_neg_of_neg h1 h2
    simp [h1, h2]; omega
  · have := Int.mul_neg_of_neg_of_pos h1 h2
    have h3 : ¬ b < 0 := by omega
    simp [h1, h3, this]
  · have := Int.mul_neg_of_pos_of_neg h1 h2
    have h3 : ¬ a < 0 := by omega
    simp [h2, h3, this]
  · have := Int.mul_pos h1 h2
    have h3 : ¬ a < 0 := by omega
    have h4 : ¬ b < 0 := by omega
    simp [h3, h4]; omega

/-- What is owned in new memory stays so when an older box is written, and behind a new block. -/
theorem Sw.after2 {B g : Nat} {w : World} {v : Value} {ds : List Nat} (h : Sw B w v ds) (hg : g < B) (u0 u1 : Value) : Sw B ((w.setCell ⟨g, 0, none⟩ u0).setCell ⟨g, 1, none⟩ u1) v ds := by
  have key : ∀ (w : World) (j : Nat) (u : Value), Sw B w v ds → Sw B (w.setCell ⟨g, j, none⟩ u) v ds := by
    intro w j u h
    have hc : ∀ b o, B ≤ b → (w.setCell ⟨g, j, none⟩ u).cell? ⟨b, o, none⟩ = w.cell? ⟨b, o, none⟩ := fun b o hb => World.cell?_of_block (w := w) (a := ⟨b, o, none⟩) (Below.heap_setCell _ _ _ _ (by simp; omega))
    have hf : ∀ b o, B ≤ b → (w.setCell ⟨g, j, none⟩ u).frozen? ⟨b, o, none⟩ = w.frozen? ⟨b, o, none⟩ := fun b o hb => World.frozen?_of_block (w := w) (a := ⟨b, o, none⟩) (Below.heap_setCell _ _ _ _ (by simp; omega))
    refine ⟨⟨h.sl.bd, h.sl.len, ?_⟩, ?_⟩
    · rcases h.sl.is with h1 | ⟨b, off, cap, hv, hcp, hcl⟩
      · exact .inl h1
      · refine .inr ⟨b, off, cap, hv, hcp, fun k hk => ?_⟩
        obtain ⟨b', off', e1, e2, _⟩ := h.own _ _ _ hv (by omega)
        cases e1
        rw [hc _ _ e2]
        exact hcl k hk
    · intro ao n cap hv hn
      obtain ⟨b, off, e1, e2, e3⟩ := h.own ao n cap hv hn
      exact ⟨b, off, e1, e2, fun k hk => by rw [hf _ _ e2]; exact e3 k hk⟩
  exact key _ 1 u1 (key _ 0 u0 h)
theorem Sw.after {B g : Nat} {w : World} {v : Value} {ds : List Nat} (h : Sw B w v ds) (hg : g < B) (u0 u1 : Value) (o : Obj) : Sw B (((w.setCell ⟨g, 0, none⟩ u0).setCell ⟨g, 1, none⟩ u1).alloc o) v ds :=
  (h.after2 hg u0 u1).below ((Below.refl _ _).alloc (Nat.le_refl _) _)

theorem heap_three (w : World) (o1 o2 o3 : Obj) : (((w.alloc o1).alloc o2).alloc o3).heap[w.heap.size]? = some o1 ∧ (((w.alloc o1).alloc o2).alloc o3).heap[w.heap.size + 1]? = some o2 ∧ (((w.alloc o1).alloc o2).alloc o3).heap[w.heap.size + 1 + 1]? = some o3 := by
  have h1 := heap_alloc_new w o1
  have h2 := heap_alloc_new (w.alloc o1) o2
  have h3 := heap_alloc_new ((w.alloc o1).alloc o2) o3
  simp only [World.size_alloc] at h2 h3
  refine ⟨?_, ?_, h3⟩
  · rw [Below.heap_alloc _ _ _ (by simp; omega), Below.heap_alloc _ _ _ (by simp)]
    exact h1
  · rw [Below.heap_alloc _ _ _ (by simp)]
    exact h2

theorem box3_new {w W : World} {na nb : Bool} {sa sb : Value} {x y : Nat} (ha : Sl w sa (digs x)) (hb : Sl w sb (digs y))
    (h : Below (w.heap.size + 1 + 1 + 1) (((w.alloc (.cells #[.bool na, sa] 54)).alloc (.cells #[.bool nb, sb] 54)).alloc (.cells #[.bool false, .slice none 0 0] 54)) W) : Box3 W w.heap.size na nb sa sb x y := by
  obtain ⟨h1, h2, h3⟩ := heap_three w (.cells #[.bool na, sa] 54) (.cells #[.bool nb, sb] 54) (.cells #[.bool false, .slice none 0 0] 54)
  rw [← h.block _ (by omega)] at h1 h2 h3
  have hw : Below w.heap.size w W := ((((Below.refl _ w).alloc (Nat.le_refl _) _).alloc (by simp) _).alloc (by simp; omega) _).trans (h.mono (by omega))
  refine ⟨?_, ?_, ?_, ?_, h3, ha.below hw, hb.below hw⟩
  · rw [cell_of_row W _ _ _ _ _ h1]; rfl
  · rw [cell_of_row W _ _ _ _ _ h1]; rfl
  · rw [cell_of_row W _ _ _ _ _ h2]; rfl
  · rw [cell_of_row W _ _ _ _ _ h2]; rfl

/-- times, its result written out. -/
theorem times_at {w : World} {va vb : Value} {x y n : Nat} (ha : Sl w va (digs x)) (hb : Sl w vb (digs y)) (hla : (digs x).length ≤ 256) (hlb : (digs y).length ≤ 256) (hn : (digs (x * y)).length = n) :
    Calls Try.prog 40 #[va, vb] w fun e w' => ∃ ao cap, e = .returned (.slice ao n cap) ∧ Sw w.heap.size w' (.slice ao n cap) (digs (x * y)) ∧ Below w.heap.size w w' := by
  have h := times_any ha hb (by omega) (by omega)
  rw [val_digs, val_digs] at h
  refine h.mono ?_
  rintro e w' ⟨v, rfl, hs, hbl⟩
  obtain ⟨ao, cap, rfl⟩ := hs.sl.mk'
  subst hn
  exact ⟨ao, cap, rfl, hs, hbl⟩

set_option maxRecDepth 10000 in
set_option maxHeartbeats 1000000 in
theorem mul_any {w : World} {x y : Value} {a b : Int} (hx : Nu w x a) (hy : Nu w y b) :
    Calls Try.prog 23 #[x, y] w (NumRes w (a * b)) := by
  obtain ⟨sa, rfl, ha, la⟩ := hx
  obtain ⟨sb, rfl, hb, lb⟩ := hy
  have ra := rightB_digs a la
  have rb := rightB_digs b lb
  obtain ⟨na, hna⟩ : ∃ na, na = decide (a < 0) := ⟨_, rfl⟩
  obtain ⟨nb, hnb⟩ : ∃ nb, nb = decide (b < 0) := ⟨_, rfl⟩
  rw [← hna] at ra ⊢
  rw [← hnb] at rb ⊢
  have HNA := Lib.hid hna
  have HNB := Lib.hid hnb
  clear hna hnb
  have R1 : ∀ W, Sl W sa (digs a.natAbs) → Calls Try.prog 39 #[.agg #[.bool na, sa]] W fun e w' => e = .returned (.bool true) ∧ w' = W.alloc (.cells #[.bool na, sa] 54) := fun W h => by have := right_any na h (by omega); rwa [ra] at this
  have R2 : ∀ W, Sl W sb (digs b.natAbs) → Calls Try.prog 39 #[.agg #[.bool nb, sb]] W fun e w' => e = .returned (.bool true) ∧ w' = W.alloc (.cells #[.bool nb, sb] 54) := fun W h => by have := right_any nb h (by omega); rwa [rb] at this
  have HR1 := Lib.hid R1
  have HR2 := Lib.hid R2
  clear R1 R2 ra rb
  go_enter Try.func23, Try.ntmps23
  go_wp2_with (first | (go_at_call_of 39 (Value.agg #[.bool na, sa]); refine (HR1.out _ (ha.below (by go_grown))).mono ?_; rintro e w' ⟨rfl, rfl⟩) | (go_at_call_of 39 (Value.agg #[.bool nb, sb]); refine (HR2.out _ (hb.below (by go_grown))).mono ?_; rintro e w' ⟨rfl, rfl⟩))
  have HB : Box3 ((((w.alloc (.cells #[.bool na, sa] 54)).alloc (.cells #[.bool nb, sb] 54)).alloc (.cells #[.bool false, .slice none 0 0] 54)).alloc (.cells #[.bool na, sa] 54) |>.alloc (.cells #[.bool nb, sb] 54)) w.heap.size na nb sa sb a.natAbs b.natAbs :=
    box3_new ha hb (by go_grown)
  have HBL : Below w.heap.size w ((((w.alloc (.cells #[.bool na, sa] 54)).alloc (.cells #[.bool nb, sb] 54)).alloc (.cells #[.bool false, .slice none 0 0] 54)).alloc (.cells #[.bool na, sa] 54) |>.alloc (.cells #[.bool nb, sb] 54)) := by go_grown
  revert HB HBL
  generalize ((((w.alloc (.cells #[.bool na, sa] 54)).alloc (.cells #[.bool nb, sb] 54)).alloc (.cells #[.bool false, .slice none 0 0] 54)).alloc (.cells #[.bool na, sa] 54) |>.alloc (.cells #[.bool nb, sb] 54)) = W
  intro HB HBL
  obtain ⟨n, hn⟩ : ∃ n, n = (digs (a.natAbs * b.natAbs)).length := ⟨_, rfl⟩
  have HN := Lib.hid hn
  clear hn
  have a0 := HB.a0
  have a1 := HB.a1
  have b0 := HB.b0
  have b1 := HB.b1
  go_region_held3 (fun w' => w'.cell? ⟨w.heap.size, 0, none⟩ = some (.bool na) ∧ w'.cell? ⟨w.heap.size, 1, none⟩ = some sa ∧ w'.cell? ⟨w.heap.size + 1, 0, none⟩ = some (.bool nb) ∧ w'.cell? ⟨w.heap.size + 1, 1, none⟩ = some sb)
      (first | (exact HB.keep (by go_grown)) | (exact HB.keep (hbw.alloc hbw0 _)) | (exact HB.keep ((hbw.alloc hbw0 _).setCell (by simp) _)))
      ((first | (go_at_call 40; refine (times_at (HB.below (by go_grown)).sa (HB.below (by go_grown)).sb la lb HN.out.symm).mono ?_; rintro e w1 ⟨ao, cap, rfl, hs1, hb1⟩; have hb1' : Below W.heap.size W w1 := Below.trans (by go_grown) hb1; have HB1 := HB.below hb1'; obtain ⟨r0, r1, f0, f1⟩ := HB1.cells; have hz := HB1.lt; have hbw := hb1'.mono (Nat.le_of_lt HB.lt); have hbw0 := Nat.le_of_lt hz) | (go_at_call 37; refine (made_any _ _ _ _ _).mono ?_; rintro e w2 ⟨rfl, rfl⟩)))
  have HHs := Lib.hid hs1
  clear hs1
  have hfin : Below w.heap.size w (((w1.setCell ⟨w.heap.size + 1 + 1, 0, none⟩ (.bool (mkN (!(na == nb)) n))).setCell ⟨w.heap.size + 1 + 1, 1, none⟩ (.slice (mkA ao n) (mkL n) (mkC n cap))).alloc (.cells #[.bool (mkN (!(na == nb)) n), .slice (mkA ao n) (mkL n) (mkC n cap)] 54)) :=
    (((HBL.trans (hb1'.mono (by have := HB.lt; omega))).setCell (by simp; omega) _).setCell (by simp; omega) _).alloc (by simp; omega) _
  obtain ⟨q0, q1⟩ := res_cells HB1.r (.bool (mkN (!(na == nb)) n)) (.slice (mkA ao n) (mkL n) (mkC n cap)) (.cells #[.bool (mkN (!(na == nb)) n), .slice (mkA ao n) (mkL n) (mkC n cap)] 54)
  have hsw := HHs.out.after (g := w.heap.size + 1 + 1) HB.lt (.bool (mkN (!(na == nb)) n)) (.slice (mkA ao n) (mkL n) (mkC n cap)) (.cells #[.bool (mkN (!(na == nb)) n), .slice (mkA ao n) (mkL n) (mkC n cap)] 54)
  revert q0 q1 hfin hsw
  generalize (((w1.setCell ⟨w.heap.size + 1 + 1, 0, none⟩ (.bool (mkN (!(na == nb)) n))).setCell ⟨w.heap.size + 1 + 1, 1, none⟩ (.slice (mkA ao n) (mkL n) (mkC n cap))).alloc (.cells #[.bool (mkN (!(na == nb)) n), .slice (mkA ao n) (mkL n) (mkC n cap)] 54)) = W3
  intro hfin q0 q1 hsw
  have HSW := Lib.hid hsw
  clear hsw
  go_wp2
  refine bodyPost_ret (v := .tuple #[.agg #[.bool (mkN (!(na == nb)) n), .slice (mkA ao n) (mkL n) (mkC n cap)], .bool (mkK n)]) (by simp [results, Try.results23, go_sem, q0, q1]) rfl ?_
  have hab : (a * b).natAbs = a.natAbs * b.natAbs := Int.natAbs_mul a b
  refine numRes_made hfin (by rw [hab]; exact HN.out) (fun hz => ?_) (fun _ => by rw [hab]; exact HSW.out.mono (by simp; exact HBL.size))
  rw [HNA.out, HNB.out]
  exact sign_mul hz

end Go.Proofs.Ytjlneggfkpjnpaa.Nums

namespace Go.Proofs.Ytjlneggfkpjnpaa.Nums
open Go.RowKit

end Go.Proofs.Ytjlneggfkpjnpaa.Nums

namespace Go.Proofs.Ytjlneggfkpjnpaa.Nums
open Go.RowKit

theorem Nu.below {w w' : World} {x : Value} {z : Int} (h : Nu w x z) (hb : Below w.heap.size w w') : Nu w' x z := by
  obtain ⟨s, e, h1, h2⟩ := h
  exact ⟨s, e, h1.below hb, h2⟩

theorem Nu.neg {w : World} {s : Value} {z : Int} (h : Sl w s (digs z.natAbs)) (hl : (digs z.natAbs).length ≤ 256) (hz : z ≠ 0) : Nu w (.agg #[.bool (!(decide (z < 0))), s]) (-z) := by
  refine ⟨s, ?_, by rw [Int.natAbs_neg]; exact h, by rw [Int.natAbs_neg]; exact hl⟩
  congr 3
  by_cases h : z < 0
  · simp [h]; omega
  · simp [h]; omega

/-- A box for a result. -/
def ResBox (W : World) (g : Nat) : Prop := W.heap[g]? = some (.cells #[.bool false, .slice none 0 0] 54 (0, 0))
theorem ResBox.lt {W : World} {g : Nat} (h : ResBox W g) : g < W.heap.size := (Array.getElem?_eq_some_iff.1 h).1
theorem ResBox.below {W W' : World} {g : Nat} (h : ResBox W g) (hb : Below W.heap.size W W') : ResBox W' g := (hb.block _ h.lt).trans h
theorem ResBox.cells {W : World} {g : Nat} (h : ResBox W g) :
    W.cell? ⟨g, 0, none⟩ = some (.bool false) ∧ W.cell? ⟨g, 1, none⟩ = some (.slice none 0 0) ∧ W.frozen? ⟨g, 0, none⟩ = false ∧ W.frozen? ⟨g, 1, none⟩ = false := by
  refine ⟨?_, ?_, frozen_of_row W _ _ _ _ h, frozen_of_row W _ _ _ _ h⟩ <;> rw [cell_of_row W _ _ _ _ _ h] <;> rfl
theorem ResBox.stored {w1 : World} {g : Nat} (h : ResBox w1 g) (u0 u1 : Value) :
    ((w1.setCell ⟨g, 0, none⟩ u0).setCell ⟨g, 1, none⟩ u1).cell? ⟨g, 0, none⟩ = some u0 ∧ ((w1.setCell ⟨g, 0, none⟩ u0).setCell ⟨g, 1, none⟩ u1).cell? ⟨g, 1, none⟩ = some u1 := by
  have h1 := heap_setCell_same w1 g 0 _ 54 u0 h
  have h2 := heap_setCell_same _ g 1 _ 54 u1 h1
  constructor <;> rw [cell_of_row _ _ _ _ _ _ h2] <;> rfl

/-- What a call returned, handed on through a box of an older number. -/
theorem NumRes.handed {w W W1 : World} {z : Int} {neg : Bool} {ao : Option Addr} {n cap g : Nat} (hB : Below w.heap.size w W) (hb : Below W.heap.size W W1) (hg : w.heap.size ≤ g) (hgW : g < W.heap.size)
    (h1 : fitsB z.natAbs = true → neg = decide (z < 0) ∧ Sw W.heap.size W1 (.slice ao n cap) (digs z.natAbs)) (h2 : fitsB z.natAbs = false → neg = false ∧ ao = none ∧ n = 0 ∧ cap = 0) (u0 u1 : Value) :
    NumRes w z (.returned (.tuple #[.agg #[.bool neg, .slice ao n cap], .bool (fitsB z.natAbs)])) ((W1.setCell ⟨g, 0, none⟩ u0).setCell ⟨g, 1, none⟩ u1) := by
  refine ⟨_, _, _, _, rfl, ((hB.trans (hb.mono hB.size)).setCell (by simpa using hg) _).setCell (by simpa using hg) _, fun hf => ?_, h2⟩
  obtain ⟨e1, e2⟩ := h1 hf
  refine ⟨e1, ?_⟩
  have := (e2.after2 hgW u0 u1).mono hB.size
  exact this

end Go.Proofs.Ytjlneggfkpjnpaa.Nums

namespace Go.Proofs.Ytjlneggfkpjnpaa.Nums
open Go.RowKit

/-- A Num of the integer z in new memory. -/
def NewNum (w : World) (z : Int) (e : Ending) (w' : World) : Prop :=
  ∃ neg ao n cap, e = .returned (.agg #[.bool neg, .slice ao n cap]) ∧ Below w.heap.size w w' ∧ neg = decide (z < 0) ∧ Sw w.heap.size w' (.slice ao n cap) (digs z.natAbs)

theorem digitsOf_at {x n : Nat} (w : World) (hx : x / 4294967296 < 4294967296) (hn : (digs x).length = n) :
    Calls Try.prog 38 #[.int .u64 x] w fun e w' => ∃ ao cap, e = .returned (.slice ao n cap) ∧ Sw w.heap.size w' (.slice ao n cap) (digs x) ∧ Below w.heap.size w w' := by
  refine (digitsOf_any x w hx).mono ?_
  rintro e w' ⟨v, rfl, hs, hbl⟩
  obtain ⟨ao, cap, rfl⟩ := hs.sl.mk'
  subst hn
  exact ⟨ao, cap, rfl, hs, hbl⟩

theorem digs_word {x : Nat} (hx : x / 4294967296 < 4294967296) : (digs x).length ≤ 2 := digs_length_le.2 (by rw [show (4294967296 : Nat) ^ 2 = 4294967296 * 4294967296 from rfl]; omega)

theorem mk_ok {B : Nat} {W : World} {z : Int} {neg : Bool} {ao : Option Addr} {n cap : Nat} (hn : n = (digs z.natAbs).length) (hle : n ≤ 256) (hneg : z ≠ 0 → neg = decide (z < 0)) (hs : n ≠ 0 → Sw B W (.slice ao n cap) (digs z.natAbs)) :
    mkN neg n = decide (z < 0) ∧ Sw B W (.slice (mkA ao n) (mkL n) (mkC n cap)) (digs z.natAbs) := by
  by_cases h0 : n = 0
  · have hz : z = 0 := by
      have : digs z.natAbs = [] := List.eq_nil_of_length_eq_zero (by omega)
      have : z.natAbs = 0 := digs_inj (by rw [this, digs_zero])
      omega
    subst hz
    have hn' : ¬ (n ≤ 256 ∧ n ≠ 0) := by omega
    unfold mkN mkA mkL mkC
    rw [if_neg hn', if_neg hn', if_neg hn', if_neg hn']
    exact ⟨rfl, by rw [show digs (Int.natAbs 0) = [] from digs_zero]; exact Sw.nil _ _ _ _⟩
  · have hn' : n ≤ 256 ∧ n ≠ 0 := ⟨hle, h0⟩
    unfold mkN mkA mkL mkC
    rw [if_pos hn', if_pos hn', if_pos hn', if_pos hn']
    refine ⟨hneg ?_, hs h0⟩
    intro hz
    subst hz
    apply h0
    rw [hn]
    show (digs 0).length = 0
    rw [digs_zero]; rfl

theorem resbox_new (w : World) : ResBox (w.alloc (.cells #[.bool false, .slice none 0 0] 54)) w.heap.size := heap_alloc_new w _

set_option maxRecDepth 10000 in
set_option maxHeartbeats 1000000 in
theorem of_nonneg (m : Nat) (w : World) (hm : m / 4294967296 < 2147483648) : Calls Try.prog 22 #[.int .i64 (m)] w (NewNum w (m)) := by
  have hl := digs_word (x := m) (by omega)
  have hd := fun W => digitsOf_at (x := m) W (by omega) rfl
  obtain ⟨n, hn⟩ : ∃ n, n = (digs m).length := ⟨_, rfl⟩
  rw [← hn] at hl hd
  have HD := Lib.hid hd
  have HN := Lib.hid hn
  clear hd hn
  go_enter Try.func22, Try.ntmps22
  go_wp2_with (first | (go_at_call 38; refine (HD.out _).mono ?_; rintro e w1 ⟨ao, cap, rfl, hs1, hb1⟩; have hr1 := (resbox_new w).below hb1; obtain ⟨r0, r1, f0, f1⟩ := hr1.cells; have hz := hr1.lt; have HHs := Lib.hid hs1; clear hs1) | (go_at_call 37; refine (made_any _ _ _ _ _).mono ?_; rintro e w2 ⟨rfl, rfl⟩))
  have hst : Below ((w1.setCell ⟨w.heap.size, 0, none⟩ (.bool (mkN (decide ((m : Int) < 0)) n))).setCell ⟨w.heap.size, 1, none⟩ (.slice (mkA ao n) (mkL n) (mkC n cap))).heap.size ((w1.setCell ⟨w.heap.size, 0, none⟩ (.bool (mkN (decide ((m : Int) < 0)) n))).setCell ⟨w.heap.size, 1, none⟩ (.slice (mkA ao n) (mkL n) (mkC n cap))) ((((w1.setCell ⟨w.heap.size, 0, none⟩ (.bool (mkN (decide ((m : Int) < 0)) n))).setCell ⟨w.heap.size, 1, none⟩ (.slice (mkA ao n) (mkL n) (mkC n cap))).alloc (.cells #[.bool (mkN (decide ((m : Int) < 0)) n), .slice (mkA ao n) (mkL n) (mkC n cap)] 54)).alloc (.cells #[.bool (mkN (decide ((m : Int) < 0)) n), .slice (mkA ao n) (mkL n) (mkC n cap)] 54)) := ((Below.refl _ _).alloc (Nat.le_refl _) _).alloc (by simp) _
  obtain ⟨q0, q1⟩ := hr1.stored (.bool (mkN (decide ((m : Int) < 0)) n)) (.slice (mkA ao n) (mkL n) (mkC n cap))
  replace q0 := cell_later hst q0
  replace q1 := cell_later hst q1
  have hb2 : Below w.heap.size w ((((w1.setCell ⟨w.heap.size, 0, none⟩ (.bool (mkN (decide ((m : Int) < 0)) n))).setCell ⟨w.heap.size, 1, none⟩ (.slice (mkA ao n) (mkL n) (mkC n cap))).alloc (.cells #[.bool (mkN (decide ((m : Int) < 0)) n), .slice (mkA ao n) (mkL n) (mkC n cap)] 54)).alloc (.cells #[.bool (mkN (decide ((m : Int) < 0)) n), .slice (mkA ao n) (mkL n) (mkC n cap)] 54)) := (((((Below.refl w.heap.size w).alloc (Nat.le_refl _) _).trans (hb1.mono (by simp))).setCell (by simp) _).setCell (by simp) _).trans (hst.mono (by simp; omega))
  have hsw : Sw w.heap.size ((((w1.setCell ⟨w.heap.size, 0, none⟩ (.bool (mkN (decide ((m : Int) < 0)) n))).setCell ⟨w.heap.size, 1, none⟩ (.slice (mkA ao n) (mkL n) (mkC n cap))).alloc (.cells #[.bool (mkN (decide ((m : Int) < 0)) n), .slice (mkA ao n) (mkL n) (mkC n cap)] 54)).alloc (.cells #[.bool (mkN (decide ((m : Int) < 0)) n), .slice (mkA ao n) (mkL n) (mkC n cap)] 54)) (.slice ao n cap) (digs m) := ((HHs.out.after2 (g := w.heap.size) (by simp) (.bool (mkN (decide ((m : Int) < 0)) n)) (.slice (mkA ao n) (mkL n) (mkC n cap))).below hst).mono (by simp)
  revert q0 q1 hb2 hsw
  clear hst
  generalize (((w1.setCell ⟨w.heap.size, 0, none⟩ (.bool (mkN (decide ((m : Int) < 0)) n))).setCell ⟨w.heap.size, 1, none⟩ (.slice (mkA ao n) (mkL n) (mkC n cap))).alloc (.cells #[.bool (mkN (decide ((m : Int) < 0)) n), .slice (mkA ao n) (mkL n) (mkC n cap)] 54)).alloc (.cells #[.bool (mkN (decide ((m : Int) < 0)) n), .slice (mkA ao n) (mkL n) (mkC n cap)] 54) = W3
  intro q0 q1 hb2 hsw
  have hmk := mk_ok (B := w.heap.size) (W := W3) (n := n) (ao := ao) (cap := cap) (z := m) (neg := (decide ((m : Int) < 0))) (by rw [Int.natAbs_natCast]; exact HN.out) (by omega) (by simp) (fun _ => by rw [Int.natAbs_natCast]; exact hsw)
  refine bodyPost_ret (v := .agg #[.bool (mkN (decide ((m : Int) < 0)) n), .slice (mkA ao n) (mkL n) (mkC n cap)]) (by simp [results, Try.results22, go_sem, q0, q1]) rfl ?_
  exact ⟨_, _, _, _, rfl, hb2, hmk.1, hmk.2⟩

set_option maxRecDepth 10000 in
set_option maxHeartbeats 1000000 in
theorem of_neg (m : Nat) (w : World) (hm : m / 4294967296 < 2147483648 ∨ m = 9223372036854775808) (h0 : m ≠ 0) : Calls Try.prog 22 #[.int .i64 (-(m : Int))] w (NewNum w (-(m : Int))) := by
  have hl := digs_word (x := m) (by omega)
  have hd := fun W => digitsOf_at (x := m) W (by omega) rfl
  obtain ⟨n, hn⟩ : ∃ n, n = (digs m).length := ⟨_, rfl⟩
  rw [← hn] at hl hd
  have HD := Lib.hid hd
  have HN := Lib.hid hn
  clear hd hn
  obtain ⟨U, hU⟩ : ∃ U, U = IntKind.u64.wrap (-(m : Int)) := ⟨_, rfl⟩
  have hU2 : IntKind.u64.wrap (-U) = m := by rw [hU]; simp only [IntKind.wrap_u64]; omega
  have hlt : -(m : Int) < 0 := by omega
  replace hU := hU.symm
  have HM := Lib.hid hm
  clear hm
  go_enter Try.func22, Try.ntmps22
  go_wp2_with (first | (go_at_call 38; refine (HD.out _).mono ?_; rintro e w1 ⟨ao, cap, rfl, hs1, hb1⟩; have hr1 := (resbox_new w).below hb1; obtain ⟨r0, r1, f0, f1⟩ := hr1.cells; have hz := hr1.lt; have HHs := Lib.hid hs1; clear hs1) | (go_at_call 37; refine (made_any _ _ _ _ _).mono ?_; rintro e w2 ⟨rfl, rfl⟩))
  have hst : Below ((w1.setCell ⟨w.heap.size, 0, none⟩ (.bool (mkN true n))).setCell ⟨w.heap.size, 1, none⟩ (.slice (mkA ao n) (mkL n) (mkC n cap))).heap.size ((w1.setCell ⟨w.heap.size, 0, none⟩ (.bool (mkN true n))).setCell ⟨w.heap.size, 1, none⟩ (.slice (mkA ao n) (mkL n) (mkC n cap))) ((((w1.setCell ⟨w.heap.size, 0, none⟩ (.bool (mkN true n))).setCell ⟨w.heap.size, 1, none⟩ (.slice (mkA ao n) (mkL n) (mkC n cap))).alloc (.cells #[.bool (mkN true n), .slice (mkA ao n) (mkL n) (mkC n cap)] 54)).alloc (.cells #[.bool (mkN true n), .slice (mkA ao n) (mkL n) (mkC n cap)] 54)) := ((Below.refl _ _).alloc (Nat.le_refl _) _).alloc (by simp) _
  obtain ⟨q0, q1⟩ := hr1.stored (.bool (mkN true n)) (.slice (mkA ao n) (mkL n) (mkC n cap))
  replace q0 := cell_later hst q0
  replace q1 := cell_later hst q1
  have hb2 : Below w.heap.size w ((((w1.setCell ⟨w.heap.size, 0, none⟩ (.bool (mkN true n))).setCell ⟨w.heap.size, 1, none⟩ (.slice (mkA ao n) (mkL n) (mkC n cap))).alloc (.cells #[.bool (mkN true n), .slice (mkA ao n) (mkL n) (mkC n cap)] 54)).alloc (.cells #[.bool (mkN true n), .slice (mkA ao n) (mkL n) (mkC n cap)] 54)) := (((((Below.refl w.heap.size w).alloc (Nat.le_refl _) _).trans (hb1.mono (by simp))).setCell (by simp) _).setCell (by simp) _).trans (hst.mono (by simp; omega))
  have hsw : Sw w.heap.size ((((w1.setCell ⟨w.heap.size, 0, none⟩ (.bool (mkN true n))).setCell ⟨w.heap.size, 1, none⟩ (.slice (mkA ao n) (mkL n) (mkC n cap))).alloc (.cells #[.bool (mkN true n), .slice (mkA ao n) (mkL n) (mkC n cap)] 54)).alloc (.cells #[.bool (mkN true n), .slice (mkA ao n) (mkL n) (mkC n cap)] 54)) (.slice ao n cap) (digs m) := ((HHs.out.after2 (g := w.heap.size) (by simp) (.bool (mkN true n)) (.slice (mkA ao n) (mkL n) (mkC n cap))).below hst).mono (by simp)
  revert q0 q1 hb2 hsw
  clear hst
  generalize (((w1.setCell ⟨w.heap.size, 0, none⟩ (.bool (mkN true n))).setCell ⟨w.heap.size, 1, none⟩ (.slice (mkA ao n) (mkL n) (mkC n cap))).alloc (.cells #[.bool (mkN true n), .slice (mkA ao n) (mkL n) (mkC n cap)] 54)).alloc (.cells #[.bool (mkN true n), .slice (mkA ao n) (mkL n) (mkC n cap)] 54) = W3
  intro q0 q1 hb2 hsw
  have hmk := mk_ok (B := w.heap.size) (W := W3) (n := n) (ao := ao) (cap := cap) (z := -(m : Int)) (neg := true) (by rw [Int.natAbs_neg, Int.natAbs_natCast]; exact HN.out) (by omega) (by intro _; simp; omega) (fun _ => by rw [Int.natAbs_neg, Int.natAbs_natCast]; exact hsw)
  refine bodyPost_ret (v := .agg #[.bool (mkN true n), .slice (mkA ao n) (mkL n) (mkC n cap)]) (by simp [results, Try.results22, go_sem, q0, q1]) rfl ?_
  exact ⟨_, _, _, _, rfl, hb2, hmk.1, hmk.2⟩

end Go.Proofs.Ytjlneggfkpjnpaa.Nums

namespace Go.Proofs.Ytjlneggfkpjnpaa.Nums
open Go.RowKit

theorem of_any (n : Int) (w : World) (h1 : -9223372036854775808 ≤ n) (h2 : n ≤ 9223372036854775807) : Calls Try.prog 22 #[.int .i64 n] w (NewNum w n) := by
  by_cases h : 0 ≤ n
  · obtain ⟨m, rfl⟩ : ∃ m : Nat, n = m := ⟨n.toNat, by omega⟩
    exact of_nonneg m w (by omega)
  · obtain ⟨m, rfl⟩ : ∃ m : Nat, n = -(m : Int) := ⟨(-n).toNat, by omega⟩
    exact of_neg m w (by omega) (by omega)

theorem NewNum.nu {w w' : World} {z : Int} {e : Ending} (h : NewNum w z e w') (hl : (digs z.natAbs).length ≤ 256) : ∃ x, e = .returned x ∧ Nu w' x z ∧ Below w.heap.size w w' := by
  obtain ⟨neg, ao, n, cap, rfl, hb, rfl, hs⟩ := h
  exact ⟨_, rfl, ⟨_, rfl, hs.sl, hl⟩, hb⟩

theorem rightB_of (neg : Bool) (x : Nat) (h : neg = true → x ≠ 0) (hl : (digs x).length ≤ 256) : rightB neg (digs x) = true := by
  cases neg with
  | false =>
    have := rightB_digs (x : Int) (by simpa using hl)
    have e : decide ((x : Int) < 0) = false := decide_eq_false (by omega)
    rw [e] at this
    simpa using this
  | true =>
    have := rightB_digs (-(x : Int)) (by simpa using hl)
    have e : decide (-(x : Int) < 0) = true := by have := h rfl; simp; omega
    rw [e] at this
    simpa using this

theorem lss_big (x : Nat) (h : x < 9223372036854775808) : binOp BinOp.lss 71 (.int .u64 (x : Int)) (.int .u64 9223372036854775808) = (pure (.bool true) : Sem Value) := by
  have h' : decide ((x : Int) < 9223372036854775808) = true := decide_eq_true (by omega)
  have e : binOp BinOp.lss 71 (.int .u64 (x : Int)) (.int .u64 9223372036854775808) = (pure (.bool (decide ((x : Int) < 9223372036854775808))) : Sem Value) := rfl
  rw [e, h']
theorem lss_big' (x : Nat) (h : 9223372036854775808 ≤ x) : binOp BinOp.lss 71 (.int .u64 (x : Int)) (.int .u64 9223372036854775808) = (pure (.bool false) : Sem Value) := by
  have h' : decide ((x : Int) < 9223372036854775808) = false := decide_eq_false (by omega)
  have e : binOp BinOp.lss 71 (.int .u64 (x : Int)) (.int .u64 9223372036854775808) = (pure (.bool (decide ((x : Int) < 9223372036854775808))) : Sem Value) := rfl
  rw [e, h']

def IntRes (w : World) (z : Int) (ok : Bool) (e : Ending) (w' : World) : Prop := e = .returned (.tuple #[.int .i64 z, .bool ok]) ∧ Below w.heap.size w w'

end Go.Proofs.Ytjlneggfkpjnpaa.Nums

namespace Go.Proofs.Ytjlneggfkpjnpaa.Nums
open Go.RowKit

/-- Less, equal, greater, of integers. -/
def cmpZ (a b : Int) : Int := if a < b then -1 else if a = b then 0 else 1

set_option maxRecDepth 10000 in
set_option maxHeartbeats 1000000 in
theorem cmp_pp {w : World} {x y : Value} {a b : Int} (hx : Nu w x a) (hy : Nu w y b) (h1 : 0 ≤ a) (h2 : 0 ≤ b) :
    Calls Try.prog 26 #[x, y] w fun e w' => e = .returned (.int .i64 (cmpZ a b)) ∧ Below w.heap.size w w' := by
  have hz : cmpZ a b = cmpN a.natAbs b.natAbs := by
    unfold cmpZ
    try unfold cmpN
    repeat' split
    all_goals omega
  rw [hz]
  have ea : decide (a < 0) = false := by simp; omega
  have eb : decide (b < 0) = false := by simp; omega
  clear hz
  obtain ⟨sa, rfl, ha, la⟩ := hx
  obtain ⟨sb, rfl, hb, lb⟩ := hy
  have ra := rightB_digs a la
  have rb := rightB_digs b lb
  obtain ⟨na, hna⟩ : ∃ na, na = decide (a < 0) := ⟨_, rfl⟩
  obtain ⟨nb, hnb⟩ : ∃ nb, nb = decide (b < 0) := ⟨_, rfl⟩
  rw [← hna] at ra ⊢
  rw [← hnb] at rb ⊢
  have HNA := Lib.hid hna
  have HNB := Lib.hid hnb
  clear hna hnb
  have R1 : ∀ W, Sl W sa (digs a.natAbs) → Calls Try.prog 39 #[.agg #[.bool na, sa]] W fun e w' => e = .returned (.bool true) ∧ w' = W.alloc (.cells #[.bool na, sa] 54) := fun W h => by have := right_any na h (by omega); rwa [ra] at this
  have R2 : ∀ W, Sl W sb (digs b.natAbs) → Calls Try.prog 39 #[.agg #[.bool nb, sb]] W fun e w' => e = .returned (.bool true) ∧ w' = W.alloc (.cells #[.bool nb, sb] 54) := fun W h => by have := right_any nb h (by omega); rwa [rb] at this
  have HR1 := Lib.hid R1
  have HR2 := Lib.hid R2
  clear R1 R2 ra rb
  obtain rfl : na = false := by rw [HNA.out, ea]
  obtain rfl : nb = false := by rw [HNB.out, eb]
  clear ea eb
  go_enter Try.func26, Try.ntmps26
  go_wp2_with (first | (go_at_call_of 39 (Value.agg #[.bool false, sa]); refine (HR1.out _ (ha.below (by go_grown))).mono ?_; rintro e w' ⟨rfl, rfl⟩) | (go_at_call_of 39 (Value.agg #[.bool false, sb]); refine (HR2.out _ (hb.below (by go_grown))).mono ?_; rintro e w' ⟨rfl, rfl⟩) | (go_at_call 41; refine (compare_any (ha.below (by go_grown)) (hb.below (by go_grown)) (by omega) (by omega)).mono ?_; rintro e W5 ⟨rfl, hbW⟩; have hbW' : Below w.heap.size w W5 := Below.trans (by go_grown) (hbW.mono (by simp; omega))))
  go_returns
  exact ⟨rfl, by go_grown⟩

set_option maxRecDepth 10000 in
set_option maxHeartbeats 1000000 in
theorem cmp_nn {w : World} {x y : Value} {a b : Int} (hx : Nu w x a) (hy : Nu w y b) (h1 : a < 0) (h2 : b < 0) :
    Calls Try.prog 26 #[x, y] w fun e w' => e = .returned (.int .i64 (cmpZ a b)) ∧ Below w.heap.size w w' := by
  have hz : cmpZ a b = cmpN b.natAbs a.natAbs := by
    unfold cmpZ
    try unfold cmpN
    repeat' split
    all_goals omega
  rw [hz]
  have ea : decide (a < 0) = true := by simp; omega
  have eb : decide (b < 0) = true := by simp; omega
  clear hz
  obtain ⟨sa, rfl, ha, la⟩ := hx
  obtain ⟨sb, rfl, hb, lb⟩ := hy
  have ra := rightB_digs a la
  have rb := rightB_digs b lb
  obtain ⟨na, hna⟩ : ∃ na, na = decide (a < 0) := ⟨_, rfl⟩
  obtain ⟨nb, hnb⟩ : ∃ nb, nb = decide (b < 0) := ⟨_, rfl⟩
  rw [← hna] at ra ⊢
  rw [← hnb] at rb ⊢
  have HNA := Lib.hid hna
  have HNB := Lib.hid hnb
  clear hna hnb
  have R1 : ∀ W, Sl W sa (digs a.natAbs) → Calls Try.prog 39 #[.agg #[.bool na, sa]] W fun e w' => e = .returned (.bool true) ∧ w' = W.alloc (.cells #[.bool na, sa] 54) := fun W h => by have := right_any na h (by omega); rwa [ra] at this
  have R2 : ∀ W, Sl W sb (digs b.natAbs) → Calls Try.prog 39 #[.agg #[.bool nb, sb]] W fun e w' => e = .returned (.bool true) ∧ w' = W.alloc (.cells #[.bool nb, sb] 54) := fun W h => by have := right_any nb h (by omega); rwa [rb] at this
  have HR1 := Lib.hid R1
  have HR2 := Lib.hid R2
  clear R1 R2 ra rb
  obtain rfl : na = true := by rw [HNA.out, ea]
  obtain rfl : nb = true := by rw [HNB.out, eb]
  clear ea eb
  go_enter Try.func26, Try.ntmps26
  go_wp2_with (first | (go_at_call_of 39 (Value.agg #[.bool true, sa]); refine (HR1.out _ (ha.below (by go_grown))).mono ?_; rintro e w' ⟨rfl, rfl⟩) | (go_at_call_of 39 (Value.agg #[.bool true, sb]); refine (HR2.out _ (hb.below (by go_grown))).mono ?_; rintro e w' ⟨rfl, rfl⟩) | (go_at_call 41; refine (compare_any (hb.below (by go_grown)) (ha.below (by go_grown)) (by omega) (by omega)).mono ?_; rintro e W5 ⟨rfl, hbW⟩; have hbW' : Below w.heap.size w W5 := Below.trans (by go_grown) (hbW.mono (by simp; omega))))
  go_returns
  exact ⟨rfl, by go_grown⟩

set_option maxRecDepth 10000 in
set_option maxHeartbeats 1000000 in
theorem cmp_np {w : World} {x y : Value} {a b : Int} (hx : Nu w x a) (hy : Nu w y b) (h1 : a < 0) (h2 : 0 ≤ b) :
    Calls Try.prog 26 #[x, y] w fun e w' => e = .returned (.int .i64 (cmpZ a b)) ∧ Below w.heap.size w w' := by
  have hz : cmpZ a b = -1 := by
    unfold cmpZ
    try unfold cmpN
    repeat' split
    all_goals omega
  rw [hz]
  have ea : decide (a < 0) = true := by simp; omega
  have eb : decide (b < 0) = false := by simp; omega
  clear hz
  obtain ⟨sa, rfl, ha, la⟩ := hx
  obtain ⟨sb, rfl, hb, lb⟩ := hy
  have ra := rightB_digs a la
  have rb := rightB_digs b lb
  obtain ⟨na, hna⟩ : ∃ na, na = decide (a < 0) := ⟨_, rfl⟩
  obtain ⟨nb, hnb⟩ : ∃ nb, nb = decide (b < 0) := ⟨_, rfl⟩
  rw [← hna] at ra ⊢
  rw [← hnb] at rb ⊢
  have HNA := Lib.hid hna
  have HNB := Lib.hid hnb
  clear hna hnb
  have R1 : ∀ W, Sl W sa (digs a.natAbs) → Calls Try.prog 39 #[.agg #[.bool na, sa]] W fun e w' => e = .returned (.bool true) ∧ w' = W.alloc (.cells #[.bool na, sa] 54) := fun W h => by have := right_any na h (by omega); rwa [ra] at this
  have R2 : ∀ W, Sl W sb (digs b.natAbs) → Calls Try.prog 39 #[.agg #[.bool nb, sb]] W fun e w' => e = .returned (.bool true) ∧ w' = W.alloc (.cells #[.bool nb, sb] 54) := fun W h => by have := right_any nb h (by omega); rwa [rb] at this
  have HR1 := Lib.hid R1
  have HR2 := Lib.hid R2
  clear R1 R2 ra rb
  obtain rfl : na = true := by rw [HNA.out, ea]
  obtain rfl : nb = false := by rw [HNB.out, eb]
  clear ea eb
  go_enter Try.func26, Try.ntmps26
  go_wp2_with (first | (go_at_call_of 39 (Value.agg #[.bool true, sa]); refine (HR1.out _ (ha.below (by go_grown))).mono ?_; rintro e w' ⟨rfl, rfl⟩) | (go_at_call_of 39 (Value.agg #[.bool false, sb]); refine (HR2.out _ (hb.below (by go_grown))).mono ?_; rintro e w' ⟨rfl, rfl⟩))
  go_returns
  exact ⟨rfl, by go_grown⟩

set_option maxRecDepth 10000 in
set_option maxHeartbeats 1000000 in
theorem cmp_pn {w : World} {x y : Value} {a b : Int} (hx : Nu w x a) (hy : Nu w y b) (h1 : 0 ≤ a) (h2 : b < 0) :
    Calls Try.prog 26 #[x, y] w fun e w' => e = .returned (.int .i64 (cmpZ a b)) ∧ Below w.heap.size w w' := by
  have hz : cmpZ a b = 1 := by
    unfold cmpZ
    try unfold cmpN
    repeat' split
    all_goals omega
  rw [hz]
  have ea : decide (a < 0) = false := by simp; omega
  have eb : decide (b < 0) = true := by simp; omega
  clear hz
  obtain ⟨sa, rfl, ha, la⟩ := hx
  obtain ⟨sb, rfl, hb, lb⟩ := hy
  have ra := rightB_digs a la
  have rb := rightB_digs b lb
  obtain ⟨na, hna⟩ : ∃ na, na = decide (a < 0) := ⟨_, rfl⟩
  obtain ⟨nb, hnb⟩ : ∃ nb, nb = decide (b < 0) := ⟨_, rfl⟩
  rw [← hna] at ra ⊢
  rw [← hnb] at rb ⊢
  have HNA := Lib.hid hna
  have HNB := Lib.hid hnb
  clear hna hnb
  have R1 : ∀ W, Sl W sa (digs a.natAbs) → Calls Try.prog 39 #[.agg #[.bool na, sa]] W fun e w' => e = .returned (.bool true) ∧ w' = W.alloc (.cells #[.bool na, sa] 54) := fun W h => by have := right_any na h (by omega); rwa [ra] at this
  have R2 : ∀ W, Sl W sb (digs b.natAbs) → Calls Try.prog 39 #[.agg #[.bool nb, sb]] W fun e w' => e = .returned (.bool true) ∧ w' = W.alloc (.cells #[.bool nb, sb] 54) := fun W h => by have := right_any nb h (by omega); rwa [rb] at this
  have HR1 := Lib.hid R1
  have HR2 := Lib.hid R2
  clear R1 R2 ra rb
  obtain rfl : na = false := by rw [HNA.out, ea]
  obtain rfl : nb = true := by rw [HNB.out, eb]
  clear ea eb
  go_enter Try.func26, Try.ntmps26
  go_wp2_with (first | (go_at_call_of 39 (Value.agg #[.bool false, sa]); refine (HR1.out _ (ha.below (by go_grown))).mono ?_; rintro e w' ⟨rfl, rfl⟩) | (go_at_call_of 39 (Value.agg #[.bool true, sb]); refine (HR2.out _ (hb.below (by go_grown))).mono ?_; rintro e w' ⟨rfl, rfl⟩))
  go_returns
  exact ⟨rfl, by go_grown⟩

/-- num.Cmp of right numbers. -/
theorem cmp_any {w : World} {x y : Value} {a b : Int} (hx : Nu w x a) (hy : Nu w y b) : Calls Try.prog 26 #[x, y] w fun e w' => e = .returned (.int .i64 (cmpZ a b)) ∧ Below w.heap.size w w' := by
  by_cases h1 : 0 ≤ a <;> by_cases h2 : 0 ≤ b
  · exact cmp_pp hx hy h1 h2
  · exact cmp_pn hx hy h1 (by omega)
  · exact cmp_np hx hy (by omega) h2
  · exact cmp_nn hx hy (by omega) (by omega)

end Go.Proofs.Ytjlneggfkpjnpaa.Nums

namespace Go.Proofs.Ytjlneggfkpjnpaa
open Go.RowKit

/-- A number that is not negative. -/
structure NuA (w : World) (b : Bool) (s : Value) (n : Nat) : Prop where
  nu : Nums.Nu w (.agg #[.bool b, s]) (n : Int)
theorem NuA.below {w w' : World} {b : Bool} {s : Value} {n : Nat} (h : NuA w b s n) (hb : Below w.heap.size w w') : NuA w' b s n := ⟨h.nu.below hb⟩
/-- Numbers that have at most 100 digits to base 2^32. -/
def SmallN (n : Nat) : Prop := (Nums.digs n).length ≤ 100
theorem of_num (n : Nat) (h : n ≤ 1000) (W : World) : Calls Try.prog 22 #[.int .i64 (n : Int)] W fun e w' => ∃ b ao k cap, e = .returned (.agg #[.bool b, .slice ao k cap]) ∧ NuA w' b (.slice ao k cap) n ∧ Below W.heap.size W w' := by
  refine (Nums.of_any (n : Int) W (by omega) (by omega)).mono fun e w' h => ?_
  obtain ⟨neg, ao, k, cap, he, hb, h1, h2⟩ := h
  exact ⟨neg, ao, k, cap, he, ⟨⟨_, by rw [h1], h2.sl, Nat.le_trans (Nums.digs_word (by omega)) (by omega)⟩⟩, hb⟩
theorem mul_num {W : World} {b c : Bool} {s t : Value} {n m : Nat} (hn : NuA W b s n) (hm : NuA W c t m) (hs : SmallN (n * m)) :
    Calls Try.prog 23 #[.agg #[.bool b, s], .agg #[.bool c, t]] W fun e w' => ∃ d ao k cap, e = .returned (.tuple #[.agg #[.bool d, .slice ao k cap], .bool true]) ∧ NuA w' d (.slice ao k cap) (n * m) ∧ Below W.heap.size W w' := by
  refine (Nums.mul_any hn.nu hm.nu).mono fun e w' h => ?_
  obtain ⟨neg, ao, k, cap, he, hb, h1, _⟩ := h
  have e0 : ((n : Int) * (m : Int)).natAbs = n * m := by rw [← Int.natCast_mul]; rfl
  have hf : Nums.fitsB ((n : Int) * (m : Int)).natAbs = true := by rw [e0]; exact decide_eq_true (Nat.le_trans hs (by omega))
  obtain ⟨h2, h3⟩ := h1 hf
  rw [hf] at he
  refine ⟨neg, ao, k, cap, he, ⟨⟨_, by rw [h2, Int.natCast_mul], ?_, ?_⟩⟩, hb⟩
  · have := h3.sl; rwa [e0] at this
  · exact Nat.le_trans hs (by omega)
theorem cmp_num {W : World} {b c : Bool} {s t : Value} {n : Nat} (hn : NuA W b s n) (hm : NuA W c t n) :
    Calls Try.prog 26 #[.agg #[.bool b, s], .agg #[.bool c, t]] W fun e w' => e = .returned (.int .i64 0) ∧ Below W.heap.size W w' := by
  refine (Nums.cmp_any hn.nu hm.nu).mono fun e w' h => ⟨?_, h.2⟩
  rw [h.1]
  have : Nums.cmpZ (n : Int) (n : Int) = 0 := by unfold Nums.cmpZ; simp
  rw [this]

theorem results_cell54 {fn : Func} {t g : Nat} {tmps : Array Value} {w : World} {x y : Value} (h : fn.results = #[.cell t 54]) (hp : tmps.getD t undef = .pointer (some ⟨g, 0, none⟩)) (hg : w.heap[g]? = some (.cells #[x, y] 54 (0, 0))) :
    (results fn tmps).run Try.prog w = .ok (.agg #[x, y]) w := by
  have h1 := run_loadVar_row (P := Try.prog) w g 54 54 #[x, y] (0, 0) _ hg Try.underlying54 rfl (by kernel_rfl)
  have hp' : tmps[t]?.getD undef = .pointer (some ⟨g, 0, none⟩) := by simpa [Array.getD_eq_getD_getElem?] using hp
  simp [results, h, hp', h1, asAddr]

end Go.Proofs.Ytjlneggfkpjnpaa
