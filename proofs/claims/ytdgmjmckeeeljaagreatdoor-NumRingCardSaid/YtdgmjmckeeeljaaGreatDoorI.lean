/- Contracts of num: Mul. -/
import Derived.Test.YtdgmjmckeeeljaaGreatDoorH
import Derived.Deep.RegionHeld3
namespace Go.Proofs.YtdgmjmckeeeljaaGreatDoor
open Go.RowKit

/-- The right Num of an integer. -/
def Nu (w : World) (x : Value) (z : Int) : Prop := ∃ s, x = .agg #[.bool (decide (z < 0)), s] ∧ Sl w s (digs z.natAbs) ∧ (digs z.natAbs).length ≤ 256

theorem rightB_digs (z : Int) (h : (digs z.natAbs).length ≤ 256) : rightB (decide (z < 0)) (digs z.natAbs) = true := by
  unfold rightB
  by_cases h0 : digs z.natAbs = []
  · rw [if_pos h0]
    have : z.natAbs = 0 := digs_inj (by rw [h0, digs_zero])
    simp; omega
  · rw [if_neg h0]
    have hl := digs_last z.natAbs
    rw [List.getLast?_eq_getElem?] at hl
    have h1 : (digs z.natAbs).length - 1 < (digs z.natAbs).length := by
      have := List.length_pos_iff.2 h0; omega
    simp only [h, decide_true, Bool.true_and, decide_eq_true_eq, ne_eq]
    intro h2
    apply hl
    rw [List.getElem?_eq_getElem h1]
    simp only [List.getD, List.getElem?_eq_getElem h1, Option.getD_some] at h2
    rw [h2]

/-- Three boxes that a call made: two that were read, one for the result. -/
structure Box3 (W : World) (B : Nat) (na nb : Bool) (sa sb : Value) (x y : Nat) : Prop where
  a0 : W.cell? ⟨B, 0, none⟩ = some (.bool na)
  a1 : W.cell? ⟨B, 1, none⟩ = some sa
  b0 : W.cell? ⟨B + 1, 0, none⟩ = some (.bool nb)
  b1 : W.cell? ⟨B + 1, 1, none⟩ = some sb
  r : W.heap[B + 1 + 1]? = some (.cells #[.bool false, .slice none 0 0] 27 (0, 0))
  sa : Sl W sa (digs x)
  sb : Sl W sb (digs y)

theorem Box3.below {W W' : World} {B : Nat} {na nb : Bool} {sa sb : Value} {x y : Nat} (h : Box3 W B na nb sa sb x y) (hb : Below W.heap.size W W') : Box3 W' B na nb sa sb x y :=
  ⟨cell_later hb h.a0, cell_later hb h.a1, cell_later hb h.b0, cell_later hb h.b1, (hb.block _ (Array.getElem?_eq_some_iff.1 h.r).1).trans h.r, h.sa.below hb, h.sb.below hb⟩

theorem Box3.keep {W W' : World} {B : Nat} {na nb : Bool} {sa sb : Value} {x y : Nat} (h : Box3 W B na nb sa sb x y) (hb : Below (B + 1 + 1) W W') :
    W'.cell? ⟨B, 0, none⟩ = some (.bool na) ∧ W'.cell? ⟨B, 1, none⟩ = some sa ∧ W'.cell? ⟨B + 1, 0, none⟩ = some (.bool nb) ∧ W'.cell? ⟨B + 1, 1, none⟩ = some sb :=
  ⟨(hb.cell (p := ⟨B, 0, none⟩) (by simp; omega)).trans h.a0, (hb.cell (p := ⟨B, 1, none⟩) (by simp; omega)).trans h.a1, (hb.cell (p := ⟨B + 1, 0, none⟩) (by simp)).trans h.b0, (hb.cell (p := ⟨B + 1, 1, none⟩) (by simp)).trans h.b1⟩

theorem Box3.lt {W : World} {B : Nat} {na nb : Bool} {sa sb : Value} {x y : Nat} (h : Box3 W B na nb sa sb x y) : B + 1 + 1 < W.heap.size := (Array.getElem?_eq_some_iff.1 h.r).1
theorem Box3.cells {W : World} {B : Nat} {na nb : Bool} {sa sb : Value} {x y : Nat} (h : Box3 W B na nb sa sb x y) :
    W.cell? ⟨B + 1 + 1, 0, none⟩ = some (.bool false) ∧ W.cell? ⟨B + 1 + 1, 1, none⟩ = some (.slice none 0 0) ∧ W.frozen? ⟨B + 1 + 1, 0, none⟩ = false ∧ W.frozen? ⟨B + 1 + 1, 1, none⟩ = false := by
  refine ⟨?_, ?_, frozen_of_row W _ _ _ _ h.r, frozen_of_row W _ _ _ _ h.r⟩ <;> rw [cell_of_row W _ _ _ _ _ h.r] <;> rfl

/-- The result's two cells, when they were stored. -/
theorem res_cells {w1 : World} {g : Nat} {v0 v1 : Value} (h : w1.heap[g]? = some (.cells #[v0, v1] 27 (0, 0))) (u0 u1 : Value) (o : Obj) :
    (((w1.setCell ⟨g, 0, none⟩ u0).setCell ⟨g, 1, none⟩ u1).alloc o).cell? ⟨g, 0, none⟩ = some u0 ∧ (((w1.setCell ⟨g, 0, none⟩ u0).setCell ⟨g, 1, none⟩ u1).alloc o).cell? ⟨g, 1, none⟩ = some u1 := by
  have h1 := heap_setCell_same w1 g 0 _ 27 u0 h
  have h2 := heap_setCell_same _ g 1 _ 27 u1 h1
  have h3 : (((w1.setCell ⟨g, 0, none⟩ u0).setCell ⟨g, 1, none⟩ u1).alloc o).heap[g]? = _ := (Below.heap_alloc _ _ _ (Array.getElem?_eq_some_iff.1 h2).1).trans h2
  constructor <;> rw [cell_of_row _ _ _ _ _ _ h3] <;> rfl

theorem sign_mul {a b : Int} (h : a * b ≠ 0) : (!(decide (a < 0) == decide (b < 0))) = decide (a * b < 0) := by
  have ha : a ≠ 0 := fun h0 => h (by rw [h0, Int.zero_mul])
  have hb : b ≠ 0 := fun h0 => h (by rw [h0, Int.mul_zero])
  rcases Int.lt_or_gt_of_ne ha with h1 | h1 <;> rcases Int.lt_or_gt_of_ne hb with h2 | h2
  · have := Int.mul_pos_of_neg_of_neg h1 h2
    simp [h1, h2]; omega
  · have := Int.mul_neg_of_neg_of_pos h1 h2
    have h3 : ¬ b < 0 := by omega
    simp [h1, h3, this]
  · have := Int.mul_neg_of_pos_of_neg h1 h2
    have h3 : ¬ a < 0 := by omega
    simp [h2, h3, this]
  · have := Int.mul_pos h1 h2
    have h3 : ¬ a < 0 := by omega
    have h4 : ¬ b < 0 := by omega
    simp [h3, h4]; omega

/-- What is owned in new memory stays so when an older box is written, and behind a new block. -/
theorem Sw.after2 {B g : Nat} {w : World} {v : Value} {ds : List Nat} (h : Sw B w v ds) (hg : g < B) (u0 u1 : Value) : Sw B ((w.setCell ⟨g, 0, none⟩ u0).setCell ⟨g, 1, none⟩ u1) v ds := by
  have key : ∀ (w : World) (j : Nat) (u : Value), Sw B w v ds → Sw B (w.setCell ⟨g, j, none⟩ u) v ds := by
    intro w j u h
    have hc : ∀ b o, B ≤ b → (w.setCell ⟨g, j, none⟩ u).cell? ⟨b, o, none⟩ = w.cell? ⟨b, o, none⟩ := fun b o hb => World.cell?_of_block (w := w) (a := ⟨b, o, none⟩) (Below.heap_setCell _ _ _ _ (by simp; omega))
    have hf : ∀ b o, B ≤ b → (w.setCell ⟨g, j, none⟩ u).frozen? ⟨b, o, none⟩ = w.frozen? ⟨b, o, none⟩ := fun b o hb => World.frozen?_of_block (w := w) (a := ⟨b, o, none⟩) (Below.heap_setCell _ _ _ _ (by simp; omega))
    refine ⟨⟨h.sl.bd, h.sl.len, ?_⟩, ?_⟩
    · rcases h.sl.is with h1 | ⟨b, off, cap, hv, hcp, hcl⟩
      · exact .inl h1
      · refine .inr ⟨b, off, cap, hv, hcp, fun k hk => ?_⟩
        obtain ⟨b', off', e1, e2, _⟩ := h.own _ _ _ hv (by omega)
        cases e1
        rw [hc _ _ e2]
        exact hcl k hk
    · intro ao n cap hv hn
      obtain ⟨b, off, e1, e2, e3⟩ := h.own ao n cap hv hn
      exact ⟨b, off, e1, e2, fun k hk => by rw [hf _ _ e2]; exact e3 k hk⟩
  exact key _ 1 u1 (key _ 0 u0 h)
theorem Sw.after {B g : Nat} {w : World} {v : Value} {ds : List Nat} (h : Sw B w v ds) (hg : g < B) (u0 u1 : Value) (o : Obj) : Sw B (((w.setCell ⟨g, 0, none⟩ u0).setCell ⟨g, 1, none⟩ u1).alloc o) v ds :=
  (h.after2 hg u0 u1).below ((Below.refl _ _).alloc (Nat.le_refl _) _)

theorem heap_three (w : World) (o1 o2 o3 : Obj) : (((w.alloc o1).alloc o2).alloc o3).heap[w.heap.size]? = some o1 ∧ (((w.alloc o1).alloc o2).alloc o3).heap[w.heap.size + 1]? = some o2 ∧ (((w.alloc o1).alloc o2).alloc o3).heap[w.heap.size + 1 + 1]? = some o3 := by
  have h1 := heap_alloc_new w o1
  have h2 := heap_alloc_new (w.alloc o1) o2
  have h3 := heap_alloc_new ((w.alloc o1).alloc o2) o3
  simp only [World.size_alloc] at h2 h3
  refine ⟨?_, ?_, h3⟩
  · rw [Below.heap_alloc _ _ _ (by simp; omega), Below.heap_alloc _ _ _ (by simp)]
    exact h1
  · rw [Below.heap_alloc _ _ _ (by simp)]
    exact h2

theorem box3_new {w W : World} {na nb : Bool} {sa sb : Value} {x y : Nat} (ha : Sl w sa (digs x)) (hb : Sl w sb (digs y))
    (h : Below (w.heap.size + 1 + 1 + 1) (((w.alloc (.cells #[.bool na, sa] 27)).alloc (.cells #[.bool nb, sb] 27)).alloc (.cells #[.bool false, .slice none 0 0] 27)) W) : Box3 W w.heap.size na nb sa sb x y := by
  obtain ⟨h1, h2, h3⟩ := heap_three w (.cells #[.bool na, sa] 27) (.cells #[.bool nb, sb] 27) (.cells #[.bool false, .slice none 0 0] 27)
  rw [← h.block _ (by omega)] at h1 h2 h3
  have hw : Below w.heap.size w W := ((((Below.refl _ w).alloc (Nat.le_refl _) _).alloc (by simp) _).alloc (by simp; omega) _).trans (h.mono (by omega))
  refine ⟨?_, ?_, ?_, ?_, h3, ha.below hw, hb.below hw⟩
  · rw [cell_of_row W _ _ _ _ _ h1]; rfl
  · rw [cell_of_row W _ _ _ _ _ h1]; rfl
  · rw [cell_of_row W _ _ _ _ _ h2]; rfl
  · rw [cell_of_row W _ _ _ _ _ h2]; rfl

/-- times, its result written out. -/
theorem times_at {w : World} {va vb : Value} {x y n : Nat} (ha : Sl w va (digs x)) (hb : Sl w vb (digs y)) (hla : (digs x).length ≤ 256) (hlb : (digs y).length ≤ 256) (hn : (digs (x * y)).length = n) :
    Calls Tryz.prog 69 #[va, vb] w fun e w' => ∃ ao cap, e = .returned (.slice ao n cap) ∧ Sw w.heap.size w' (.slice ao n cap) (digs (x * y)) ∧ Below w.heap.size w w' := by
  have h := times_any ha hb (by omega) (by omega)
  rw [val_digs, val_digs] at h
  refine h.mono ?_
  rintro e w' ⟨v, rfl, hs, hbl⟩
  obtain ⟨ao, cap, rfl⟩ := hs.sl.mk'
  subst hn
  exact ⟨ao, cap, rfl, hs, hbl⟩

set_option maxRecDepth 10000 in
set_option maxHeartbeats 1000000 in
theorem mul_any {w : World} {x y : Value} {a b : Int} (hx : Nu w x a) (hy : Nu w y b) :
    Calls Tryz.prog 30 #[x, y] w (NumRes w (a * b)) := by
  obtain ⟨sa, rfl, ha, la⟩ := hx
  obtain ⟨sb, rfl, hb, lb⟩ := hy
  have ra := rightB_digs a la
  have rb := rightB_digs b lb
  obtain ⟨na, hna⟩ : ∃ na, na = decide (a < 0) := ⟨_, rfl⟩
  obtain ⟨nb, hnb⟩ : ∃ nb, nb = decide (b < 0) := ⟨_, rfl⟩
  rw [← hna] at ra ⊢
  rw [← hnb] at rb ⊢
  have HNA := Lib.hid hna
  have HNB := Lib.hid hnb
  clear hna hnb
  have R1 : ∀ W, Sl W sa (digs a.natAbs) → Calls Tryz.prog 32 #[.agg #[.bool na, sa]] W fun e w' => e = .returned (.bool true) ∧ w' = W.alloc (.cells #[.bool na, sa] 27) := fun W h => by have := right_any na h (by omega); rwa [ra] at this
  have R2 : ∀ W, Sl W sb (digs b.natAbs) → Calls Tryz.prog 32 #[.agg #[.bool nb, sb]] W fun e w' => e = .returned (.bool true) ∧ w' = W.alloc (.cells #[.bool nb, sb] 27) := fun W h => by have := right_any nb h (by omega); rwa [rb] at this
  have HR1 := Lib.hid R1
  have HR2 := Lib.hid R2
  clear R1 R2 ra rb
  go_enter Tryz.func30, Tryz.ntmps30
  go_wp2_with (first | (go_at_call_of 32 (Value.agg #[.bool na, sa]); refine (HR1.out _ (ha.below (by go_grown))).mono ?_; rintro e w' ⟨rfl, rfl⟩) | (go_at_call_of 32 (Value.agg #[.bool nb, sb]); refine (HR2.out _ (hb.below (by go_grown))).mono ?_; rintro e w' ⟨rfl, rfl⟩))
  have HB : Box3 ((((w.alloc (.cells #[.bool na, sa] 27)).alloc (.cells #[.bool nb, sb] 27)).alloc (.cells #[.bool false, .slice none 0 0] 27)).alloc (.cells #[.bool na, sa] 27) |>.alloc (.cells #[.bool nb, sb] 27)) w.heap.size na nb sa sb a.natAbs b.natAbs :=
    box3_new ha hb (by go_grown)
  have HBL : Below w.heap.size w ((((w.alloc (.cells #[.bool na, sa] 27)).alloc (.cells #[.bool nb, sb] 27)).alloc (.cells #[.bool false, .slice none 0 0] 27)).alloc (.cells #[.bool na, sa] 27) |>.alloc (.cells #[.bool nb, sb] 27)) := by go_grown
  revert HB HBL
  generalize ((((w.alloc (.cells #[.bool na, sa] 27)).alloc (.cells #[.bool nb, sb] 27)).alloc (.cells #[.bool false, .slice none 0 0] 27)).alloc (.cells #[.bool na, sa] 27) |>.alloc (.cells #[.bool nb, sb] 27)) = W
  intro HB HBL
  obtain ⟨n, hn⟩ : ∃ n, n = (digs (a.natAbs * b.natAbs)).length := ⟨_, rfl⟩
  have HN := Lib.hid hn
  clear hn
  have a0 := HB.a0
  have a1 := HB.a1
  have b0 := HB.b0
  have b1 := HB.b1
  go_region_held3 (fun w' => w'.cell? ⟨w.heap.size, 0, none⟩ = some (.bool na) ∧ w'.cell? ⟨w.heap.size, 1, none⟩ = some sa ∧ w'.cell? ⟨w.heap.size + 1, 0, none⟩ = some (.bool nb) ∧ w'.cell? ⟨w.heap.size + 1, 1, none⟩ = some sb)
      (first | (exact HB.keep (by go_grown)) | (exact HB.keep (hbw.alloc hbw0 _)) | (exact HB.keep ((hbw.alloc hbw0 _).setCell (by simp) _)))
      ((first | (go_at_call 69; refine (times_at (HB.below (by go_grown)).sa (HB.below (by go_grown)).sb la lb HN.out.symm).mono ?_; rintro e w1 ⟨ao, cap, rfl, hs1, hb1⟩; have hb1' : Below W.heap.size W w1 := Below.trans (by go_grown) hb1; have HB1 := HB.below hb1'; obtain ⟨r0, r1, f0, f1⟩ := HB1.cells; have hz := HB1.lt; have hbw := hb1'.mono (Nat.le_of_lt HB.lt); have hbw0 := Nat.le_of_lt hz) | (go_at_call 47; refine (made_any _ _ _ _ _).mono ?_; rintro e w2 ⟨rfl, rfl⟩)))
  have HHs := Lib.hid hs1
  clear hs1
  have hfin : Below w.heap.size w (((w1.setCell ⟨w.heap.size + 1 + 1, 0, none⟩ (.bool (mkN (!(na == nb)) n))).setCell ⟨w.heap.size + 1 + 1, 1, none⟩ (.slice (mkA ao n) (mkL n) (mkC n cap))).alloc (.cells #[.bool (mkN (!(na == nb)) n), .slice (mkA ao n) (mkL n) (mkC n cap)] 27)) :=
    (((HBL.trans (hb1'.mono (by have := HB.lt; omega))).setCell (by simp; omega) _).setCell (by simp; omega) _).alloc (by simp; omega) _
  obtain ⟨q0, q1⟩ := res_cells HB1.r (.bool (mkN (!(na == nb)) n)) (.slice (mkA ao n) (mkL n) (mkC n cap)) (.cells #[.bool (mkN (!(na == nb)) n), .slice (mkA ao n) (mkL n) (mkC n cap)] 27)
  have hsw := HHs.out.after (g := w.heap.size + 1 + 1) HB.lt (.bool (mkN (!(na == nb)) n)) (.slice (mkA ao n) (mkL n) (mkC n cap)) (.cells #[.bool (mkN (!(na == nb)) n), .slice (mkA ao n) (mkL n) (mkC n cap)] 27)
  revert q0 q1 hfin hsw
  generalize (((w1.setCell ⟨w.heap.size + 1 + 1, 0, none⟩ (.bool (mkN (!(na == nb)) n))).setCell ⟨w.heap.size + 1 + 1, 1, none⟩ (.slice (mkA ao n) (mkL n) (mkC n cap))).alloc (.cells #[.bool (mkN (!(na == nb)) n), .slice (mkA ao n) (mkL n) (mkC n cap)] 27)) = W3
  intro hfin q0 q1 hsw
  have HSW := Lib.hid hsw
  clear hsw
  go_wp2
  refine bodyPost_ret (v := .tuple #[.agg #[.bool (mkN (!(na == nb)) n), .slice (mkA ao n) (mkL n) (mkC n cap)], .bool (mkK n)]) (by simp [results, Tryz.results30, go_sem, q0, q1]) rfl ?_
  have hab : (a * b).natAbs = a.natAbs * b.natAbs := Int.natAbs_mul a b
  refine numRes_made hfin (by rw [hab]; exact HN.out) (fun hz => ?_) (fun _ => by rw [hab]; exact HSW.out.mono (by simp; exact HBL.size))
  rw [HNA.out, HNB.out]
  exact sign_mul hz

end Go.Proofs.YtdgmjmckeeeljaaGreatDoor
