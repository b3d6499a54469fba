/- Contracts: dividing residues, the array of operations, calculate. -/
import Derived.Test.YtkagmbmkopdekaaA
import Derived.Deep.QuietTactic
import Derived.BigQuiet
import Derived.Deep.RegionHeld3
import Derived.IntWalk
import Derived.Laws.Rows
import Derived.Laws.EntriesVeiled
namespace Go.Proofs.Ytkagmbmkopdekaa
open Go.RowKit

/-- A block of one cell, not frozen. -/
def One (W : World) (g : Nat) (v : Value) (t : TypeId) : Prop := W.heap[g]? = some (.cells #[v] t (0, 0))

theorem One.cell {W : World} {g : Nat} {v : Value} {t : TypeId} (h : One W g v t) : W.cell? ⟨g, 0, none⟩ = some v ∧ W.frozen? ⟨g, 0, none⟩ = false :=
  ⟨by rw [cell_of_row W _ _ _ _ _ h]; rfl, frozen_of_row W _ _ _ _ h⟩
theorem One.lt {W : World} {g : Nat} {v : Value} {t : TypeId} (h : One W g v t) : g < W.heap.size := (Array.getElem?_eq_some_iff.1 h).1
theorem One.below {W W1 : World} {g : Nat} {v : Value} {t : TypeId} (h : One W g v t) (hb : Below W.heap.size W W1) : One W1 g v t := (hb.block g h.lt).trans h
theorem One.stored {W : World} {g : Nat} {v : Value} {t : TypeId} (h : One W g v t) (u : Value) : One (W.setCell ⟨g, 0, none⟩ u) g u t := heap_setCell_same W g 0 _ t u h
theorem One.other {W : World} {g k : Nat} {v : Value} {t : TypeId} (h : One W g v t) (hk : g ≠ k) (j : Nat) (u : Value) : One (W.setCell ⟨k, j, none⟩ u) g v t := (Below.heap_setCell W _ u g (by simpa using hk)).trans h

set_option maxRecDepth 10000 in
set_option maxHeartbeats 1000000 in
theorem over_raw (a b : Int) (w : World) (a0 : 0 ≤ a) (a1 : a ≤ 250) (b0 : 0 ≤ b) (b1 : b ≤ 250) :
    Calls Try.prog 41 #[.agg #[.int .i64 a], .agg #[.int .i64 b]] w fun e w' => e = .returned (.agg #[.int .i64 (mulN a b 249)]) ∧ Below w.heap.size w w' := by
  go_enter Try.func41, Try.ntmps41
  go_wp2
  have h1 : One (((w.alloc (.cells #[.int .i64 a] 57)).alloc (.cells #[.int .i64 b] 57)).alloc (.cells #[.int .i64 0] 57)) w.heap.size (.int .i64 a) 57 := by
    unfold One
    rw [Below.heap_alloc _ _ _ (by simp; omega), Below.heap_alloc _ _ _ (by simp)]
    exact heap_alloc_new _ _
  have h2 : One (((w.alloc (.cells #[.int .i64 a] 57)).alloc (.cells #[.int .i64 b] 57)).alloc (.cells #[.int .i64 0] 57)) (w.heap.size + 1) (.int .i64 b) 57 := by
    unfold One
    rw [Below.heap_alloc _ _ _ (by simp)]
    have := heap_alloc_new (w.alloc (.cells #[.int .i64 a] 57)) (.cells #[.int .i64 b] 57)
    rwa [World.size_alloc] at this
  have h3 : One (((w.alloc (.cells #[.int .i64 a] 57)).alloc (.cells #[.int .i64 b] 57)).alloc (.cells #[.int .i64 0] 57)) (w.heap.size + 2) (.int .i64 0) 57 := by
    unfold One
    have := heap_alloc_new ((w.alloc (.cells #[.int .i64 a] 57)).alloc (.cells #[.int .i64 b] 57)) (.cells #[.int .i64 0] 57)
    rwa [World.size_alloc, World.size_alloc] at this
  have hB : Below w.heap.size w (((w.alloc (.cells #[.int .i64 a] 57)).alloc (.cells #[.int .i64 b] 57)).alloc (.cells #[.int .i64 0] 57)) := by go_grown
  revert h1 h2 h3 hB
  generalize (((w.alloc (.cells #[.int .i64 a] 57)).alloc (.cells #[.int .i64 b] 57)).alloc (.cells #[.int .i64 0] 57)) = W
  intro h1 h2 h3 hB
  have H1 := Lib.hid h1
  have H2 := Lib.hid h2
  have H3 := Lib.hid h3
  have HB := Lib.hid hB
  clear h1 h2 h3 hB
  go_loopw [5] (fun kv wr => ∃ k : Nat, k ≤ 249 ∧ kv = .int .i64 k ∧ Hid (One wr w.heap.size (.int .i64 (mulN a b k)) 57) ∧ Hid (One wr (w.heap.size + 1) (.int .i64 b) 57) ∧ Hid (One wr (w.heap.size + 2) (.int .i64 0) 57) ∧ Hid (Below w.heap.size w wr)) (fun kv _ => 249 - (intOf kv).toNat)
  case atStart => exact ⟨0, by omega, rfl, H1, H2, H3, HB⟩
  case round =>
    obtain ⟨k, hk, rfl, h1, h2, h3, hb⟩ := hrel
    obtain ⟨m0, m1⟩ := mulN_bd a b a0 a1 k
    obtain ⟨c1, f1⟩ := h1.out.cell
    obtain ⟨c2, f2⟩ := h2.out.cell
    obtain ⟨c3, f3⟩ := h3.out.cell
    have e : mulN a b (k + 1) = mulN a b k * b % 251 := rfl
    have HE := Lib.hid e
    clear e
    by_cases hlt : k < 249
    · go_wp2_with (go_at_call 40; refine (times_any _ _ _ (by assumption) (by assumption) (by assumption) (by assumption)).mono ?_; rintro e w1 ⟨rfl, hb1⟩; rw [← HE.out]; have g1 := h1.out.below hb1; have hz := g1.lt; obtain ⟨d1, d2⟩ := g1.cell; have G1 := Lib.hid g1; have HB1 := Lib.hid hb1; clear g1 hb1)
      go_roundw
      case rel => exact ⟨k + 1, by omega, by go_num, G1.out.stored _, (h2.out.below HB1.out).other (by omega) 0 _, (h3.out.below HB1.out).other (by omega) 0 _, (hb.out.trans (HB1.out.mono hb.out.size)).setCell (by simp) _⟩
      case measure => simp [intOf]; omega
    · have : k = 249 := by omega
      subst this
      have hz := h3.out.lt
      go_wp2
      have c4 : (wr.setCell ⟨w.heap.size + 1 + 1, 0, none⟩ (.int .i64 (mulN a b 249))).cell? ⟨w.heap.size + 1 + 1, 0, none⟩ = some (.int .i64 (mulN a b 249)) := (h3.out.stored (.int .i64 (mulN a b 249))).cell.1
      refine bodyPost_ret (v := .agg #[.int .i64 (mulN a b 249)]) (by simp [results, Try.results41, go_sem, c4]) rfl ⟨rfl, ?_⟩
      exact hb.out.setCell (by simp; omega) _


theorem agg4 (x0 x1 x2 x3 : Value) : ∀ w, (Instr.index 59 (.agg #[x0, x1, x2, x3]) (.int .i64 0)).run Try.prog w = .ok x0 w := fun _ => by kernel_rfl
theorem agg4_1 (x0 x1 x2 x3 : Value) : ∀ w, (Instr.index 59 (.agg #[x0, x1, x2, x3]) (.int .i64 1)).run Try.prog w = .ok x1 w := fun _ => by kernel_rfl
theorem agg4_2 (x0 x1 x2 x3 : Value) : ∀ w, (Instr.index 59 (.agg #[x0, x1, x2, x3]) (.int .i64 2)).run Try.prog w = .ok x2 w := fun _ => by kernel_rfl
theorem agg4_3 (x0 x1 x2 x3 : Value) : ∀ w, (Instr.index 59 (.agg #[x0, x1, x2, x3]) (.int .i64 3)).run Try.prog w = .ok x3 w := fun _ => by kernel_rfl

set_option maxRecDepth 10000 in
theorem operations_any (w : World) :
    Calls Try.prog 37 #[] w fun e w' => e = .returned (.agg #[.func (.func 38) #[] #[], .func (.func 39) #[] #[], .func (.func 40) #[] #[], .func (.func 41) #[] #[]]) ∧ Below w.heap.size w w' := by
  go_enter Try.func37, Try.ntmps37
  go_wp2
  refine bodyPost_ret (v := .agg #[.func (.func 38) #[] #[], .func (.func 39) #[] #[], .func (.func 40) #[] #[], .func (.func 41) #[] #[]]) (by simp [results, Try.results37, go_sem]) rfl ⟨rfl, ?_⟩
  go_grown

end Go.Proofs.Ytkagmbmkopdekaa
