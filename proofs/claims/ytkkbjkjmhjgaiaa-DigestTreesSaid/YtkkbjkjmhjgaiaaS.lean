/- Contract: Root of digest. Condition: at most 2^20 strings, of lengths that Go permits. -/
import Derived.Test.YtkkbjkjmhjgaiaaQ
namespace Go.Proofs.Ytkkbjkjmhjgaiaa
open Go.RowKit Go.Shelf
attribute [local go_sem] Oper.semAt_some

/-- All rows of cells are as they were. -/
def KeptC (W W' : World) : Prop := ∀ (g : Nat) (o : Obj), W.heap[g]? = some o → o.isCells = true → W'.heap[g]? = some o

theorem KeptC.of_below {W W' : World} (h : Below W.heap.size W W') : KeptC W W' := fun g _ h1 _ => (h.block g (Array.getElem?_eq_some_iff.1 h1).1).trans h1
theorem KeptC.of_grown {W W' : World} {row : Option Nat} (hg : W.grownBy W' row) (hr : ∀ r, row = some r → ∃ o, W.heap[r]? = some o ∧ o.isCells = false) : KeptC W W' := fun q o hq hc => by
  refine (hg.block q (Array.getElem?_eq_some_iff.1 hq).1 fun e => ?_).trans hq
  obtain ⟨o', ho', hc'⟩ := hr q e.symm
  rw [hq] at ho'
  cases ho'
  rw [hc] at hc'
  cases hc'

theorem Dx.kept {W W' : World} {v : Value} {L : List Dg} (h : Dx W v L) (hk : ∀ b off n cap, v = .slice (some ⟨b, off, none⟩) n cap → ∀ cs fr, W.heap[b]? = some (.cells cs 52 fr) → W'.heap[b]? = some (.cells cs 52 fr)) : Dx W' v L := by
  obtain ⟨ha, b, off, cap, cs, fr, rfl, hc, hh, hl⟩ := h
  have h2 := hk b off _ cap rfl cs fr hh
  refine ⟨ha, b, off, cap, cs, fr, rfl, hc, h2, fun j hj i hi => ?_⟩
  rw [← hl j hj i hi]
  exact World.cell?_of_block (a := ⟨b, off + j * 8 + i, none⟩) (h2.trans hh.symm)

theorem Dx.keptC {W W' : World} {v : Value} {L : List Dg} (h : Dx W v L) (hk : KeptC W W') : Dx W' v L := h.kept fun b _ _ _ _ _ _ hh => hk b _ hh rfl

theorem dx_own (B : Nat) (v : Value) (L : Nat → List Dg) : OwnFrom B (fun (k : Nat) W => Dx W v (L k)) := fun _ _ _ _ hs hg hr => hs.keptC (KeptC.of_grown hg fun r e => (hr r e).2)

/-- What holds when k levels have come. -/
structure RtI (w : World) (sv : Value) (L0 : List Dg) (k : Nat) (W : World) : Prop where
  last : ∃ v, W.heap[w.heap.size]? = some (.cells #[v] 57 (0, 0)) ∧ (k = 0 ∨ Dx W v (lvl (k - 1) L0))
  box : W.heap[w.heap.size + 1]? = some (.cells #[sv] 29 (0, 0))
  bl : Below w.heap.size w W

theorem RtI.kept {w W W' : World} {sv : Value} {L0 : List Dg} {k : Nat} (h : RtI w sv L0 k W) (hk : KeptC W W') (hb : Below w.heap.size w W') : RtI w sv L0 k W' := by
  obtain ⟨v, h1, h2⟩ := h.last
  exact ⟨⟨v, hk _ _ h1 rfl, h2.imp id fun h => h.keptC hk⟩, hk _ _ h.box rfl, hb⟩

theorem rtI_own {w : World} {sv : Value} {L0 : List Dg} {B : Nat} (hB : w.heap.size ≤ B) : OwnFrom B (RtI w sv L0) := fun _ _ _ _ hs hg hr =>
  hs.kept (KeptC.of_grown hg fun r e => (hr r e).2) (hs.bl.grown hg hs.bl.size (fun r e => Nat.le_trans hB (hr r e).1))

theorem RtI.below {w W W' : World} {sv : Value} {L0 : List Dg} {k : Nat} (h : RtI w sv L0 k W) (hb : Below W.heap.size W W') : RtI w sv L0 k W' := h.kept (KeptC.of_below hb) (h.bl.trans (hb.mono h.bl.size))

theorem RtI.next {w W : World} {v sv : Value} {L0 : List Dg} {k : Nat} (h : RtI w sv L0 k W) (hx : Dx W v (lvl k L0)) : RtI w sv L0 (k + 1) (W.setCell ⟨w.heap.size, 0, none⟩ v) ∧ Dx (W.setCell ⟨w.heap.size, 0, none⟩ v) v (lvl k L0) := by
  obtain ⟨u, h1, _⟩ := h.last
  have hd : Dx (W.setCell ⟨w.heap.size, 0, none⟩ v) v (lvl k L0) := hx.kept fun b off n cap e cs fr hh => by
    rw [heap_setCell_other _ _ _ _ (fun e => by simp at e; subst e; rw [h1] at hh; cases hh)]
    exact hh
  refine ⟨⟨⟨v, ?_, .inr hd⟩, ?_, h.bl.setCell (Nat.le_refl _) _⟩, hd⟩
  · exact heap_setCell_same W w.heap.size 0 _ 57 v h1
  · rw [heap_setCell_other _ _ _ _ (by simp)]
    exact h.box

theorem getD_zero (L : List Dg) : L.getD 0 [] = L.headD [] := by cases L <;> rfl

set_option maxRecDepth 100000 in
set_option maxHeartbeats 2000000 in
theorem root_any {w : World} {v : Value} {l : List ByteArray} (hX : Sx w v l) (hlen : l.length ≤ 1048576) (hsz : ∀ k, (l.getD k ⟨#[]⟩).size ≤ 140737488355000) (m : Nat) (hm : wid l.length = 2 ^ m) :
    Calls Try.prog 23 #[v] w fun e w' => e = .returned (.string (sA (rootD m (leavesD (l.map by'))))) ∧ Below w.heap.size w w' := by
  obtain ⟨ao, cap, rfl⟩ := hX.mk'
  refine (callsIn_wide (n := 5)).1 ?_
  have w40 : Fence.wide.fn 40 := trivial
  have w33 : Fence.wide.fn 33 := trivial
  have H40 : Hid (∀ k W, CallsIn Fence.wide k Try.prog 40 #[.slice ao l.length cap] W fun e w' => e = .returned (.func (.func 45) #[] #[.pointer (some ⟨W.heap.size, 0, none⟩)]) ∧ w' = W.alloc (.cells #[.slice ao l.length cap] 29)) := fun k W => callsIn_wide.2 (levels_any ao l.length cap W)
  obtain ⟨sv, hsv⟩ : ∃ sv, sv = Value.slice ao l.length cap := ⟨_, rfl⟩
  obtain ⟨L0, hL0⟩ : ∃ L0, L0 = leavesD (l.map by') := ⟨_, rfl⟩
  have hl0 : L0.length = 2 ^ m := by rw [hL0, leavesD_len, List.length_map, hm]
  have hc := levels_counts 4 (by omega) (w.heap.size + 1) m sv l hlen hsz hm (RtI w sv L0) (fun W h => ⟨by rw [cell_of_row _ _ _ _ _ _ h.box]; rfl, by rw [← hsv] at hX; exact hX.below h.bl⟩) (fun k W W' h hb => h.below hb)
  rw [← hL0] at hc ⊢
  obtain ⟨r, hr⟩ : ∃ r, r = sA (rootD m L0) := ⟨_, rfl⟩
  rw [← hr]
  have HR := Lib.hid hr
  clear hL0 hr
  refine callsIn_of_wp_marks Try.func23 rfl trivial ?_ rfl
  simp only [Try.ntmps23, List.size_toArray, List.length_cons, List.length_nil, Nat.reduceAdd, Nat.reduceSub, Array.replicate_succ, Array.replicate_zero, List.push_toArray, List.append_toArray, List.nil_append, List.cons_append]
  gi_wp2_with (gi_at_call 40; refine (H40.out _ _).mono ?_; rintro e w' ⟨rfl, rfl⟩)
  have hB0 : Below w.heap.size w ((w.alloc (.cells #[.slice none 0 0] 57)).alloc (.cells #[.slice ao l.length cap] 29)) := by go_grown
  have hI0 : RtI w sv L0 0 ((w.alloc (.cells #[.slice none 0 0] 57)).alloc (.cells #[.slice ao l.length cap] 29)) := ⟨⟨.slice none 0 0, (Below.heap_alloc _ _ _ (by simp)).trans (heap_alloc_new _ _), .inl rfl⟩, by
    have := heap_alloc_new (w.alloc (.cells #[.slice none 0 0] 57)) (.cells #[.slice ao l.length cap] 29)
    rw [World.size_alloc] at this
    rw [hsv]; exact this, hB0⟩
  refine rangeFunc_countsL rfl (by omega) (gf := 45) (lb := #[.pointer (some ⟨w.heap.size + 1, 0, none⟩)]) rfl trivial (enters_of Try.func45 (by kernel_rfl) rfl) hc rfl (rtI_own (by simp; omega)) (fun v => dx_own _ v (fun k => lvl k L0)) hI0
    (fun v => { tmps := #[.slice ao l.length cap, undef, .string ⟨#[]⟩, .pointer (some ⟨w.heap.size, 0, none⟩), v, .slice ao l.length cap, .func (.func 45) #[] #[.pointer (some ⟨w.heap.size + 1, 0, none⟩)], v, undef, undef, undef, undef, undef], defers := [] }) ?assign ?body ?done
  case assign =>
    intro y v W K hK
    gi_wp2
    exact hK
  case body =>
    intro y k v W hk hI hx
    have hnx := hI.next hx
    obtain ⟨u, hu, _⟩ := hI.last
    have c0 : W.cell? ⟨w.heap.size, 0, none⟩ = some u := by rw [cell_of_row _ _ _ _ _ _ hu]; rfl
    have f0 := frozen_of_row W w.heap.size 0 _ _ hu
    obtain ⟨ha, b, off, cap2, cs, fr, rfl, _⟩ := hx
    obtain ⟨N, hN⟩ : ∃ N, N = (lvl k L0).length := ⟨_, rfl⟩
    rw [← hN] at hnx ⊢
    have HNX := Lib.hid hnx
    clear hN hnx hI hu ha hX hc hI0 hB0
    gi_wp2
    exact ⟨(KeepsOthers.setCell _ _ _).from _, HNX.out⟩
  case done =>
    intro D W hD hI hK
    obtain ⟨u, hu, hux⟩ := hI.last
    have hx : Dx W u (lvl m L0) := by
      rcases hux with h | h
      · omega
      · exact h
    have hl1 : (lvl m L0).length = 1 := by rw [lvl_len m m L0 hl0 (Nat.le_refl _), Nat.sub_self]
    have c0 : W.cell? ⟨w.heap.size, 0, none⟩ = some u := by rw [cell_of_row _ _ _ _ _ _ hu]; rfl
    obtain ⟨ha, b, off, cap2, cs, fr, rfl, _, hh, hcl⟩ := hx
    have hd8 : ((lvl m L0).getD 0 []).length = 8 := by
      rw [show (lvl m L0).getD 0 [] = (lvl m L0)[0] by simp [List.getD, hl1]]
      exact ha _ (List.getElem_mem _)
    obtain ⟨d0, d1, d2, d3, d4, d5, d6, d7, ed⟩ := dval_eight hd8
    obtain ⟨k0, k1, k2, k3, k4, k5, k6, k7⟩ := dx_cells hcl (by rw [hl1]; omega) (p := off) (by omega) ed
    have hi1 := run_at57 b off 1 cap2 0 (by omega) 0 rfl off (by omega)
    rw [hl1] at c0
    have er : (lvl m L0).getD 0 [] = rootD m L0 := by rw [rootD_lvl, getD_zero]
    have HT : Hid (∀ k W, CallsIn Fence.wide k Try.prog 33 #[.agg #[.int .u8 d0, .int .u8 d1, .int .u8 d2, .int .u8 d3, .int .u8 d4, .int .u8 d5, .int .u8 d6, .int .u8 d7]] W fun e w' => e = .returned (.string (sA (rootD m L0))) ∧ Below W.heap.size W w') := fun k W => callsIn_wide.2 (by rw [← ed, ← er]; exact text_any _ hd8 W)
    rw [← HR.out] at HT
    have HBL := Lib.hid hI.bl
    have HKD := Lib.hid hK
    clear er ed hd8 hcl hh ha hu hux hI hK hX hc hI0 hB0 hl0 hl1
    gi_wp2_with (gi_at_call 33; refine (HT.out _ _).mono ?_; rintro e w3 ⟨rfl, hb⟩)
    have hK3 := (hb.block D (Array.getElem?_eq_some_iff.1 HKD.out).1).trans HKD.out
    refine ⟨by simp, .inl ⟨_, _, rfl, run_takeDeferred hK3, ?_⟩⟩
    refine ⟨_, results_tmp rfl _ _ _, rfl, ?_⟩
    exact (HBL.out.trans (hb.mono HBL.out.size)).grown (grownBy_putObj' _ D _) (by have := HBL.out.size; have := hb.size; omega) (fun k e => by cases e; simp at hD; omega)

end Go.Proofs.Ytkkbjkjmhjgaiaa
