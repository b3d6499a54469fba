/- Contract: the law's made. Condition: the two slices read as bytes. What the laws share: designs that are made. The law's walk: what it takes, and what lies in memory meanwhile. -/
import Derived.Test.YtjlneggfkpjnpaaMb4
set_option linter.unusedSimpArgs false
set_option linter.unusedVariables false
namespace Go.Proofs.Ytjlneggfkpjnpaa
open Go.RowKit

/-- A slice that reads as bytes. -/
structure Ux (w : World) (v : Value) (l : List Int) : Prop where
  len : l.length ≤ maxLen
  fit : ∀ k, 0 ≤ l.getD k 0 ∧ l.getD k 0 ≤ 255
  is : (l = [] ∧ ∃ ao cap, v = .slice ao 0 cap) ∨ ∃ b off cap, v = .slice (some ⟨b, off, none⟩) l.length cap ∧ l.length ≤ cap ∧ b < w.heap.size ∧ ∀ j, j < l.length → w.cell? ⟨b, off + j, none⟩ = some (.int .u8 (l.getD j 0))
theorem Ux.mk' {w : World} {v : Value} {l : List Int} (h : Ux w v l) : ∃ ao cap, v = .slice ao l.length cap := by
  rcases h.is with ⟨rfl, ao, cap, rfl⟩ | ⟨b, off, cap, rfl, _⟩
  · exact ⟨_, _, rfl⟩
  · exact ⟨_, _, rfl⟩
theorem Ux.at {w : World} {ao : Option Addr} {n cap : Nat} {l : List Int} (h : Ux w (.slice ao n cap) l) (hn : n ≠ 0) : ∃ b off, ao = some ⟨b, off, none⟩ ∧ n ≤ cap ∧ b < w.heap.size ∧ ∀ j, j < n → w.cell? ⟨b, off + j, none⟩ = some (.int .u8 (l.getD j 0)) := by
  rcases h.is with ⟨rfl, ao2, cap2, e⟩ | ⟨b, off, cap2, e, h1, h2, h3⟩
  · injection e with _ e2 _; exact absurd e2 hn
  · injection e with e1 e2 e3; subst e1 e2 e3; exact ⟨b, off, rfl, h1, h2, h3⟩
theorem Ux.size {w : World} {ao : Option Addr} {n cap : Nat} {l : List Int} (h : Ux w (.slice ao n cap) l) : n = l.length := by
  obtain ⟨_, _, e⟩ := h.mk'
  injection e
theorem Ux.below {w w' : World} {v : Value} {l : List Int} (h : Ux w v l) (hb : Below w.heap.size w w') : Ux w' v l := by
  obtain ⟨h1, h2, h3⟩ := h
  refine ⟨h1, h2, ?_⟩
  rcases h3 with h3 | ⟨b, off, cap, hv, hc, hlt, hl⟩
  · exact .inl h3
  · exact .inr ⟨b, off, cap, hv, hc, Nat.lt_of_lt_of_le hlt hb.size, fun j hj => cell_later hb (hl j hj)⟩

theorem owns_same {e : TypeId} {size : Nat} {W W' : World} {B n : Nat} {v : Value} {xs : List Value} (h : W.ownsRow B e size v n xs) (hb : ∀ g, v.ownBlock = some g → W'.heap[g]? = W.heap[g]?) : W'.ownsRow B e size v n xs := by
  refine ⟨h.1, ?_⟩
  rcases h.2 with h | ⟨g, cap, cur, h1, h2, h3, h4⟩
  · exact .inl h
  · exact .inr ⟨g, cap, cur, h1, h2, (hb g (by rw [h1]; rfl)).trans h3, h4⟩

/-- What the ratio and the sizes become. -/
def ratV (l : List Int) (k : Nat) : List Int := 1 :: ((l.take k).map fun x => x % 3)
def sizV (l : List Int) (k : Nat) : List Int := (l.take k).map fun x => 1 + x % 4
theorem ratV_succ {l : List Int} {k : Nat} (h : k < l.length) : ratV l (k + 1) = ratV l k ++ [l.getD k 0 % 3] := by
  unfold ratV; rw [take_next h]; simp
theorem sizV_succ {l : List Int} {k : Nat} (h : k < l.length) : sizV l (k + 1) = sizV l k ++ [1 + l.getD k 0 % 4] := by
  unfold sizV; rw [take_next h]; simp

/-- What lies in memory while a design is made. -/
structure MdI (W wr : World) (va vb vR vS : Value) (nR nS : Nat) (R S : List Int) : Prop where
  b : wr.heap[W.heap.size]? = some (.cells #[va, vb] 24 (0, 0))
  res : DBox wr (W.heap.size + 1) (.slice none 0 0) (.slice none 0 0)
  d : DBox wr (W.heap.size + 4) vR vS
  oR : OwI wr W.heap.size vR nR R
  oS : OwI wr W.heap.size vS nS S
  neR : ∀ g, vR.ownBlock = some g → g ≠ W.heap.size ∧ g ≠ W.heap.size + 1 ∧ g ≠ W.heap.size + 4 ∧ vS.ownBlock ≠ some g
  neS : ∀ g, vS.ownBlock = some g → g ≠ W.heap.size ∧ g ≠ W.heap.size + 1 ∧ g ≠ W.heap.size + 4
  bl : Below W.heap.size W wr
  lt : W.heap.size + 4 < wr.heap.size

theorem grown_block {w w' : World} {row : Option Nat} (hg : w.grownBy w' row) {k : Nat} (hk : k < w.heap.size) (hne : row ≠ some k) : w'.heap[k]? = w.heap[k]? :=
  hg.block k hk (fun e => hne e.symm)

theorem own_lt {e : TypeId} {size : Nat} {W : World} {B n : Nat} {v : Value} {xs : List Value} (h : W.ownsRow B e size v n xs) {g : Nat} (hg : v.ownBlock = some g) : g < W.heap.size := (h.lt g hg).2

theorem MdI.stepR {W wr : World} {va vb vR vS : Value} {nR nS : Nat} {R S : List Int} (h : MdI W wr va vb vR vS nR nS R S) (hn : nR ≤ 100) (x : Int) :
    ∃ g cap w2, Sem.run Try.prog (appI 25 #[vR, .slice (some ⟨wr.heap.size, 0, none⟩) 1 1]) (wr.alloc (.cells #[.int .i64 x] 3)).drew = .ok (.slice (some ⟨g, 0, none⟩) (nR + 1) cap) w2 ∧ w2.cell? ⟨W.heap.size + 4, 1, none⟩ = some vR ∧ w2.frozen? ⟨W.heap.size + 4, 1, none⟩ = false ∧ MdI W (w2.setCell ⟨W.heap.size + 4, 1, none⟩ (.slice (some ⟨g, 0, none⟩) (nR + 1) cap)) va vb (.slice (some ⟨g, 0, none⟩) (nR + 1) cap) vS (nR + 1) nS (R ++ [x]) S := by
  have hlt := h.lt
  obtain ⟨g, cap, w2, hrun, hown, hb, hgr, hg, hgl⟩ := push_int (W := wr.drew) (h.oR : OwI wr.drew _ _ _ _) (by omega) h.bl.size x
  have hkeep : ∀ k, k < wr.heap.size → vR.ownBlock ≠ some k → w2.heap[k]? = wr.heap[k]? := fun k hk hne => by
    rw [grown_block hgr (by rw [World.size_alloc]; show k < wr.heap.size + 1; omega) hne]
    exact Below.heap_alloc wr.drew _ k hk
  have hne0 : ∀ k, (k = W.heap.size ∨ k = W.heap.size + 1 ∨ k = W.heap.size + 4) → vR.ownBlock ≠ some k := fun k hk hc => by
    have := h.neR k hc; omega
  have hd := (hkeep (W.heap.size + 4) (by omega) (hne0 _ (by omega))).trans h.d
  have hgn : g ≠ W.heap.size ∧ g ≠ W.heap.size + 1 ∧ g ≠ W.heap.size + 4 ∧ vS.ownBlock ≠ some g := by
    rcases hg with hg | hg
    · exact h.neR g hg
    · refine ⟨?_, ?_, ?_, fun hc => ?_⟩
      · subst hg; show wr.heap.size + 1 ≠ _; omega
      · subst hg; show wr.heap.size + 1 ≠ _; omega
      · subst hg; show wr.heap.size + 1 ≠ _; omega
      · have := own_lt h.oS hc
        rw [hg] at this
        have h9 : wr.drew.heap.size = wr.heap.size := rfl
        omega
  refine ⟨g, cap, w2, hrun, DBox.cells hd |>.2.1, frozen_of_row _ _ _ _ _ hd, ⟨?_, ?_, ?_, ?_, ?_, ?_, h.neS, ?_, ?_⟩⟩
  · rw [Below.heap_setCell _ _ _ _ (by simp only; omega)]
    exact (hkeep _ (by omega) (hne0 _ (by omega))).trans h.b
  · rw [DBox, Below.heap_setCell _ _ _ _ (by simp only; omega)]
    exact (hkeep _ (by omega) (hne0 _ (by omega))).trans h.res
  · exact heap_setCell_same _ _ _ _ _ _ hd
  · exact owns_same hown fun k hk => Below.heap_setCell _ _ _ _ (by
      have e : g = k := by simpa [Value.ownBlock] using hk
      simp only; omega)
  · refine owns_same h.oS fun k hk => ?_
    have h1 := h.neS k hk
    rw [Below.heap_setCell _ _ _ _ (by simp only; omega)]
    exact hkeep k (own_lt h.oS hk) (fun hc => (h.neR k hc).2.2.2 hk)
  · intro k hk
    have e : g = k := by simpa [Value.ownBlock] using hk
    rw [← e]; exact hgn
  · exact (h.bl.drew.trans hb).setCell (by simp only; omega) _
  · have := hb.size
    have h9 : wr.drew.heap.size = wr.heap.size := rfl
    simp only [World.setCell, Array.size_modify]
    omega

theorem MdI.stepS {W wr : World} {va vb vR vS : Value} {nR nS : Nat} {R S : List Int} (h : MdI W wr va vb vR vS nR nS R S) (hn : nS ≤ 100) (x : Int) :
    ∃ g cap w2, Sem.run Try.prog (appI 25 #[vS, .slice (some ⟨wr.heap.size, 0, none⟩) 1 1]) (wr.alloc (.cells #[.int .i64 x] 3)).drew = .ok (.slice (some ⟨g, 0, none⟩) (nS + 1) cap) w2 ∧ w2.cell? ⟨W.heap.size + 4, 2, none⟩ = some vS ∧ w2.frozen? ⟨W.heap.size + 4, 2, none⟩ = false ∧ MdI W (w2.setCell ⟨W.heap.size + 4, 2, none⟩ (.slice (some ⟨g, 0, none⟩) (nS + 1) cap)) va vb vR (.slice (some ⟨g, 0, none⟩) (nS + 1) cap) nR (nS + 1) R (S ++ [x]) := by
  have hlt := h.lt
  obtain ⟨g, cap, w2, hrun, hown, hb, hgr, hg, hgl⟩ := push_int (W := wr.drew) (h.oS : OwI wr.drew _ _ _ _) (by omega) h.bl.size x
  have hkeep : ∀ k, k < wr.heap.size → vS.ownBlock ≠ some k → w2.heap[k]? = wr.heap[k]? := fun k hk hne => by
    rw [grown_block hgr (by rw [World.size_alloc]; show k < wr.heap.size + 1; omega) hne]
    exact Below.heap_alloc wr.drew _ k hk
  have hne0 : ∀ k, (k = W.heap.size ∨ k = W.heap.size + 1 ∨ k = W.heap.size + 4) → vS.ownBlock ≠ some k := fun k hk hc => by
    have := h.neS k hc; omega
  have hd := (hkeep (W.heap.size + 4) (by omega) (hne0 _ (by omega))).trans h.d
  have hgn : g ≠ W.heap.size ∧ g ≠ W.heap.size + 1 ∧ g ≠ W.heap.size + 4 ∧ vR.ownBlock ≠ some g := by
    rcases hg with hg | hg
    · have := h.neS g hg
      exact ⟨this.1, this.2.1, this.2.2, fun hc => (h.neR g hc).2.2.2 hg⟩
    · refine ⟨?_, ?_, ?_, fun hc => ?_⟩
      · subst hg; show wr.heap.size + 1 ≠ _; omega
      · subst hg; show wr.heap.size + 1 ≠ _; omega
      · subst hg; show wr.heap.size + 1 ≠ _; omega
      · have := own_lt h.oR hc
        rw [hg] at this
        have h9 : wr.drew.heap.size = wr.heap.size := rfl
        omega
  refine ⟨g, cap, w2, hrun, DBox.cells hd |>.2.2.1, frozen_of_row _ _ _ _ _ hd, ⟨?_, ?_, ?_, ?_, ?_, ?_, ?_, ?_, ?_⟩⟩
  · rw [Below.heap_setCell _ _ _ _ (by simp only; omega)]
    exact (hkeep _ (by omega) (hne0 _ (by omega))).trans h.b
  · rw [DBox, Below.heap_setCell _ _ _ _ (by simp only; omega)]
    exact (hkeep _ (by omega) (hne0 _ (by omega))).trans h.res
  · exact heap_setCell_same _ _ _ _ _ _ hd
  · refine owns_same h.oR fun k hk => ?_
    have h1 := h.neR k hk
    rw [Below.heap_setCell _ _ _ _ (by simp only; omega)]
    exact hkeep k (own_lt h.oR hk) h1.2.2.2
  · exact owns_same hown fun k hk => Below.heap_setCell _ _ _ _ (by
      have e : g = k := by simpa [Value.ownBlock] using hk
      simp only; omega)
  · intro k hk
    have h1 := h.neR k hk
    refine ⟨h1.1, h1.2.1, h1.2.2.1, fun hc => ?_⟩
    have e : g = k := by simpa [Value.ownBlock] using hc
    rw [e] at hgn
    exact hgn.2.2.2 hk
  · intro k hk
    have e : g = k := by simpa [Value.ownBlock] using hk
    rw [← e]; exact ⟨hgn.1, hgn.2.1, hgn.2.2.1⟩
  · exact (h.bl.drew.trans hb).setCell (by simp only; omega) _
  · have := hb.size
    have h9 : wr.drew.heap.size = wr.heap.size := rfl
    simp only [World.setCell, Array.size_modify]
    omega

/-- The sizes are taken away. -/
theorem MdI.clearS {W wr : World} {va vb vR vS : Value} {nR nS : Nat} {R S : List Int} (h : MdI W wr va vb vR vS nR nS R S) : MdI W (wr.setCell ⟨W.heap.size + 4, 2, none⟩ (.slice none 0 0)) va vb vR (.slice none 0 0) nR 0 R [] := by
  refine ⟨?_, ?_, heap_setCell_same _ _ _ _ _ _ h.d, ?_, World.ownsRow_nil _ _ _ _, fun g hg => ?_, fun g hg => by simp [Value.ownBlock] at hg, h.bl.setCell (by simp only; omega) _, ?_⟩
  · rw [Below.heap_setCell _ _ _ _ (by simp only; omega)]; exact h.b
  · rw [DBox, Below.heap_setCell _ _ _ _ (by simp only; omega)]; exact h.res
  · refine owns_same h.oR fun k hk => Below.heap_setCell _ _ _ _ (by have := h.neR k hk; simp only; omega)
  · have := h.neR g hg
    exact ⟨this.1, this.2.1, this.2.2.1, by simp [Value.ownBlock]⟩
  · simp only [World.setCell, Array.size_modify]; exact h.lt

/-- A design that is the one result. -/
theorem results_cell33 {fn : Func} {t g : Nat} {tmps : Array Value} {w : World} {a b c d e f : Value} (h : fn.results = #[.cell t 33]) (hp : tmps.getD t undef = .pointer (some ⟨g, 0, none⟩)) (hg : w.heap[g]? = some (.cells #[a, b, c, d, e, f] 33 (0, 0))) :
    (results fn tmps).run Try.prog w = .ok (.agg #[a, b, c, d, e, f]) w := by
  have h1 := run_loadVar_row (P := Try.prog) w g 33 33 #[a, b, c, d, e, f] (0, 0) _ hg Try.underlying33 rfl (by kernel_rfl)
  have hp' : tmps[t]?.getD undef = .pointer (some ⟨g, 0, none⟩) := by simpa [Array.getD_eq_getD_getElem?] using hp
  simp [results, h, hp', h1, asAddr]

theorem one_own {w : World} {g H : Nat} (x : Int) (hg : w.heap[g]? = some (.cells #[.int .i64 x] 3 (0, 0))) (hH : H ≤ g) : OwI w H (.slice (some ⟨g, 0, none⟩) 1 1) 1 [x] :=
  ⟨rfl, .inr ⟨g, 1, _, rfl, hH, hg, Nat.le_refl _, by decide, rfl, rfl⟩⟩

/-- The world when the making begins. -/
abbrev mdW (W : World) (va vb : Value) : World := ((((W.alloc (.cells #[va, vb] 24)).alloc (.cells #[.int .i64 0, .slice none 0 0, .slice none 0 0, .int .i64 0, .int .i64 0, .int .i64 0] 33)).alloc (.cells #[.int .i64 1] 3)).alloc (.cells #[.int .i64 1] 3)).alloc (.cells #[.int .i64 0, .slice (some ⟨W.heap.size + 1 + 1, 0, none⟩) 1 1, .slice (some ⟨W.heap.size + 1 + 1 + 1, 0, none⟩) 1 1, .int .i64 0, .int .i64 0, .int .i64 0] 33)

theorem md_start (W : World) (va vb : Value) (la : List Int) : MdI W (mdW W va vb) va vb (.slice (some ⟨W.heap.size + 1 + 1, 0, none⟩) 1 1) (.slice (some ⟨W.heap.size + 1 + 1 + 1, 0, none⟩) 1 1) 1 1 (ratV la 0) [1] := by
  have e : ∀ k, (mdW W va vb).heap[k]? = if k = W.heap.size + 4 then some (.cells #[.int .i64 0, .slice (some ⟨W.heap.size + 1 + 1, 0, none⟩) 1 1, .slice (some ⟨W.heap.size + 1 + 1 + 1, 0, none⟩) 1 1, .int .i64 0, .int .i64 0, .int .i64 0] 33) else if k = W.heap.size + 3 then some (.cells #[.int .i64 1] 3) else if k = W.heap.size + 2 then some (.cells #[.int .i64 1] 3) else if k = W.heap.size + 1 then some (.cells #[.int .i64 0, .slice none 0 0, .slice none 0 0, .int .i64 0, .int .i64 0, .int .i64 0] 33) else if k = W.heap.size then some (.cells #[va, vb] 24) else W.heap[k]? := fun k => by
    simp only [mdW, World.alloc, Array.getElem?_push, Array.size_push]
  refine ⟨?_, ?_, ?_, one_own 1 ?_ (by omega), one_own 1 ?_ (by omega), fun g hg => ?_, fun g hg => ?_, ?_, by simp⟩
  · rw [e, if_neg (by omega), if_neg (by omega), if_neg (by omega), if_neg (by omega), if_pos rfl]
  · rw [DBox, e, if_neg (by omega), if_neg (by omega), if_neg (by omega), if_pos rfl]
  · rw [DBox, e, if_pos rfl]
  · rw [e, if_neg (by omega), if_neg (by omega), if_pos (by omega)]
  · rw [e, if_neg (by omega), if_pos (by omega)]
  · have h : W.heap.size + 1 + 1 = g := by simpa [Value.ownBlock] using hg
    subst h
    refine ⟨by omega, by omega, by omega, ?_⟩
    simp [Value.ownBlock]
  · have h : W.heap.size + 1 + 1 + 1 = g := by simpa [Value.ownBlock] using hg
    omega
  · exact (((((Below.refl _ W).alloc (Nat.le_refl _) _).alloc (by simp) _).alloc (by simp; omega) _).alloc (by simp; omega) _).alloc (by simp; omega) _

/-- What lies in memory when the design is handed on. -/
theorem MdI.final {W wr : World} {va vb vR vS : Value} {nR nS : Nat} {R S : List Int} (h : MdI W wr va vb vR vS nR nS R S) {Wf : World}
    (hf : Wf = (((((wr.setCell ⟨W.heap.size + 1, 0, none⟩ (.int .i64 0)).setCell ⟨W.heap.size + 1, 1, none⟩ vR).setCell ⟨W.heap.size + 1, 2, none⟩ vS).setCell ⟨W.heap.size + 1, 3, none⟩ (.int .i64 0)).setCell ⟨W.heap.size + 1, 4, none⟩ (.int .i64 0)).setCell ⟨W.heap.size + 1, 5, none⟩ (.int .i64 0)) :
    DBox Wf (W.heap.size + 1) vR vS ∧ OwI Wf W.heap.size vR nR R ∧ OwI Wf W.heap.size vS nS S ∧ Below W.heap.size W Wf := by
  have k1 := heap_setCell_same _ (W.heap.size + 1) 0 _ 33 (.int .i64 0) h.res
  have k2 := heap_setCell_same _ (W.heap.size + 1) 1 _ 33 vR k1
  have k3 := heap_setCell_same _ (W.heap.size + 1) 2 _ 33 vS k2
  have k4 := heap_setCell_same _ (W.heap.size + 1) 3 _ 33 (.int .i64 0) k3
  have k5 := heap_setCell_same _ (W.heap.size + 1) 4 _ 33 (.int .i64 0) k4
  have k6 := heap_setCell_same _ (W.heap.size + 1) 5 _ 33 (.int .i64 0) k5
  rw [← hf] at k6
  have hk : ∀ k, k ≠ W.heap.size + 1 → Wf.heap[k]? = wr.heap[k]? := fun k hk => by
    rw [hf]
    repeat rw [Below.heap_setCell _ _ _ _ (by simpa using hk)]
  refine ⟨k6, owns_same h.oR fun k hq => hk k (h.neR k hq).2.1, owns_same h.oS fun k hq => hk k (h.neS k hq).2.1, ?_⟩
  rw [hf]
  exact (((((h.bl.setCell (by simp) _).setCell (by simp) _).setCell (by simp) _).setCell (by simp) _).setCell (by simp) _).setCell (by simp) _

attribute [local go_sem ↓] appI_rw

set_option maxRecDepth 10000 in
set_option maxHeartbeats 8000000 in
theorem made_any {W : World} {va vb : Value} {la lb : List Int} (ha : Ux W va la) (hb : Ux W vb lb) :
    Calls Try.prog 9 #[.agg #[va, vb]] W fun e w' => ∃ ar nr cr az ns cs, e = .returned (.agg #[.int .i64 0, .slice ar nr cr, .slice az ns cs, .int .i64 0, .int .i64 0, .int .i64 0]) ∧ OwI w' W.heap.size (.slice ar nr cr) nr (ratV la 4) ∧ OwI w' W.heap.size (.slice az ns cs) ns (if lb.length = 0 then [1] else sizV lb 3) ∧ Below W.heap.size W w' := by
  obtain ⟨aoa, capa, rfl⟩ := ha.mk'
  obtain ⟨aob, capb, rfl⟩ := hb.mk'
  have hla := ha.len
  have hlb := hb.len
  unfold maxLen at hla hlb
  obtain ⟨na, hna⟩ : ∃ na, na = la.length := ⟨_, rfl⟩
  obtain ⟨nb, hnb⟩ : ∃ nb, nb = lb.length := ⟨_, rfl⟩
  have HA := Lib.hid ha
  have HB := Lib.hid hb
  have HNA := Lib.hid hna
  have HNB := Lib.hid hnb
  rw [← hna] at HA hla ⊢
  rw [← hnb] at HB hlb ⊢
  have HS := Lib.hid (md_start W (.slice aoa na capa) (.slice aob nb capb) la)
  obtain ⟨ma, hma⟩ : ∃ ma, ma = min na 4 := ⟨_, rfl⟩
  obtain ⟨mb, hmb⟩ : ∃ mb, mb = min nb 3 := ⟨_, rfl⟩
  have HMA : Hid (ratV la ma = ratV la 4) := Lib.hid (by
    unfold ratV
    rcases Nat.le_total na 4 with h | h
    · rw [hma, Nat.min_eq_left h, hna, List.take_length, List.take_of_length_le (by omega)]
    · rw [hma, Nat.min_eq_right h])
  have HMB : Hid (sizV lb mb = sizV lb 3) := Lib.hid (by
    unfold sizV
    rcases Nat.le_total nb 3 with h | h
    · rw [hmb, Nat.min_eq_left h, hnb, List.take_length, List.take_of_length_le (by omega)]
    · rw [hmb, Nat.min_eq_right h])
  have hma4 : ma ≤ 4 := by omega
  have hma5 : ma ≤ na := by omega
  have hma6 : ma = 4 ∨ ma = na := by omega
  have hmb4 : mb ≤ 3 := by omega
  have hmb5 : mb ≤ nb := by omega
  have hmb6 : mb = 3 ∨ mb = nb := by omega
  have HM6 := Lib.hid hma6
  have HM7 := Lib.hid hmb6
  clear ha hb hna hnb hma hmb hma6 hmb6
  go_enter Try.func9, Try.ntmps9
  go_wp2
  go_loopw [4] (fun kv wr => ∃ (k : Nat) (vR : Value), k ≤ ma ∧ kv = .int .i64 (k : Nat) ∧ Hid (MdI W wr (.slice aoa na capa) (.slice aob nb capb) vR (.slice (some ⟨W.heap.size + 1 + 1 + 1, 0, none⟩) 1 1) (k + 1) 1 (ratV la k) [1])) (fun kv _ => ma - (intOf kv).toNat)
  case atStart => exact ⟨0, _, by omega, rfl, HS⟩
  case round =>
    obtain ⟨k, vR, hk, rfl, hI⟩ := hrel
    have b0 : wr.cell? ⟨W.heap.size, 0, none⟩ = some (.slice aoa na capa) := cell_of_row _ _ _ _ _ _ hI.out.b
    have b1 : wr.cell? ⟨W.heap.size, 1, none⟩ = some (.slice aob nb capb) := cell_of_row _ _ _ _ _ _ hI.out.b
    obtain ⟨d0, d1, d2, d3, d4, d5⟩ := hI.out.d.cells
    by_cases hkm : k = ma
    · have hend : ¬ k < na ∨ ¬ k < 4 := by have := HM6.out; omega
      have HI2 : Hid (MdI W wr (.slice aoa na capa) (.slice aob nb capb) vR (.slice (some ⟨W.heap.size + 1 + 1 + 1, 0, none⟩) 1 1) (k + 1) 1 (ratV la 4) [1]) := Lib.hid (by rw [← HMA.out, ← hkm]; exact hI.out)
      obtain ⟨aR, cR, rfl⟩ := slice_of_owns HI2.out.oR
      have HRE : Hid (∃ q, q = k + 1) := Lib.hid ⟨_, rfl⟩
      obtain ⟨nR, hnR⟩ := HRE.out
      rw [← hnR] at d1 HI2
      clear hI hkm hnR HRE
      have hend2 : ¬ (k < na ∧ k < 4) := by omega
      by_cases hb0 : nb = 0
      · subst hb0
        rcases Nat.lt_or_ge k na with hkn | hkn
        all_goals
          go_wp2
          clear b1 d0 d1 d2 d3 d4 d5 b0
          go_loopw [5] (fun kv wr => ∃ vS : Value, kv = .int .i64 0 ∧ Hid (MdI W wr (.slice aoa na capa) (.slice aob 0 capb) (.slice aR nR cR) vS nR 1 (ratV la 4) [1])) (fun _ _ => 0)
          case atStart => exact ⟨_, rfl, HI2⟩
          case round =>
            obtain ⟨vS, rfl, HJ⟩ := hrel
            obtain ⟨r0, r1, r2, r3, r4, r5⟩ := HJ.out.res.cells
            have fr := fun j => frozen_of_row _ _ j _ _ HJ.out.res
            have f0 := fr 0
            have f1 := fr 1
            have f2 := fr 2
            have f3 := fr 3
            have f4 := fr 4
            have f5 := fr 5
            have b1 : wr.cell? ⟨W.heap.size, 1, none⟩ = some (.slice aob 0 capb) := cell_of_row _ _ _ _ _ _ HJ.out.b
            obtain ⟨aS, cS, hvS⟩ := slice_of_owns HJ.out.oS
            subst hvS
            obtain ⟨d0, d1, d2, d3, d4, d5⟩ := HJ.out.d.cells
            have HFI := Lib.hid (HJ.out.final rfl)
            clear fr
            go_wp2
            exact bodyPost_ret (results_cell33 (t := 2) rfl rfl HFI.out.1) rfl ⟨_, _, _, _, _, _, rfl, HFI.out.2.1, by first | exact HFI.out.2.2.1 | (rw [if_pos rfl]; exact HFI.out.2.2.1), HFI.out.2.2.2⟩
      · have hb1 : 0 < nb := by omega
        have HC := Lib.hid HI2.out.clearS
        have f2 := frozen_of_row _ _ 2 _ _ HI2.out.d
        rcases Nat.lt_or_ge k na with hkn | hkn
        all_goals
          go_wp2
          clear b1 d0 d1 d2 d3 d4 d5 b0 f2
          go_loopw [5] (fun kv wr => ∃ (i : Nat) (vS : Value), i ≤ mb ∧ kv = .int .i64 (i : Nat) ∧ Hid (MdI W wr (.slice aoa na capa) (.slice aob nb capb) (.slice aR nR cR) vS nR i (ratV la 4) (sizV lb i))) (fun kv _ => mb - (intOf kv).toNat)
          case atStart => exact ⟨0, _, by omega, rfl, HC⟩
          case round =>
            obtain ⟨i, vS, hi, rfl, HJ⟩ := hrel
            by_cases him : i = mb
            · rcases Nat.lt_or_ge i nb with hin | hin
              all_goals
                have hi3 : ¬ (i < nb ∧ i < 3) := by have := HM7.out; omega
                have HE : Hid (sizV lb i = sizV lb 3) := Lib.hid (by rw [him, HMB.out])
                clear him
                obtain ⟨r0, r1, r2, r3, r4, r5⟩ := HJ.out.res.cells
                have fr := fun j => frozen_of_row _ _ j _ _ HJ.out.res
                have f0 := fr 0
                have f1 := fr 1
                have f2 := fr 2
                have f3 := fr 3
                have f4 := fr 4
                have f5 := fr 5
                have b1 : wr.cell? ⟨W.heap.size, 1, none⟩ = some (.slice aob nb capb) := cell_of_row _ _ _ _ _ _ HJ.out.b
                obtain ⟨aS, cS, hvS⟩ := slice_of_owns HJ.out.oS
                subst hvS
                obtain ⟨d0, d1, d2, d3, d4, d5⟩ := HJ.out.d.cells
                have HFI := Lib.hid (HJ.out.final rfl)
                clear fr
                go_wp2
                exact bodyPost_ret (results_cell33 (t := 2) rfl rfl HFI.out.1) rfl ⟨_, _, _, _, _, _, rfl, HFI.out.2.1, by rw [← HE.out]; exact HFI.out.2.2.1, HFI.out.2.2.2⟩
            · have hlt : i < mb := by omega
              obtain ⟨b, off, rfl, hcap, hbl, hcl⟩ := HB.out.at (by omega)
              have hc := (Below.cell HJ.out.bl (p := ⟨b, off + i, none⟩) hbl).trans (hcl i (by omega))
              have hfit := HB.out.fit i
              have b1 : wr.cell? ⟨W.heap.size, 1, none⟩ = some (.slice (some ⟨b, off, none⟩) nb capb) := cell_of_row _ _ _ _ _ _ HJ.out.b
              obtain ⟨d0, d1, d2, d3, d4, d5⟩ := HJ.out.d.cells
              obtain ⟨g, cap, w2, hrun, hcc, hff, hI2⟩ := HJ.out.stepS (by omega) (1 + lb.getD i 0 % 4)
              rw [← sizV_succ (by rw [← HNB.out]; omega)] at hI2
              have HI3 := Lib.hid hI2
              obtain ⟨x, hx⟩ : ∃ x, x = lb.getD i 0 := ⟨_, rfl⟩
              rw [← hx] at hc hrun hfit
              have hk4 : i < 3 := by omega
              have hkn : i < nb := by omega
              have hw : IntKind.i64.wrap x = x := IntWalk.i64_in _ (by omega)
              have hm3 : x.tmod 4 = x % 4 := Int.tmod_eq_emod_of_nonneg hfit.1
              have hw2 : IntKind.i64.wrap (1 + x % 4) = 1 + x % 4 := IntWalk.i64_in _ (by omega)
              have d2x : ((wr.alloc (.cells #[.int .i64 (1 + x % 4)] 3)).drew).cell? ⟨W.heap.size + 4, 2, none⟩ = some vS := cell_later (((Below.refl _ wr).alloc (Nat.le_refl _) _).drew) d2
              clear hx hcl hI2 him hbl
              go_wp2
              go_region_law (fail)
              all_goals (go_wp2; go_roundw; all_goals first | exact ⟨i + 1, _, by omega, by go_num, HI3⟩ | (simp [intOf]; done) | (simp [intOf]; omega))
    · have hlt : k < ma := by omega
      obtain ⟨b, off, rfl, hcap, hbl, hcl⟩ := HA.out.at (by omega)
      have hc := (Below.cell hI.out.bl (p := ⟨b, off + k, none⟩) hbl).trans (hcl k (by omega))
      have hfit := HA.out.fit k
      obtain ⟨g, cap, w2, hrun, hcc, hff, hI2⟩ := hI.out.stepR (by omega) (la.getD k 0 % 3)
      rw [← ratV_succ (by rw [← HNA.out]; omega)] at hI2
      have HI2 := Lib.hid hI2
      obtain ⟨x, hx⟩ : ∃ x, x = la.getD k 0 := ⟨_, rfl⟩
      rw [← hx] at hc hrun hfit
      have hk4 : k < 4 := by omega
      have hkn : k < na := by omega
      have hw : IntKind.i64.wrap x = x := IntWalk.i64_in _ (by omega)
      have hm3 : x.tmod 3 = x % 3 := Int.tmod_eq_emod_of_nonneg hfit.1
      have d1x : ((wr.alloc (.cells #[.int .i64 (x % 3)] 3)).drew).cell? ⟨W.heap.size + 4, 1, none⟩ = some vR := cell_later (((Below.refl _ wr).alloc (Nat.le_refl _) _).drew) d1
      clear hx hcl hI hI2 hkm hbl
      go_wp2
      go_region_law (fail)
      all_goals (go_wp2; go_roundw; all_goals first | exact ⟨k + 1, _, by omega, by go_num, HI2⟩ | (simp [intOf]; done) | (simp [intOf]; omega))

end Go.Proofs.Ytjlneggfkpjnpaa

namespace Go.Proofs.Ytjlneggfkpjnpaa
open Go.RowKit

theorem sameInts_yes {w : World} {va vb : Value} {a : List Int} (ha : Ix w va a) (hb : Ix w vb a) : Calls Try.prog 20 #[va, vb] w fun e w' => e = .returned (.bool true) ∧ Below w.heap.size w w' := by
  have := sameInts_any ha hb
  rwa [decide_eq_true rfl] at this

/-- The sizes that are made. -/
def sizD (l : List Int) : List Int := if l.length = 0 then [1] else sizV l 3

theorem ratV_len (l : List Int) : 1 ≤ (ratV l 4).length ∧ (ratV l 4).length ≤ 5 := by
  unfold ratV; simp; omega
theorem ratV_in (l : List Int) : inB 0 8 (ratV l 4) = true := by
  rw [inB_iff]
  intro k hk
  have hm : (ratV l 4).getD k 0 ∈ ratV l 4 := by
    have : (ratV l 4).getD k 0 = (ratV l 4)[k] := by simp [List.getD, hk]
    rw [this]; exact List.getElem_mem hk
  revert hm
  generalize (ratV l 4).getD k 0 = q
  intro hm
  unfold ratV at hm
  rw [List.mem_cons, List.mem_map] at hm
  rcases hm with hm | ⟨x, _, hm⟩ <;> omega
theorem sizD_len (l : List Int) : 1 ≤ (sizD l).length ∧ (sizD l).length ≤ 3 := by
  unfold sizD sizV
  split
  · simp
  · simp; omega
theorem sizD_in (l : List Int) : inB 1 4 (sizD l) = true := by
  by_cases hl : l.length = 0
  · have e : sizD l = [1] := by unfold sizD; rw [if_pos hl]
    rw [e]; rfl
  · have e : sizD l = sizV l 3 := by unfold sizD; rw [if_neg hl]
    rw [e, inB_iff]
    intro k hk
    have hm : (sizV l 3).getD k 0 ∈ sizV l 3 := by
      have : (sizV l 3).getD k 0 = (sizV l 3)[k] := by simp [List.getD, hk]
      rw [this]; exact List.getElem_mem hk
    revert hm
    generalize (sizV l 3).getD k 0 = q
    intro hm
    unfold sizV at hm
    rw [List.mem_map] at hm
    obtain ⟨x, _, hm⟩ := hm
    omega
theorem fit_small {l : List Int} {lo hi : Int} (h : inB lo hi l = true) (h1 : -1000000 ≤ lo) (h2 : hi ≤ 1000000) (k : Nat) : I64 (l.getD k 0) := by
  by_cases hk : k < l.length
  · have := (inB_iff.1 h) k hk
    constructor <;> omega
  · rw [show l.getD k 0 = 0 by simp [List.getD, List.getElem?_eq_none (Nat.le_of_not_lt hk)]]; decide
theorem has_made (la lb : List Int) : hasB (ratV la 4) (sizD lb) = true := by
  rw [hasB_iff]
  have h1 := ratV_len la
  have h2 := sizD_len lb
  refine ⟨⟨h1.1, by omega, ratV_in la, ?_⟩, h2.1, h2.2, sizD_in lb⟩
  unfold ratV; rfl

/-- made, as slices that read as ints. -/
theorem made_ix {W : World} {va vb : Value} {la lb : List Int} (ha : Ux W va la) (hb : Ux W vb lb) :
    Calls Try.prog 9 #[.agg #[va, vb]] W fun e w' => ∃ ar nr cr az ns cs, e = .returned (.agg #[.int .i64 0, .slice ar nr cr, .slice az ns cs, .int .i64 0, .int .i64 0, .int .i64 0]) ∧ Ix w' (.slice ar nr cr) (ratV la 4) ∧ Ix w' (.slice az ns cs) (sizD lb) ∧ Below W.heap.size W w' := by
  refine (made_any ha hb).mono fun e w' ⟨ar, nr, cr, az, ns, cs, h1, h2, h3, h4⟩ => ⟨ar, nr, cr, az, ns, cs, h1, ?_, ?_, h4⟩
  · have := owI_len h2
    have := ratV_len la
    exact h2.ix (by omega) (fit_small (ratV_in la) (by decide) (by decide))
  · have h3 : OwI w' W.heap.size (.slice az ns cs) ns (sizD lb) := h3
    have := owI_len h3
    have := sizD_len lb
    exact h3.ix (by omega) (fit_small (sizD_in lb) (by decide) (by decide))

end Go.Proofs.Ytjlneggfkpjnpaa

namespace Go.Proofs.Ytjlneggfkpjnpaa
open Go.RowKit

/-- The choice that a number picks, the row after so many, and what was taken. -/
def pickC (r s row : List Int) (x : Int) : Ch := (chV r s row).getD (x % ((chV r s row).length : Int)).toNat (0, 0, 0)
def wRow (r s l : List Int) : Nat → List Int
  | 0 => []
  | k + 1 => nextV r s (wRow r s l k) (pickC r s (wRow r s l k) (l.getD k 0))
def wCh (r s l : List Int) (k : Nat) : Ch := pickC r s (wRow r s l k) (l.getD k 0)
def takeC (r s l : List Int) (k : Nat) : List Ch := (List.range k).map (wCh r s l)
theorem takeC_succ (r s l : List Int) (k : Nat) : takeC r s l (k + 1) = takeC r s l k ++ [wCh r s l k] := by simp [takeC, List.range_succ]
theorem takeC_len (r s l : List Int) (k : Nat) : (takeC r s l k).length = k := by simp [takeC]
theorem takeC_get {r s l : List Int} {k j : Nat} (h : j < k) : (takeC r s l k).getD j (0, 0, 0) = wCh r s l j := by simp [takeC, List.getD, h]

theorem nextV_fit {r s row : List Int} {c : Ch} : fitB r (nextV r s row c) = true := by
  unfold nextV nextOk
  by_cases hc : c ∈ chV r s row
  · rw [decide_eq_true hc, if_pos rfl]
    obtain ⟨x, y, z⟩ := c
    obtain ⟨_, _, hin, hlen, k, hk, rfl, h1, _⟩ := ch_facts hc
    split
    · rfl
    · have hk2 : k < (blockV r row y).length := by rw [hlen]; exact hk
      have := less_in hin hk2 h1
      unfold fitB
      show (decide ((lessV (blockV r row y) (k : Int)).length = 0) || (decide ((lessV (blockV r row y) (k : Int)).length = r.length) && inB 0 1048576 (lessV (blockV r row y) (k : Int)))) = true
      rw [this, show (lessV (blockV r row y) (k : Int)).length = r.length by unfold lessV; rw [List.length_set]; exact hlen]
      simp
  · rw [decide_eq_false hc]; rfl

theorem wRow_fit (r s l : List Int) : ∀ k, fitB r (wRow r s l k) = true
  | 0 => rfl
  | k + 1 => nextV_fit
theorem wRow_in (r s l : List Int) : ∀ k, inB 0 1048576 (wRow r s l k) = true
  | 0 => rfl
  | k + 1 => nextV_in
theorem wRow_len {r s l : List Int} (lr : r.length ≤ 8) : ∀ k, (wRow r s l k).length ≤ 8
  | 0 => by simp [wRow]
  | k + 1 => nextV_len lr

theorem coll_some {size : Int} {w : List Int} {k n : Nat} (hk : k < n) (h : 0 < w.getD k 0) : coll size w n ≠ [] := fun e => by
  have : ((w.getD k 0, size, (k : Int)) : Ch) ∈ coll size w n := mem_coll.2 ⟨k, hk, h, rfl⟩
  rw [e] at this; simp at this

/-- There always is a choice. -/
theorem ch_some {r s row : List Int} (hB : hasB r s = true) (hF : fitB r row = true) : (chV r s row).length ≠ 0 := by
  intro h0
  have h0 := List.eq_nil_of_length_eq_zero h0
  obtain ⟨⟨b1, b2, b3, b4⟩, b5, b6, b7⟩ := hasB_iff.1 hB
  by_cases hl : 0 < leftV row
  · rw [chV_row hB hF hl] at h0
    have hin : inB 0 1048576 row = true := by
      unfold leftV at hl
      split at hl
      · assumption
      · omega
    have := coll_nil hin row.length (Nat.le_refl _)
    rw [h0, List.take_length] at this
    have h1 := this.1 rfl
    unfold leftV at hl
    rw [if_pos hin] at hl
    omega
  · rw [chV_new hB hF hl] at h0
    rw [List.any_eq_true] at b4
    obtain ⟨x, hx, h4⟩ := b4
    obtain ⟨k, hk, rfl⟩ := List.getElem_of_mem hx
    have e : r.getD k 0 = r[k] := by simp [List.getD, hk]
    have hc := coll_some (size := s.getD 0 0) (w := r) (n := r.length) hk (by rw [e]; simpa using h4)
    obtain ⟨c, hc⟩ := List.exists_mem_of_ne_nil _ hc
    have : c ∈ blks r s s.length := mem_blks.2 ⟨0, by omega, hc⟩
    rw [h0] at this
    simp at this

theorem pick_mem {r s row : List Int} {x : Int} (hx : 0 ≤ x) (h : (chV r s row).length ≠ 0) : pickC r s row x ∈ chV r s row ∧ (x % ((chV r s row).length : Int)).toNat < (chV r s row).length := by
  have h1 := Int.emod_nonneg x (show ((chV r s row).length : Int) ≠ 0 by omega)
  have h2 := Int.emod_lt_of_pos x (show (0 : Int) < ((chV r s row).length : Int) by omega)
  have h3 : (x % ((chV r s row).length : Int)).toNat < (chV r s row).length := by omega
  exact ⟨getD_mem h3, h3⟩

theorem wCh_mem {r s l : List Int} (hB : hasB r s = true) (hl : ∀ k, 0 ≤ l.getD k 0) (k : Nat) : wCh r s l k ∈ chV r s (wRow r s l k) := (pick_mem (hl k) (ch_some hB (wRow_fit r s l k))).1

/-- A slice that reads as numbers of two bytes. -/
structure Hx (w : World) (v : Value) (l : List Int) : Prop where
  len : l.length ≤ maxLen
  fit : ∀ k, 0 ≤ l.getD k 0 ∧ l.getD k 0 ≤ 65535
  is : (l = [] ∧ ∃ ao cap, v = .slice ao 0 cap) ∨ ∃ b off cap, v = .slice (some ⟨b, off, none⟩) l.length cap ∧ l.length ≤ cap ∧ b < w.heap.size ∧ ∀ j, j < l.length → w.cell? ⟨b, off + j, none⟩ = some (.int .u16 (l.getD j 0))
theorem Hx.mk' {w : World} {v : Value} {l : List Int} (h : Hx w v l) : ∃ ao cap, v = .slice ao l.length cap := by
  rcases h.is with ⟨rfl, ao, cap, rfl⟩ | ⟨b, off, cap, rfl, _⟩
  · exact ⟨_, _, rfl⟩
  · exact ⟨_, _, rfl⟩
theorem Hx.at {w : World} {ao : Option Addr} {n cap : Nat} {l : List Int} (h : Hx w (.slice ao n cap) l) (hn : n ≠ 0) : ∃ b off, ao = some ⟨b, off, none⟩ ∧ n ≤ cap ∧ b < w.heap.size ∧ ∀ j, j < n → w.cell? ⟨b, off + j, none⟩ = some (.int .u16 (l.getD j 0)) := by
  rcases h.is with ⟨rfl, ao2, cap2, e⟩ | ⟨b, off, cap2, e, h1, h2, h3⟩
  · injection e with _ e2 _; exact absurd e2 hn
  · injection e with e1 e2 e3; subst e1 e2 e3; exact ⟨b, off, rfl, h1, h2, h3⟩
theorem Hx.size {w : World} {ao : Option Addr} {n cap : Nat} {l : List Int} (h : Hx w (.slice ao n cap) l) : n = l.length := by
  obtain ⟨_, _, e⟩ := h.mk'
  injection e
theorem Hx.below {w w' : World} {v : Value} {l : List Int} (h : Hx w v l) (hb : Below w.heap.size w w') : Hx w' v l := by
  obtain ⟨h1, h2, h3⟩ := h
  refine ⟨h1, h2, ?_⟩
  rcases h3 with h3 | ⟨b, off, cap, hv, hc, hlt, hl⟩
  · exact .inl h3
  · exact .inr ⟨b, off, cap, hv, hc, Nat.lt_of_lt_of_le hlt hb.size, fun j hj => cell_later hb (hl j hj)⟩

/-- What is owned stays when another slice grows whose elements have another type. -/
theorem owns_grown {e e' : TypeId} {size size' : Nat} {W W' : World} {B B' n n' : Nat} {v v' : Value} {xs xs' : List Value} (h : W.ownsRow B e size v n xs) (h' : W.ownsRow B' e' size' v' n' xs') (hne : e ≠ e') (hg : W.grownBy W' v'.ownBlock) : W'.ownsRow B e size v n xs := by
  refine owns_same h fun g hgv => ?_
  have hlt := own_lt h hgv
  refine grown_block hg hlt fun hc => ?_
  rcases h.2 with ⟨hv, _⟩ | ⟨g1, cap1, cur1, hv, _, hh, _⟩
  · rw [hv] at hgv; simp [Value.ownBlock] at hgv
  · rcases h'.2 with ⟨hv', _⟩ | ⟨g2, cap2, cur2, hv', _, hh', _⟩
    · rw [hv'] at hc; simp [Value.ownBlock] at hc
    · rw [hv] at hgv
      rw [hv'] at hc
      have e1 : g1 = g := by simpa [Value.ownBlock] using hgv
      have e2 : g2 = g := by simpa [Value.ownBlock] using hc
      rw [e1] at hh
      rw [e2] at hh'
      rw [hh] at hh'
      simp at hh'
      exact hne hh'.2

theorem Try.info25 : (Try.prog.info? 25).map (fun i => (i.zero, i.size, i.bytes)) = some (some (.slice none 0 0), 1, 24) := by kernel_rfl
def appR (ty : TypeId) (vs : Array Value) : Sem Value := Builtin.append_ #[38, 38] ty vs
theorem appR_rw (ty : TypeId) (vs : Array Value) : Builtin.append_ #[38, 38] ty vs = appR ty vs := rfl

/-- An append of one slice. -/
theorem push_slice {W : World} {B n : Nat} {v : Value} {l : List Value} (h : W.ownsRow B 25 1 v n l) (hn : n ≤ 1000) (hB : B ≤ W.heap.size) (ao : Option Addr) (m cap : Nat) :
    ∃ g cap2 w2, Sem.run Try.prog (appR 38 #[v, .slice (some ⟨W.heap.size, 0, none⟩) 1 1]) (W.alloc (.cells #[.slice ao m cap] 25)) = .ok (.slice (some ⟨g, 0, none⟩) (n + 1) cap2) w2 ∧ w2.ownsRow B 25 1 (.slice (some ⟨g, 0, none⟩) (n + 1) cap2) (n + 1) (l ++ [.slice ao m cap]) ∧ Below B W w2 ∧ (W.alloc (.cells #[.slice ao m cap] 25)).grownBy w2 v.ownBlock := by
  obtain ⟨i0, hii, hz0, hz1, hz2⟩ := info_parts Try.info25
  have hown3 : (W.alloc (.cells #[.slice ao m cap] 25)).ownsRow B 25 1 v n l := owns_later h ((Below.refl _ _).alloc (Nat.le_refl _) _)
  obtain ⟨g, cap4, w4, hrun4, hown4, hgrow4, hg, hlt⟩ := run_append_lies (P := Try.prog) (w := W.alloc (.cells #[.slice ao m cap] 25)) 38 38 B 25 i0 (.slice none 0 0) 1 24 Try.underlying38 hii hz0 hz1 hz2 rfl (by decide) _ n _ hown3 ⟨W.heap.size, 0, none⟩ 1 1 [.slice ao m cap] rfl (cell_one_new W (.slice ao m cap) 25) (fun u hu => by simp at hu; subst hu; rfl) (by omega) (by unfold maxLen; omega) (by omega) (by simp; omega) _ (World.size_alloc _ _)
  rw [appR_rw] at hrun4
  exact ⟨g, cap4, w4, hrun4, hown4, (((Below.refl B W).alloc hB _)).grown hgrow4 (by simp; omega) (fun j hj => (hown3.lt j hj).1), hgrow4⟩

/-- What lies in memory when k choices are taken. -/
structure WkI (W0 wr : World) (r s l : List Int) (vT vR : Value) (vals : List Value) (k : Nat) : Prop where
  ft : OwC wr W0.heap.size vT k (takeC r s l k)
  fr : wr.ownsRow W0.heap.size 25 1 vR k vals
  fv : ∀ j, j < k → ∃ ao n cap, vals[j]? = some (.slice ao n cap) ∧ OwI wr W0.heap.size (.slice ao n cap) n (wRow r s l (j + 1))
  fb : Below W0.heap.size W0 wr

theorem WkI.later {W0 wr wx : World} {r s l : List Int} {vT vR : Value} {vals : List Value} {k : Nat} (h : WkI W0 wr r s l vT vR vals k) (hb : Below wr.heap.size wr wx) : WkI W0 wx r s l vT vR vals k :=
  ⟨owns_later h.ft hb, owns_later h.fr hb, fun j hj => by obtain ⟨ao, n, cap, h1, h2⟩ := h.fv j hj; exact ⟨ao, n, cap, h1, owns_later h2 hb⟩, h.fb.trans (hb.mono h.fb.size)⟩

/-- A choice and a row more. -/
theorem WkI.step {W0 wr : World} {r s l : List Int} {vT vR : Value} {vals : List Value} {k : Nat} (h : WkI W0 wr r s l vT vR vals k) (hk : k ≤ 500) {ao : Option Addr} {n cap : Nat} (hr : OwI wr W0.heap.size (.slice ao n cap) n (wRow r s l (k + 1))) :
    ∃ g cap2 w2 g' cap2' w3, Sem.run Try.prog (appC 39 #[vT, .slice (some ⟨wr.heap.size, 0, none⟩) 1 1]) (wr.alloc (.cells #[.int .i64 (wCh r s l k).1, .int .i64 (wCh r s l k).2.1, .int .i64 (wCh r s l k).2.2] 28)) = .ok (.slice (some ⟨g, 0, none⟩) (k + 1) cap2) w2 ∧
      Sem.run Try.prog (appR 38 #[vR, .slice (some ⟨w2.heap.size, 0, none⟩) 1 1]) (w2.alloc (.cells #[.slice ao n cap] 25)) = .ok (.slice (some ⟨g', 0, none⟩) (k + 1) cap2') w3 ∧
      WkI W0 w3 r s l (.slice (some ⟨g, 0, none⟩) (k + 1) cap2) (.slice (some ⟨g', 0, none⟩) (k + 1) cap2') (vals ++ [.slice ao n cap]) (k + 1) ∧ OwI w3 W0.heap.size (.slice ao n cap) n (wRow r s l (k + 1)) := by
  have hs := h.fb.size
  have ha : Below wr.heap.size wr (wr.alloc (.cells #[.int .i64 (wCh r s l k).1, .int .i64 (wCh r s l k).2.1, .int .i64 (wCh r s l k).2.2] 28)) := (Below.refl _ _).alloc (Nat.le_refl _) _
  obtain ⟨g, cap2, w2, hrun, hown, hb, hgr, hg, hgl⟩ := push_choice h.ft (by omega) hs (wCh r s l k).1 (wCh r s l k).2.1 (wCh r s l k).2.2
  have hT := owns_later h.ft ha
  have hR2 := owns_grown (owns_later h.fr ha) hT (by decide) hgr
  have hN2 := owns_grown (owns_later hr ha) hT (by decide) hgr
  have hV2 : ∀ j, j < k → ∃ ao n cap, vals[j]? = some (.slice ao n cap) ∧ OwI w2 W0.heap.size (.slice ao n cap) n (wRow r s l (j + 1)) := fun j hj => by
    obtain ⟨ao, n, cap, h1, h2⟩ := h.fv j hj
    exact ⟨ao, n, cap, h1, owns_grown (owns_later h2 ha) hT (by decide) hgr⟩
  have hbl2 := h.fb.trans hb
  have ha2 : Below w2.heap.size w2 (w2.alloc (.cells #[.slice ao n cap] 25)) := (Below.refl _ _).alloc (Nat.le_refl _) _
  obtain ⟨g', cap2', w3, hrun3, hown3, hb3, hgr3⟩ := push_slice hR2 (by omega) hbl2.size ao n cap
  have hR := owns_later hR2 ha2
  refine ⟨g, cap2, w2, g', cap2', w3, hrun, hrun3, ⟨?_, hown3, fun j hj => ?_, hbl2.trans hb3⟩, owns_grown (owns_later hN2 ha2) hR (by decide) hgr3⟩
  · rw [takeC_succ]
    exact owns_grown (owns_later hown ha2) hR (by decide) hgr3
  · have hvl : vals.length = k := by have := h.fr.1; omega
    by_cases hjk : j = k
    · subst hjk
      exact ⟨ao, n, cap, by rw [List.getElem?_append_right (by omega), hvl]; simp, owns_grown (owns_later hN2 ha2) hR (by decide) hgr3⟩
    · obtain ⟨ao', n', cap', h1, h2⟩ := hV2 j (by omega)
      exact ⟨ao', n', cap', by rw [List.getElem?_append_left (by omega)]; exact h1, owns_grown (owns_later h2 ha2) hR (by decide) hgr3⟩

end Go.Proofs.Ytjlneggfkpjnpaa
