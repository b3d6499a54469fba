/- Contract: the law's made. Condition: the two slices read as bytes. -/
import Derived.Test.YtjlneggfkpjnpaaL
namespace Go.Proofs.Ytjlneggfkpjnpaa
open Go.RowKit

/-- A slice that reads as bytes. -/
structure Ux (w : World) (v : Value) (l : List Int) : Prop where
  len : l.length ≤ maxLen
  fit : ∀ k, 0 ≤ l.getD k 0 ∧ l.getD k 0 ≤ 255
  is : (l = [] ∧ ∃ ao cap, v = .slice ao 0 cap) ∨ ∃ b off cap, v = .slice (some ⟨b, off, none⟩) l.length cap ∧ l.length ≤ cap ∧ b < w.heap.size ∧ ∀ j, j < l.length → w.cell? ⟨b, off + j, none⟩ = some (.int .u8 (l.getD j 0))
theorem Ux.mk' {w : World} {v : Value} {l : List Int} (h : Ux w v l) : ∃ ao cap, v = .slice ao l.length cap := by
  rcases h.is with ⟨rfl, ao, cap, rfl⟩ | ⟨b, off, cap, rfl, _⟩
  · exact ⟨_, _, rfl⟩
  · exact ⟨_, _, rfl⟩
theorem Ux.at {w : World} {ao : Option Addr} {n cap : Nat} {l : List Int} (h : Ux w (.slice ao n cap) l) (hn : n ≠ 0) : ∃ b off, ao = some ⟨b, off, none⟩ ∧ n ≤ cap ∧ b < w.heap.size ∧ ∀ j, j < n → w.cell? ⟨b, off + j, none⟩ = some (.int .u8 (l.getD j 0)) := by
  rcases h.is with ⟨rfl, ao2, cap2, e⟩ | ⟨b, off, cap2, e, h1, h2, h3⟩
  · injection e with _ e2 _; exact absurd e2 hn
  · injection e with e1 e2 e3; subst e1 e2 e3; exact ⟨b, off, rfl, h1, h2, h3⟩
theorem Ux.size {w : World} {ao : Option Addr} {n cap : Nat} {l : List Int} (h : Ux w (.slice ao n cap) l) : n = l.length := by
  obtain ⟨_, _, e⟩ := h.mk'
  injection e
theorem Ux.below {w w' : World} {v : Value} {l : List Int} (h : Ux w v l) (hb : Below w.heap.size w w') : Ux w' v l := by
  obtain ⟨h1, h2, h3⟩ := h
  refine ⟨h1, h2, ?_⟩
  rcases h3 with h3 | ⟨b, off, cap, hv, hc, hlt, hl⟩
  · exact .inl h3
  · exact .inr ⟨b, off, cap, hv, hc, Nat.lt_of_lt_of_le hlt hb.size, fun j hj => cell_later hb (hl j hj)⟩

theorem owns_same {e : TypeId} {size : Nat} {W W' : World} {B n : Nat} {v : Value} {xs : List Value} (h : W.ownsRow B e size v n xs) (hb : ∀ g, v.ownBlock = some g → W'.heap[g]? = W.heap[g]?) : W'.ownsRow B e size v n xs := by
  refine ⟨h.1, ?_⟩
  rcases h.2 with h | ⟨g, cap, cur, h1, h2, h3, h4⟩
  · exact .inl h
  · exact .inr ⟨g, cap, cur, h1, h2, (hb g (by rw [h1]; rfl)).trans h3, h4⟩

/-- What the ratio and the sizes become. -/
def ratV (l : List Int) (k : Nat) : List Int := 1 :: ((l.take k).map fun x => x % 3)
def sizV (l : List Int) (k : Nat) : List Int := (l.take k).map fun x => 1 + x % 4
theorem ratV_succ {l : List Int} {k : Nat} (h : k < l.length) : ratV l (k + 1) = ratV l k ++ [l.getD k 0 % 3] := by
  unfold ratV; rw [take_next h]; simp
theorem sizV_succ {l : List Int} {k : Nat} (h : k < l.length) : sizV l (k + 1) = sizV l k ++ [1 + l.getD k 0 % 4] := by
  unfold sizV; rw [take_next h]; simp

/-- What lies in memory while a design is made. -/
structure MdI (W wr : World) (va vb vR vS : Value) (nR nS : Nat) (R S : List Int) : Prop where
  b : wr.heap[W.heap.size]? = some (.cells #[va, vb] 24 (0, 0))
  res : DBox wr (W.heap.size + 1) (.slice none 0 0) (.slice none 0 0)
  d : DBox wr (W.heap.size + 4) vR vS
  oR : OwI wr W.heap.size vR nR R
  oS : OwI wr W.heap.size vS nS S
  neR : ∀ g, vR.ownBlock = some g → g ≠ W.heap.size ∧ g ≠ W.heap.size + 1 ∧ g ≠ W.heap.size + 4 ∧ vS.ownBlock ≠ some g
  neS : ∀ g, vS.ownBlock = some g → g ≠ W.heap.size ∧ g ≠ W.heap.size + 1 ∧ g ≠ W.heap.size + 4
  bl : Below W.heap.size W wr
  lt : W.heap.size + 4 < wr.heap.size

theorem grown_block {w w' : World} {row : Option Nat} (hg : w.grownBy w' row) {k : Nat} (hk : k < w.heap.size) (hne : row ≠ some k) : w'.heap[k]? = w.heap[k]? :=
  hg.block k hk (fun e => hne e.symm)

theorem own_lt {e : TypeId} {size : Nat} {W : World} {B n : Nat} {v : Value} {xs : List Value} (h : W.ownsRow B e size v n xs) {g : Nat} (hg : v.ownBlock = some g) : g < W.heap.size := (h.lt g hg).2

theorem MdI.stepR {W wr : World} {va vb vR vS : Value} {nR nS : Nat} {R S : List Int} (h : MdI W wr va vb vR vS nR nS R S) (hn : nR ≤ 100) (x : Int) :
    ∃ g cap w2, Sem.run Try.prog (appI 25 #[vR, .slice (some ⟨wr.heap.size, 0, none⟩) 1 1]) (wr.alloc (.cells #[.int .i64 x] 3)).drew = .ok (.slice (some ⟨g, 0, none⟩) (nR + 1) cap) w2 ∧ w2.cell? ⟨W.heap.size + 4, 1, none⟩ = some vR ∧ w2.frozen? ⟨W.heap.size + 4, 1, none⟩ = false ∧ MdI W (w2.setCell ⟨W.heap.size + 4, 1, none⟩ (.slice (some ⟨g, 0, none⟩) (nR + 1) cap)) va vb (.slice (some ⟨g, 0, none⟩) (nR + 1) cap) vS (nR + 1) nS (R ++ [x]) S := by
  have hlt := h.lt
  obtain ⟨g, cap, w2, hrun, hown, hb, hgr, hg, hgl⟩ := push_int (W := wr.drew) (h.oR : OwI wr.drew _ _ _ _) (by omega) h.bl.size x
  have hkeep : ∀ k, k < wr.heap.size → vR.ownBlock ≠ some k → w2.heap[k]? = wr.heap[k]? := fun k hk hne => by
    rw [grown_block hgr (by rw [World.size_alloc]; show k < wr.heap.size + 1; omega) hne]
    exact Below.heap_alloc wr.drew _ k hk
  have hne0 : ∀ k, (k = W.heap.size ∨ k = W.heap.size + 1 ∨ k = W.heap.size + 4) → vR.ownBlock ≠ some k := fun k hk hc => by
    have := h.neR k hc; omega
  have hd := (hkeep (W.heap.size + 4) (by omega) (hne0 _ (by omega))).trans h.d
  have hgn : g ≠ W.heap.size ∧ g ≠ W.heap.size + 1 ∧ g ≠ W.heap.size + 4 ∧ vS.ownBlock ≠ some g := by
    rcases hg with hg | hg
    · exact h.neR g hg
    · refine ⟨?_, ?_, ?_, fun hc => ?_⟩
      · subst hg; show wr.heap.size + 1 ≠ _; omega
      · subst hg; show wr.heap.size + 1 ≠ _; omega
      · subst hg; show wr.heap.size + 1 ≠ _; omega
      · have := own_lt h.oS hc
        rw [hg] at this
        have h9 : wr.drew.heap.size = wr.heap.size := rfl
        omega
  refine ⟨g, cap, w2, hrun, DBox.cells hd |>.2.1, frozen_of_row _ _ _ _ _ hd, ⟨?_, ?_, ?_, ?_, ?_, ?_, h.neS, ?_, ?_⟩⟩
  · rw [Below.heap_setCell _ _ _ _ (by simp only; omega)]
    exact (hkeep _ (by omega) (hne0 _ (by omega))).trans h.b
  · rw [DBox, Below.heap_setCell _ _ _ _ (by simp only; omega)]
    exact (hkeep _ (by omega) (hne0 _ (by omega))).trans h.res
  · exact heap_setCell_same _ _ _ _ _ _ hd
  · exact owns_same hown fun k hk => Below.heap_setCell _ _ _ _ (by
      have e : g = k := by simpa [Value.ownBlock] using hk
      simp only; omega)
  · refine owns_same h.oS fun k hk => ?_
    have h1 := h.neS k hk
    rw [Below.heap_setCell _ _ _ _ (by simp only; omega)]
    exact hkeep k (own_lt h.oS hk) (fun hc => (h.neR k hc).2.2.2 hk)
  · intro k hk
    have e : g = k := by simpa [Value.ownBlock] using hk
    rw [← e]; exact hgn
  · exact (h.bl.drew.trans hb).setCell (by simp only; omega) _
  · have := hb.size
    have h9 : wr.drew.heap.size = wr.heap.size := rfl
    simp only [World.setCell, Array.size_modify]
    omega

theorem MdI.stepS {W wr : World} {va vb vR vS : Value} {nR nS : Nat} {R S : List Int} (h : MdI W wr va vb vR vS nR nS R S) (hn : nS ≤ 100) (x : Int) :
    ∃ g cap w2, Sem.run Try.prog (appI 25 #[vS, .slice (some ⟨wr.heap.size, 0, none⟩) 1 1]) (wr.alloc (.cells #[.int .i64 x] 3)).drew = .ok (.slice (some ⟨g, 0, none⟩) (nS + 1) cap) w2 ∧ w2.cell? ⟨W.heap.size + 4, 2, none⟩ = some vS ∧ w2.frozen? ⟨W.heap.size + 4, 2, none⟩ = false ∧ MdI W (w2.setCell ⟨W.heap.size + 4, 2, none⟩ (.slice (some ⟨g, 0, none⟩) (nS + 1) cap)) va vb vR (.slice (some ⟨g, 0, none⟩) (nS + 1) cap) nR (nS + 1) R (S ++ [x]) := by
  have hlt := h.lt
  obtain ⟨g, cap, w2, hrun, hown, hb, hgr, hg, hgl⟩ := push_int (W := wr.drew) (h.oS : OwI wr.drew _ _ _ _) (by omega) h.bl.size x
  have hkeep : ∀ k, k < wr.heap.size → vS.ownBlock ≠ some k → w2.heap[k]? = wr.heap[k]? := fun k hk hne => by
    rw [grown_block hgr (by rw [World.size_alloc]; show k < wr.heap.size + 1; omega) hne]
    exact Below.heap_alloc wr.drew _ k hk
  have hne0 : ∀ k, (k = W.heap.size ∨ k = W.heap.size + 1 ∨ k = W.heap.size + 4) → vS.ownBlock ≠ some k := fun k hk hc => by
    have := h.neS k hc; omega
  have hd := (hkeep (W.heap.size + 4) (by omega) (hne0 _ (by omega))).trans h.d
  have hgn : g ≠ W.heap.size ∧ g ≠ W.heap.size + 1 ∧ g ≠ W.heap.size + 4 ∧ vR.ownBlock ≠ some g := by
    rcases hg with hg | hg
    · have := h.neS g hg
      exact ⟨this.1, this.2.1, this.2.2, fun hc => (h.neR g hc).2.2.2 hg⟩
    · refine ⟨?_, ?_, ?_, fun hc => ?_⟩
      · subst hg; show wr.heap.size + 1 ≠ _; omega
      · subst hg; show wr.heap.size + 1 ≠ _; omega
      · subst hg; show wr.heap.size + 1 ≠ _; omega
      · have := own_lt h.oR hc
        rw [hg] at this
        have h9 : wr.drew.heap.size = wr.heap.size := rfl
        omega
  refine ⟨g, cap, w2, hrun, DBox.cells hd |>.2.2.1, frozen_of_row _ _ _ _ _ hd, ⟨?_, ?_, ?_, ?_, ?_, ?_, ?_, ?_, ?_⟩⟩
  · rw [Below.heap_setCell _ _ _ _ (by simp only; omega)]
    exact (hkeep _ (by omega) (hne0 _ (by omega))).trans h.b
  · rw [DBox, Below.heap_setCell _ _ _ _ (by simp only; omega)]
    exact (hkeep _ (by omega) (hne0 _ (by omega))).trans h.res
  · exact heap_setCell_same _ _ _ _ _ _ hd
  · refine owns_same h.oR fun k hk => ?_
    have h1 := h.neR k hk
    rw [Below.heap_setCell _ _ _ _ (by simp only; omega)]
    exact hkeep k (own_lt h.oR hk) h1.2.2.2
  · exact owns_same hown fun k hk => Below.heap_setCell _ _ _ _ (by
      have e : g = k := by simpa [Value.ownBlock] using hk
      simp only; omega)
  · intro k hk
    have h1 := h.neR k hk
    refine ⟨h1.1, h1.2.1, h1.2.2.1, fun hc => ?_⟩
    have e : g = k := by simpa [Value.ownBlock] using hc
    rw [e] at hgn
    exact hgn.2.2.2 hk
  · intro k hk
    have e : g = k := by simpa [Value.ownBlock] using hk
    rw [← e]; exact ⟨hgn.1, hgn.2.1, hgn.2.2.1⟩
  · exact (h.bl.drew.trans hb).setCell (by simp only; omega) _
  · have := hb.size
    have h9 : wr.drew.heap.size = wr.heap.size := rfl
    simp only [World.setCell, Array.size_modify]
    omega

/-- The sizes are taken away. -/
theorem MdI.clearS {W wr : World} {va vb vR vS : Value} {nR nS : Nat} {R S : List Int} (h : MdI W wr va vb vR vS nR nS R S) : MdI W (wr.setCell ⟨W.heap.size + 4, 2, none⟩ (.slice none 0 0)) va vb vR (.slice none 0 0) nR 0 R [] := by
  refine ⟨?_, ?_, heap_setCell_same _ _ _ _ _ _ h.d, ?_, World.ownsRow_nil _ _ _ _, fun g hg => ?_, fun g hg => by simp [Value.ownBlock] at hg, h.bl.setCell (by simp only; omega) _, ?_⟩
  · rw [Below.heap_setCell _ _ _ _ (by simp only; omega)]; exact h.b
  · rw [DBox, Below.heap_setCell _ _ _ _ (by simp only; omega)]; exact h.res
  · refine owns_same h.oR fun k hk => Below.heap_setCell _ _ _ _ (by have := h.neR k hk; simp only; omega)
  · have := h.neR g hg
    exact ⟨this.1, this.2.1, this.2.2.1, by simp [Value.ownBlock]⟩
  · simp only [World.setCell, Array.size_modify]; exact h.lt

/-- A design that is the one result. -/
theorem results_cell33 {fn : Func} {t g : Nat} {tmps : Array Value} {w : World} {a b c d e f : Value} (h : fn.results = #[.cell t 33]) (hp : tmps.getD t undef = .pointer (some ⟨g, 0, none⟩)) (hg : w.heap[g]? = some (.cells #[a, b, c, d, e, f] 33 (0, 0))) :
    (results fn tmps).run Try.prog w = .ok (.agg #[a, b, c, d, e, f]) w := by
  have h1 := run_loadVar_row (P := Try.prog) w g 33 33 #[a, b, c, d, e, f] (0, 0) _ hg Try.underlying33 rfl (by kernel_rfl)
  have hp' : tmps[t]?.getD undef = .pointer (some ⟨g, 0, none⟩) := by simpa [Array.getD_eq_getD_getElem?] using hp
  simp [results, h, hp', h1, asAddr]

theorem one_own {w : World} {g H : Nat} (x : Int) (hg : w.heap[g]? = some (.cells #[.int .i64 x] 3 (0, 0))) (hH : H ≤ g) : OwI w H (.slice (some ⟨g, 0, none⟩) 1 1) 1 [x] :=
  ⟨rfl, .inr ⟨g, 1, _, rfl, hH, hg, Nat.le_refl _, by decide, rfl, rfl⟩⟩

/-- The world when the making begins. -/
abbrev mdW (W : World) (va vb : Value) : World := ((((W.alloc (.cells #[va, vb] 24)).alloc (.cells #[.int .i64 0, .slice none 0 0, .slice none 0 0, .int .i64 0, .int .i64 0, .int .i64 0] 33)).alloc (.cells #[.int .i64 1] 3)).alloc (.cells #[.int .i64 1] 3)).alloc (.cells #[.int .i64 0, .slice (some ⟨W.heap.size + 1 + 1, 0, none⟩) 1 1, .slice (some ⟨W.heap.size + 1 + 1 + 1, 0, none⟩) 1 1, .int .i64 0, .int .i64 0, .int .i64 0] 33)

theorem md_start (W : World) (va vb : Value) (la : List Int) : MdI W (mdW W va vb) va vb (.slice (some ⟨W.heap.size + 1 + 1, 0, none⟩) 1 1) (.slice (some ⟨W.heap.size + 1 + 1 + 1, 0, none⟩) 1 1) 1 1 (ratV la 0) [1] := by
  have e : ∀ k, (mdW W va vb).heap[k]? = if k = W.heap.size + 4 then some (.cells #[.int .i64 0, .slice (some ⟨W.heap.size + 1 + 1, 0, none⟩) 1 1, .slice (some ⟨W.heap.size + 1 + 1 + 1, 0, none⟩) 1 1, .int .i64 0, .int .i64 0, .int .i64 0] 33) else if k = W.heap.size + 3 then some (.cells #[.int .i64 1] 3) else if k = W.heap.size + 2 then some (.cells #[.int .i64 1] 3) else if k = W.heap.size + 1 then some (.cells #[.int .i64 0, .slice none 0 0, .slice none 0 0, .int .i64 0, .int .i64 0, .int .i64 0] 33) else if k = W.heap.size then some (.cells #[va, vb] 24) else W.heap[k]? := fun k => by
    simp only [mdW, World.alloc, Array.getElem?_push, Array.size_push]
  refine ⟨?_, ?_, ?_, one_own 1 ?_ (by omega), one_own 1 ?_ (by omega), fun g hg => ?_, fun g hg => ?_, ?_, by simp⟩
  · rw [e, if_neg (by omega), if_neg (by omega), if_neg (by omega), if_neg (by omega), if_pos rfl]
  · rw [DBox, e, if_neg (by omega), if_neg (by omega), if_neg (by omega), if_pos rfl]
  · rw [DBox, e, if_pos rfl]
  · rw [e, if_neg (by omega), if_neg (by omega), if_pos (by omega)]
  · rw [e, if_neg (by omega), if_pos (by omega)]
  · have h : W.heap.size + 1 + 1 = g := by simpa [Value.ownBlock] using hg
    subst h
    refine ⟨by omega, by omega, by omega, ?_⟩
    simp [Value.ownBlock]
  · have h : W.heap.size + 1 + 1 + 1 = g := by simpa [Value.ownBlock] using hg
    omega
  · exact (((((Below.refl _ W).alloc (Nat.le_refl _) _).alloc (by simp) _).alloc (by simp; omega) _).alloc (by simp; omega) _).alloc (by simp; omega) _

/-- What lies in memory when the design is handed on. -/
theorem MdI.final {W wr : World} {va vb vR vS : Value} {nR nS : Nat} {R S : List Int} (h : MdI W wr va vb vR vS nR nS R S) {Wf : World}
    (hf : Wf = (((((wr.setCell ⟨W.heap.size + 1, 0, none⟩ (.int .i64 0)).setCell ⟨W.heap.size + 1, 1, none⟩ vR).setCell ⟨W.heap.size + 1, 2, none⟩ vS).setCell ⟨W.heap.size + 1, 3, none⟩ (.int .i64 0)).setCell ⟨W.heap.size + 1, 4, none⟩ (.int .i64 0)).setCell ⟨W.heap.size + 1, 5, none⟩ (.int .i64 0)) :
    DBox Wf (W.heap.size + 1) vR vS ∧ OwI Wf W.heap.size vR nR R ∧ OwI Wf W.heap.size vS nS S ∧ Below W.heap.size W Wf := by
  have k1 := heap_setCell_same _ (W.heap.size + 1) 0 _ 33 (.int .i64 0) h.res
  have k2 := heap_setCell_same _ (W.heap.size + 1) 1 _ 33 vR k1
  have k3 := heap_setCell_same _ (W.heap.size + 1) 2 _ 33 vS k2
  have k4 := heap_setCell_same _ (W.heap.size + 1) 3 _ 33 (.int .i64 0) k3
  have k5 := heap_setCell_same _ (W.heap.size + 1) 4 _ 33 (.int .i64 0) k4
  have k6 := heap_setCell_same _ (W.heap.size + 1) 5 _ 33 (.int .i64 0) k5
  rw [← hf] at k6
  have hk : ∀ k, k ≠ W.heap.size + 1 → Wf.heap[k]? = wr.heap[k]? := fun k hk => by
    rw [hf]
    repeat rw [Below.heap_setCell _ _ _ _ (by simpa using hk)]
  refine ⟨k6, owns_same h.oR fun k hq => hk k (h.neR k hq).2.1, owns_same h.oS fun k hq => hk k (h.neS k hq).2.1, ?_⟩
  rw [hf]
  exact (((((h.bl.setCell (by simp) _).setCell (by simp) _).setCell (by simp) _).setCell (by simp) _).setCell (by simp) _).setCell (by simp) _

attribute [local go_sem ↓] appI_rw

set_option maxRecDepth 10000 in
set_option maxHeartbeats 8000000 in
theorem made_any {W : World} {va vb : Value} {la lb : List Int} (ha : Ux W va la) (hb : Ux W vb lb) :
    Calls Try.prog 9 #[.agg #[va, vb]] W fun e w' => ∃ ar nr cr az ns cs, e = .returned (.agg #[.int .i64 0, .slice ar nr cr, .slice az ns cs, .int .i64 0, .int .i64 0, .int .i64 0]) ∧ OwI w' W.heap.size (.slice ar nr cr) nr (ratV la 4) ∧ OwI w' W.heap.size (.slice az ns cs) ns (if lb.length = 0 then [1] else sizV lb 3) ∧ Below W.heap.size W w' := by
  obtain ⟨aoa, capa, rfl⟩ := ha.mk'
  obtain ⟨aob, capb, rfl⟩ := hb.mk'
  have hla := ha.len
  have hlb := hb.len
  unfold maxLen at hla hlb
  obtain ⟨na, hna⟩ : ∃ na, na = la.length := ⟨_, rfl⟩
  obtain ⟨nb, hnb⟩ : ∃ nb, nb = lb.length := ⟨_, rfl⟩
  have HA := Lib.hid ha
  have HB := Lib.hid hb
  have HNA := Lib.hid hna
  have HNB := Lib.hid hnb
  rw [← hna] at HA hla ⊢
  rw [← hnb] at HB hlb ⊢
  have HS := Lib.hid (md_start W (.slice aoa na capa) (.slice aob nb capb) la)
  obtain ⟨ma, hma⟩ : ∃ ma, ma = min na 4 := ⟨_, rfl⟩
  obtain ⟨mb, hmb⟩ : ∃ mb, mb = min nb 3 := ⟨_, rfl⟩
  have HMA : Hid (ratV la ma = ratV la 4) := Lib.hid (by
    unfold ratV
    rcases Nat.le_total na 4 with h | h
    · rw [hma, Nat.min_eq_left h, hna, List.take_length, List.take_of_length_le (by omega)]
    · rw [hma, Nat.min_eq_right h])
  have HMB : Hid (sizV lb mb = sizV lb 3) := Lib.hid (by
    unfold sizV
    rcases Nat.le_total nb 3 with h | h
    · rw [hmb, Nat.min_eq_left h, hnb, List.take_length, List.take_of_length_le (by omega)]
    · rw [hmb, Nat.min_eq_right h])
  have hma4 : ma ≤ 4 := by omega
  have hma5 : ma ≤ na := by omega
  have hma6 : ma = 4 ∨ ma = na := by omega
  have hmb4 : mb ≤ 3 := by omega
  have hmb5 : mb ≤ nb := by omega
  have hmb6 : mb = 3 ∨ mb = nb := by omega
  have HM6 := Lib.hid hma6
  have HM7 := Lib.hid hmb6
  clear ha hb hna hnb hma hmb hma6 hmb6
  go_enter Try.func9, Try.ntmps9
  go_wp2
  go_loopw [4] (fun kv wr => ∃ (k : Nat) (vR : Value), k ≤ ma ∧ kv = .int .i64 (k : Nat) ∧ Hid (MdI W wr (.slice aoa na capa) (.slice aob nb capb) vR (.slice (some ⟨W.heap.size + 1 + 1 + 1, 0, none⟩) 1 1) (k + 1) 1 (ratV la k) [1])) (fun kv _ => ma - (intOf kv).toNat)
  case atStart => exact ⟨0, _, by omega, rfl, HS⟩
  case round =>
    obtain ⟨k, vR, hk, rfl, hI⟩ := hrel
    have b0 : wr.cell? ⟨W.heap.size, 0, none⟩ = some (.slice aoa na capa) := cell_of_row _ _ _ _ _ _ hI.out.b
    have b1 : wr.cell? ⟨W.heap.size, 1, none⟩ = some (.slice aob nb capb) := cell_of_row _ _ _ _ _ _ hI.out.b
    obtain ⟨d0, d1, d2, d3, d4, d5⟩ := hI.out.d.cells
    by_cases hkm : k = ma
    · have hend : ¬ k < na ∨ ¬ k < 4 := by have := HM6.out; omega
      have HI2 : Hid (MdI W wr (.slice aoa na capa) (.slice aob nb capb) vR (.slice (some ⟨W.heap.size + 1 + 1 + 1, 0, none⟩) 1 1) (k + 1) 1 (ratV la 4) [1]) := Lib.hid (by rw [← HMA.out, ← hkm]; exact hI.out)
      obtain ⟨aR, cR, rfl⟩ := slice_of_owns HI2.out.oR
      have HRE : Hid (∃ q, q = k + 1) := Lib.hid ⟨_, rfl⟩
      obtain ⟨nR, hnR⟩ := HRE.out
      rw [← hnR] at d1 HI2
      clear hI hkm hnR HRE
      have hend2 : ¬ (k < na ∧ k < 4) := by omega
      by_cases hb0 : nb = 0
      · subst hb0
        rcases Nat.lt_or_ge k na with hkn | hkn
        all_goals
          go_wp2
          clear b1 d0 d1 d2 d3 d4 d5 b0
          go_loopw [5] (fun kv wr => ∃ vS : Value, kv = .int .i64 0 ∧ Hid (MdI W wr (.slice aoa na capa) (.slice aob 0 capb) (.slice aR nR cR) vS nR 1 (ratV la 4) [1])) (fun _ _ => 0)
          case atStart => exact ⟨_, rfl, HI2⟩
          case round =>
            obtain ⟨vS, rfl, HJ⟩ := hrel
            obtain ⟨r0, r1, r2, r3, r4, r5⟩ := HJ.out.res.cells
            have fr := fun j => frozen_of_row _ _ j _ _ HJ.out.res
            have f0 := fr 0
            have f1 := fr 1
            have f2 := fr 2
            have f3 := fr 3
            have f4 := fr 4
            have f5 := fr 5
            have b1 : wr.cell? ⟨W.heap.size, 1, none⟩ = some (.slice aob 0 capb) := cell_of_row _ _ _ _ _ _ HJ.out.b
            obtain ⟨aS, cS, hvS⟩ := slice_of_owns HJ.out.oS
            subst hvS
            obtain ⟨d0, d1, d2, d3, d4, d5⟩ := HJ.out.d.cells
            have HFI := Lib.hid (HJ.out.final rfl)
            clear fr
            go_wp2
            exact bodyPost_ret (results_cell33 (t := 2) rfl rfl HFI.out.1) rfl ⟨_, _, _, _, _, _, rfl, HFI.out.2.1, by first | exact HFI.out.2.2.1 | (rw [if_pos rfl]; exact HFI.out.2.2.1), HFI.out.2.2.2⟩
      · have hb1 : 0 < nb := by omega
        have HC := Lib.hid HI2.out.clearS
        have f2 := frozen_of_row _ _ 2 _ _ HI2.out.d
        rcases Nat.lt_or_ge k na with hkn | hkn
        all_goals
          go_wp2
          clear b1 d0 d1 d2 d3 d4 d5 b0 f2
          go_loopw [5] (fun kv wr => ∃ (i : Nat) (vS : Value), i ≤ mb ∧ kv = .int .i64 (i : Nat) ∧ Hid (MdI W wr (.slice aoa na capa) (.slice aob nb capb) (.slice aR nR cR) vS nR i (ratV la 4) (sizV lb i))) (fun kv _ => mb - (intOf kv).toNat)
          case atStart => exact ⟨0, _, by omega, rfl, HC⟩
          case round =>
            obtain ⟨i, vS, hi, rfl, HJ⟩ := hrel
            by_cases him : i = mb
            · rcases Nat.lt_or_ge i nb with hin | hin
              all_goals
                have hi3 : ¬ (i < nb ∧ i < 3) := by have := HM7.out; omega
                have HE : Hid (sizV lb i = sizV lb 3) := Lib.hid (by rw [him, HMB.out])
                clear him
                obtain ⟨r0, r1, r2, r3, r4, r5⟩ := HJ.out.res.cells
                have fr := fun j => frozen_of_row _ _ j _ _ HJ.out.res
                have f0 := fr 0
                have f1 := fr 1
                have f2 := fr 2
                have f3 := fr 3
                have f4 := fr 4
                have f5 := fr 5
                have b1 : wr.cell? ⟨W.heap.size, 1, none⟩ = some (.slice aob nb capb) := cell_of_row _ _ _ _ _ _ HJ.out.b
                obtain ⟨aS, cS, hvS⟩ := slice_of_owns HJ.out.oS
                subst hvS
                obtain ⟨d0, d1, d2, d3, d4, d5⟩ := HJ.out.d.cells
                have HFI := Lib.hid (HJ.out.final rfl)
                clear fr
                go_wp2
                exact bodyPost_ret (results_cell33 (t := 2) rfl rfl HFI.out.1) rfl ⟨_, _, _, _, _, _, rfl, HFI.out.2.1, by rw [← HE.out]; exact HFI.out.2.2.1, HFI.out.2.2.2⟩
            · have hlt : i < mb := by omega
              obtain ⟨b, off, rfl, hcap, hbl, hcl⟩ := HB.out.at (by omega)
              have hc := (Below.cell HJ.out.bl (p := ⟨b, off + i, none⟩) hbl).trans (hcl i (by omega))
              have hfit := HB.out.fit i
              have b1 : wr.cell? ⟨W.heap.size, 1, none⟩ = some (.slice (some ⟨b, off, none⟩) nb capb) := cell_of_row _ _ _ _ _ _ HJ.out.b
              obtain ⟨d0, d1, d2, d3, d4, d5⟩ := HJ.out.d.cells
              obtain ⟨g, cap, w2, hrun, hcc, hff, hI2⟩ := HJ.out.stepS (by omega) (1 + lb.getD i 0 % 4)
              rw [← sizV_succ (by rw [← HNB.out]; omega)] at hI2
              have HI3 := Lib.hid hI2
              obtain ⟨x, hx⟩ : ∃ x, x = lb.getD i 0 := ⟨_, rfl⟩
              rw [← hx] at hc hrun hfit
              have hk4 : i < 3 := by omega
              have hkn : i < nb := by omega
              have hw : IntKind.i64.wrap x = x := IntWalk.i64_in _ (by omega)
              have hm3 : x.tmod 4 = x % 4 := Int.tmod_eq_emod_of_nonneg hfit.1
              have hw2 : IntKind.i64.wrap (1 + x % 4) = 1 + x % 4 := IntWalk.i64_in _ (by omega)
              have d2x : ((wr.alloc (.cells #[.int .i64 (1 + x % 4)] 3)).drew).cell? ⟨W.heap.size + 4, 2, none⟩ = some vS := cell_later (((Below.refl _ wr).alloc (Nat.le_refl _) _).drew) d2
              clear hx hcl hI2 him hbl
              go_wp2
              go_region_law (fail)
              all_goals (go_wp2; go_roundw; all_goals first | exact ⟨i + 1, _, by omega, by go_num, HI3⟩ | (simp [intOf]; done) | (simp [intOf]; omega))
    · have hlt : k < ma := by omega
      obtain ⟨b, off, rfl, hcap, hbl, hcl⟩ := HA.out.at (by omega)
      have hc := (Below.cell hI.out.bl (p := ⟨b, off + k, none⟩) hbl).trans (hcl k (by omega))
      have hfit := HA.out.fit k
      obtain ⟨g, cap, w2, hrun, hcc, hff, hI2⟩ := hI.out.stepR (by omega) (la.getD k 0 % 3)
      rw [← ratV_succ (by rw [← HNA.out]; omega)] at hI2
      have HI2 := Lib.hid hI2
      obtain ⟨x, hx⟩ : ∃ x, x = la.getD k 0 := ⟨_, rfl⟩
      rw [← hx] at hc hrun hfit
      have hk4 : k < 4 := by omega
      have hkn : k < na := by omega
      have hw : IntKind.i64.wrap x = x := IntWalk.i64_in _ (by omega)
      have hm3 : x.tmod 3 = x % 3 := Int.tmod_eq_emod_of_nonneg hfit.1
      have d1x : ((wr.alloc (.cells #[.int .i64 (x % 3)] 3)).drew).cell? ⟨W.heap.size + 4, 1, none⟩ = some vR := cell_later (((Below.refl _ wr).alloc (Nat.le_refl _) _).drew) d1
      clear hx hcl hI hI2 hkm hbl
      go_wp2
      go_region_law (fail)
      all_goals (go_wp2; go_roundw; all_goals first | exact ⟨k + 1, _, by omega, by go_num, HI2⟩ | (simp [intOf]; done) | (simp [intOf]; omega))

end Go.Proofs.Ytjlneggfkpjnpaa
