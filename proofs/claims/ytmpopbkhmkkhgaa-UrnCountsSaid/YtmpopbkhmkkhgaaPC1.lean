/- Orders, their reverse and counts, each in a slice of one's own. No condition. -/
import Derived.Test.YtmpopbkhmkkhgaaPC0
namespace Go.Proofs.Ytmpopbkhmkkhgaa
open Go.RowKit

theorem make_run (k : Nat) (hk : k ≤ 1000) (W : World) : (Instr.makeSlice 23 (.int .i64 (k : Int)) (.int .i64 (k : Int))).run Try.prog W = .ok (.slice (some ⟨W.heap.size, 0, none⟩) k k) (W.alloc (.cells (ints (List.replicate k 0)).toArray 3)) := by
  obtain ⟨i0, hii, hz0, hz1, hz2⟩ := info_parts Try.info3
  have h := run_makeSlice (P := Try.prog) W 23 3 i0 (.int .i64 0) Try.underlying23 hii hz0 .i64 .i64 (k : Int) (k : Int) (by omega) (Int.le_refl _) (by rw [hz1]; simp; omega) (by rw [hz2]; omega) (by omega)
  rw [hz1] at h
  simp only [Int.toNat_natCast] at h
  have e : madeCells (Value.int .i64 0).cells (k * 1) = (ints (List.replicate k 0)).toArray := by
    apply Array.ext'
    rw [show (Value.int .i64 0).cells = #[.int .i64 0] from rfl, toList_madeCells_one]
    simp [ints]
  rw [e] at h
  exact h
theorem made_own (k : Nat) (hk : k ≤ 1000) (W : World) : OwI (W.alloc (.cells (ints (List.replicate k 0)).toArray 3)) W.heap.size (.slice (some ⟨W.heap.size, 0, none⟩) k k) k (List.replicate k 0) :=
  ⟨by simp [ints], .inr ⟨W.heap.size, k, _, rfl, Nat.le_refl _, heap_alloc_new _ _, Nat.le_refl _, by unfold maxLen; omega, by simp [ints], by simp [ints]⟩⟩
theorem one_own {w : World} {g H : Nat} (x : Int) (hg : w.heap[g]? = some (.cells #[.int .i64 x] 3 (0, 0))) (hH : H ≤ g) : OwI w H (.slice (some ⟨g, 0, none⟩) 1 1) 1 [x] :=
  ⟨rfl, .inr ⟨g, 1, _, rfl, hH, hg, Nat.le_refl _, by decide, rfl, rfl⟩⟩

/-- How often each arm was drawn. -/
def cntV (O : List Int) (n : Nat) : List Int := (List.range n).map fun (i : Nat) => ((O.count (i : Int) : Nat) : Int)
theorem cntV_len {O : List Int} {n : Nat} : (cntV O n).length = n := by simp [cntV]
theorem cntV_get {O : List Int} {n j : Nat} (h : j < n) : (cntV O n).getD j 0 = ((O.count (j : Int) : Nat) : Int) := by simp [cntV, List.getD, h]
theorem cntV_nil {n : Nat} : cntV [] n = List.replicate n 0 := by
  apply List.ext_getElem <;> simp [cntV]
theorem cntV_push {O : List Int} {n m : Nat} (h : m < n) : (cntV O n).set m ((cntV O n).getD m 0 + 1) = cntV (O ++ [(m : Int)]) n := by
  apply List.ext_getElem
  · simp [cntV]
  · intro j h1 h2
    rw [List.getElem_set]
    have hj : j < n := by rwa [cntV_len] at h2
    have e2 : (cntV (O ++ [(m : Int)]) n)[j] = (((O ++ [(m : Int)]).count (j : Int) : Nat) : Int) := by simp [cntV]
    rw [e2, List.count_append, List.count_singleton]
    by_cases he : m = j
    · subst he
      rw [if_pos rfl, cntV_get h]
      simp
    · rw [if_neg he]
      have : ((m : Int) == (j : Int)) = false := by simp; omega
      rw [this]
      simp [cntV]

/-- What lies in memory when arms were noted. -/
structure CtI (B : Nat) (wr : World) (vO vB vC : Value) (k n : Nat) (O : List Int) : Prop where
  o : OwI wr B vO k O
  b : OwI wr B vB k O.reverse
  c : OwI wr B vC n (cntV O n)
  ob : ∀ g, vO.ownBlock = some g → vB.ownBlock ≠ some g
  oc : ∀ g, vO.ownBlock = some g → vC.ownBlock ≠ some g
  bc : ∀ g, vB.ownBlock = some g → vC.ownBlock ≠ some g
  fit : ∀ x ∈ O, 0 ≤ x ∧ x ≤ 1000
  sz : B ≤ wr.heap.size

theorem fit_small {O : List Int} (h : ∀ x ∈ O, 0 ≤ x ∧ x ≤ 1000) (k : Nat) : I64 (O.getD k 0) := by
  by_cases hk : k < O.length
  · have e : O.getD k 0 = O[k] := by simp [List.getD, hk]
    have := h _ (List.getElem_mem hk)
    rw [e]
    exact ⟨by omega, by omega⟩
  · rw [show O.getD k 0 = 0 by simp [List.getD, List.getElem?_eq_none (Nat.le_of_not_lt hk)]]; decide

theorem CtI.step {B : Nat} {wr : World} {aO aB : Option Addr} {cO cB gC cC : Nat} {k n m : Nat} {O : List Int} (h : CtI B wr (.slice aO k cO) (.slice aB k cB) (.slice (some ⟨gC, 0, none⟩) n cC) k n O) (hk : k ≤ 100) (hm : m < n) (hn : n ≤ 100) :
    ∃ g1 c1 w1 a2 c2 w2, Sem.run Try.prog (appI 23 #[.slice aO k cO, .slice (some ⟨wr.heap.size, 0, none⟩) 1 1]) (wr.alloc (.cells #[.int .i64 (m : Int)] 3)) = .ok (.slice (some ⟨g1, 0, none⟩) (k + 1) c1) w1 ∧
      Sem.run Try.prog (appI 23 #[.slice (some ⟨w1.heap.size, 0, none⟩) 1 1, .slice aB k cB]) (w1.alloc (.cells #[.int .i64 (m : Int)] 3)) = .ok (.slice a2 (k + 1) c2) w2 ∧
      w2.cell? ⟨gC, m, none⟩ = some (.int .i64 ((cntV O n).getD m 0)) ∧ w2.frozen? ⟨gC, m, none⟩ = false ∧
      CtI B (w2.setCell ⟨gC, m, none⟩ (.int .i64 ((cntV O n).getD m 0 + 1))) (.slice (some ⟨g1, 0, none⟩) (k + 1) c1) (.slice a2 (k + 1) c2) (.slice (some ⟨gC, 0, none⟩) n cC) (k + 1) n (O ++ [(m : Int)]) ∧ Below B wr (w2.setCell ⟨gC, m, none⟩ (.int .i64 ((cntV O n).getD m 0 + 1))) := by
  have hsz := h.sz
  obtain ⟨g1, c1, w1, hrun1, hown1, hb1, hgr1, hg1, hgl1⟩ := push_int h.o (by omega) hsz (m : Int)
  have keep1 : ∀ j, j < wr.heap.size → (Value.slice aO k cO).ownBlock ≠ some j → w1.heap[j]? = wr.heap[j]? := fun j hj hne => by
    rw [grown_block hgr1 (by rw [World.size_alloc]; omega) hne]
    exact Below.heap_alloc wr _ j hj
  have hz1 := hb1.size
  have hb : OwI w1 B (.slice aB k cB) k O.reverse := owns_same h.b fun g hg => keep1 g (own_lt h.b hg).2 (fun e => h.ob g e hg)
  have hc : OwI w1 B (.slice (some ⟨gC, 0, none⟩) n cC) n (cntV O n) := owns_same h.c fun g hg => keep1 g (own_lt h.c hg).2 (fun e => h.oc g e hg)
  have hgC := own_lt hc (g := gC) rfl
  have hbA : Below w1.heap.size w1 (w1.alloc (.cells #[.int .i64 (m : Int)] 3)) := (Below.refl _ _).alloc (Nat.le_refl _) _
  have hbx : Ix (w1.alloc (.cells #[.int .i64 (m : Int)] 3)) (.slice aB k cB) O.reverse := (hb.ix (by omega) (fit_small fun x hx => h.fit x (by simpa using hx))).below hbA
  obtain ⟨a2, c2, w2, hrun2, hown2, hb2, hgr2⟩ := join_ints (one_own (H := w1.heap.size) (m : Int) (heap_alloc_new w1 _) (Nat.le_refl _)) hbx (by omega) (by simp)
  have keep2 : ∀ j, j < w1.heap.size → w2.heap[j]? = w1.heap[j]? := fun j hj => (hb2.block j hj).trans (Below.heap_alloc w1 _ j hj)
  have hz2 := hb2.size
  rw [World.size_alloc] at hz2
  have hc2 : OwI w2 B (.slice (some ⟨gC, 0, none⟩) n cC) n (cntV O n) := owns_same hc fun g hg => keep2 g (own_lt hc hg).2
  have ho2 : OwI w2 B (.slice (some ⟨g1, 0, none⟩) (k + 1) c1) (k + 1) (O ++ [(m : Int)]) := owns_same hown1 fun g hg => keep2 g (own_lt hown1 hg).2
  obtain ⟨gC', cC', e, -, -, hgCl, hgc, hfr, hset⟩ := hc2.parts (by omega)
  injection e with e _ _; injection e with e; injection e with e _; subst e
  have hs := hset m ((cntV O n).getD m 0 + 1) hm
  rw [cntV_push hm] at hs
  have hg1C : g1 ≠ gC := by
    rcases hg1 with hg1 | hg1
    · exact fun e => h.oc g1 hg1 (by rw [e]; rfl)
    · have := (own_lt h.c (g := gC) rfl).2
      omega
  have hrev : [(m : Int)] ++ O.reverse = (O ++ [(m : Int)]).reverse := by simp
  have e1k : 1 + k = k + 1 := by omega
  rw [e1k] at hrun2 hown2
  rw [hrev] at hown2
  have hfit : ∀ x ∈ O ++ [(m : Int)], 0 ≤ x ∧ x ≤ 1000 := fun x hx => by
    rw [List.mem_append, List.mem_singleton] at hx
    rcases hx with hx | hx
    · exact h.fit x hx
    · omega
  refine ⟨g1, c1, w1, a2, c2, w2, hrun1, hrun2, hgc m hm, hfr m, ⟨?_, ?_, hs, ?_, ?_, ?_, hfit, ?_⟩, ?_⟩
  · exact owns_same ho2 fun g hg => Below.heap_setCell _ _ _ _ (by
      have e : g1 = g := by simpa [Value.ownBlock] using hg
      simp only; omega)
  · exact owns_mono (owns_same hown2 fun g hg => Below.heap_setCell _ _ _ _ (by have := (own_lt hown2 hg).1; simp only; omega)) (by omega)
  · intro g hg hg2
    have e : g1 = g := by simpa [Value.ownBlock] using hg
    have := (own_lt hown2 hg2).1
    omega
  · intro g hg hg2
    have e : g1 = g := by simpa [Value.ownBlock] using hg
    have e2 : gC = g := by simpa [Value.ownBlock] using hg2
    omega
  · intro g hg hg2
    have := (own_lt hown2 hg).1
    have e2 : gC = g := by simpa [Value.ownBlock] using hg2
    omega
  · simp only [World.setCell, Array.size_modify]; omega
  · exact (hb1.trans ((hbA.trans hb2).mono (by omega))).setCell (by simp only; exact (own_lt h.c (g := gC) rfl).1) _

end Go.Proofs.Ytmpopbkhmkkhgaa
