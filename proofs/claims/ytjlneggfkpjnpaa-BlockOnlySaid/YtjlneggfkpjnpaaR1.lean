/- What BlockOnly needs: rows of bytes, copies, the order of arms. -/
import Derived.Test.YtjlneggfkpjnpaaMS
namespace Go.Proofs.Ytjlneggfkpjnpaa
open Go.RowKit

/-- The row that is made of bytes. -/
def rwV (l : List Int) (k : Nat) : List Int := if l.length = 0 then [] else (List.range k).map fun j => if j < l.length then l.getD j 0 % 4 else 0
theorem rwV_nil {l : List Int} (h : l.length = 0) (k : Nat) : rwV l k = [] := by unfold rwV; rw [if_pos h]
theorem rwV_succ {l : List Int} (h : ¬ l.length = 0) (k : Nat) : rwV l (k + 1) = rwV l k ++ [if k < l.length then l.getD k 0 % 4 else 0] := by
  unfold rwV; rw [if_neg h, if_neg h]; simp [List.range_succ]
theorem rwV_len {l : List Int} (k : Nat) : (rwV l k).length = if l.length = 0 then 0 else k := by
  unfold rwV; split <;> simp
theorem rwV_in (l : List Int) (k : Nat) : inB 0 3 (rwV l k) = true := by
  rw [inB_iff]
  intro j hj
  unfold rwV at hj ⊢
  split at hj
  · simp at hj
  · rename_i h
    rw [if_neg h]
    simp only [List.length_map, List.length_range] at hj
    have : ((List.range k).map fun j => if j < l.length then l.getD j 0 % 4 else 0).getD j 0 = if j < l.length then l.getD j 0 % 4 else 0 := by simp [List.getD, hj]
    rw [this]
    split <;> omega
theorem inB_mono {lo hi lo' hi' : Int} {l : List Int} (h : inB lo hi l = true) (h1 : lo' ≤ lo) (h2 : hi ≤ hi') : inB lo' hi' l = true := by
  rw [inB_iff] at h ⊢
  intro k hk
  have := h k hk
  omega
theorem rwV_fit (l r : List Int) : fitB r (rwV l r.length) = true := by
  unfold fitB
  rw [inB_mono (rwV_in l r.length) (by decide) (by decide), rwV_len]
  split <;> simp

/-- A copy of ints of one's own. -/
theorem copy_own {W : World} {B n : Nat} {v : Value} {l : List Int} (h : OwI W B v n l) (hn : n ≤ 1000) :
    ∃ ao cap2 w2, Sem.run Try.prog (appI 25 #[.slice (some ⟨W.heap.size, 0, none⟩) 0 0, v]) (W.alloc (.cells #[] 3)) = .ok (.slice ao n cap2) w2 ∧ OwI w2 W.heap.size (.slice ao n cap2) n l ∧ Below W.heap.size W w2 := by
  obtain ⟨i0, hii, hz0, hz1, hz2⟩ := info_parts Try.info3
  have hbA : Below W.heap.size W (W.alloc (.cells #[] 3)) := (Below.refl _ _).alloc (Nat.le_refl _) _
  have hown0 : (W.alloc (.cells #[] 3)).ownsRow W.heap.size 3 1 (.slice (some ⟨W.heap.size, 0, none⟩) 0 0) 0 (ints []) := ⟨rfl, .inr ⟨W.heap.size, 0, #[], rfl, Nat.le_refl _, heap_alloc_new _ _, Nat.le_refl _, Nat.zero_le _, rfl, rfl⟩⟩
  have hl := owI_len h
  rcases h.2 with ⟨rfl, h0⟩ | ⟨g, cap, cur, rfl, hB, hg, hc, hm, hs, ht⟩
  · subst h0
    have e : l = [] := List.eq_nil_of_length_eq_zero hl.symm
    subst e
    have hrun := run_append_owned_none (P := Try.prog) (w := W.alloc (.cells #[] 3)) W.heap.size 25 25 3 i0 1 Try.underlying25 hii _ 0 _ hown0
    rw [appI_rw] at hrun
    exact ⟨_, _, _, hrun, hown0, hbA⟩
  · obtain ⟨v2, w2, hrun, hown2, hgrow2, _⟩ := run_append_own (P := Try.prog) (w := W.alloc (.cells #[] 3)) W.heap.size 25 25 3 i0 (.int .i64 0) 1 8 Try.underlying25 hii hz0 hz1 hz2 rfl (by decide) _ 0 _ hown0 ⟨g, 0, none⟩ n cap (ints l) (by simp [ints, hl])
      (fun j u hu => by
        have hj : j < n := by have := (List.getElem?_eq_some_iff.1 hu).1; simpa [ints, hl] using this
        have e : (cur.toList.take (n * 1))[j]? = some u := by rw [ht]; exact hu
        rw [List.getElem?_take_of_lt (by omega)] at e
        rw [add_none, cell_later hbA (cell_of_row _ _ _ _ _ _ hg |>.trans (by rw [Nat.zero_add, ← Array.getElem?_toList]; exact e))]) (fun u hu => by simp [ints] at hu; obtain ⟨q, _, rfl⟩ := hu; rfl) (by unfold maxLen; omega) (by omega) (by simp)
    rw [appI_rw] at hrun
    rw [Nat.zero_add] at hown2
    obtain ⟨ao2, cap2, rfl⟩ := slice_of_owns hown2
    exact ⟨ao2, cap2, w2, hrun, hown2, hbA.grown hgrow2 (by simp) (fun j hj => (hown0.lt j hj).1)⟩

/-- The arms of choices of one size increase. -/
theorem coll_incr (size : Int) (w : List Int) : ∀ n k, k + 1 < (coll size w n).length → ((coll size w n).getD k (0, 0, 0)).2.2 < ((coll size w n).getD (k + 1) (0, 0, 0)).2.2
  | 0, k, h => by simp [coll] at h
  | n + 1, k, h => by
    rw [coll] at h ⊢
    split at h
    · rename_i h0
      rw [if_pos h0]
      rw [List.length_append, List.length_singleton] at h
      by_cases hk : k + 1 < (coll size w n).length
      · have e1 : (coll size w n ++ [((w.getD n 0, size, (n : Int)) : Ch)]).getD k (0, 0, 0) = (coll size w n).getD k (0, 0, 0) := by
          simp only [List.getD]; rw [List.getElem?_append_left (by omega)]
        have e2 : (coll size w n ++ [((w.getD n 0, size, (n : Int)) : Ch)]).getD (k + 1) (0, 0, 0) = (coll size w n).getD (k + 1) (0, 0, 0) := by
          simp only [List.getD]; rw [List.getElem?_append_left hk]
        rw [e1, e2]
        exact coll_incr size w n k hk
      · have hk2 : k + 1 = (coll size w n).length := by omega
        have e1 : (coll size w n ++ [((w.getD n 0, size, (n : Int)) : Ch)]).getD k (0, 0, 0) = (coll size w n).getD k (0, 0, 0) := by
          simp only [List.getD]; rw [List.getElem?_append_left (by omega)]
        have e2 : (coll size w n ++ [((w.getD n 0, size, (n : Int)) : Ch)]).getD (k + 1) (0, 0, 0) = (w.getD n 0, size, (n : Int)) := by
          simp only [List.getD]; rw [List.getElem?_append_right (by omega), hk2, Nat.sub_self]; rfl
        rw [e1, e2]
        obtain ⟨j, hj, _, he⟩ := mem_coll.1 (getD_mem (l := coll size w n) (k := k) (by omega))
        rw [he]
        simp only
        omega
    · rename_i h0
      rw [if_neg h0]
      rw [List.length_append, List.length_nil, Nat.add_zero] at h
      rw [List.append_nil]
      exact coll_incr size w n k h

theorem ch_incr {r s row : List Int} (h1 : s.length = 1) {k : Nat} (hk : k + 1 < (chV r s row).length) : ((chV r s row).getD k (0, 0, 0)).2.2 < ((chV r s row).getD (k + 1) (0, 0, 0)).2.2 := by
  unfold chV at hk ⊢
  split at hk
  · rename_i hb
    rw [if_pos hb]
    split at hk
    · rename_i hl
      rw [if_pos hl]
      exact coll_incr _ _ _ _ hk
    · rename_i hl
      rw [if_neg hl]
      rw [h1] at hk ⊢
      have e : blks r s 1 = coll (s.getD 0 0) r r.length := by simp [blks]
      rw [e] at hk ⊢
      exact coll_incr _ _ _ _ hk
  · simp at hk

/-- Is a choice among the first ones? -/
def thV (l : List Ch) (c : Ch) : Nat → Bool
  | 0 => false
  | k + 1 => thV l c k || decide (l.getD k (0, 0, 0) = c)
theorem thV_iff (l : List Ch) (c : Ch) : thV l c l.length = decide (c ∈ l) := by
  have h : ∀ k, k ≤ l.length → (thV l c k = true ↔ ∃ j, j < k ∧ l.getD j (0, 0, 0) = c) := fun k => by
    induction k with
    | zero => intro _; simp [thV]
    | succ k ih =>
      intro hk
      rw [thV, Bool.or_eq_true, ih (by omega), decide_eq_true_eq]
      constructor
      · rintro (⟨j, h1, h2⟩ | h)
        · exact ⟨j, by omega, h2⟩
        · exact ⟨k, by omega, h⟩
      · rintro ⟨j, h1, h2⟩
        by_cases hj : j = k
        · exact .inr (by rw [← hj]; exact h2)
        · exact .inl ⟨j, by omega, h2⟩
  rw [Bool.eq_iff_iff, h _ (Nat.le_refl _), decide_eq_true_eq]
  constructor
  · rintro ⟨j, h1, h2⟩; rw [← h2]; exact getD_mem h1
  · intro hc
    obtain ⟨j, h1, h2⟩ := mem_getD hc
    exact ⟨j, h1, h2⟩

/-- Ints elsewhere, when a cell is written. -/
theorem Ix.other {w : World} {v : Value} {l : List Int} (h : Ix w v l) {p : Addr} (hp : ∀ g, v.ownBlock = some g → g ≠ p.block) (u : Value) : Ix (w.setCell p u) v l := by
  obtain ⟨h1, h2, h3⟩ := h
  refine ⟨h1, h2, ?_⟩
  rcases h3 with h3 | ⟨b, off, cap, hv, hc, hlt, hl⟩
  · exact .inl h3
  · refine .inr ⟨b, off, cap, hv, hc, by simp only [World.setCell, Array.size_modify]; exact hlt, fun j hj => ?_⟩
    have hb : b ≠ p.block := hp b (by rw [hv]; rfl)
    have : (w.setCell p u).cell? ⟨b, off + j, none⟩ = w.cell? ⟨b, off + j, none⟩ := World.cell?_of_block (w := w) (Below.heap_setCell w p u b hb)
    rw [this]; exact hl j hj

end Go.Proofs.Ytjlneggfkpjnpaa
