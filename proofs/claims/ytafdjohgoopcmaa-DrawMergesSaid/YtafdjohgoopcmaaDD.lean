/- Contracts: Of, Chain, Mark of digest. Condition: the strings have lengths that Go permits. -/
import Derived.Test.YtafdjohgoopcmaaDC
namespace Go.Proofs.Ytafdjohgoopcmaa
open Go.RowKit

theorem Sx.new (w : World) (l : List ByteArray) (n : Nat) (hn : l.length = n) (hl : n ≤ 100) (cs : Array Value) (hc : cs.toList = l.map Value.string) (t : TypeId) (fr : Nat × Nat) : Sx (w.alloc (.cells cs t fr)) (.slice (some ⟨w.heap.size, 0, none⟩) n n) l := by
  subst hn
  refine ⟨by unfold maxLen; omega, .inr ⟨_, 0, _, rfl, Nat.le_refl _, by simp, fun j hj => ?_⟩⟩
  rw [cell_of_row _ _ _ _ _ _ (heap_alloc_new _ _)]
  have : cs.toList[0 + j]? = (l.map Value.string)[j]? := by rw [hc, Nat.zero_add]
  rw [← Array.getElem?_toList, this]
  simp [List.getD, hj]

theorem small_getD {l : List ByteArray} {m : Nat} (h : ∀ s ∈ l, s.size ≤ m) (k : Nat) : (l.getD k ⟨#[]⟩).size ≤ m := by
  by_cases hk : k < l.length
  · rw [show l.getD k ⟨#[]⟩ = l[k] by simp [List.getD, hk]]
    exact h _ (List.getElem_mem hk)
  · rw [show l.getD k ⟨#[]⟩ = ⟨#[]⟩ by simp [List.getD, List.getElem?_eq_none (Nat.le_of_not_lt hk)]]
    exact Nat.zero_le _

/-- What a call of digest.of with new parts returns. -/
theorem of_new (w : World) (b : Nat) (hb : b = w.heap.size) (l : List ByteArray) (n : Nat) (hn : l.length = n) (hl : n ≤ 100) (cs : Array Value) (hc : cs.toList = l.map Value.string) (t : TypeId) (fr : Nat × Nat) (hs : ∀ s ∈ l, s.size ≤ 140737488355328) :
    Calls Try.prog 39 #[.slice (some ⟨b, 0, none⟩) n n] (w.alloc (.cells cs t fr)) fun e w' => e = .returned (dval (dig (cat l))) ∧ Below w.heap.size (w.alloc (.cells cs t fr)) w' := by
  subst hb
  exact (of_any (Sx.new w l n hn hl cs hc t fr) (small_getD hs)).mono fun e w' h => ⟨h.1, h.2.mono (by simp)⟩

set_option maxRecDepth 10000 in
set_option maxHeartbeats 400000 in
theorem dOf_any (s : ByteArray) (h : s.size ≤ 140737488355328) (w : World) : Calls Try.prog 28 #[.string s] w fun e w' => e = .returned (.string (sA (dig (by' s)))) ∧ Below w.heap.size w w' := by
  have e0 : cat [s] = by' s := by simp [cat]
  have HO := Lib.hid (fun W b hb => of_new W b hb [s] 1 rfl (by omega) #[.string s] rfl 9 (0, 0) (by simpa using h))
  rw [e0] at HO
  obtain ⟨d, hd⟩ : ∃ d, d = dig (by' s) := ⟨_, rfl⟩
  have hd8 : d.length = 8 := by rw [hd]; rfl
  rw [← hd] at HO ⊢
  have HT := Lib.hid (fun W => text_any d hd8 W)
  obtain ⟨D, hD⟩ : ∃ D, D = dval d := ⟨_, rfl⟩
  rw [← hD] at HO HT
  clear hd hd8 hD e0
  go_enter Try.func28, Try.ntmps28
  go_wp2_with (first | (go_at_call 39; refine (HO.out _ _ (by simp)).mono ?_; rintro e w1 ⟨rfl, hb1⟩) | (go_at_call 40; refine (HT.out _).mono ?_; rintro e w2 ⟨rfl, hb2⟩))
  go_ret
  exact ⟨rfl, ((Below.alloc (Below.refl _ _) (Nat.le_refl _) _).trans hb1).trans (hb2.mono (by have := hb1.size; simp at this; omega))⟩

end Go.Proofs.Ytafdjohgoopcmaa
