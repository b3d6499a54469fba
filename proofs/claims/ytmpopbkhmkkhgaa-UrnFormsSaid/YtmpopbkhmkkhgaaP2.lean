/- With nothing added the balls stay; a slice of bytes. -/
import Derived.Test.YtmpopbkhmkkhgaaP1
import Derived.Test.YtmpopbkhmkkhgaaWF
namespace Go.Proofs.Ytmpopbkhmkkhgaa
open Go.RowKit

theorem Ux.mk' {w : World} {v : Value} {l : List Int} (h : Ux w v l) : ∃ ao cap, v = .slice ao l.length cap := by
  rcases h.is with ⟨rfl, ao, cap, rfl⟩ | ⟨b, off, cap, rfl, _⟩
  · exact ⟨_, _, rfl⟩
  · exact ⟨_, _, rfl⟩
theorem Ux.at {w : World} {ao : Option Addr} {n cap : Nat} {l : List Int} (h : Ux w (.slice ao n cap) l) (hn : n ≠ 0) : ∃ b off, ao = some ⟨b, off, none⟩ ∧ n ≤ cap ∧ b < w.heap.size ∧ ∀ j, j < n → w.cell? ⟨b, off + j, none⟩ = some (.int .u8 (l.getD j 0)) := by
  rcases h.is with ⟨rfl, ao2, cap2, e⟩ | ⟨b, off, cap2, e, h1, h2, h3⟩
  · injection e with _ e2 _; exact absurd e2 hn
  · injection e with e1 e2 e3; subst e1 e2 e3; exact ⟨b, off, rfl, h1, h2, h3⟩
theorem Ux.size {w : World} {ao : Option Addr} {n cap : Nat} {l : List Int} (h : Ux w (.slice ao n cap) l) : n = l.length := by
  obtain ⟨_, _, e⟩ := h.mk'
  injection e
theorem Ux.below {w w' : World} {v : Value} {l : List Int} (h : Ux w v l) (hb : Below w.heap.size w w') : Ux w' v l := by
  obtain ⟨h1, h2, h3⟩ := h
  refine ⟨h1, h2, ?_⟩
  rcases h3 with h3 | ⟨b, off, cap, hv, hc, hlt, hl⟩
  · exact .inl h3
  · exact .inr ⟨b, off, cap, hv, hc, Nat.lt_of_lt_of_le hlt hb.size, fun j hj => cell_later hb (hl j hj)⟩

theorem addV_none {r : List Int} {arm : Int} {b : List Int} {n : Nat} : addV r 0 arm b n = b := by
  apply List.ext_getElem
  · exact addV_len
  · intro j h1 h2
    simp only [addV, List.getElem_map, List.getElem_range, addN]
    split <;> simp [List.getD, h2]

theorem MadeOk.zero {r : List Int} {a : Int} (h : MadeOk r a) : MadeOk r 0 := ⟨h.l2, h.l4, by decide, h.rr, h.r2⟩

theorem bal_zero {r now : List Int} {a : Int} (h : MadeOk r a) (hn : now = [] ∨ now = r) : balV r 0 now = r := by
  have hr : RowOk r now := by
    rcases hn with h1 | h1
    · exact .inl h1
    · exact .inr ⟨by rw [h1], by rw [h1]; exact h.in8⟩
  obtain ⟨h1, h2, -, h4, h5⟩ := made_bal h.zero hr
  rcases hn with e | e
  · subst e; exact balV_new h4 h5 rfl
  · rcases h2 with h2 | h2
    · exact h2
    · rw [h2, e]

theorem cho_two {r : List Int} {a : Int} (h : MadeOk r a) : 2 ≤ (cho r r r.length).length ∧ (cho r r r.length).length ≤ 4 := by
  obtain ⟨t, ht⟩ := cho_split r r (k := 2) (n := r.length) h.l2
  have h2 := h.r2
  have e : (cho r r 2).length = 2 := by
    rw [cho_used (by omega) (by omega), cho_used (by omega) (by omega)]; rfl
  have := cho_len r r r.length
  have := h.l4
  rw [ht] at *
  rw [List.length_append] at *
  omega

theorem in20 {l : List Int} (h : inB 0 8 l = true) : inB 0 1048576 l = true := inB_iff.2 fun k hk => by have := (inB_iff.1 h) k hk; omega

end Go.Proofs.Ytmpopbkhmkkhgaa
