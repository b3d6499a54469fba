/- A whole slice appended to one of one's own. -/
import Derived.Test.YtkkbjkjmhjgaiaaAG
namespace Go.Proofs.Ytkkbjkjmhjgaiaa
open Go.RowKit

theorem join_own {W : World} {B n : Nat} {v : Value} {xs RL : List ByteArray} {rao : Option Addr} {r rcap : Nat} (h : W.ownsRow B 9 1 v n (sv xs)) (hS : Sx W (.slice rao r rcap) RL) (hnil : rao = none → r = 0 ∧ rcap = 0) (hn : n + r ≤ 1000) (hB : B ≤ W.heap.size) :
    ∃ ao n2 cap2 w2, Sem.run Try.prog (appX 29 #[v, .slice rao r rcap]) W = .ok (.slice ao n2 cap2) w2 ∧ w2.ownsRow B 9 1 (.slice ao n2 cap2) (n + r) (sv (xs ++ RL)) ∧ Below B W w2 := by
  obtain ⟨i0, hii, hz0, hz1, hz2⟩ := info_parts Try.info9
  have hr : r = RL.length := by
    rcases hS.is with ⟨rfl, _, _, hv⟩ | ⟨b, off, cap, hv, _⟩
    · injection hv with _ e _
    · injection hv with _ e _
  cases rao with
  | none =>
    obtain ⟨rfl, rfl⟩ := hnil rfl
    have hRL : RL = [] := List.length_eq_zero_iff.1 hr.symm
    subst hRL
    have hrun := run_append_owned_none (P := Try.prog) (w := W) B 29 29 9 i0 1 Try.underlying29 hii v n _ h
    rw [appX_rw] at hrun
    obtain ⟨ao, m, cap, rfl⟩ := slice_of_owns h
    exact ⟨_, _, _, _, hrun, by simpa using h, Below.refl _ _⟩
  | some a =>
    obtain ⟨v2, w2, hrun, hown2, hgrow2, _⟩ := run_append_own (P := Try.prog) (w := W) B 29 29 9 i0 (.string ⟨#[]⟩) 1 16 Try.underlying29 hii hz0 hz1 hz2 rfl (by decide) v n _ h a r rcap (sv RL) (by rw [sv, List.length_map]; omega)
      (fun j u hu => by
        have hj : j < RL.length := by
          have := (List.getElem?_eq_some_iff.1 hu).1
          simpa [sv] using this
        rcases hS.is with ⟨rfl, _⟩ | ⟨b, off, cap, hv, _, _, hcl⟩
        · simp at hj
        · injection hv with e _ _
          injection e with e
          subst e
          have hc := hcl j hj
          rw [add_none, hc, ← hu]
          simp [sv, List.getD, hj])
      (fun u hu => by
        simp only [sv, List.mem_map] at hu
        obtain ⟨s, _, rfl⟩ := hu
        rfl) (by unfold maxLen; omega) (by omega) hB
    rw [appX_rw] at hrun
    obtain ⟨ao2, n2, cap2, rfl⟩ := slice_of_owns hown2
    exact ⟨ao2, n2, cap2, w2, hrun, by rw [sv_append]; exact hown2, (Below.refl B W).grown hgrow2 hB (fun j hj => (h.lt j hj).1)⟩

end Go.Proofs.Ytkkbjkjmhjgaiaa
