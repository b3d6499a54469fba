/- Prove and the reference's Prove answer alike, whatever the index. -/
import Derived.Test.YtkkbjkjmhjgaiaaAD
namespace Go.Proofs.Ytkkbjkjmhjgaiaa
open Go.RowKit

theorem prove_both {w : World} {v : Value} {L : List ByteArray} (hX : Sx w v L) (hlen : L.length ≤ 20) (hsz : ∀ s ∈ L, s.size ≤ 30) (kk : Int) :
    ∃ (P : List ByteArray) (n : Nat) (b : Bool), P.length = n ∧ n ≤ 5 ∧ (∀ s ∈ P, s.size = 8) ∧ (b = true → 0 ≤ kk ∧ kk < (L.length : Nat)) ∧ ∀ W, Below w.heap.size w W →
      (Calls Try.prog 24 #[v, .int .i64 kk] W fun e w' => ∃ ao cap, e = .returned (.tuple #[.slice ao n cap, .bool b]) ∧ w'.ownsRow W.heap.size 9 1 (.slice ao n cap) n (sv P) ∧ Below W.heap.size W w') ∧
      (Calls Try.prog 25 #[v, .int .i64 kk] W fun e w' => ∃ ao cap, e = .returned (.tuple #[.slice ao n cap, .bool b]) ∧ w'.ownsRow W.heap.size 9 1 (.slice ao n cap) n (sv P) ∧ Below W.heap.size W w') := by
  obtain ⟨m, hm, hnm, hm5⟩ := lev_small (n := L.length) (by omega)
  by_cases h : 0 ≤ kk ∧ kk < (L.length : Nat)
  · obtain ⟨i, rfl⟩ : ∃ i : Nat, kk = (i : Nat) := ⟨kk.toNat, by omega⟩
    have hi : i < L.length := by omega
    refine ⟨proofS L m i, m, true, proofS_len L m i, hm5, proofS_eight hm (by omega), fun _ => h, fun W hW => ⟨?_, ?_⟩⟩
    · refine (prove_O (hX.below hW) (by omega) (fun k => Nat.le_trans (getD_le hsz k) (by omega)) hm hi).mono fun e w' ⟨ao, n, cap, h1, h2, h3⟩ => ?_
      have hn := owns_len h2
      subst hn
      exact ⟨ao, cap, h1, h2, h3⟩
    · refine (rProve_yes (hX.below hW) (by omega) (fun k => Nat.le_trans (getD_le hsz k) (by omega)) hm (by omega) hi).mono fun e w' ⟨ao, n, cap, h1, h2, h3⟩ => ?_
      have hn := owns_len h2
      subst hn
      exact ⟨ao, cap, h1, h2, h3⟩
  · obtain ⟨ao, cap, rfl⟩ := hX.mk'
    have h' : kk < 0 ∨ (L.length : Int) ≤ kk := by omega
    refine ⟨[], 0, false, rfl, by omega, fun s hs => by simp at hs, fun e => (Bool.false_ne_true e).elim, fun W hW => ⟨?_, ?_⟩⟩
    · exact (prove_no ao L.length cap kk h').mono fun e w' ⟨h1, h2⟩ => ⟨none, 0, h1, ⟨rfl, .inl ⟨rfl, rfl⟩⟩, h2⟩
    · exact (rProve_no ao L.length cap kk h').mono fun e w' ⟨h1, h2⟩ => ⟨none, 0, h1, ⟨rfl, .inl ⟨rfl, rfl⟩⟩, h2⟩

end Go.Proofs.Ytkkbjkjmhjgaiaa
