/- Verify and the reference's Verify answer alike. Condition: strings of lengths that Go permits. -/
import Derived.Test.YtkkbjkjmhjgaiaaZZ
namespace Go.Proofs.Ytkkbjkjmhjgaiaa
open Go.RowKit

theorem verify_both {w : World} {pv : Value} {ps : List ByteArray} (hX : Sx w pv ps) (root leaf : ByteArray) (i : Int) (hl : leaf.size ≤ 140737488355000) (hr : root.size ≤ 140737488355000) (hsz : ∀ k, (ps.getD k ⟨#[]⟩).size ≤ 140737488355000) :
    ∃ bl : Bool, ∀ W, Below w.heap.size w W →
      (Calls Try.prog 27 #[.string root, .string leaf, .int .i64 i, pv] W fun e w' => e = .returned (.bool bl) ∧ Below W.heap.size W w') ∧
      (Calls Try.prog 28 #[.string root, .string leaf, .int .i64 i, pv] W fun e w' => e = .returned (.bool bl) ∧ Below W.heap.size W w') := by
  obtain ⟨ao, cap, rfl⟩ := hX.mk'
  have h8 : (sA (leafD (by' leaf))).size = 8 := by rw [sA_size]; exact dig_len _
  by_cases h0 : 20 < ps.length ∨ i < 0
  · refine ⟨false, fun W hW => ⟨verify_far root leaf i ao ps.length cap (by rcases h0 with h | h; exact .inl h; exact .inr (.inl h)), ?_⟩⟩
    have := rVerify_of (w := W) root leaf i ao ps.length cap ⟨#[]⟩ false hl (fun W2 _ => up_out _ i ao ps.length cap h0)
    simpa using this
  · obtain ⟨x, rfl⟩ : ∃ x : Nat, i = (x : Nat) := ⟨i.toNat, by omega⟩
    have h20 : ps.length ≤ 20 := by omega
    by_cases hx : 2 ^ ps.length ≤ x
    · refine ⟨false, fun W hW => ⟨verify_far root leaf x ao ps.length cap (.inr (.inr ⟨h20, by exact_mod_cast hx⟩)), ?_⟩⟩
      have := rVerify_of (w := W) root leaf x ao ps.length cap ⟨#[]⟩ false hl (fun W2 _ => up_far _ x ao ps.length cap h20 hx)
      simpa using this
    · have hx2 : x < 2 ^ ps.length := by omega
      refine ⟨_, fun W hW => ⟨verify_in (hX.below hW) h20 x hx2 root leaf hl hr hsz, ?_⟩⟩
      by_cases hall : ∀ s ∈ ps, s.size = 8
      · have := rVerify_of (w := W) root leaf x ao ps.length cap (sA (upD (leafD (by' leaf)) x (ps.map by'))) true hl (fun W2 hW2 => by
          have h := up_in ((hX.below hW).below hW2) h20 x hx2 (sA (leafD (by' leaf))) h8 (getD_all hall)
          rwa [by_sA] at h)
        rw [str_beq, by_sA, Bool.true_and] at this
        rw [decide_eq_true hall, Bool.true_and, show decide (by' root = upD (leafD (by' leaf)) x (ps.map by')) = decide (upD (leafD (by' leaf)) x (ps.map by') = by' root) from decide_eq_decide.2 eq_comm]
        exact this
      · have := rVerify_of (w := W) root leaf x ao ps.length cap ⟨#[]⟩ false hl (fun W2 hW2 => up_bad ((hX.below hW).below hW2) h20 x hx2 (sA (leafD (by' leaf))) h8 hall (fun k => Nat.le_trans (hsz k) (by omega)))
        rw [decide_eq_false hall, Bool.false_and]
        rwa [Bool.false_and] at this

end Go.Proofs.Ytkkbjkjmhjgaiaa
