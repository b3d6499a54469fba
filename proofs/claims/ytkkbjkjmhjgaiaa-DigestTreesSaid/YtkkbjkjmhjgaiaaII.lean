/- Contracts of the law's list, of Prove and Verify as the laws call them; facts on a proof of a list. -/
import Derived.Test.YtkkbjkjmhjgaiaaEE
import Derived.Test.YtkkbjkjmhjgaiaaGG
import Derived.Test.YtkkbjkjmhjgaiaaHH
namespace Go.Proofs.Ytkkbjkjmhjgaiaa
open Go.RowKit

theorem list_S {w W : World} {v : Value} {l : List ByteArray} (hX : Sx w v l) (hW : Below w.heap.size w W) : Calls Try.prog 21 #[v] W fun e w' => ∃ ao cap, e = .returned (.slice ao (cutL l).length cap) ∧ Sx w' (.slice ao (cutL l).length cap) (cutL l) ∧ Below W.heap.size W w' :=
  (list_any (hX.below hW)).mono fun e w' ⟨ao, n, cap, h1, h2, h3⟩ => by
    obtain ⟨hs, _⟩ := Sx.of_sv h2
    obtain ⟨ao2, cap2, e2⟩ := hs.mk'
    rw [e2] at h1 hs
    exact ⟨ao2, cap2, h1, hs, h3⟩

/-- The elements of the proof. -/
def proofS (L : List ByteArray) (m i : Nat) : List ByteArray := (proofD m (leavesD (L.map by')) i).map sA

theorem proofS_len (L : List ByteArray) (m i : Nat) : (proofS L m i).length = m := by
  unfold proofS; rw [List.length_map, proofD_len]

theorem proofS_by (L : List ByteArray) (m i : Nat) : (proofS L m i).map by' = proofD m (leavesD (L.map by')) i := by
  unfold proofS
  rw [List.map_map]
  conv => rhs; rw [← List.map_id (proofD m (leavesD (L.map by')) i)]
  exact List.map_congr_left fun d _ => by simp [by_sA]

theorem proofS_eight {L : List ByteArray} {m i : Nat} (hm : wid L.length = 2 ^ m) (hi : i < 2 ^ m) : ∀ s ∈ proofS L m i, s.size = 8 := by
  intro s hs
  unfold proofS at hs
  obtain ⟨d, hd, rfl⟩ := List.mem_map.1 hs
  rw [sA_size]
  exact all8_proof m _ i (all8_leaves _) (by rw [leavesD_len, List.length_map, hm]) hi d hd

theorem getD_all {ps : List ByteArray} {n : Nat} (h : ∀ s ∈ ps, s.size = n) : ∀ k, k < ps.length → (ps.getD k ⟨#[]⟩).size = n := by
  intro k hk
  rw [show ps.getD k ⟨#[]⟩ = ps[k] by simp [List.getD, hk]]
  exact h _ (List.getElem_mem _)

theorem getD_le {ps : List ByteArray} {n : Nat} (h : ∀ s ∈ ps, s.size ≤ n) : ∀ k, (ps.getD k ⟨#[]⟩).size ≤ n := by
  intro k
  by_cases hk : k < ps.length
  · rw [show ps.getD k ⟨#[]⟩ = ps[k] by simp [List.getD, hk]]
    exact h _ (List.getElem_mem _)
  · rw [show ps.getD k ⟨#[]⟩ = ⟨#[]⟩ by simp [List.getD, hk]]
    exact Nat.zero_le _

theorem proof_up {L : List ByteArray} {m i : Nat} (hm : wid L.length = 2 ^ m) (hi : i < L.length) (hi2 : i < 2 ^ m) :
    upD (leafD (by' (L.getD i ⟨#[]⟩))) i (proofD m (leavesD (L.map by')) i) = rootD m (leavesD (L.map by')) := by
  rw [← upD_root m (leavesD (L.map by')) i (by rw [leavesD_len, List.length_map, hm]) hi2]
  congr 1
  unfold leavesD
  rw [getD_left (by simpa using hi)]
  simp [List.getD, hi]

theorem prove_S {W : World} {v : Value} {L : List ByteArray} (hX : Sx W v L) (hlen : L.length ≤ 1000) (hsz : ∀ k, (L.getD k ⟨#[]⟩).size ≤ 140737488355000) {m : Nat} (hm : wid L.length = 2 ^ m) {i : Nat} (hi : i < L.length) :
    Calls Try.prog 24 #[v, .int .i64 i] W fun e w' => ∃ ao cap, e = .returned (.tuple #[.slice ao m cap, .bool true]) ∧ Sx w' (.slice ao m cap) (proofS L m i) ∧ Below W.heap.size W w' :=
  (prove_yes hX (by omega) hsz m hm i hi).mono fun e w' ⟨pv, h1, h2, h3⟩ => by
    have hs := Sx.of_owns h2
    obtain ⟨ao2, cap2, e2⟩ := hs.mk'
    rw [e2] at h1 hs
    rw [List.length_map, proofD_len] at h1 hs
    exact ⟨ao2, cap2, h1, hs, h3⟩

/-- Verify of a string with the proof. -/
theorem verify_S {W : World} {v : Value} {L : List ByteArray} {m i : Nat} (hm : wid L.length = 2 ^ m) (hm20 : m ≤ 20) (hi : i < 2 ^ m) (hX : Sx W v (proofS L m i)) (root leaf : ByteArray) (hl : leaf.size ≤ 1000) (hr : root.size ≤ 1000) {k : Nat} (hk : k < 2 ^ m) :
    Calls Try.prog 27 #[.string root, .string leaf, .int .i64 k, v] W fun e w' => e = .returned (.bool (decide (by' root = upD (leafD (by' leaf)) k (proofD m (leavesD (L.map by')) i)))) ∧ Below W.heap.size W w' := by
  have h8 := proofS_eight hm hi
  have h := verify_in hX (by rw [proofS_len]; exact hm20) k (by rw [proofS_len]; exact hk) root leaf (by omega) (by omega) (getD_le fun s hs => by rw [h8 s hs]; omega)
  rw [proofS_by, decide_eq_true h8, Bool.true_and] at h
  exact h

/-- Up with the proof. -/
theorem up_S {W : World} {v : Value} {L : List ByteArray} {m i : Nat} (hm : wid L.length = 2 ^ m) (hm20 : m ≤ 20) (hi : i < 2 ^ m) (hX : Sx W v (proofS L m i)) (d : ByteArray) (hd : d.size = 8) {k : Nat} (hk : k < 2 ^ m) :
    Calls Try.prog 29 #[.string d, .int .i64 k, v] W fun e w' => e = .returned (.tuple #[.string (sA (upD (by' d) k (proofD m (leavesD (L.map by')) i))), .bool true]) ∧ Below W.heap.size W w' := by
  have h := up_in hX (by rw [proofS_len]; exact hm20) k (by rw [proofS_len]; exact hk) d hd (getD_all (proofS_eight hm hi))
  rw [proofS_by] at h
  exact h

theorem lev_small {n : Nat} (h : n ≤ 32) : ∃ m, wid n = 2 ^ m ∧ n ≤ 2 ^ m ∧ m ≤ 5 := by
  obtain ⟨m, h1, h2, h3⟩ := wid_pow n
  refine ⟨m, h1, h2, ?_⟩
  by_cases hm : m ≤ 5
  · exact hm
  · have h4 := h3 (by omega)
    have h5 : 2 ^ 5 ≤ 2 ^ (m - 1) := Nat.pow_le_pow_right (by omega) (by omega)
    omega

end Go.Proofs.Ytkkbjkjmhjgaiaa
