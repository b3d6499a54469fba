/- Contract of the law's sanity. No condition. -/
import Derived.Test.YtkkbjkjmhjgaiaaX
namespace Go.Proofs.Ytkkbjkjmhjgaiaa
open Go.RowKit

theorem step1 {B : Nat} {w W W' : World} (h : Hid (Below B w W)) (hB : Hid (B ≤ W.heap.size)) (hb : Below W.heap.size W W') : Hid (Below B w W') ∧ Hid (B ≤ W'.heap.size) := ⟨h.out.trans (hb.mono hB.out), Nat.le_trans hB.out hb.size⟩
theorem step2 {B : Nat} {w W W' : World} {o : Obj} (h : Hid (Below B w W)) (hB : Hid (B ≤ W.heap.size)) (hb : Below (W.alloc o).heap.size (W.alloc o) W') : Hid (Below B w W') ∧ Hid (B ≤ W'.heap.size) :=
  step1 h hB (((Below.refl W.heap.size W).alloc (Nat.le_refl _) o).trans (hb.mono (by simp)))

theorem step2b {W W' : World} {o : Obj} (hb : Below (W.alloc o).heap.size (W.alloc o) W') : Below W.heap.size W W' := ((Below.refl W.heap.size W).alloc (Nat.le_refl _) o).trans (hb.mono (by simp))

theorem Sx.of_owns {W : World} {B n : Nat} {v : Value} {L : List Dg} (h : W.ownsRow B 9 1 v n (strs L)) : Sx W v (L.map sA) := by
  obtain ⟨h1, h2⟩ := h
  have hn : L.length = n := by simpa [strs] using h1
  rcases h2 with ⟨rfl, rfl⟩ | ⟨g, cap, cur, rfl, _, hg, hc, hm, hs, ht⟩
  · have : L = [] := List.eq_nil_of_length_eq_zero hn
    subst this
    exact Sx.nil _ _ _
  · refine ⟨by rw [List.length_map, hn]; omega, .inr ⟨g, 0, cap, by rw [List.length_map, hn], by rw [List.length_map, hn]; exact hc, (Array.getElem?_eq_some_iff.1 hg).1, fun j hj => ?_⟩⟩
    rw [List.length_map] at hj
    rw [cell_of_row _ _ _ _ _ _ hg, Nat.zero_add, ← Array.getElem?_toList]
    have e : (cur.toList.take (n * 1))[j]? = (strs L)[j]? := by rw [ht]
    rw [List.getElem?_take_of_lt (by omega)] at e
    rw [e]
    simp [strs, List.getD, hj]

theorem ofS_nil : ofS ⟨#[]⟩ = ⟨#[0, 0, 0, 17, 0, 0, 0, 29]⟩ := by rfl
theorem ofS_zero : ofS ⟨#[0]⟩ = ⟨#[0, 12, 133, 128, 0, 30, 206, 194]⟩ := by rfl
theorem chain_nil : sA (chainD ⟨#[]⟩ ⟨#[]⟩) = ofS ⟨#[4, 0, 0, 0, 0]⟩ := by rfl
theorem mark_km : sA (markD ⟨#[107]⟩ ⟨#[109]⟩) = ofS ⟨#[5, 1, 0, 0, 0, 107, 1, 0, 0, 0, 109, 107]⟩ := by rfl

theorem wid_zero : wid 0 = 2 ^ 0 := by
  unfold wid; rw [widFrom, dif_neg (by omega)]
theorem wid_one : wid 1 = 2 ^ 0 := by
  unfold wid; rw [widFrom, dif_neg (by omega)]
theorem wid_two : wid 2 = 2 ^ 1 := by
  unfold wid; rw [widFrom, dif_pos (by omega), widFrom, dif_neg (by omega)]
theorem wid_three : wid 3 = 2 ^ 2 := by
  unfold wid; rw [widFrom, dif_pos (by omega), widFrom, dif_pos (by omega), widFrom, dif_neg (by omega)]

theorem sA_leaf (s : ByteArray) : sA (leafD (by' s)) = ofS (⟨#[1]⟩ ++ s) := (ofS_leaf s).symm
theorem sA_node (a b : Dg) : sA (nodeD a b) = ofS (⟨#[2]⟩ ++ sA a ++ sA b) := by rw [ofS_pair, by_sA, by_sA]

theorem root0 : sA (rootD 0 (leavesD ([].map by'))) = ofS ⟨#[3]⟩ := by
  simp only [leavesD, List.map_nil, List.length_nil, wid_zero]
  rfl
theorem root1 : sA (rootD 0 (leavesD ([(⟨#[97]⟩ : ByteArray)].map by'))) = ofS ⟨#[1, 97]⟩ := by
  simp only [leavesD, List.map_cons, List.map_nil, List.length_cons, List.length_nil, Nat.zero_add, wid_one]
  exact sA_leaf ⟨#[97]⟩
theorem leaves2 : leavesD ([(⟨#[97]⟩ : ByteArray), ⟨#[98]⟩].map by') = [leafD [97], leafD [98]] := by
  simp only [leavesD, List.map_cons, List.map_nil, List.length_cons, List.length_nil, Nat.zero_add, Nat.reduceAdd, wid_two]
  rfl
theorem leaves3 : leavesD ([(⟨#[97]⟩ : ByteArray), ⟨#[98]⟩, ⟨#[99]⟩].map by') = [leafD [97], leafD [98], leafD [99], noneD] := by
  simp only [leavesD, List.map_cons, List.map_nil, List.length_cons, List.length_nil, Nat.zero_add, Nat.reduceAdd, wid_three]
  rfl
theorem root2 : sA (rootD 1 (leavesD ([(⟨#[97]⟩ : ByteArray), ⟨#[98]⟩].map by'))) = ofS (⟨#[2]⟩ ++ ofS ⟨#[1, 97]⟩ ++ ofS ⟨#[1, 98]⟩) := by
  rw [leaves2]
  show sA (nodeD (leafD [97]) (leafD [98])) = _
  rw [sA_node]
  rw [show sA (leafD [97]) = ofS ⟨#[1, 97]⟩ from sA_leaf ⟨#[97]⟩, show sA (leafD [98]) = ofS ⟨#[1, 98]⟩ from sA_leaf ⟨#[98]⟩]
theorem proof3 : (proofD 2 (leavesD ([(⟨#[97]⟩ : ByteArray), ⟨#[98]⟩, ⟨#[99]⟩].map by')) 2).map sA = [ofS ⟨#[3]⟩, ofS (⟨#[2]⟩ ++ ofS ⟨#[1, 97]⟩ ++ ofS ⟨#[1, 98]⟩)] := by
  rw [leaves3]
  show [sA noneD, sA (nodeD (leafD [97]) (leafD [98]))] = _
  rw [sA_node, show sA (leafD [97]) = ofS ⟨#[1, 97]⟩ from sA_leaf ⟨#[97]⟩, show sA (leafD [98]) = ofS ⟨#[1, 98]⟩ from sA_leaf ⟨#[98]⟩]
  rfl

end Go.Proofs.Ytkkbjkjmhjgaiaa
