/- Contracts of the reference: Leaf, pair, Chain, Mark, Check. Condition: the strings are shorter than 2^32. -/
import Derived.Test.YtkkbjkjmhjgaiaaJ
namespace Go.Proofs.Ytkkbjkjmhjgaiaa
open Go.RowKit

theorem by_app (a b : ByteArray) : by' (a ++ b) = by' a ++ by' b := by simp [by']
theorem size_app (a b : ByteArray) : (a ++ b).size = a.size + b.size := ByteArray.size_append
theorem by_one (c : UInt8) : by' ⟨#[c]⟩ = [c] := rfl
theorem size_one (c : UInt8) : (⟨#[c]⟩ : ByteArray).size = 1 := rfl
theorem by_lenS (s : ByteArray) : by' (lenS s) = le4 s.size := by rw [lenS, by_sA]

/-- The digest of a string, as a string. -/
def ofS (s : ByteArray) : ByteArray := sA (dig (by' s))
theorem ofS_size (s : ByteArray) : (ofS s).size = 8 := by rw [ofS, sA_size, dig_len]
theorem by_ofS (s : ByteArray) : by' (ofS s) = dig (by' s) := by_sA _

theorem ofS_leaf (s : ByteArray) : ofS (⟨#[1]⟩ ++ s) = sA (leafD (by' s)) := by
  rw [ofS, by_app, by_one]; rfl
theorem ofS_pair (a b : ByteArray) : ofS (⟨#[2]⟩ ++ a ++ b) = sA (nodeD (by' a) (by' b)) := by
  rw [ofS, by_app, by_app, by_one, List.append_assoc]; rfl
theorem ofS_chain (b s : ByteArray) : ofS (⟨#[4]⟩ ++ lenS b ++ b ++ s) = sA (chainD b s) := by
  rw [ofS, by_app, by_app, by_app, by_one, by_lenS, List.append_assoc, List.append_assoc]; rfl
theorem ofS_mark (k m : ByteArray) : ofS (⟨#[5]⟩ ++ lenS k ++ k ++ lenS m ++ m ++ k) = sA (markD k m) := by
  rw [ofS, by_app, by_app, by_app, by_app, by_app, by_one, by_lenS, by_lenS, List.append_assoc, List.append_assoc, List.append_assoc, List.append_assoc]; rfl

theorem rOf_S : ∀ (s : ByteArray) (W : World), s.size ≤ 140737488355328 → Calls Try.prog 15 #[.string s] W fun e w' => e = .returned (.string (ofS s)) ∧ Below W.heap.size W w' := fun s W h => rOf_any s h W

set_option maxRecDepth 10000 in
set_option maxHeartbeats 1000000 in
theorem rLeaf_any (s : ByteArray) (hs : s.size ≤ 140737488355000) (w : World) : Calls Try.prog 30 #[.string s] w fun e w' => e = .returned (.string (sA (leafD (by' s)))) ∧ Below w.heap.size w w' := by
  rw [← ofS_leaf]
  have HO := Lib.hid rOf_S
  have e1 := size_app ⟨#[1]⟩ s
  go_enter Try.func30, Try.ntmps30
  go_wp2_with (go_at_call 15; refine (HO.out _ _ (by simp only [size_app, size_one]; omega)).mono ?_; rintro e w1 ⟨rfl, hb⟩)
  go_ret
  exact ⟨rfl, hb⟩

set_option maxRecDepth 10000 in
set_option maxHeartbeats 1000000 in
theorem pair_any (a b : ByteArray) (ha : a.size ≤ 4294967296) (hb : b.size ≤ 4294967296) (w : World) : Calls Try.prog 44 #[.string a, .string b] w fun e w' => e = .returned (.string (sA (nodeD (by' a) (by' b)))) ∧ Below w.heap.size w w' := by
  rw [← ofS_pair]
  have HO := Lib.hid rOf_S
  go_enter Try.func44, Try.ntmps44
  go_wp2_with (go_at_call 15; refine (HO.out _ _ (by simp only [size_app, size_one]; omega)).mono ?_; rintro e w1 ⟨rfl, hb⟩)
  go_ret
  exact ⟨rfl, hb⟩

theorem least4_S : ∀ (s : ByteArray) (W : World), s.size < 4294967296 → Calls Try.prog 31 #[.int .i64 s.size] W fun e w' => e = .returned (.string (lenS s)) ∧ Below W.heap.size W w' := fun s W h => least4_any s.size (by omega) W

set_option maxRecDepth 10000 in
set_option maxHeartbeats 1000000 in
theorem rChain_any (b s : ByteArray) (hb : b.size < 4294967296) (hs : s.size < 4294967296) (w : World) : Calls Try.prog 17 #[.string b, .string s] w fun e w' => e = .returned (.string (sA (chainD b s))) ∧ Below w.heap.size w w' := by
  rw [← ofS_chain]
  have HO := Lib.hid rOf_S
  have HL := Lib.hid (least4_S b)
  obtain ⟨L, hL⟩ : ∃ L, L = lenS b := ⟨_, rfl⟩
  have h4 : L.size = 4 := by rw [hL]; exact lenS_size b
  rw [← hL] at HL ⊢
  clear hL
  go_enter Try.func17, Try.ntmps17
  go_wp2_with (first | (go_at_call 31; refine (HL.out _ hb).mono ?_; rintro e w0 ⟨rfl, hb0⟩) | (go_at_call 15; refine (HO.out _ _ (by simp only [size_app, size_one]; omega)).mono ?_; rintro e w1 ⟨rfl, hb1⟩))
  go_ret
  exact ⟨rfl, hb0.trans (hb1.mono hb0.size)⟩

set_option maxRecDepth 10000 in
set_option maxHeartbeats 1000000 in
theorem rMark_any (k m : ByteArray) (hk : k.size < 4294967296) (hm : m.size < 4294967296) (w : World) : Calls Try.prog 13 #[.string k, .string m] w fun e w' => e = .returned (.string (sA (markD k m))) ∧ Below w.heap.size w w' := by
  rw [← ofS_mark]
  have HO := Lib.hid rOf_S
  have HL := Lib.hid least4_S
  have s1 := lenS_size k
  have s2 := lenS_size m
  have HB := Lib.hid (Below.refl w.heap.size w)
  go_enter Try.func13, Try.ntmps13
  go_wp2_with (first | (go_at_call 31; refine (HL.out _ _ (by assumption)).mono ?_; rintro e w0 ⟨rfl, hb⟩; have HB := Lib.hid (HB.out.trans (hb.mono HB.out.size)); clear hb) | (go_at_call 15; refine (HO.out _ _ (by simp only [size_app, size_one, s1, s2]; omega)).mono ?_; rintro e w1 ⟨rfl, hb⟩; have HB := Lib.hid (HB.out.trans (hb.mono HB.out.size)); clear hb))
  go_ret
  exact ⟨rfl, HB.out⟩

set_option maxRecDepth 10000 in
set_option maxHeartbeats 1000000 in
theorem rCheck_any (k m x : ByteArray) (hk : k.size < 4294967296) (hm : m.size < 4294967296) (w : World) :
    Calls Try.prog 20 #[.string k, .string m, .string x] w fun e w' => e = .returned (.bool (decide (k.size ≠ 0) && decide (by' x = markD k m))) ∧ Below w.heap.size w w' := by
  have HM := Lib.hid (fun W => rMark_any k m hk hm W)
  have hx : decide (by' x = markD k m) = decide (x.toList = (sA (markD k m)).toList) := by
    rw [ByteArray.toList_eq, ByteArray.toList_eq]
    exact (congrArg (fun l => decide (by' x = l)) (by_sA (markD k m))).symm
  rw [hx]
  obtain ⟨D, hD⟩ : ∃ D, D = sA (markD k m) := ⟨_, rfl⟩
  rw [← hD] at HM ⊢
  have ek : (k.toList = []) ↔ k.size = 0 := by rw [ByteArray.toList_eq, ← by_len]; exact List.length_eq_zero_iff.symm
  by_cases h0 : k.size = 0
  · have e0 : decide (k.size ≠ 0) = false := by simp [h0]
    rw [e0]
    have h1 := ek.2 h0
    clear hD e0 h0 ek hx
    go_enter Try.func20, Try.ntmps20
    go_wp2
    go_ret
    exact ⟨rfl, Below.refl _ _⟩
  · have e0 : decide (k.size ≠ 0) = true := by simp [h0]
    rw [e0]
    have h1 : ¬ k.toList = [] := fun e => h0 (ek.1 e)
    clear hD e0 h0 ek hx
    go_enter Try.func20, Try.ntmps20
    go_wp2_with (go_at_call 13; refine (HM.out _).mono ?_; rintro e w1 ⟨rfl, hb1⟩)
    go_ret
    exact ⟨by simp [h1, Bool.beq_eq_decide_eq], hb1⟩

end Go.Proofs.Ytkkbjkjmhjgaiaa
