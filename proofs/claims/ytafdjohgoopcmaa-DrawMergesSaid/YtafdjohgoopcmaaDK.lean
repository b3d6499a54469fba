/- Contracts of the reference: Leaf, pair, Chain, Mark, Check. Condition: the strings are shorter than 2^32. -/
import Derived.Test.YtafdjohgoopcmaaDJ
namespace Go.Proofs.Ytafdjohgoopcmaa
open Go.RowKit

theorem by_app (a b : ByteArray) : by' (a ++ b) = by' a ++ by' b := by simp [by']
theorem size_app (a b : ByteArray) : (a ++ b).size = a.size + b.size := ByteArray.size_append
theorem by_one (c : UInt8) : by' ⟨#[c]⟩ = [c] := rfl
theorem size_one (c : UInt8) : (⟨#[c]⟩ : ByteArray).size = 1 := rfl
theorem by_lenS (s : ByteArray) : by' (lenS s) = le4 s.size := by rw [lenS, by_sA]

/-- The digest of a string, as a string. -/
def ofS (s : ByteArray) : ByteArray := sA (dig (by' s))
theorem ofS_size (s : ByteArray) : (ofS s).size = 8 := by rw [ofS, sA_size, dig_len]
theorem by_ofS (s : ByteArray) : by' (ofS s) = dig (by' s) := by_sA _

theorem ofS_chain (b s : ByteArray) : ofS (⟨#[4]⟩ ++ lenS b ++ b ++ s) = sA (chainD b s) := by
  rw [ofS, by_app, by_app, by_app, by_one, by_lenS, List.append_assoc, List.append_assoc]; rfl
theorem ofS_mark (k m : ByteArray) : ofS (⟨#[5]⟩ ++ lenS k ++ k ++ lenS m ++ m ++ k) = sA (markD k m) := by
  rw [ofS, by_app, by_app, by_app, by_app, by_app, by_one, by_lenS, by_lenS, List.append_assoc, List.append_assoc, List.append_assoc, List.append_assoc]; rfl

theorem rOf_S : ∀ (s : ByteArray) (W : World), s.size ≤ 140737488355328 → Calls Try.prog 30 #[.string s] W fun e w' => e = .returned (.string (ofS s)) ∧ Below W.heap.size W w' := fun s W h => rOf_any s h W

theorem least4_S : ∀ (s : ByteArray) (W : World), s.size < 4294967296 → Calls Try.prog 43 #[.int .i64 s.size] W fun e w' => e = .returned (.string (lenS s)) ∧ Below W.heap.size W w' := fun s W h => least4_any s.size (by omega) W

set_option maxRecDepth 10000 in
set_option maxHeartbeats 1000000 in
theorem rChain_any (b s : ByteArray) (hb : b.size < 4294967296) (hs : s.size < 4294967296) (w : World) : Calls Try.prog 31 #[.string b, .string s] w fun e w' => e = .returned (.string (sA (chainD b s))) ∧ Below w.heap.size w w' := by
  rw [← ofS_chain]
  have HO := Lib.hid rOf_S
  have HL := Lib.hid (least4_S b)
  obtain ⟨L, hL⟩ : ∃ L, L = lenS b := ⟨_, rfl⟩
  have h4 : L.size = 4 := by rw [hL]; exact lenS_size b
  rw [← hL] at HL ⊢
  clear hL
  go_enter Try.func31, Try.ntmps31
  go_wp2_with (first | (go_at_call 43; refine (HL.out _ hb).mono ?_; rintro e w0 ⟨rfl, hb0⟩) | (go_at_call 30; refine (HO.out _ _ (by simp only [size_app, size_one]; omega)).mono ?_; rintro e w1 ⟨rfl, hb1⟩))
  go_ret
  exact ⟨rfl, hb0.trans (hb1.mono hb0.size)⟩

set_option maxRecDepth 10000 in
set_option maxHeartbeats 1000000 in
theorem rMark_any (k m : ByteArray) (hk : k.size < 4294967296) (hm : m.size < 4294967296) (w : World) : Calls Try.prog 33 #[.string k, .string m] w fun e w' => e = .returned (.string (sA (markD k m))) ∧ Below w.heap.size w w' := by
  rw [← ofS_mark]
  have HO := Lib.hid rOf_S
  have HL := Lib.hid least4_S
  have s1 := lenS_size k
  have s2 := lenS_size m
  have HB := Lib.hid (Below.refl w.heap.size w)
  go_enter Try.func33, Try.ntmps33
  go_wp2_with (first | (go_at_call 43; refine (HL.out _ _ (by assumption)).mono ?_; rintro e w0 ⟨rfl, hb⟩; have HB := Lib.hid (HB.out.trans (hb.mono HB.out.size)); clear hb) | (go_at_call 30; refine (HO.out _ _ (by simp only [size_app, size_one, s1, s2]; omega)).mono ?_; rintro e w1 ⟨rfl, hb⟩; have HB := Lib.hid (HB.out.trans (hb.mono HB.out.size)); clear hb))
  go_ret
  exact ⟨rfl, HB.out⟩

end Go.Proofs.Ytafdjohgoopcmaa
