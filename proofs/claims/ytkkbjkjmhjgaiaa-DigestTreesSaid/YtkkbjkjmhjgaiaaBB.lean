/- The law DigestDiffer, walked. Condition: strings of lengths that Go permits. -/
import Derived.Test.YtkkbjkjmhjgaiaaAA
namespace Go.Proofs.Ytkkbjkjmhjgaiaa
open Go.RowKit

theorem bump_parts {l : List UInt8} {a c : UInt8} (h : l.length ≠ 0) (hc : c ≠ 0) : ∃ p x y r, l = p ++ x :: r ∧ bump l a c = p ++ y :: r ∧ x ≠ y := by
  have hk : a.toNat % l.length < l.length := Nat.mod_lt _ (by omega)
  refine ⟨l.take (a.toNat % l.length), l[a.toNat % l.length], l[a.toNat % l.length] + c, l.drop (a.toNat % l.length + 1), ?_, ?_, ?_⟩
  · rw [List.getElem_cons_drop, List.take_append_drop]
  · unfold bump
    rw [if_neg h, List.set_eq_take_append_cons_drop, if_pos hk]
    simp [List.getD, hk]
  · intro e
    apply hc
    have := congrArg UInt8.toNat e
    rw [UInt8.toNat_add] at this
    apply UInt8.toNat_inj.1
    have h1 := (l[a.toNat % l.length]).toNat_lt
    have h2 := c.toNat_lt
    show c.toNat = 0
    omega

theorem dig_ctx {l l' : List UInt8} (u v : List UInt8) (h : ∃ p x y r, l = p ++ x :: r ∧ l' = p ++ y :: r ∧ x ≠ y) : dig (u ++ (l ++ v)) ≠ dig (u ++ (l' ++ v)) := by
  obtain ⟨p, x, y, r, rfl, rfl, hxy⟩ := h
  have := dig_differ (u ++ p) (r ++ v) x y hxy
  simpa using this

/-- Two strings that differ in one byte. -/
def Near (S O : ByteArray) : Prop := S.size = O.size ∧ ∃ p x y r, by' S = p ++ x :: r ∧ by' O = p ++ y :: r ∧ x ≠ y

theorem near_of {S O : ByteArray} (h : Near S O) : dig (by' S) ≠ dig (by' O) := by
  have := dig_ctx [] [] h.2
  simpa using this
theorem near_chain1 {S O : ByteArray} (h : Near S O) (t : ByteArray) : chainD S t ≠ chainD O t := by
  have := dig_ctx (4 :: le4 S.size) (by' t) h.2
  unfold chainD
  rw [← h.1]
  simpa using this
theorem near_chain2 {S O : ByteArray} (h : Near S O) (t : ByteArray) : chainD t S ≠ chainD t O := by
  have := dig_ctx (4 :: (le4 t.size ++ by' t)) [] h.2
  unfold chainD
  simpa using this
theorem near_mark {S O : ByteArray} (h : Near S O) (k : ByteArray) : markD k S ≠ markD k O := by
  have := dig_ctx (5 :: (le4 k.size ++ (by' k ++ le4 S.size))) (by' k) h.2
  unfold markD
  rw [← h.1]
  simpa using this

def chainS (b s : ByteArray) : ByteArray := sA (chainD b s)
def markS (k m : ByteArray) : ByteArray := sA (markD k m)
def checkB (k m x : ByteArray) : Bool := decide (k.size ≠ 0) && decide (by' x = markD k m)
theorem chainS_size (b s : ByteArray) : (chainS b s).size = 8 := by rw [chainS, sA_size]; exact dig_len _
theorem markS_size (b s : ByteArray) : (markS b s).size = 8 := by rw [markS, sA_size]; exact dig_len _

theorem ne_toList {a b : ByteArray} (h : by' a ≠ by' b) : (a.toList == b.toList) = false := by
  rw [str_beq]; exact decide_eq_false h

theorem bent_near {S : ByteArray} {a c : UInt8} (h : S.size ≠ 0) (hc : c ≠ 0) : Near S (bent a c ⟨#[]⟩ S) := by
  have e : by' (bent a c ⟨#[]⟩ S) = bump (by' S) a c := by
    unfold bent
    rw [by_app, by_sA, show by' (cutS ⟨#[]⟩ 4) = [] from rfl, List.append_nil]
  refine ⟨?_, ?_⟩
  · rw [← by_len, ← by_len, e, bump_len]
  · rw [e]
    exact bump_parts (by rw [by_len]; exact h) hc

end Go.Proofs.Ytkkbjkjmhjgaiaa
