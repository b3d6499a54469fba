/- Contract: the digest of parts. No condition but that the slice reads as strings. -/
import Derived.Test.YtafdjohgoopcmaaProg
import Derived.Test.YtafdjohgoopcmaaDM
import Derived.Lib.ConvBytes
import Derived.Lib.SmallJoins
import Derived.WalkKit
import Derived.WalkSpells
import Derived.Handy
import Derived.Lib.Hide
namespace Go.Proofs.Ytafdjohgoopcmaa
open Go.RowKit

/-- A string's bytes. -/
abbrev by' (s : ByteArray) : List UInt8 := s.data.toList

/-- The bytes of parts, one after the other. -/
def cat (l : List ByteArray) : List UInt8 := (l.map by').flatten

/-- A slice that reads as strings. -/
structure Sx (w : World) (v : Value) (l : List ByteArray) : Prop where
  len : l.length ≤ maxLen
  is : (l = [] ∧ ∃ ao cap, v = .slice ao 0 cap) ∨ ∃ b off cap, v = .slice (some ⟨b, off, none⟩) l.length cap ∧ l.length ≤ cap ∧ b < w.heap.size ∧ ∀ j, j < l.length → w.cell? ⟨b, off + j, none⟩ = some (.string (l.getD j ⟨#[]⟩))

theorem Sx.below {w w' : World} {v : Value} {l : List ByteArray} (h : Sx w v l) (hb : Below w.heap.size w w') : Sx w' v l := by
  obtain ⟨h2, h3⟩ := h
  refine ⟨h2, ?_⟩
  rcases h3 with h3 | ⟨b, off, cap, hv, hc, hlt, hl⟩
  · exact .inl h3
  · exact .inr ⟨b, off, cap, hv, hc, Nat.lt_of_lt_of_le hlt hb.size, fun j hj => cell_later hb (hl j hj)⟩

theorem Sx.nil (w : World) (ao : Option Addr) (cap : Nat) : Sx w (.slice ao 0 cap) [] := ⟨by simp, .inl ⟨rfl, _, _, rfl⟩⟩

theorem Sx.mk' {w : World} {v : Value} {l : List ByteArray} (h : Sx w v l) : ∃ ao cap, v = .slice ao l.length cap := by
  rcases h.is with ⟨rfl, ao, cap, rfl⟩ | ⟨b, off, cap, rfl, _⟩
  · exact ⟨_, _, rfl⟩
  · exact ⟨_, _, rfl⟩

/-- A digest as Go's array. -/
def dval (l : List UInt8) : Value := .agg (l.map fun b => Value.int .u8 b.toNat).toArray

theorem runX_snoc (x : Nat) (l : List UInt8) (b : UInt8) : runX x (l ++ [b]) = (48271 * runX x l + b.toNat + 1) % 2147483629 := by
  rw [runX_append]; rfl
theorem runY_snoc (x : Nat) (l : List UInt8) (b : UInt8) : runY x (l ++ [b]) = (69621 * runY x l + b.toNat + 1) % 2147483587 := by
  rw [runY_append]; rfl

theorem take_snoc' {l : List UInt8} {k : Nat} (h : k < l.length) : l.take (k + 1) = l.take k ++ [l.getD k 0] := by
  rw [List.take_add_one]
  simp [List.getD, List.getElem?_eq_getElem h]

theorem cat_take {l : List ByteArray} {k : Nat} (h : k < l.length) : cat (l.take (k + 1)) = cat (l.take k) ++ by' (l.getD k ⟨#[]⟩) := by
  rw [List.take_add_one, List.getElem?_eq_getElem h]
  unfold cat
  rw [List.map_append, List.flatten_append]
  simp [List.getD, List.getElem?_eq_getElem h]

/-- The two numbers behind the first j bytes of part k. -/
def xat (l : List ByteArray) (k j : Nat) : Nat := runX 17 (cat (l.take k) ++ (by' (l.getD k ⟨#[]⟩)).take j)
def yat (l : List ByteArray) (k j : Nat) : Nat := runY 29 (cat (l.take k) ++ (by' (l.getD k ⟨#[]⟩)).take j)

theorem xat_lt (l : List ByteArray) (k j : Nat) : xat l k j < 2147483629 := runX_lt (by omega) _
theorem yat_lt (l : List ByteArray) (k j : Nat) : yat l k j < 2147483587 := runY_lt (by omega) _

theorem xat_step (l : List ByteArray) (k j : Nat) (h : j < (l.getD k ⟨#[]⟩).size) : xat l k (j + 1) = (48271 * xat l k j + ((by' (l.getD k ⟨#[]⟩)).getD j 0).toNat + 1) % 2147483629 := by
  unfold xat
  have : (by' (l.getD k ⟨#[]⟩)).length = (l.getD k ⟨#[]⟩).size := Array.length_toList
  rw [take_snoc' (by omega), ← List.append_assoc, runX_snoc]
theorem yat_step (l : List ByteArray) (k j : Nat) (h : j < (l.getD k ⟨#[]⟩).size) : yat l k (j + 1) = (69621 * yat l k j + ((by' (l.getD k ⟨#[]⟩)).getD j 0).toNat + 1) % 2147483587 := by
  unfold yat
  have : (by' (l.getD k ⟨#[]⟩)).length = (l.getD k ⟨#[]⟩).size := Array.length_toList
  rw [take_snoc' (by omega), ← List.append_assoc, runY_snoc]

theorem xat_next (l : List ByteArray) (k : Nat) (h : k < l.length) : xat l k (l.getD k ⟨#[]⟩).size = xat l (k + 1) 0 := by
  unfold xat
  have : (by' (l.getD k ⟨#[]⟩)).length = (l.getD k ⟨#[]⟩).size := Array.length_toList
  rw [List.take_of_length_le (l := by' (l.getD k ⟨#[]⟩)) (by omega), cat_take h, List.take_zero, List.append_nil]
theorem yat_next (l : List ByteArray) (k : Nat) (h : k < l.length) : yat l k (l.getD k ⟨#[]⟩).size = yat l (k + 1) 0 := by
  unfold yat
  have : (by' (l.getD k ⟨#[]⟩)).length = (l.getD k ⟨#[]⟩).size := Array.length_toList
  rw [List.take_of_length_le (l := by' (l.getD k ⟨#[]⟩)) (by omega), cat_take h, List.take_zero, List.append_nil]

theorem xat_end (l : List ByteArray) : xat l l.length 0 = runX 17 (cat l) := by simp [xat]
theorem yat_end (l : List ByteArray) : yat l l.length 0 = runY 29 (cat l) := by simp [yat]

end Go.Proofs.Ytafdjohgoopcmaa
