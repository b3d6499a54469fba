/- Contracts: most4, least4, length, text: bytes as strings. No condition but that a length fits. -/
import Derived.Lib.SlBytesRow
import Derived.Test.YtafdjohgoopcmaaDB
namespace Go.Proofs.Ytafdjohgoopcmaa
open Go.RowKit

/-- Bytes as a string. -/
def sA (l : List UInt8) : ByteArray := ⟨l.toArray⟩
theorem by_sA (l : List UInt8) : by' (sA l) = l := by simp [sA, by']
theorem sA_by (s : ByteArray) : sA (by' s) = s := by cases s; simp [sA, by']
theorem sA_size (l : List UInt8) : (sA l).size = l.length := by simp [sA, ByteArray.size]

/-- Bytes as cells. -/
def chars (l : List UInt8) : List Value := l.map fun b => Value.int .u8 b.toNat

/-- string(..) of a row of bytes. -/
theorem conv_lit (W : World) (b : Nat) (l : List UInt8) (cs : Array Value) (hcs : cs.toList = chars l) (t : TypeId) (fr : Nat × Nat) (hb : W.heap[b]? = some (.cells cs t fr)) (n cap : Nat) (hn : n = l.length) :
    (convert 42 9 (.slice (some ⟨b, 0, none⟩) n cap)).run Try.prog W = .ok (.string (sA l)) W := by
  subst hn
  have h : Lib.Bytes W b 0 (sA l) := fun i hi => by
    rw [sA_size] at hi
    rw [cell_of_row _ _ _ _ _ _ hb, Nat.zero_add, ← Array.getElem?_toList, hcs]
    simp [chars, hi, sA, ByteArray.getElem_eq_getElem_data]
  have := Lib.run_convert_whole (P := Try.prog) W 42 5 9 Try.underlying42 Try.underlying5 Try.underlying9 b 0 (sA l) h cap
  rwa [sA_size] at this

theorem u8_of (n : Nat) : ((UInt8.ofNat n).toNat : Int) = (n : Int) % 256 := by simp

set_option maxRecDepth 10000 in
set_option maxHeartbeats 400000 in
theorem most4_any (n : Nat) (_ : n < 9223372036854775808) (w : World) : Calls Try.prog 42 #[.int .i64 n] w fun e w' => e = .returned (.string (sA (be4 n))) ∧ Below w.heap.size w w' := by
  have hc := conv_lit (w.alloc (.cells #[.int .u8 ((n : Int) / 16777216 % 256), .int .u8 ((n : Int) / 65536 % 256), .int .u8 ((n : Int) / 256 % 256), .int .u8 ((n : Int) % 256)] 5)) w.heap.size (be4 n) #[.int .u8 ((n : Int) / 16777216 % 256), .int .u8 ((n : Int) / 65536 % 256), .int .u8 ((n : Int) / 256 % 256), .int .u8 ((n : Int) % 256)] (by simp [chars, be4]) 5 (0, 0) (heap_alloc_new _ _) 4 4 rfl
  obtain ⟨r, hr⟩ : ∃ r, r = sA (be4 n) := ⟨_, rfl⟩
  rw [← hr] at hc ⊢
  have HC := Lib.hid hc
  clear hc hr
  go_enter Try.func42, Try.ntmps42
  go_wp2
  rw [HC.out]
  simp only [Result.andThen]
  rw [Oper.upon_value]
  go_wp2
  go_ret
  exact ⟨rfl, by go_grown⟩

set_option maxRecDepth 10000 in
set_option maxHeartbeats 400000 in
theorem least4_any (n : Nat) (_ : n < 9223372036854775808) (w : World) : Calls Try.prog 43 #[.int .i64 n] w fun e w' => e = .returned (.string (sA (le4 n))) ∧ Below w.heap.size w w' := by
  have hc := conv_lit (w.alloc (.cells #[.int .u8 ((n : Int) % 256), .int .u8 ((n : Int) / 256 % 256), .int .u8 ((n : Int) / 65536 % 256), .int .u8 ((n : Int) / 16777216 % 256)] 5)) w.heap.size (le4 n) #[.int .u8 ((n : Int) % 256), .int .u8 ((n : Int) / 256 % 256), .int .u8 ((n : Int) / 65536 % 256), .int .u8 ((n : Int) / 16777216 % 256)] (by simp [chars, le4]) 5 (0, 0) (heap_alloc_new _ _) 4 4 rfl
  obtain ⟨r, hr⟩ : ∃ r, r = sA (le4 n) := ⟨_, rfl⟩
  rw [← hr] at hc ⊢
  have HC := Lib.hid hc
  clear hc hr
  go_enter Try.func43, Try.ntmps43
  go_wp2
  rw [HC.out]
  simp only [Result.andThen]
  rw [Oper.upon_value]
  go_wp2
  go_ret
  exact ⟨rfl, by go_grown⟩

set_option maxRecDepth 10000 in
set_option maxHeartbeats 400000 in
theorem length_at (s : ByteArray) (n : Nat) (hn : s.size = n) (h : n < 4294967296) (w : World) : Calls Try.prog 41 #[.string s] w fun e w' => e = .returned (.string (sA (le4 n))) ∧ Below w.heap.size w w' := by
  have hc := conv_lit (w.alloc (.cells #[.int .u8 ((n : Int) % 256), .int .u8 ((n : Int) / 256 % 256), .int .u8 ((n : Int) / 65536 % 256), .int .u8 ((n : Int) / 16777216)] 5)) w.heap.size (le4 n) #[.int .u8 ((n : Int) % 256), .int .u8 ((n : Int) / 256 % 256), .int .u8 ((n : Int) / 65536 % 256), .int .u8 ((n : Int) / 16777216)] (by simp [chars, le4]; omega) 5 (0, 0) (heap_alloc_new _ _) 4 4 rfl
  obtain ⟨r, hr⟩ : ∃ r, r = sA (le4 n) := ⟨_, rfl⟩
  rw [← hr] at hc ⊢
  have HC := Lib.hid hc
  clear hc hr
  go_enter Try.func41, Try.ntmps41
  go_wp2
  rw [HC.out]
  simp only [Result.andThen]
  rw [Oper.upon_value]
  go_wp2
  go_ret
  exact ⟨rfl, by go_grown⟩

theorem length_any (s : ByteArray) (h : s.size < 4294967296) (w : World) : Calls Try.prog 41 #[.string s] w fun e w' => e = .returned (.string (sA (le4 s.size))) ∧ Below w.heap.size w w' := length_at s _ rfl h w

set_option maxRecDepth 10000 in
set_option maxHeartbeats 400000 in
/-- (sum).text -/
theorem text_any (d : List UInt8) (hd : d.length = 8) (w : World) : Calls Try.prog 40 #[dval d] w fun e w' => e = .returned (.string (sA d)) ∧ Below w.heap.size w w' := by
  obtain ⟨b0, b1, b2, b3, b4, b5, b6, b7, rfl⟩ : ∃ b0 b1 b2 b3 b4 b5 b6 b7, d = [b0, b1, b2, b3, b4, b5, b6, b7] := by
    match d, hd with
    | [b0, b1, b2, b3, b4, b5, b6, b7], _ => exact ⟨_, _, _, _, _, _, _, _, rfl⟩
  have hc := conv_lit (w.alloc (.cells #[.int .u8 b0.toNat, .int .u8 b1.toNat, .int .u8 b2.toNat, .int .u8 b3.toNat, .int .u8 b4.toNat, .int .u8 b5.toNat, .int .u8 b6.toNat, .int .u8 b7.toNat] 62)) w.heap.size [b0, b1, b2, b3, b4, b5, b6, b7] _ (by simp [chars]) 62 (0, 0) (heap_alloc_new _ _) 8 8 rfl
  have e0 : dval [b0, b1, b2, b3, b4, b5, b6, b7] = .agg #[.int .u8 b0.toNat, .int .u8 b1.toNat, .int .u8 b2.toNat, .int .u8 b3.toNat, .int .u8 b4.toNat, .int .u8 b5.toNat, .int .u8 b6.toNat, .int .u8 b7.toNat] := rfl
  rw [e0]
  obtain ⟨r, hr⟩ : ∃ r, r = sA [b0, b1, b2, b3, b4, b5, b6, b7] := ⟨_, rfl⟩
  rw [← hr] at hc ⊢
  obtain ⟨a0, h0⟩ : ∃ a : Int, a = b0.toNat := ⟨_, rfl⟩
  obtain ⟨a1, h1⟩ : ∃ a : Int, a = b1.toNat := ⟨_, rfl⟩
  obtain ⟨a2, h2⟩ : ∃ a : Int, a = b2.toNat := ⟨_, rfl⟩
  obtain ⟨a3, h3⟩ : ∃ a : Int, a = b3.toNat := ⟨_, rfl⟩
  obtain ⟨a4, h4⟩ : ∃ a : Int, a = b4.toNat := ⟨_, rfl⟩
  obtain ⟨a5, h5⟩ : ∃ a : Int, a = b5.toNat := ⟨_, rfl⟩
  obtain ⟨a6, h6⟩ : ∃ a : Int, a = b6.toNat := ⟨_, rfl⟩
  obtain ⟨a7, h7⟩ : ∃ a : Int, a = b7.toNat := ⟨_, rfl⟩
  rw [← h0, ← h1, ← h2, ← h3, ← h4, ← h5, ← h6, ← h7] at hc ⊢
  have HC := Lib.hid hc
  clear hc hr e0 h0 h1 h2 h3 h4 h5 h6 h7
  go_enter Try.func40, Try.ntmps40
  go_wp2
  rw [HC.out]
  simp only [Result.andThen]
  rw [Oper.upon_value]
  go_wp2
  go_ret
  exact ⟨rfl, by go_grown⟩

end Go.Proofs.Ytafdjohgoopcmaa
