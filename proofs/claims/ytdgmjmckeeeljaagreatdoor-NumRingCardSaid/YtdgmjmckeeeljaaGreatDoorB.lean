/- Contracts of num: words, sums. No condition but that the slices read as digits. -/
import Derived.Test.YtdgmjmckeeeljaaGreatDoorA2
import Derived.Test.YtdgmjmckeeeljaaGreatDoorM2
namespace Go.Proofs.YtdgmjmckeeeljaaGreatDoor
open Go.RowKit

set_option maxHeartbeats 400000 in
theorem word_any {w : World} {v : Value} {ds : List Nat} (h : Sl w v ds) (hl : ds.length ≤ 2) :
    Calls Tryz.prog 66 #[v] w fun e w' => e = .returned (.int .u64 (val ds : Nat)) ∧ w' = w := by
  have d0 := digit_any h 0
  have d1 := digit_any h 1
  have b0 := dg_lt h.bd 0
  have b1 := dg_lt h.bd 1
  obtain ⟨x0, hx0⟩ : ∃ x0, x0 = dg ds 0 := ⟨_, rfl⟩
  obtain ⟨x1, hx1⟩ : ∃ x1, x1 = dg ds 1 := ⟨_, rfl⟩
  rw [← hx0] at d0 b0
  rw [← hx1] at d1 b1
  have ev : val ds = x0 + 4294967296 * x1 := by
    rw [hx0, hx1]
    match ds, hl with
    | [], _ => rfl
    | [a], _ => simp [dg, val]
    | [a, b], _ => simp [dg, val]
  have hj := or_join x1 x0 b1 b0
  have HEV := Lib.hid ev
  have HJ := Lib.hid hj
  clear hx0 hx1 ev hj
  go_enter Tryz.func66, Tryz.ntmps66
  go_wp2_with (first | (go_at_call 78; (with_reducible refine d1.mono ?_); rintro e w' ⟨rfl, rfl⟩) | (go_at_call 78; (with_reducible refine d0.mono ?_); rintro e w' ⟨rfl, rfl⟩))
  go_ret
  refine ⟨?_, rfl⟩
  show Ending.returned (.int .u64 _) = _
  rw [HJ.out, HEV.out]

set_option maxHeartbeats 400000 in
theorem sub32_any (x y b : Nat) (w : World) (hx : x < 4294967296) (hy : y < 4294967296) (hb : b ≤ 1) :
    Calls Tryz.prog 79 #[.int .u32 x, .int .u32 y, .int .u32 b] w fun e w' => e = .returned (.tuple #[.int .u32 (sbd x y b : Nat), .int .u32 (sbb x y b : Nat)]) ∧ w' = w := by
  go_enter Tryz.func79, Tryz.ntmps79
  go_wp2
  go_ret2
  refine ⟨?_, rfl⟩
  show Ending.returned (.tuple #[.int .u32 _, .int .u32 _]) = _
  rw [borrow_int x y b hx hy hb _ (sbd_int x y b hx hy hb), sbd_int x y b hx hy hb]

theorem sl_two (w : World) (a b : Nat) (ha : a < 4294967296) (hb : b < 4294967296) : Sw w.heap.size (w.alloc (.cells #[.int .u32 a, .int .u32 b] 59)) (.slice (some ⟨w.heap.size, 0, none⟩) 2 2) [a, b] :=
  (row_new w [a, b]).sw (Nat.le_refl _) (Bd.mk ha (Bd.mk hb bd_nil)) (by simp [maxLen])
theorem sl_one (w : World) (a : Nat) (ha : a < 4294967296) : Sw w.heap.size (w.alloc (.cells #[.int .u32 a] 59)) (.slice (some ⟨w.heap.size, 0, none⟩) 1 1) [a] :=
  (row_new w [a]).sw (Nat.le_refl _) (Bd.mk ha bd_nil) (by simp [maxLen])

/-- A digit slice in new memory, without zeros at the end. -/
def NewDigs (w : World) (n : Nat) (e : Ending) (w' : World) : Prop := ∃ v, e = .returned v ∧ Sw w.heap.size w' v (digs n) ∧ Below w.heap.size w w'

set_option maxHeartbeats 400000 in
theorem digitsOf_any (x : Nat) (w : World) (hx : x / 4294967296 < 4294967296) :
    Calls Tryz.prog 67 #[.int .u64 x] w (NewDigs w x) := by
  have hs := sl_two w (x % 4294967296) (x / 4294967296) (by omega) hx
  have ht := trim_any _ _ _ hs.sl
  have hu := hs.trim
  have ev : val [x % 4294967296, x / 4294967296] = x := by simp [val]; omega
  rw [ev] at ht hu
  have HU := Lib.hid hu
  clear hs ev hu
  go_enter Tryz.func67, Tryz.ntmps67
  go_wp2_with (go_at_call 76; refine ht.mono ?_; rintro e w' ⟨rfl, rfl⟩)
  go_ret
  exact ⟨_, rfl, HU.out, (Below.refl _ _).alloc (Nat.le_refl _) _⟩

end Go.Proofs.YtdgmjmckeeeljaaGreatDoor
