/- Contracts of the law: short, (Change).of. Condition: strings of lengths that Go permits. -/
import Derived.BigRegion
import Derived.Test.YtkkbjkjmhjgaiaaZ
namespace Go.Proofs.Ytkkbjkjmhjgaiaa
open Go.RowKit

/-- The first n bytes. -/
def cutS (s : ByteArray) (n : Nat) : ByteArray := s.extract 0 (min s.size n)

theorem cutS_size (s : ByteArray) (n : Nat) : (cutS s n).size = min s.size n := by
  simp [cutS]

set_option maxRecDepth 10000 in
set_option maxHeartbeats 400000 in
theorem short_any (s : ByteArray) (hs : s.size ≤ 9223372036854775807) (w : World) : Calls Try.prog 11 #[.string s] w fun e w' => e = .returned (.string (cutS s 60)) ∧ w' = w := by
  have e0 : cutS s 60 = s.extract 0 (min (s.size : Int) 60).toNat := by
    unfold cutS
    rw [show (min (s.size : Int) 60).toNat = min s.size 60 by omega]
  rw [e0]
  clear e0
  go_enter Try.func11, Try.ntmps11
  go_wp2
  go_ret
  exact ⟨rfl, rfl⟩

/-- The bytes with one of them changed. -/
def bump (l : List UInt8) (a c : UInt8) : List UInt8 := if l.length = 0 then l else l.set (a.toNat % l.length) (l.getD (a.toNat % l.length) 0 + c)
def bent (a c : UInt8) (tail s : ByteArray) : ByteArray := sA (bump (by' s) a c) ++ cutS tail 4

theorem bump_len (l : List UInt8) (a c : UInt8) : (bump l a c).length = l.length := by
  unfold bump; split <;> simp

theorem cell_other {W : World} {p a : Addr} {v : Value} (h : ¬ a = p) : (W.setCell p v).cell? a = W.cell? a := World.cell?_setCell_other _ _ _ _ (fun e => h e.symm)

set_option maxRecDepth 10000 in
set_option maxHeartbeats 2000000 in
theorem changeOf_any (a c : UInt8) (tail s : ByteArray) (hs : s.size ≤ 4294967296) (ht : tail.size ≤ 9223372036854775807) (w : World) : Calls Try.prog 12 #[.agg #[.int .u8 a.toNat, .int .u8 c.toNat, .string tail], .string s] w fun e w' => e = .returned (.string (bent a c tail s)) ∧ Below w.heap.size w w' := by
  have ha := a.toNat_lt
  have hc := c.toNat_lt
  obtain ⟨W0, hW0⟩ : ∃ W0, W0 = w.alloc (.cells #[.int .u8 a.toNat, .int .u8 c.toNat, .string tail] 23) := ⟨_, rfl⟩
  have hconv := Lib.run_convert_string_bytes (P := Try.prog) W0 9 49 5 s Try.underlying9 Try.underlying49 Try.underlying5
  have hs0 : W0.heap.size = w.heap.size + 1 := by rw [hW0]; simp
  have r0 : W0.heap[w.heap.size]? = some (.cells #[.int .u8 a.toNat, .int .u8 c.toNat, .string tail] 23 (0, 0)) := by rw [hW0]; exact heap_alloc_new _ _
  have hB0 : Below w.heap.size w W0 := by rw [hW0]; exact Below.alloc (Below.refl _ _) (Nat.le_refl _) _
  have hbw := bytes_below W0 5 s
  have hcl := fun j hj => Lib.bytesWorld_cell W0 5 s j hj
  have hnew := Lib.bytesWorld_at_new W0 5 s
  have hcap2 : s.size ≤ grownCap W0 s.size 0 5 := grownCap_ge _ _ _ _
  have hfz : ∀ k, k < s.size → (Lib.bytesWorld W0 5 s).frozen? ⟨W0.heap.size, k, none⟩ = false := fun k hk => by
    have hsz : k < (Lib.bytesCells W0 5 s).size := by
      have := hcl k hk
      rw [cell_of_row _ _ _ _ _ _ hnew] at this
      exact (Array.getElem?_eq_some_iff.1 this).1
    simp [World.frozen?, hnew]
    omega
  obtain ⟨cap2, hcp⟩ : ∃ c, c = grownCap W0 s.size 0 5 := ⟨_, rfl⟩
  obtain ⟨W2, hW2⟩ : ∃ W2, W2 = Lib.bytesWorld W0 5 s := ⟨_, rfl⟩
  have r2 := (hbw.block w.heap.size (by omega)).trans r0
  rw [← hcp] at hconv hcap2
  rw [← hW2] at hconv hbw hcl hfz r2
  rw [hs0] at hconv hcl hfz
  have g0 : W2.cell? ⟨w.heap.size, 0, none⟩ = some (.int .u8 a.toNat) := by rw [cell_of_row _ _ _ _ _ _ r2]; rfl
  have g1 : W2.cell? ⟨w.heap.size, 1, none⟩ = some (.int .u8 c.toNat) := by rw [cell_of_row _ _ _ _ _ _ r2]; rfl
  have g2 : W2.cell? ⟨w.heap.size, 2, none⟩ = some (.string tail) := by rw [cell_of_row _ _ _ _ _ _ r2]; rfl
  obtain ⟨m, hm⟩ : ∃ m, m = s.size := ⟨_, rfl⟩
  rw [← hm] at hconv hcap2 hs hcl hfz
  have HCL := Lib.hid hcl
  have HFZ := Lib.hid hfz
  have HM := Lib.hid hm
  have HCV := Lib.hid hconv
  have HW0 := Lib.hid hW0
  have HBW : Hid (Below w.heap.size w W2) := Lib.hid (hB0.trans (hbw.mono hB0.size))
  clear hcl hfz hm hconv hnew hbw hB0 hs0 r0 r2 hcp hW2
  by_cases hm0 : m = 0
  · subst hm0
    have hs0 : by' s = [] := List.eq_nil_of_length_eq_zero (by rw [by_len]; exact HM.out.symm)
    have hB : sA (bump (by' s) a c) = ⟨#[]⟩ := by rw [hs0]; rfl
    have e0 : bent a c tail s = ⟨#[]⟩ ++ tail.extract 0 (min tail.size 4) := by unfold bent; rw [hB]; rfl
    rw [e0]
    have hby : Lib.Bytes W2.drew (w.heap.size + 1) 0 ⟨#[]⟩ := fun j hj => absurd hj (Nat.not_lt_zero j)
    have hcv := Lib.run_convert_whole (P := Try.prog) W2.drew 49 5 9 Try.underlying49 Try.underlying5 Try.underlying9 (w.heap.size + 1) 0 ⟨#[]⟩ hby cap2
    rw [show (⟨#[]⟩ : ByteArray).size = 0 from rfl] at hcv
    have HW := Lib.hid hW0
    obtain ⟨A, hA⟩ : ∃ A : Int, A = a.toNat := ⟨_, rfl⟩
    obtain ⟨C, hC⟩ : ∃ C : Int, C = c.toNat := ⟨_, rfl⟩
    rw [← hA, ← hC] at HW ⊢
    clear hby e0 hB hs0 hA hC hW0 HW0 g0 g1 ha hc
    go_enter Try.func12, Try.ntmps12
    go_wp2
    rw [← HW.out, HCV.out]
    simp only [Result.andThen]
    rw [Oper.upon_value]
    go_wp2_with fail
    go_region
    go_wp2
    go_ret
    refine ⟨?_, HBW.out.trans (by go_grown)⟩
    show Ending.returned (Value.string (⟨#[]⟩ ++ tail.extract 0 (min (tail.size : Int) 4).toNat)) = _
    rw [show (min (tail.size : Int) 4).toNat = min tail.size 4 by omega]
  · obtain ⟨k, hk⟩ : ∃ k, k = a.toNat % m := ⟨_, rfl⟩
    have hkm : k < m := by rw [hk]; exact Nat.mod_lt _ (by omega)
    obtain ⟨A, hA⟩ : ∃ A, A = a.toNat := ⟨_, rfl⟩
    obtain ⟨C, hC⟩ : ∃ C, C = c.toNat := ⟨_, rfl⟩
    have hck := HCL.out k hkm
    have hfk := HFZ.out k hkm
    obtain ⟨x, hx⟩ : ∃ x, x = ((by' s).getD k 0).toNat := ⟨_, rfl⟩
    have hxl : x < 256 := by rw [hx]; exact UInt8.toNat_lt _
    rw [← hx] at hck
    rw [← hA] at g0 hk ha
    rw [← hC] at g1 hc
    have hmod : (A : Int) % (m : Int) = (k : Int) := by rw [hk]; rfl
    rw [← hA, ← hC] at hW0 ⊢
    have HW := Lib.hid hW0
    have HX := Lib.hid hx
    have HK := Lib.hid hk
    have HA := Lib.hid hA
    have HC := Lib.hid hC
    clear hx hk hA hC hW0 HW0
    obtain ⟨B, hB⟩ : ∃ B, B = sA (bump (by' s) a c) := ⟨_, rfl⟩
    have hBs : B.size = m := by rw [hB, sA_size, bump_len, by_len]; exact HM.out.symm
    have HB := Lib.hid hB
    clear hB
    go_enter Try.func12, Try.ntmps12
    go_wp2
    rw [← HW.out, HCV.out]
    simp only [Result.andThen]
    rw [Oper.upon_value]
    go_wp2_with fail
    go_region
    obtain ⟨W3, hW3⟩ : ∃ W3, W3 = (W2.setCell ⟨w.heap.size + 1, k, none⟩ (.int .u8 (((x : Int) + (C : Int)) % 256))).drew := ⟨_, rfl⟩
    rw [← hW3]
    have hby : Lib.Bytes W3.drew (w.heap.size + 1) 0 B := fun j hj => by
      rw [hBs] at hj
      show W3.cell? _ = _
      rw [Nat.zero_add, hW3]
      show (W2.setCell _ _).cell? _ = _
      have hlb : (by' s).length = m := by rw [by_len]; exact HM.out.symm
      have hb2 : B[j]'(by rw [hBs]; exact hj) = (bump (by' s) a c).getD j 0 := by
        simp [HB.out, sA, ByteArray.getElem_eq_getElem_data, List.getD, bump_len, hlb, hj]
      rw [hb2]
      unfold bump
      rw [if_neg (by rw [hlb]; exact hm0), hlb, ← HA.out, ← HK.out]
      by_cases hjk : j = k
      · subst hjk
        rw [World.cell?_setCell_same _ _ _ hck]
        have e1 : ((by' s).set j ((by' s).getD j 0 + c)).getD j 0 = (by' s).getD j 0 + c := by simp [List.getD, hlb, hj]
        rw [e1, UInt8.toNat_add, HX.out, HC.out]
        simp
      · rw [cell_other (by simp [hjk])]
        have e1 : ((by' s).set k ((by' s).getD k 0 + c)).getD j 0 = (by' s).getD j 0 := by simp [List.getD, Ne.symm hjk]
        rw [e1]
        exact HCL.out j hj
    have hcv := Lib.run_convert_whole (P := Try.prog) W3.drew 49 5 9 Try.underlying49 Try.underlying5 Try.underlying9 (w.heap.size + 1) 0 B hby cap2
    rw [hBs] at hcv
    have t2 : W3.cell? ⟨w.heap.size, 2, none⟩ = some (.string tail) := by
      rw [hW3]
      show (W2.setCell _ _).cell? _ = _
      rw [cell_other (W := W2) (p := ⟨w.heap.size + 1, k, none⟩) (a := ⟨w.heap.size, 2, none⟩) (by simp)]
      exact g2
    have hb3 : Below w.heap.size w W3 := by rw [hW3]; exact (HBW.out.setCell (p := ⟨w.heap.size + 1, k, none⟩) (Nat.le_succ _) _).trans ⟨rfl, rfl, rfl, Nat.le_refl _, fun _ _ => rfl⟩
    have HCV3 := Lib.hid hcv
    have HB3 := Lib.hid hb3
    clear hby hW3 hb3
    go_wp2_with fail
    go_region
    go_wp2
    go_ret
    refine ⟨?_, HB3.out.trans (by go_grown)⟩
    show Ending.returned (Value.string (B ++ tail.extract 0 (min (tail.size : Int) 4).toNat)) = _
    rw [show (min (tail.size : Int) 4).toNat = min tail.size 4 by omega, HB.out]
    rfl

end Go.Proofs.Ytkkbjkjmhjgaiaa
