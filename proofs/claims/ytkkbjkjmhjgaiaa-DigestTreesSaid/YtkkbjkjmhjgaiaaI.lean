/- Contracts: is, Check of digest. Condition: the strings are shorter than 2^32. -/
import Derived.Laws.StructEq
import Derived.Laws.Tables
import Derived.Laws.Cover2
import Derived.KernelRfl
import Derived.Test.YtkkbjkjmhjgaiaaH
namespace Go.Proofs.Ytkkbjkjmhjgaiaa
open Go.RowKit

set_option maxRecDepth 10000 in
theorem eq52 (a0 a1 a2 a3 a4 a5 a6 a7 b0 b1 b2 b3 b4 b5 b6 b7 : Int) (w : World) :
    (Op.equalIn 10000 52 (.agg #[.int .u8 a0, .int .u8 a1, .int .u8 a2, .int .u8 a3, .int .u8 a4, .int .u8 a5, .int .u8 a6, .int .u8 a7]) (.agg #[.int .u8 b0, .int .u8 b1, .int .u8 b2, .int .u8 b3, .int .u8 b4, .int .u8 b5, .int .u8 b6, .int .u8 b7])).run Try.prog w =
      .ok (a0 == b0 && (a1 == b1 && (a2 == b2 && (a3 == b3 && (a4 == b4 && (a5 == b5 && (a6 == b6 && a7 == b7))))))) w := by
  have u3 := Try.underlying5
  have ag := Try.isAgg5
  have z3 := Try.sizeOf5
  rw [show (10000 : Nat) = 9999 + 1 from rfl, Op.equalIn]
  simp only [Sem.run_bind, run_underlying Try.underlying52, Result.andThen_ok]
  simp only [Std.Legacy.Range.forIn_eq_forIn_range', Std.Legacy.Range.size, Nat.sub_zero, Nat.add_sub_cancel, Nat.div_one, List.range'_succ, List.range'_zero, List.forIn_cons, List.forIn_nil]
  go_simp
  by_cases h0 : a0 = b0
  case neg => simp [h0]
  subst h0
  by_cases h1 : a1 = b1
  case neg => simp [h1]
  subst h1
  by_cases h2 : a2 = b2
  case neg => simp [h2]
  subst h2
  by_cases h3 : a3 = b3
  case neg => simp [h3]
  subst h3
  by_cases h4 : a4 = b4
  case neg => simp [h4]
  subst h4
  by_cases h5 : a5 = b5
  case neg => simp [h5]
  subst h5
  by_cases h6 : a6 = b6
  case neg => simp [h6]
  subst h6
  by_cases h7 : a7 = b7 <;> simp [h7]

theorem dval_eq {d e : List UInt8} {a0 a1 a2 a3 a4 a5 a6 a7 b0 b1 b2 b3 b4 b5 b6 b7 : Int} (hd : dval d = .agg #[.int .u8 a0, .int .u8 a1, .int .u8 a2, .int .u8 a3, .int .u8 a4, .int .u8 a5, .int .u8 a6, .int .u8 a7]) (he : dval e = .agg #[.int .u8 b0, .int .u8 b1, .int .u8 b2, .int .u8 b3, .int .u8 b4, .int .u8 b5, .int .u8 b6, .int .u8 b7]) :
    (a0 == b0 && (a1 == b1 && (a2 == b2 && (a3 == b3 && (a4 == b4 && (a5 == b5 && (a6 == b6 && a7 == b7))))))) = decide (d = e) := by
  have inj : ∀ x y : List UInt8, dval x = dval y → x = y := by
    intro x y h
    unfold dval at h
    injection h with h
    have h2 := congrArg Array.toList h
    simp only [List.toList_toArray] at h2
    exact (List.map_inj_right (fun a b hab => by
      injection hab with _ h3
      exact UInt8.toNat_inj.1 (by exact_mod_cast h3))).1 h2
  rw [Bool.eq_iff_iff]
  simp only [Bool.and_eq_true, beq_iff_eq, decide_eq_true_eq]
  constructor
  · rintro ⟨rfl, rfl, rfl, rfl, rfl, rfl, rfl, rfl⟩
    exact inj _ _ (hd.trans he.symm)
  · rintro rfl
    have h := hd.symm.trans he
    simpa using h

set_option maxRecDepth 10000 in
set_option maxHeartbeats 1000000 in
theorem is_no (d : List UInt8) (hd : d.length = 8) (s : ByteArray) (h : s.size ≠ 8) (hs : s.size ≤ 140737488355328) (w : World) : Calls Try.prog 37 #[dval d, .string s] w fun e w' => e = .returned (.bool false) ∧ Below w.heap.size w w' := by
  have e0 : dval zero8 = .agg #[.int .u8 0, .int .u8 0, .int .u8 0, .int .u8 0, .int .u8 0, .int .u8 0, .int .u8 0, .int .u8 0] := rfl
  have HR := Lib.hid (fun W => read_no s h hs W)
  rw [e0] at HR
  obtain ⟨a0, a1, a2, a3, a4, a5, a6, a7, ed⟩ := dval_eight hd
  rw [ed]
  clear e0 ed
  go_enter Try.func37, Try.ntmps37
  go_wp2_with (go_at_call 42; refine (HR.out _).mono ?_; rintro e w1 ⟨rfl, hb1⟩)
  go_ret
  have h1 := hb1.size
  simp at h1
  exact ⟨rfl, ((Below.alloc (Below.refl _ _) (Nat.le_refl _) _).trans (hb1.mono (by simp))).trans (Below.alloc (Below.refl _ _) (by omega) _)⟩

set_option maxRecDepth 10000 in
set_option maxHeartbeats 1000000 in
theorem is_yes (d : List UInt8) (hd : d.length = 8) (s : ByteArray) (h : s.size = 8) (w : World) : Calls Try.prog 37 #[dval d, .string s] w fun e w' => e = .returned (.bool (decide (by' s = d))) ∧ Below w.heap.size w w' := by
  have HR := Lib.hid (fun W => read_yes s h W)
  obtain ⟨a0, a1, a2, a3, a4, a5, a6, a7, ed⟩ := dval_eight hd
  obtain ⟨b0, b1, b2, b3, b4, b5, b6, b7, es⟩ := dval_eight (d := by' s) (by rw [← h]; exact Array.length_toList)
  have hq := dval_eq es ed
  have heq := eq52 b0 b1 b2 b3 b4 b5 b6 b7 a0 a1 a2 a3 a4 a5 a6 a7
  rw [hq] at heq
  rw [es] at HR
  rw [ed]
  obtain ⟨r, hr⟩ : ∃ r, r = decide (by' s = d) := ⟨_, rfl⟩
  rw [← hr] at heq ⊢
  clear ed es hr hq
  obtain ⟨W0, hW0⟩ : ∃ W0, W0 = w.alloc (.cells #[.int .u8 a0, .int .u8 a1, .int .u8 a2, .int .u8 a3, .int .u8 a4, .int .u8 a5, .int .u8 a6, .int .u8 a7] 52) := ⟨_, rfl⟩
  have r0 : row8 W0 w.heap.size a0 a1 a2 a3 a4 a5 a6 a7 := by rw [hW0]; exact heap_alloc_new _ _
  have HR0 := Lib.hid r0
  have hs0 : W0.heap.size = w.heap.size + 1 := by rw [hW0]; simp
  have hB0 : Below w.heap.size w W0 := by rw [hW0]; exact Below.alloc (Below.refl _ _) (Nat.le_refl _) _
  have HS0 := Lib.hid hs0
  have HB0 := Lib.hid hB0
  have HW0 := Lib.hid hW0
  clear r0 hs0 hB0 hW0
  go_enter Try.func37, Try.ntmps37
  go_wp2_with (go_at_call 42; refine (HR.out _).mono ?_; rintro e w1 ⟨rfl, hb1⟩; rw [← HW0.out] at hb1; have r1 := row8_below HR0.out hb1 (by rw [HS0.out]; omega); obtain ⟨c0, c1, c2, c3, c4, c5, c6, c7⟩ := row8_cells r1; have hlt : w.heap.size < w1.heap.size := (Array.getElem?_eq_some_iff.1 r1).1; have HB1 := Lib.hid hb1; clear r1 hb1)
  go_ret
  exact ⟨rfl, (HB0.out.trans (HB1.out.mono (by rw [HS0.out]; omega))).trans (Below.alloc (Below.refl _ _) (by omega) _)⟩

/-- (sum).is -/
theorem is_any (d : List UInt8) (hd : d.length = 8) (s : ByteArray) (hs : s.size ≤ 140737488355328) (w : World) : Calls Try.prog 37 #[dval d, .string s] w fun e w' => e = .returned (.bool (decide (by' s = d))) ∧ Below w.heap.size w w' := by
  by_cases h : s.size = 8
  · exact is_yes d hd s h w
  · have : decide (by' s = d) = false := by
      rw [decide_eq_false_iff_not]
      rintro rfl
      exact h (by rw [← hd]; exact Array.length_toList.symm)
    rw [this]
    exact is_no d hd s h hs w

end Go.Proofs.Ytkkbjkjmhjgaiaa
