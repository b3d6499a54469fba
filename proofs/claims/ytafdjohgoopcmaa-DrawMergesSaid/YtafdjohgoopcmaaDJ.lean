/- Contracts: Check of digest; Of of the reference. Condition: the strings are shorter than 2^32. -/
import Derived.Test.YtafdjohgoopcmaaDF
namespace Go.Proofs.Ytafdjohgoopcmaa
open Go.RowKit

theorem by_inj {a b : ByteArray} (h : by' a = by' b) : a = b := by
  cases a; cases b
  simp [by'] at h
  rw [h]

theorem by_len (s : ByteArray) : (by' s).length = s.size := Array.length_toList

theorem str_beq (a b : ByteArray) : (a.toList == b.toList) = decide (by' a = by' b) := by
  rw [ByteArray.toList_eq, ByteArray.toList_eq, Bool.eq_iff_iff]
  simp

theorem run_eql (a b : ByteArray) (w : World) : (Op.stringOp .eql a b).run Try.prog w = .ok (.bool (decide (by' a = by' b))) w := by
  simp only [Op.stringOp, str_beq]
  rfl
theorem run_neq (a b : ByteArray) (w : World) : (Op.stringOp .neq a b).run Try.prog w = .ok (.bool (!decide (by' a = by' b))) w := by
  simp only [Op.stringOp, str_beq]
  rfl
theorem add_str (a b : ByteArray) (h : a.size + b.size ≤ 9223372036854775807) (w : World) : (binOp .add 9 (.string a) (.string b)).run Try.prog w = .ok (.string (a ++ b)) w := by
  have h2 : ¬ (((a.size + b.size : Nat) : Int) > IntKind.i64.max) := by
    have : IntKind.i64.max = 9223372036854775807 := by decide
    rw [this]; omega
  show (Op.stringOp .add a b).run Try.prog w = _
  simp only [Op.stringOp]
  rw [if_neg h2]
  rfl
theorem eql_str (a b : ByteArray) (w : World) : (binOp .eql 9 (.string a) (.string b)).run Try.prog w = .ok (.bool (decide (by' a = by' b))) w := run_eql a b w
theorem neq_str (a b : ByteArray) (w : World) : (binOp .neq 9 (.string a) (.string b)).run Try.prog w = .ok (.bool (!decide (by' a = by' b))) w := run_neq a b w

theorem neq_empty (s : ByteArray) (w : World) : (binOp .neq 9 (.string s) (.string ⟨#[]⟩)).run Try.prog w = .ok (.bool (decide (s.size ≠ 0))) w := by
  rw [neq_str]
  have e : decide (by' s = by' ⟨#[]⟩) = decide (s.size = 0) := by
    rw [Bool.eq_iff_iff, ← by_len, decide_eq_true_eq, decide_eq_true_eq]
    exact List.length_eq_zero_iff.symm
  rw [e, decide_not]

/-- The two numbers behind the first j bytes. -/
def xs (s : ByteArray) (j : Nat) : Nat := runX 17 ((by' s).take j)
def ys (s : ByteArray) (j : Nat) : Nat := runY 29 ((by' s).take j)
theorem xs_lt (s : ByteArray) (j : Nat) : xs s j < 2147483629 := runX_lt (by omega) _
theorem ys_lt (s : ByteArray) (j : Nat) : ys s j < 2147483587 := runY_lt (by omega) _
theorem xs_step (s : ByteArray) (j : Nat) (h : j < s.size) : xs s (j + 1) = (48271 * xs s j + ((by' s).getD j 0).toNat + 1) % 2147483629 := by
  unfold xs
  rw [take_snoc' (by rw [by_len]; omega), runX_snoc]
theorem ys_step (s : ByteArray) (j : Nat) (h : j < s.size) : ys s (j + 1) = (69621 * ys s j + ((by' s).getD j 0).toNat + 1) % 2147483587 := by
  unfold ys
  rw [take_snoc' (by rw [by_len]; omega), runY_snoc]

theorem index_str (s : ByteArray) (j : Nat) (h : j < s.size) (w : World) : (Instr.index 9 (.string s) (.int .i64 (j : Int))).run Try.prog w = .ok (.int .u8 ((by' s).getD j 0).toNat) w := by
  rw [run_index_string w 9 s .i64 j Try.underlying9, dif_pos ⟨by omega, by omega⟩]
  simp [by', List.getD, h, ByteArray.getElem_eq_getElem_data]

theorem ref_end (s : ByteArray) : sA (be4 (xs s s.size)) ++ sA (be4 (ys s s.size)) = sA (dig (by' s)) := by
  apply by_inj
  have h : ∀ a b : ByteArray, by' (a ++ b) = by' a ++ by' b := fun a b => by simp [by']
  rw [h, by_sA, by_sA, by_sA]
  unfold xs ys dig
  rw [List.take_of_length_le (by rw [by_len]; omega)]

set_option maxRecDepth 10000 in
set_option maxHeartbeats 1000000 in
/-- Of of the reference -/
theorem rOf_any (s : ByteArray) (hs : s.size ≤ 140737488355328) (w : World) : Calls Try.prog 30 #[.string s] w fun e w' => e = .returned (.string (sA (dig (by' s)))) ∧ Below w.heap.size w w' := by
  have HE := Lib.hid (ref_end s)
  have HX := Lib.hid (xs_step s)
  have HY := Lib.hid (ys_step s)
  have HI := Lib.hid (index_str s)
  have H4 : Hid (∀ n W, n < 9223372036854775808 → Calls Try.prog 42 #[.int .i64 (n : Nat)] W fun e w' => e = .returned (.string (sA (be4 n))) ∧ Below W.heap.size W w') := fun n W h => most4_any n h W
  obtain ⟨r, hr⟩ : ∃ r, r = sA (dig (by' s)) := ⟨_, rfl⟩
  rw [← hr] at HE ⊢
  obtain ⟨m, hm⟩ : ∃ m, m = s.size := ⟨_, rfl⟩
  have HM := Lib.hid hm
  have hs' : m ≤ 140737488355328 := by omega
  have hlen : (s.size : Int) = (m : Int) := by omega
  clear hr hs
  clear hm
  go_enter Try.func30, Try.ntmps30
  go_wp2
  go_loop [3, 4, 5] (fun xv yv iv => ∃ j : Nat, j ≤ m ∧ iv = .int .i64 (j : Nat) ∧ xv = .int .i64 (xs s j : Nat) ∧ yv = .int .i64 (ys s j : Nat)) (fun _ _ iv => m - (intOf iv).toNat)
  case atStart => exact ⟨0, by omega, rfl, rfl, rfl⟩
  case round =>
    obtain ⟨j, hj, rfl, rfl, rfl⟩ := hrel
    have lx := xs_lt s j
    have ly := ys_lt s j
    have HB := Lib.hid (Below.refl w.heap.size w)
    by_cases hjm : j = m
    · subst hjm
      have he2 : sA (be4 (xs s j)) ++ sA (be4 (ys s j)) = r := by rw [HM.out]; exact HE.out
      obtain ⟨x, hx⟩ : ∃ x, x = xs s j := ⟨_, rfl⟩
      obtain ⟨y, hy⟩ : ∃ y, y = ys s j := ⟨_, rfl⟩
      rw [← hx] at lx he2 ⊢
      rw [← hy] at ly he2 ⊢
      obtain ⟨fS, hfS⟩ : ∃ fS : Nat → ByteArray, fS = fun n => sA (be4 n) := ⟨_, rfl⟩
      have H4f : Hid (∀ n W, n < 9223372036854775808 → Calls Try.prog 42 #[.int .i64 (n : Nat)] W fun e w' => e = .returned (.string (fS n)) ∧ Below W.heap.size W w') := fun n W h => by rw [hfS]; exact H4.out n W h
      have e1 : sA (be4 x) = fS x := by rw [hfS]
      have e2 : sA (be4 y) = fS y := by rw [hfS]
      have s1 : (fS x).size = 4 := by rw [hfS]; exact sA_size _
      have s2 : (fS y).size = 4 := by rw [hfS]; exact sA_size _
      rw [e1, e2] at he2
      have HE2 := Lib.hid he2
      clear hx hy e1 e2 hfS H4 he2
      go_wp2_with (go_at_call 42; refine (H4f.out _ _ (by omega)).mono ?_; rintro e w1 ⟨rfl, hb⟩; have HB := Lib.hid (HB.out.trans (hb.mono HB.out.size)); clear hb)
      go_ret
      exact ⟨by rw [← HE2.out]; rfl, HB.out⟩
    · have ex := HX.out j (by rw [← HM.out]; omega)
      have ey := HY.out j (by rw [← HM.out]; omega)
      have hi := HI.out j (by rw [← HM.out]; omega)
      have lc := ((by' s).getD j 0).toNat_lt
      obtain ⟨c, hcc⟩ : ∃ c, c = ((by' s).getD j 0).toNat := ⟨_, rfl⟩
      rw [← hcc] at ex ey hi lc
      obtain ⟨x, hx⟩ : ∃ x, x = xs s j := ⟨_, rfl⟩
      obtain ⟨y, hy⟩ : ∃ y, y = ys s j := ⟨_, rfl⟩
      rw [← hx] at lx ex ⊢
      rw [← hy] at ly ey ⊢
      have EX := Lib.hid ex
      have EY := Lib.hid ey
      clear ex ey hx hy hcc
      go_wp2
      go_round
      case rel => exact ⟨j + 1, by omega, by go_num, by rw [EX.out]; go_num, by rw [EY.out]; go_num⟩
      case measure => simp [intOf]; omega

end Go.Proofs.Ytafdjohgoopcmaa
