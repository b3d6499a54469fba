/- Contracts: candidate of draw, of both sides. Condition: the seed is shorter than 2^31, the numbers fit ints. -/
import Derived.Test.YtafdjohgoopcmaaWE
namespace Go.Proofs.Ytafdjohgoopcmaa
open Go.RowKit

def markL (s m : ByteArray) : List UInt8 := 5 :: (le4 s.size ++ (by' s ++ (le4 m.size ++ (by' m ++ by' s))))
def mkX (s m : ByteArray) : Nat := runX 17 (markL s m)
theorem mkX_lt (s m : ByteArray) : mkX s m < 2147483629 := runX_lt (by omega) _
theorem markD_eq (s m : ByteArray) : markD s m = be4 (mkX s m) ++ be4 (runY 29 (markL s m)) := rfl

def kjS (k j : Int) : ByteArray := sA (intsB [k, j])
/-- The candidate. -/
def cand (s : ByteArray) (k j : Int) : Nat := mkX s (kjS k j) % 1073741824
theorem cand_lt (s : ByteArray) (k j : Int) : cand s k j < 1073741824 := Nat.mod_lt _ (by omega)

theorem kjS_size (k j : Int) (hk : -9223372036854775808 ≤ k ∧ k ≤ 9223372036854775807) (hj : -9223372036854775808 ≤ j ∧ j ≤ 9223372036854775807) : (kjS k j).size < 100 := by
  have h1 := leb_len10 (codeN_lt (n := 2) (by omega) (by omega))
  have h2 := leb_len10 (codeN_lt hk.1 hk.2)
  have h3 := leb_len10 (codeN_lt hj.1 hj.2)
  simp only [kjS, sA_size, intsB, intsL, List.length_cons, List.length_nil, List.map_cons, List.map_nil, List.flatten_cons, List.flatten_nil, List.length_append]
  have e : ((0 + 1 + 1 : Nat) : Int) = 2 := rfl
  rw [e]
  omega

theorem kj_fit {k j : Int} (hk : -9223372036854775808 ≤ k ∧ k ≤ 9223372036854775807) (hj : -9223372036854775808 ≤ j ∧ j ≤ 9223372036854775807) : ∀ i, -9223372036854775808 ≤ ([k, j] : List Int).getD i 0 ∧ ([k, j] : List Int).getD i 0 ≤ 9223372036854775807 := by
  intro i
  match i with
  | 0 => simpa using hk
  | 1 => simpa using hj
  | n + 2 => simp

theorem kj_new (W : World) (k j : Int) (hk : -9223372036854775808 ≤ k ∧ k ≤ 9223372036854775807) (hj : -9223372036854775808 ≤ j ∧ j ≤ 9223372036854775807) : Ix (W.alloc (.cells #[.int .i64 k, .int .i64 j] 3)) (.slice (some ⟨W.heap.size, 0, none⟩) 2 2) [k, j] := by
  refine ⟨by simp [maxLen], kj_fit hk hj, .inr ⟨_, 0, 2, rfl, Nat.le_refl _, by simp, fun i hi => ?_⟩⟩
  rw [cell_of_row _ _ _ _ _ _ (heap_alloc_new _ _)]
  match i, hi with
  | 0, _ => rfl
  | 1, _ => rfl

/-- The four bytes of a number. -/
theorem four (x : Nat) (hx : x < 2147483629) : ∃ b0 b1 b2 b3 : Nat, b0 < 256 ∧ b1 < 256 ∧ b2 < 256 ∧ b3 < 256 ∧ be4 x = [UInt8.ofNat b0, UInt8.ofNat b1, UInt8.ofNat b2, UInt8.ofNat b3] ∧ ((b0 * 256 + b1) * 256 + b2) * 256 + b3 = x := by
  refine ⟨x / 16777216 % 256, x / 65536 % 256, x / 256 % 256, x % 256, by omega, by omega, by omega, by omega, ?_, by omega⟩
  simp only [be4, List.cons.injEq, and_true]
  refine ⟨?_, ?_, ?_, ?_⟩ <;> (apply UInt8.toNat_inj.1; simp)

theorem ints_kj (k j : Int) (hk : -9223372036854775808 ≤ k ∧ k ≤ 9223372036854775807) (hj : -9223372036854775808 ≤ j ∧ j ≤ 9223372036854775807) (W : World) (b : Nat) (hb : b = W.heap.size) :
    Calls Try.prog 45 #[.slice (some ⟨b, 0, none⟩) 2 2] (W.alloc (.cells #[.int .i64 k, .int .i64 j] 3)) fun e w' => e = .returned (.string (kjS k j)) ∧ Below W.heap.size W w' := by
  subst hb
  exact (ints_any (kj_new W k j hk hj) (by simp)).mono fun e w' h => ⟨h.1, ((Below.refl _ _).alloc (Nat.le_refl _) _).trans (h.2.mono (by simp))⟩

theorem rInts_kj (k j : Int) (hk : -9223372036854775808 ≤ k ∧ k ≤ 9223372036854775807) (hj : -9223372036854775808 ≤ j ∧ j ≤ 9223372036854775807) (W : World) (b : Nat) (hb : b = W.heap.size) :
    Calls Try.prog 35 #[.slice (some ⟨b, 0, none⟩) 2 2] (W.alloc (.cells #[.int .i64 k, .int .i64 j] 3)) fun e w' => e = .returned (.string (kjS k j)) ∧ Below W.heap.size W w' := by
  subst hb
  exact (rInts_any (kj_new W k j hk hj) (by simp)).mono fun e w' h => ⟨h.1, ((Below.refl _ _).alloc (Nat.le_refl _) _).trans (h.2.mono (by simp))⟩

theorem mark_parts (s m : ByteArray) : ∃ b0 b1 b2 b3 : Nat, b0 < 256 ∧ b1 < 256 ∧ b2 < 256 ∧ b3 < 256 ∧ ((b0 * 256 + b1) * 256 + b2) * 256 + b3 = mkX s m ∧ (sA (markD s m)).size = 8 ∧ by' ((sA (markD s m)).extract 0 4) = [UInt8.ofNat b0, UInt8.ofNat b1, UInt8.ofNat b2, UInt8.ofNat b3] ∧ ∀ i, i < 4 → (by' (sA (markD s m))).getD i 0 = [UInt8.ofNat b0, UInt8.ofNat b1, UInt8.ofNat b2, UInt8.ofNat b3].getD i 0 := by
  obtain ⟨b0, b1, b2, b3, h0, h1, h2, h3, e1, e2⟩ := four (mkX s m) (mkX_lt s m)
  refine ⟨b0, b1, b2, b3, h0, h1, h2, h3, e2, by rw [sA_size]; rfl, ?_, ?_⟩
  · have e : by' ((sA (markD s m)).extract 0 4) = (by' (sA (markD s m))).take 4 := by simp [by']
    rw [e, by_sA, markD_eq, e1]
    rfl
  · intro i hi
    rw [by_sA, markD_eq, e1]
    match i, hi with
    | 0, _ => rfl
    | 1, _ => rfl
    | 2, _ => rfl
    | 3, _ => rfl

theorem byte_nat (b : Nat) (h : b < 256) : ((UInt8.ofNat b).toNat : Int) = (b : Int) := by simp; omega

set_option maxRecDepth 10000 in
set_option maxHeartbeats 2000000 in
theorem cand_any (s : ByteArray) (hs : s.size < 2147483648) (k j : Int) (hk : -9223372036854775808 ≤ k ∧ k ≤ 9223372036854775807) (hj : -9223372036854775808 ≤ j ∧ j ≤ 9223372036854775807) (w : World) :
    Calls Try.prog 34 #[.string s, .int .i64 k, .int .i64 j] w fun e w' => e = .returned (.int .i64 (cand s k j : Nat)) ∧ Below w.heap.size w w' := by
  have HI := Lib.hid (fun b hb => ints_kj k j hk hj w b hb)
  have hms := kjS_size k j hk hj
  have HM := Lib.hid (fun W => mark_any s (kjS k j) (by omega) (by omega) W)
  obtain ⟨b0, b1, b2, b3, h0, h1, h2, h3, e2, hz, hE, _⟩ := mark_parts s (kjS k j)
  obtain ⟨r, hr⟩ : ∃ r, r = cand s k j := ⟨_, rfl⟩
  have hx : r = (((b0 * 256 + b1) * 256 + b2) * 256 + b3) % 1073741824 := by rw [hr, e2]; rfl
  rw [← hr]
  obtain ⟨M, hM⟩ : ∃ M, M = kjS k j := ⟨_, rfl⟩
  rw [← hM] at HI HM hz hE
  obtain ⟨D, hD⟩ : ∃ D, D = sA (markD s M) := ⟨_, rfl⟩
  rw [← hD] at HM hz hE
  obtain ⟨E, hEE⟩ : ∃ E, E = D.extract 0 4 := ⟨_, rfl⟩
  have HEE := Lib.hid hEE
  rw [← hEE] at hE
  have hE4 : E.size = 4 := by rw [← by_len, hE]; rfl
  have HE4 := Lib.hid hE4
  have HX := Lib.hid hx
  have hcells : ∀ W, ∃ W3 cap3, (convert 9 42 (.string (D.extract 0 4))).run Try.prog W = .ok (.slice (some ⟨W.heap.size, 0, none⟩) 4 cap3) W3 ∧ 4 ≤ cap3 ∧ Below W.heap.size W W3 ∧ W3.cell? ⟨W.heap.size, 0, none⟩ = some (.int .u8 b0) ∧ W3.cell? ⟨W.heap.size, 1, none⟩ = some (.int .u8 b1) ∧ W3.cell? ⟨W.heap.size, 2, none⟩ = some (.int .u8 b2) ∧ W3.cell? ⟨W.heap.size, 3, none⟩ = some (.int .u8 b3) := by
    intro W
    have hconv := Lib.run_convert_string_bytes (P := Try.prog) W 9 42 5 E Try.underlying9 Try.underlying42 Try.underlying5
    have hcl := fun j hj => Lib.bytesWorld_cell W 5 E j hj
    have hcp : E.size ≤ grownCap W E.size 0 5 := grownCap_ge _ _ _ _
    rw [hE4] at hconv hcp
    rw [← hEE]
    refine ⟨_, _, hconv, hcp, bytes_below W 5 E, ?_, ?_, ?_, ?_⟩
    · rw [hcl 0 (by omega), show E.data.toList = _ from hE]; exact congrArg (fun z => some (Value.int .u8 z)) (byte_nat _ h0)
    · rw [hcl 1 (by omega), show E.data.toList = _ from hE]; exact congrArg (fun z => some (Value.int .u8 z)) (byte_nat _ h1)
    · rw [hcl 2 (by omega), show E.data.toList = _ from hE]; exact congrArg (fun z => some (Value.int .u8 z)) (byte_nat _ h2)
    · rw [hcl 3 (by omega), show E.data.toList = _ from hE]; exact congrArg (fun z => some (Value.int .u8 z)) (byte_nat _ h3)
  have HC := Lib.hid hcells
  clear hcells hE hEE hE4 hD hM hr e2 hms hx
  go_enter Try.func34, Try.ntmps34
  go_wp2_with (first | (go_at_call 45; refine (HI.out _ (by simp)).mono ?_; rintro e w1 ⟨rfl, hb1⟩) | (go_at_call 32; refine (HM.out _).mono ?_; rintro e w2 ⟨rfl, hb2⟩; obtain ⟨W3, cap3, hconv, hcp3, hb3, c0, c1, c2, c3⟩ := HC.out w2))
  refine wp_loop_rounds 5 ?_
  rw [rounds_succ]
  go_wp2
  rw [rounds_succ]
  go_wp2
  rw [rounds_succ]
  go_wp2
  rw [rounds_succ]
  go_wp2
  rw [rounds_succ]
  go_wp2
  go_ret
  exact ⟨congrArg (fun z => Ending.returned (Value.int IntKind.i64 z)) (by rw [HX.out]; omega), hb1.trans ((hb2.mono hb1.size).trans (hb3.mono (Nat.le_trans hb1.size hb2.size)))⟩

set_option maxRecDepth 10000 in
set_option maxHeartbeats 2000000 in
theorem rcand_any (s : ByteArray) (hs : s.size < 2147483648) (k j : Int) (hk : -9223372036854775808 ≤ k ∧ k ≤ 9223372036854775807) (hj : -9223372036854775808 ≤ j ∧ j ≤ 9223372036854775807) (w : World) :
    Calls Try.prog 24 #[.string s, .int .i64 k, .int .i64 j] w fun e w' => e = .returned (.int .i64 (cand s k j : Nat)) ∧ Below w.heap.size w w' := by
  have HI := Lib.hid (fun b hb => rInts_kj k j hk hj w b hb)
  have hms := kjS_size k j hk hj
  have HM := Lib.hid (fun W => rMark_any s (kjS k j) (by omega) (by omega) W)
  obtain ⟨b0, b1, b2, b3, h0, h1, h2, h3, e2, hz, _, hE⟩ := mark_parts s (kjS k j)
  obtain ⟨r, hr⟩ : ∃ r, r = cand s k j := ⟨_, rfl⟩
  have hx : r = (((b0 * 256 + b1) * 256 + b2) * 256 + b3) % 1073741824 := by rw [hr, e2]; rfl
  rw [← hr]
  obtain ⟨M, hM⟩ : ∃ M, M = kjS k j := ⟨_, rfl⟩
  rw [← hM] at HI HM hz hE
  obtain ⟨D, hD⟩ : ∃ D, D = sA (markD s M) := ⟨_, rfl⟩
  rw [← hD] at HM hz hE
  have HX := Lib.hid hx
  have hi := fun (i : Nat) (hi : i < 4) (W : World) => index_str D i (by omega) W
  have i0 : ∀ W, (Instr.index 9 (.string D) (.int .i64 0)).run Try.prog W = .ok (.int .u8 b0) W := fun W => by
    have := hi 0 (by omega) W
    rw [hE 0 (by omega), show ([UInt8.ofNat b0, UInt8.ofNat b1, UInt8.ofNat b2, UInt8.ofNat b3].getD 0 0) = UInt8.ofNat b0 from rfl, byte_nat _ h0] at this
    exact this
  have i1 : ∀ W, (Instr.index 9 (.string D) (.int .i64 1)).run Try.prog W = .ok (.int .u8 b1) W := fun W => by
    have := hi 1 (by omega) W
    rw [hE 1 (by omega), show ([UInt8.ofNat b0, UInt8.ofNat b1, UInt8.ofNat b2, UInt8.ofNat b3].getD 1 0) = UInt8.ofNat b1 from rfl, byte_nat _ h1] at this
    exact this
  have i2 : ∀ W, (Instr.index 9 (.string D) (.int .i64 2)).run Try.prog W = .ok (.int .u8 b2) W := fun W => by
    have := hi 2 (by omega) W
    rw [hE 2 (by omega), show ([UInt8.ofNat b0, UInt8.ofNat b1, UInt8.ofNat b2, UInt8.ofNat b3].getD 2 0) = UInt8.ofNat b2 from rfl, byte_nat _ h2] at this
    exact this
  have i3 : ∀ W, (Instr.index 9 (.string D) (.int .i64 3)).run Try.prog W = .ok (.int .u8 b3) W := fun W => by
    have := hi 3 (by omega) W
    rw [hE 3 (by omega), show ([UInt8.ofNat b0, UInt8.ofNat b1, UInt8.ofNat b2, UInt8.ofNat b3].getD 3 0) = UInt8.ofNat b3 from rfl, byte_nat _ h3] at this
    exact this
  clear hi hE hD hM hr e2 hms hx
  go_enter Try.func24, Try.ntmps24
  go_wp2_with (first | (go_at_call 35; refine (HI.out _ (by simp)).mono ?_; rintro e w1 ⟨rfl, hb1⟩) | (go_at_call 33; refine (HM.out _).mono ?_; rintro e w2 ⟨rfl, hb2⟩))
  refine wp_loop_rounds 5 ?_
  rw [rounds_succ]
  go_wp2
  rw [rounds_succ]
  go_wp2
  rw [rounds_succ]
  go_wp2
  rw [rounds_succ]
  go_wp2
  rw [rounds_succ]
  go_wp2
  go_ret
  exact ⟨congrArg (fun z => Ending.returned (Value.int IntKind.i64 z)) (by rw [HX.out]; omega), hb1.trans (hb2.mono hb1.size)⟩

end Go.Proofs.Ytafdjohgoopcmaa
