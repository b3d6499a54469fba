/- Contracts of the reference: Int and Ints of wire. Condition: the numbers fit ints, at most 1000. -/
import Derived.Test.YtafdjohgoopcmaaWB
namespace Go.Proofs.Ytafdjohgoopcmaa
open Go.RowKit

theorem sA_app (a b : List UInt8) : sA a ++ sA b = sA (a ++ b) := by
  apply by_inj
  rw [by_app, by_sA, by_sA, by_sA]

theorem one_conv (W : World) (b : UInt8) (z : Int) (hz : z = b.toNat) : (convert 42 9 (.slice (some ⟨W.heap.size, 0, none⟩) 1 1)).run Try.prog (W.alloc (.cells #[.int .u8 z] 5)) = .ok (.string (sA [b])) (W.alloc (.cells #[.int .u8 z] 5)) := by
  subst hz
  exact conv_lit (W.alloc (.cells #[.int .u8 b.toNat] 5)) W.heap.size [b] #[.int .u8 b.toNat] (by simp [chars]) 5 (0, 0) (heap_alloc_new _ _) 1 1 rfl

set_option maxRecDepth 10000 in
set_option maxHeartbeats 2000000 in
theorem rInt_any (n : Int) (h1 : -9223372036854775808 ≤ n) (h2 : n ≤ 9223372036854775807) (w : World) :
    Calls Try.prog 46 #[.int .i64 n] w fun e w' => e = .returned (.string (sA (leb (codeN n)))) ∧ Below w.heap.size w w' := by
  have hC := Lib.hid (fun w => rcode_any n h1 h2 w)
  have hlt := codeN_lt h1 h2
  have hl10 := leb_len10 hlt
  obtain ⟨T, hT⟩ : ∃ T, T = leb (codeN n) := ⟨_, rfl⟩
  obtain ⟨R, hR⟩ : ∃ R, R = sA T := ⟨_, rfl⟩
  rw [← hT, ← hR]
  rw [← hT] at hl10
  have HR := Lib.hid hR
  have HL := Lib.hid hl10
  obtain ⟨c0, hc0⟩ : ∃ c0, c0 = codeN n := ⟨_, rfl⟩
  rw [← hc0] at hC hlt hT
  have HT := Lib.hid hT
  clear hc0 hT hl10 hR
  go_enter Try.func46, Try.ntmps46
  go_wp2_with (go_at_call 50; refine (hC.out _).mono ?_; rintro e w1 ⟨rfl, rfl⟩)
  go_loopw [3, 4] (fun sv cv wr => ∃ (c : Nat) (s : ByteArray), c < 18446744073709551616 ∧ s.size ≤ 10 ∧ sv = .string s ∧ cv = .int .u64 (c : Nat) ∧ Hid (by' s ++ leb c = T) ∧ Hid (Below w1.heap.size w1 wr)) (fun _ cv _ => (intOf cv).toNat)
  case atStart => exact ⟨c0, ⟨#[]⟩, hlt, Nat.zero_le _, rfl, rfl, Lib.hid HT.out.symm, Lib.hid (Below.refl _ _)⟩
  case round =>
    obtain ⟨c, s, hc, hsz, rfl, rfl, hJ, hB⟩ := hrel
    by_cases hs : c < 128
    · have hconv := one_conv wr (UInt8.ofNat c) (c : Nat) (by simp; omega)
      have e1 : s ++ sA [UInt8.ofNat c] = R := by
        apply by_inj
        rw [by_app, by_sA, HR.out, by_sA, ← leb_small hs]; exact hJ.out
      obtain ⟨r, hr⟩ : ∃ r, r = sA [UInt8.ofNat c] := ⟨_, rfl⟩
      have hr1 : r.size = 1 := by rw [hr]; rfl
      rw [← hr] at hconv e1
      have HE := Lib.hid e1
      clear hJ e1 hr
      go_wp2
      go_ret
      exact ⟨by rw [← HE.out]; rfl, hB.out.alloc hB.out.size _⟩
    · have hconv := one_conv wr (UInt8.ofNat (c % 128 + 128)) ((c : Int) % 128 + 128) (by simp; omega)
      obtain ⟨r, hr⟩ : ∃ r, r = sA [UInt8.ofNat (c % 128 + 128)] := ⟨_, rfl⟩
      have hr1 : r.size = 1 := by rw [hr]; rfl
      have hJ2 : by' (s ++ r) ++ leb (c / 128) = T := by rw [by_app, hr, by_sA, ← hJ.out, leb_big hs]; simp
      have hs2 : (s ++ r).size ≤ 10 := by
        have t1 := HL.out
        rw [← hJ2, List.length_append, by_len] at t1
        omega
      rw [← hr] at hconv
      have HJ := Lib.hid hJ2
      have HS2 := Lib.hid hs2
      clear hJ hJ2 hr hs2
      have HBB : Hid (Below w1.heap.size w1 (wr.alloc (.cells #[.int .u8 ((c : Int) % 128 + 128)] 5))) := Lib.hid (hB.out.alloc hB.out.size _)
      go_wp2
      go_roundw
      case rel => exact ⟨c / 128, s ++ r, by omega, HS2.out, rfl, by go_num, HJ, HBB⟩
      case measure => simp [intOf]; omega

end Go.Proofs.Ytafdjohgoopcmaa
