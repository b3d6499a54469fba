/- The law NumInts, walked. Condition: the table of powers of ten is laid. -/
import Derived.Test.YtdgmjmckeeeljaaGreatDoorSS
namespace Go.Proofs.YtdgmjmckeeeljaaGreatDoor
open Go.RowKit

theorem tmod_lt (n k : Int) (hk : 0 < k) : -k < n.tmod k ∧ n.tmod k < k := by
  have h1 := Int.lt_tmod_of_pos n hk
  have h2 := Int.tmod_lt_of_pos n hk
  omega

theorem mul_bound {a b k : Int} (ha : -k < a ∧ a < k) (hb : -k < b ∧ b < k) : -(k * k) ≤ a * b ∧ a * b ≤ k * k := by
  have h : (a * b).natAbs ≤ (k * k).natAbs := by
    rw [Int.natAbs_mul, Int.natAbs_mul]
    exact Nat.mul_le_mul (by omega) (by omega)
  have h2 : 0 ≤ k * k := Int.mul_nonneg (by omega) (by omega)
  omega

theorem pow_bound {s : Int} (hs : -200 < s ∧ s < 200) (k : Nat) : (s ^ k).natAbs ≤ 200 ^ k := by
  rw [Int.natAbs_pow]
  exact Nat.pow_le_pow_left (by omega) k

theorem pow_small {s : Int} (hs : -200 < s ∧ s < 200) (k : Nat) (hk : k ≤ 7) : (s ^ k).natAbs ≤ 12800000000000000 :=
  Nat.le_trans (pow_bound hs k) (Nat.le_trans (Nat.pow_le_pow_right (by decide) hk) (by decide))

theorem add_yes {w : World} {x y : Value} {a b : Int} (z : Int) (hx : Nu w x a) (hy : Nu w y b) (hz : a + b = z) (hf : z.natAbs < 18446744073709551616) : Calls Tryz.prog 28 #[x, y] w (YesN w z) := by
  subst hz; exact (add_any hx hy).mono fun _ _ h => h.yes (fits_w hf)

theorem right_nu {W : World} {x : Value} {z : Int} (hx : Nu W x z) : Calls Tryz.prog 32 #[x] W fun e w' => e = .returned (.bool true) ∧ Below W.heap.size W w' := by
  obtain ⟨s, rfl, hs, hl⟩ := hx
  have := right_any (decide (z < 0)) hs (by omega)
  rw [rightB_digs z hl] at this
  exact this.mono fun _ _ ⟨h1, h2⟩ => ⟨h1, by rw [h2]; exact alloc_b _ _⟩

set_option maxRecDepth 10000 in
set_option maxHeartbeats 4000000 in
theorem ints_any (n m : Int) (e8 : UInt8) (w : World) (htab : ∀ W, Below w.heap.size w W → Tab W) (hn1 : -9223372036854775808 ≤ n) (hn2 : n ≤ 9223372036854775807) (hm1 : -9223372036854775808 ≤ m) (hm2 : m ≤ 9223372036854775807) :
    Calls Tryz.prog 6 #[.int .i64 n, .int .i64 m, .int .u8 e8.toNat] w fun e w' => e = .returned (.bool true) ∧ Below w.heap.size w w' := by
  have HS : Hid (Calls Tryz.prog 10 #[] w fun e w' => e = .returned (.bool true) ∧ Below w.heap.size w w') := Lib.hid (sanity_any w htab)
  have HW : Hid (Below w.heap.size w w) := Lib.hid (Below.refl _ _)
  have HZ : Hid (w.heap.size ≤ w.heap.size) := Lib.hid (Nat.le_refl _)
  have he := e8.toNat_lt
  obtain ⟨E8, hE8⟩ : ∃ E8 : Nat, E8 = e8.toNat := ⟨_, rfl⟩
  rw [← hE8] at he ⊢
  obtain ⟨a, hra⟩ : ∃ a, n.tmod 2147483648 = a := ⟨_, rfl⟩
  obtain ⟨b, hrb⟩ : ∃ b, m.tmod 2147483648 = b := ⟨_, rfl⟩
  have ha := tmod_lt n 2147483648 (by decide)
  have hb := tmod_lt m 2147483648 (by decide)
  rw [hra] at ha
  rw [hrb] at hb
  have hp := mul_bound ha hb
  obtain ⟨P, hP⟩ : ∃ P, P = a * b := ⟨_, rfl⟩
  rw [← hP] at hp
  have HP := Lib.hid hP
  obtain ⟨ha1, ha2⟩ := ha
  obtain ⟨hb1, hb2⟩ := hb
  obtain ⟨hp1, hp2⟩ := hp
  obtain ⟨s, hs⟩ : ∃ s, a.tmod 200 = s := ⟨_, rfl⟩
  have hs2 := tmod_lt a 200 (by decide)
  rw [hs] at hs2
  have HS2 := Lib.hid hs2
  obtain ⟨hs3, hs4⟩ := hs2
  have hPw : IntKind.i64.wrap P = P := by rw [IntKind.wrap_i64]; omega
  have hPn : (P != wrap64 (a * b)) = false := by
    rw [← hP]
    have h : wrap64 P = P := by unfold wrap64; omega
    rw [h]
    simp
  obtain ⟨E, hE⟩ : ∃ E, E = E8 % 8 := ⟨_, rfl⟩
  have hE7 : E ≤ 7 := by omega
  have hEE : ((E8 : Int) % 8) = (E : Nat) := by omega
  clear htab hE8 hP hE
  go_enter Tryz.func6, Tryz.ntmps6
  go_upto_region 2 with (first | (go_at_call 10; refine HS.out.mono ?_; rintro e wz ⟨rfl, hb⟩; have HWW := step1 HW HZ hb; have HW := HWW.1; have HZ := HWW.2; clear HWW hb))
  go_upto_region 3 with (first | (go_at_call_of 27 (Value.int .i64 n); refine (of_X n _ (by omega) (by omega)).mono ?_; rintro e wz ⟨x1, rfl, hn, hb⟩; have HWW := step1 HW HZ hb; have HW := HWW.1; have HZ := HWW.2; clear HWW; have Nx1 := Lib.hid hn; clear hn; clear hb) | (go_at_call 26; refine (int_yes Nx1.out hn1 hn2).mono ?_; rintro e wz ⟨rfl, hb⟩; have HWW := step1 HW HZ hb; have HW := HWW.1; have HZ := HWW.2; clear HWW; clear hb))
  clear Nx1 HS
  go_upto_region 4 with fail

  go_upto_region 5 with (first | (go_at_call_of 27 (Value.int .i64 a); refine (of_X a _ (by omega) (by omega)).mono ?_; rintro e wz ⟨x1, rfl, hn, hb⟩; have HWW := step1 HW HZ hb; have HW := HWW.1; have HZ := HWW.2; clear HWW; have Nx1 := Lib.hid hn; clear hn; clear hb) | (go_at_call_of 27 (Value.int .i64 b); refine (of_X b _ (by omega) (by omega)).mono ?_; rintro e wz ⟨x2, rfl, hn, hb⟩; (try have Nx1 := Lib.hid (Nx1.out.below hb)); have HWW := step1 HW HZ hb; have HW := HWW.1; have HZ := HWW.2; clear HWW; have Nx2 := Lib.hid hn; clear hn; clear hb) | (go_at_call 28; refine (add_yes (a + b) Nx1.out Nx2.out (rfl) (by omega)).mono ?_; rintro e wz ⟨n12, a12, l12, c12, rfl, hn, hb⟩; have HWW := step1 HW HZ hb; have HW := HWW.1; have HZ := HWW.2; clear HWW; have NB := Lib.hid hn; clear hn; clear hb))
  obtain ⟨W, hW⟩ : ∃ W, W = wz.alloc (.cells #[.bool n12, .slice a12 l12 c12] 27) := ⟨_, rfl⟩
  obtain ⟨g12, hg⟩ : ∃ g, g = wz.heap.size := ⟨_, rfl⟩
  have hb : Below wz.heap.size wz W := by rw [hW]; exact alloc_b _ _
  have B12 : Hid (Bx W g12 n12 a12 l12 c12 (a + b)) := Lib.hid (by rw [hW, hg]; exact bx_new NB.out)
  rw [← hW]
  rw [← hg]
  clear hW hg NB
  have HWW := step1 HW HZ hb
  have HW := HWW.1
  have HZ := HWW.2
  clear HWW hb Nx1 Nx2
  go_upto_region 6 with (first | (go_at_call_of 27 (Value.int .i64 a); refine (of_X a _ (by omega) (by omega)).mono ?_; rintro e wz ⟨x1, rfl, hn, hb⟩; (try have B12 := Lib.hid (B12.out.below hb)); have HWW := step1 HW HZ hb; have HW := HWW.1; have HZ := HWW.2; clear HWW; have Nx1 := Lib.hid hn; clear hn; clear hb) | (go_at_call_of 27 (Value.int .i64 b); refine (of_X b _ (by omega) (by omega)).mono ?_; rintro e wz ⟨x2, rfl, hn, hb⟩; (try have B12 := Lib.hid (B12.out.below hb)); (try have Nx1 := Lib.hid (Nx1.out.below hb)); have HWW := step1 HW HZ hb; have HW := HWW.1; have HZ := HWW.2; clear HWW; have Nx2 := Lib.hid hn; clear hn; clear hb) | (go_at_call 29; refine (sub_yes (a - b) Nx1.out Nx2.out (rfl) (by omega)).mono ?_; rintro e wz ⟨n14, a14, l14, c14, rfl, hn, hb⟩; (try have B12 := Lib.hid (B12.out.below hb)); have HWW := step1 HW HZ hb; have HW := HWW.1; have HZ := HWW.2; clear HWW; have NB := Lib.hid hn; clear hn; clear hb))
  obtain ⟨W, hW⟩ : ∃ W, W = wz.alloc (.cells #[.bool n14, .slice a14 l14 c14] 27) := ⟨_, rfl⟩
  obtain ⟨g14, hg⟩ : ∃ g, g = wz.heap.size := ⟨_, rfl⟩
  have hb : Below wz.heap.size wz W := by rw [hW]; exact alloc_b _ _
  have B14 : Hid (Bx W g14 n14 a14 l14 c14 (a - b)) := Lib.hid (by rw [hW, hg]; exact bx_new NB.out)
  rw [← hW]
  rw [← hg]
  clear hW hg NB
  have B12 := Lib.hid (B12.out.below hb)
  have HWW := step1 HW HZ hb
  have HW := HWW.1
  have HZ := HWW.2
  clear HWW hb Nx1 Nx2
  go_upto_region 7 with (first | (go_at_call_of 27 (Value.int .i64 a); refine (of_X a _ (by omega) (by omega)).mono ?_; rintro e wz ⟨x1, rfl, hn, hb⟩; (try have B12 := Lib.hid (B12.out.below hb)); (try have B14 := Lib.hid (B14.out.below hb)); have HWW := step1 HW HZ hb; have HW := HWW.1; have HZ := HWW.2; clear HWW; have Nx1 := Lib.hid hn; clear hn; clear hb) | (go_at_call_of 27 (Value.int .i64 b); refine (of_X b _ (by omega) (by omega)).mono ?_; rintro e wz ⟨x2, rfl, hn, hb⟩; (try have B12 := Lib.hid (B12.out.below hb)); (try have B14 := Lib.hid (B14.out.below hb)); (try have Nx1 := Lib.hid (Nx1.out.below hb)); have HWW := step1 HW HZ hb; have HW := HWW.1; have HZ := HWW.2; clear HWW; have Nx2 := Lib.hid hn; clear hn; clear hb) | (go_at_call 30; refine (mul_yes P Nx1.out Nx2.out (HP.out.symm) (by omega)).mono ?_; rintro e wz ⟨n16, a16, l16, c16, rfl, hn, hb⟩; (try have B12 := Lib.hid (B12.out.below hb)); (try have B14 := Lib.hid (B14.out.below hb)); have HWW := step1 HW HZ hb; have HW := HWW.1; have HZ := HWW.2; clear HWW; have NB := Lib.hid hn; clear hn; clear hb))
  obtain ⟨W, hW⟩ : ∃ W, W = wz.alloc (.cells #[.bool n16, .slice a16 l16 c16] 27) := ⟨_, rfl⟩
  obtain ⟨g16, hg⟩ : ∃ g, g = wz.heap.size := ⟨_, rfl⟩
  have hb : Below wz.heap.size wz W := by rw [hW]; exact alloc_b _ _
  have B16 : Hid (Bx W g16 n16 a16 l16 c16 P) := Lib.hid (by rw [hW, hg]; exact bx_new NB.out)
  rw [← hW]
  rw [← hg]
  clear hW hg NB
  have B12 := Lib.hid (B12.out.below hb)
  have B14 := Lib.hid (B14.out.below hb)
  have HWW := step1 HW HZ hb
  have HW := HWW.1
  have HZ := HWW.2
  clear HWW hb Nx1 Nx2
  have p0 := B12.out.c0
  have p1 := B12.out.c1
  go_upto_region 8 with (first | (go_at_call 26; refine (int_yes B12.out.nu (by omega) (by omega)).mono ?_; rintro e wz ⟨rfl, hb⟩; (try have B14 := Lib.hid (B14.out.below hb)); (try have B16 := Lib.hid (B16.out.below hb)); have HWW := step1 HW HZ hb; have HW := HWW.1; have HZ := HWW.2; clear HWW; clear hb))
  clear p0 p1 B12
  have p0 := B14.out.c0
  have p1 := B14.out.c1
  go_upto_region 9 with (first | (go_at_call 26; refine (int_yes B14.out.nu (by omega) (by omega)).mono ?_; rintro e wz ⟨rfl, hb⟩; (try have B16 := Lib.hid (B16.out.below hb)); have HWW := step1 HW HZ hb; have HW := HWW.1; have HZ := HWW.2; clear HWW; clear hb))
  clear p0 p1 B14
  have p0 := B16.out.c0
  have p1 := B16.out.c1
  go_upto_region 10 with (first | (go_at_call 26; refine (int_yes B16.out.nu (by omega) (by omega)).mono ?_; rintro e wz ⟨rfl, hb⟩; have HWW := step1 HW HZ hb; have HW := HWW.1; have HZ := HWW.2; clear HWW; clear hb))
  clear p0 p1 B16
  go_upto_region 12 with fail
  go_wp2_with fail
  go_loopw [24, 26] (fun v kv wr => ∃ j : Nat, j ≤ E ∧ kv = .int .i64 (j : Nat) ∧ v = .int .i64 (s ^ j) ∧ Hid (Below w.heap.size w wr)) (fun _ kv _ => E - (intOf kv).toNat)
  case atStart => exact ⟨0, by omega, rfl, by rw [Int.pow_zero], HW⟩
  case round =>
    obtain ⟨j, hj, rfl, rfl, hwr⟩ := hrel
    have hq7 := pow_small HS2.out j (by omega)
    by_cases hjE : j < E
    · have hq8 := pow_small HS2.out (j + 1) (by omega)
      obtain ⟨q, hq⟩ : ∃ q, q = s ^ j := ⟨_, rfl⟩
      obtain ⟨q2, hq2⟩ : ∃ q2, q2 = s ^ (j + 1) := ⟨_, rfl⟩
      rw [← hq] at hq7 ⊢
      rw [← hq2] at hq8
      have hqq : wrap64 (q * s) = q2 := by
        rw [hq, ← Int.pow_succ, ← hq2]
        unfold wrap64
        omega
      have HQ2 := Lib.hid hq2
      clear hq hq2 HW
      go_wp2_with fail
      exact ⟨⟨j + 1, by omega, by go_num, by rw [hqq, HQ2.out], hwr⟩, by simp [intOf]; omega⟩
    · have hj2 : j = E := by omega
      subst hj2
      have HW := hwr
      have HZ := Lib.hid hwr.out.size
      obtain ⟨q, hq⟩ : ∃ q, q = s ^ j := ⟨_, rfl⟩
      rw [← hq] at hq7 ⊢
      have HQ := Lib.hid hq
      clear hq
      go_upto_region 18 with (first | (go_at_call_of 27 (Value.int .i64 s); refine (of_X s _ (by omega) (by omega)).mono ?_; rintro e wz ⟨x1, rfl, hn, hb⟩; have HWW := step1 HW HZ hb; have HW := HWW.1; have HZ := HWW.2; clear HWW; have Nx1 := Lib.hid hn; clear hn; clear hb) | (go_at_call 20; refine (pow_yes q j Nx1.out (by omega) HQ.out.symm (by omega)).mono ?_; rintro e wz ⟨n27, a27, l27, c27, rfl, hn, hb⟩; have HWW := step1 HW HZ hb; have HW := HWW.1; have HZ := HWW.2; clear HWW; have NB := Lib.hid hn; clear hn; clear hb))
      obtain ⟨W, hW⟩ : ∃ W, W = wz.alloc (.cells #[.bool n27, .slice a27 l27 c27] 27) := ⟨_, rfl⟩
      obtain ⟨g27, hg⟩ : ∃ g, g = wz.heap.size := ⟨_, rfl⟩
      have hb : Below wz.heap.size wz W := by rw [hW]; exact alloc_b _ _
      have B27 : Hid (Bx W g27 n27 a27 l27 c27 q) := Lib.hid (by rw [hW, hg]; exact bx_new NB.out)
      rw [← hW]
      rw [← hg]
      clear hW hg NB
      have HWW := step1 HW HZ hb
      have HW := HWW.1
      have HZ := HWW.2
      clear HWW hb Nx1
      have p0 := B27.out.c0
      have p1 := B27.out.c1
      go_upto_region 19 with (first | (go_at_call 26; refine (int_yes B27.out.nu (by omega) (by omega)).mono ?_; rintro e wz ⟨rfl, hb⟩; have HWW := step1 HW HZ hb; have HW := HWW.1; have HZ := HWW.2; clear HWW; clear hb))
      clear p0 p1 B27
      have HCM : Hid (∀ W x y, Nu W x n → Nu W y m → Calls Tryz.prog 31 #[x, y] W fun e w' => e = .returned (.int .i64 (cmpZ n m)) ∧ Below W.heap.size W w') := Lib.hid (fun W x y h1 h2 => cmp_any h1 h2)
      rcases Int.lt_trichotomy n m with h | h | h
      case' inl =>
        rw [show cmpZ n m = -1 by unfold cmpZ; rw [if_pos h]] at HCM
        have h2 : ¬ n > m := by omega
      case' inr.inl =>
        rw [show cmpZ n m = 0 by unfold cmpZ; rw [if_neg (by omega), if_pos h]] at HCM
        have h1 : ¬ n < m := by omega
        have h2 : ¬ n > m := by omega
        clear h
      case' inr.inr =>
        rw [show cmpZ n m = 1 by unfold cmpZ; rw [if_neg (by omega), if_neg (by omega)]] at HCM
        have h1 : ¬ n < m := by omega
      all_goals
        go_wp2_with (first | (go_at_call_of 27 (Value.int .i64 n); refine (of_X n _ (by omega) (by omega)).mono ?_; rintro e wz ⟨x1, rfl, hn, hb⟩; have HWW := step1 HW HZ hb; have HW := HWW.1; have HZ := HWW.2; clear HWW; have Nx1 := Lib.hid hn; clear hn; clear hb) | (go_at_call_of 27 (Value.int .i64 m); refine (of_X m _ (by omega) (by omega)).mono ?_; rintro e wz ⟨x2, rfl, hn, hb⟩; (try have Nx1 := Lib.hid (Nx1.out.below hb)); have HWW := step1 HW HZ hb; have HW := HWW.1; have HZ := HWW.2; clear HWW; have Nx2 := Lib.hid hn; clear hn; clear hb) | (go_at_call 31; refine (HCM.out _ _ _ Nx1.out Nx2.out).mono ?_; rintro e wz ⟨rfl, hb⟩; have HWW := step1 HW HZ hb; have HW := HWW.1; have HZ := HWW.2; clear HWW; clear hb) | (go_at_call 32; refine (right_nu Nx1.out).mono ?_; rintro e wz ⟨rfl, hb⟩; have HWW := step1 HW HZ hb; have HW := HWW.1; have HZ := HWW.2; clear HWW; clear hb))
        go_ret
        exact ⟨rfl, HW.out⟩

end Go.Proofs.YtdgmjmckeeeljaaGreatDoor
