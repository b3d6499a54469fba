/- Contract: addInt of wire. Condition: the number fits an int; the slice is one of the call's own. -/
import Derived.Test.YtafdjohgoopcmaaWA
namespace Go.Proofs.Ytafdjohgoopcmaa
open Go.RowKit

attribute [local go_sem ↓] appB_rw

/-- What holds in the loop. -/
structure AdI (B : Nat) (W : World) (T : List UInt8) (m : Nat) (bv : Value) (c : Nat) (wr : World) (ys : List UInt8) : Prop where
  len : m = ys.length
  tot : ys ++ leb c = T
  own : wr.ownsRow B 5 1 bv m (chars ys)
  bl : Below B W wr

theorem leb_ne (c : Nat) : 1 ≤ (leb c).length := by
  by_cases h : c < 128
  · rw [leb_small h]; simp
  · rw [leb_big h]; simp

set_option maxRecDepth 10000 in
theorem or128 (c : Nat) : binOp BinOp.or 5 (.int .u8 ((c : Int) % 256)) (.int .u8 128) = (pure (.int .u8 ((c : Int) % 128 + 128)) : Sem Value) := by
  have e : binOp BinOp.or 5 (.int .u8 ((c : Int) % 256)) (.int .u8 128) = (pure (.int .u8 (bits .or .u8 ((c : Int) % 256) 128)) : Sem Value) := rfl
  have h : ∀ x : Fin 256, x.val ||| 128 = x.val % 128 + 128 := by decide
  have h2 := u8_or_nat (c % 256) 128 (by omega) (by omega)
  rw [h ⟨c % 256, by omega⟩] at h2
  have e2 : ((c % 256 : Nat) : Int) = (c : Int) % 256 := by omega
  have e3 : ((c % 256 % 128 + 128 : Nat) : Int) = (c : Int) % 128 + 128 := by omega
  rw [e2] at h2
  rw [e, show (128 : Int) = ((128 : Nat) : Int) from rfl, h2]
  exact congrArg (fun z => (pure (.int .u8 z) : Sem Value)) e3

set_option maxRecDepth 10000 in
set_option maxHeartbeats 2000000 in
theorem addInt_any {B : Nat} {W : World} {v : Value} {xs : List UInt8} (h : W.ownsRow B 5 1 v xs.length (chars xs)) (hl : xs.length ≤ 100000) (hB : B ≤ W.heap.size) (n : Int) (h1 : -9223372036854775808 ≤ n) (h2 : n ≤ 9223372036854775807) :
    Calls Try.prog 49 #[v, .int .i64 n] W fun e w' => ∃ ao cap, e = .returned (.slice ao (xs ++ leb (codeN n)).length cap) ∧ w'.ownsRow B 5 1 (.slice ao (xs ++ leb (codeN n)).length cap) (xs ++ leb (codeN n)).length (chars (xs ++ leb (codeN n))) ∧ Below B W w' := by
  have hC := Lib.hid (fun w => code_any n h1 h2 w)
  have hlt := codeN_lt h1 h2
  have hl10 := leb_len10 hlt
  obtain ⟨T, hT⟩ : ∃ T, T = xs ++ leb (codeN n) := ⟨_, rfl⟩
  have hTl : T.length ≤ 100010 := by rw [hT]; simp; omega
  rw [← hT]
  obtain ⟨N, hN⟩ : ∃ N, N = T.length := ⟨_, rfl⟩
  rw [← hN] at hTl ⊢
  have HN := Lib.hid hN
  have H0 : Hid (AdI B W T xs.length v (codeN n) W xs) := Lib.hid ⟨rfl, hT.symm, h, Below.refl _ _⟩
  obtain ⟨ao0, cap0, rfl⟩ := slice_of_owns h
  obtain ⟨c0, hc0⟩ : ∃ c0, c0 = codeN n := ⟨_, rfl⟩
  rw [← hc0] at hC H0 hlt
  obtain ⟨m0, hm0⟩ : ∃ m0, m0 = xs.length := ⟨_, rfl⟩
  rw [← hm0] at H0 hl ⊢
  clear hc0 hT hl10 h hm0 hN
  go_enter Try.func49, Try.ntmps49
  go_wp2_with (go_at_call 52; refine (hC.out _).mono ?_; rintro e w1 ⟨rfl, rfl⟩)
  go_loopw [0, 5] (fun bv cv wr => ∃ (c m : Nat) (ys : List UInt8) (ao : Option Addr) (cap : Nat), c < 18446744073709551616 ∧ m ≤ 100010 ∧ bv = .slice ao m cap ∧ cv = .int .u64 (c : Nat) ∧ Hid (AdI B w1 T m bv c wr ys)) (fun _ cv _ => (intOf cv).toNat)
  case atStart => exact ⟨c0, m0, xs, ao0, cap0, hlt, by omega, rfl, rfl, H0⟩
  case round =>
    obtain ⟨c, m, ys, ao, cap, hc, hm, rfl, rfl, hJ⟩ := hrel
    have hBw : B ≤ wr.heap.size := Nat.le_trans hB hJ.out.bl.size
    by_cases hs : c < 128
    · obtain ⟨ao2, cap2, w2, hrun, hown, hb⟩ := push_byte hJ.out.own (by omega) hBw (UInt8.ofNat c) (c : Nat) (by simp; omega)
      have e1 : ys ++ [UInt8.ofNat c] = T := by rw [← leb_small hs]; exact hJ.out.tot
      have e2 : m + 1 = N := by rw [HN.out, ← e1, hJ.out.len]; simp
      rw [e1] at hown
      have HO := Lib.hid hown
      have HB := Lib.hid (hJ.out.bl.trans hb)
      clear hJ e1 hown hb
      go_wp2
      go_ret
      exact ⟨ao2, cap2, by rw [← e2]; rfl, by rw [← e2]; exact HO.out, HB.out⟩
    · obtain ⟨ao2, cap2, w2, hrun, hown, hb⟩ := push_byte hJ.out.own (by omega) hBw (UInt8.ofNat (c % 128 + 128)) ((c : Int) % 128 + 128) (by simp; omega)
      have hJ2 : AdI B w1 T (m + 1) (.slice ao2 (m + 1) cap2) (c / 128) w2 (ys ++ [UInt8.ofNat (c % 128 + 128)]) := ⟨by rw [hJ.out.len]; simp, by rw [← hJ.out.tot, leb_big hs]; simp, hown, hJ.out.bl.trans hb⟩
      have hml : m + 1 ≤ 100010 := by
        have := hJ2.tot
        have t2 : T.length = (ys ++ [UInt8.ofNat (c % 128 + 128)]).length + (leb (c / 128)).length := by rw [← this]; simp; omega
        have := hJ2.len
        have := HN.out
        omega
      have HJ2 := Lib.hid hJ2
      have hor : binOp BinOp.or 5 (.int .u8 ((c : Int) % 256)) (.int .u8 128) = (pure (.int .u8 ((c : Int) % 128 + 128)) : Sem Value) := or128 c
      clear hJ hJ2 hown hb
      go_wp2
      go_roundw
      case rel => exact ⟨c / 128, m + 1, _, ao2, cap2, by omega, hml, rfl, by go_num, HJ2⟩
      case measure => simp [intOf]; omega

end Go.Proofs.Ytafdjohgoopcmaa
