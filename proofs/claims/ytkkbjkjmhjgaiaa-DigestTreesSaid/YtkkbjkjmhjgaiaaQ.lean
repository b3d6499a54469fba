/- Contracts: levels of digest, as an iterator. Condition: at most 2^20 strings, of lengths that Go permits. -/
import Derived.Test.YtkkbjkjmhjgaiaaP
import Derived.Test.YtkkbjkjmhjgaiaaR
namespace Go.Proofs.Ytkkbjkjmhjgaiaa
open Go.RowKit Go.Shelf
attribute [local go_sem] Oper.semAt_some

theorem levels_any (ao : Option Addr) (n cap : Nat) (w : World) : Calls Try.prog 40 #[.slice ao n cap] w fun e w' => e = .returned (.func (.func 45) #[] #[.pointer (some ⟨w.heap.size, 0, none⟩)]) ∧ w' = w.alloc (.cells #[.slice ao n cap] 29) := by
  go_enter Try.func40, Try.ntmps40
  go_wp2
  go_ret
  exact ⟨rfl, rfl⟩

/-- How many elements a slice has. -/
def lenOf : Value → Nat
  | .slice _ n _ => n
  | _ => 0

set_option maxRecDepth 100000 in
set_option maxHeartbeats 2000000 in
theorem levels_counts (n : Nat) (hn1 : 1 ≤ n) (B m : Nat) (sv : Value) (l : List ByteArray) (hlen : l.length ≤ 1048576) (hsz : ∀ k, (l.getD k ⟨#[]⟩).size ≤ 140737488355000) (hm : wid l.length = 2 ^ m) (C : Nat → World → Prop)
    (h0C : ∀ W, C 0 W → W.cell? ⟨B, 0, none⟩ = some sv ∧ Sx W sv l) (hgC : ∀ k W W', C k W → Below W.heap.size W W' → C k W') :
    CountsL Fence.wide n Try.prog 45 #[.pointer (some ⟨B, 0, none⟩)] (m + 1) C (fun W v k => Dx W v (lvl k (leavesD (l.map by')))) := by
  intro y A W hA hY h0 hA0
  obtain ⟨L0, hL0⟩ : ∃ L0, L0 = leavesD (l.map by') := ⟨_, rfl⟩
  have hl0 : L0.length = 2 ^ m := by rw [hL0, leavesD_len, List.length_map, hm]
  have hm20 : 2 ^ m ≤ 1048576 := by rw [← hm]; exact (wid_le hlen).2.1
  rw [← hL0] at hY
  obtain ⟨hb0, hs0⟩ := h0C W h0
  have H46 : Hid (∀ k W, Sx W sv l → CallsIn Fence.wide k Try.prog 46 #[sv] W fun e w' => ∃ b off cap, e = .returned (.slice (some ⟨b, off, none⟩) (2 ^ m) cap) ∧ Dx w' (.slice (some ⟨b, off, none⟩) (2 ^ m) cap) (lvl 0 L0) ∧ Below W.heap.size W w') := fun k W hW => callsIn_wide.2 ((leaves_any hW hlen hsz).mono fun e w' ⟨v', e1, e2, e3⟩ => by
    rw [← hL0] at e2
    have e2' := e2
    obtain ⟨ha, b, off, cap, cs, fr, rfl, _⟩ := e2
    rw [hl0] at e1 e2'
    exact ⟨b, off, cap, e1, e2', e3⟩)
  have H47 : Hid (∀ k j W b off N cap, Dx W (.slice (some ⟨b, off, none⟩) N cap) (lvl j L0) → j < m → N = 2 ^ (m - j) → CallsIn Fence.wide k Try.prog 47 #[.slice (some ⟨b, off, none⟩) N cap] W fun e w' => ∃ b off cap, e = .returned (.slice (some ⟨b, off, none⟩) (2 ^ (m - (j + 1))) cap) ∧ Dx w' (.slice (some ⟨b, off, none⟩) (2 ^ (m - (j + 1))) cap) (lvl (j + 1) L0) ∧ Below W.heap.size W w') := fun k j W b off N cap hW hj hN => by
    have hp : 2 ^ (m - j) = 2 * 2 ^ (m - (j + 1)) := by rw [show m - j = m - (j + 1) + 1 by omega, Nat.pow_succ, Nat.mul_comm]
    have hll : (lvl j L0).length = 2 * 2 ^ (m - (j + 1)) := by rw [lvl_len j m L0 hl0 (by omega), hp]
    have hle : 2 ^ (m - (j + 1)) ≤ 1048576 := Nat.le_trans (Nat.pow_le_pow_right (by omega) (by omega)) hm20
    refine callsIn_wide.2 ((halved_any hW (2 ^ (m - (j + 1))) hll hle).mono fun e w' ⟨v', e1, e2, e3⟩ => ?_)
    rw [← lvl_succ] at e2
    have e2' := e2
    have hl1 := lvl_len (j + 1) m L0 hl0 (by omega)
    obtain ⟨ha, b, off, cap, cs, fr, rfl, _⟩ := e2
    rw [hl1] at e1 e2'
    exact ⟨b, off, cap, e1, e2', e3⟩
  have HG := Lib.hid hgC
  have HA := Lib.hid hA
  have HY := Lib.hid hY
  have HC0 := Lib.hid h0
  have HA0 := Lib.hid hA0
  have HS0 := Lib.hid hs0
  have HM20 := Lib.hid hm20
  clear hgC hA hY h0 hA0 hs0 h0C hL0 hl0 hm hm20 hlen hsz
  have w46 : Fence.wide.fn 46 := trivial
  have w47 : Fence.wide.fn 47 := trivial
  refine callsIn_of_wp Try.func45 rfl trivial ?_ rfl
  simp only [Try.ntmps45, List.size_toArray, List.length_cons, List.length_nil, Nat.reduceAdd, Nat.reduceSub, Array.replicate_succ, Array.replicate_zero, List.push_toArray, List.append_toArray, List.nil_append, List.cons_append]
  gi_wp2_with (gi_at_call 46; refine (H46.out _ _ HS0.out).mono ?_; rintro e w1 ⟨b, off, cap, rfl, hx, hb⟩; have HX := Lib.hid hx; have HC := Lib.hid (HG.out _ _ _ HC0.out hb); have HAA := Lib.hid (HA.out _ _ HA0.out hb); clear hx hb)
  gi_loopw [3] (fun v wr => ∃ k b off cap N, k ≤ m ∧ N = 2 ^ (m - k) ∧ v = .slice (some ⟨b, off, none⟩) N cap ∧ Hid (C k wr) ∧ Hid (A wr) ∧ Hid (Dx wr (.slice (some ⟨b, off, none⟩) N cap) (lvl k L0))) (fun v _ => lenOf v)
  case atStart => exact ⟨0, b, off, cap, 2 ^ m, by omega, by simp, rfl, HC, HAA, HX⟩
  case round =>
    obtain ⟨k, b, off, cap, N, hk, hN, rfl, hc, ha, hx⟩ := hrel
    obtain ⟨fn, tmps, assign, body, hy, hR⟩ := HY.out k _ wr (by omega) hc.out hx.out ha.out
    have HR := Lib.hid hR
    have HN := Lib.hid hN
    clear hR hc ha hx hN
    gi_wp2
    refine HR.out.mono ?_
    rintro e W3 ⟨rfl, hC3, hX3, hA3⟩
    have HC3 := Lib.hid hC3
    have HX3 := Lib.hid hX3
    have HA3 := Lib.hid hA3
    clear hC3 hX3 hA3
    by_cases hkm : k = m
    · have hN1 : N = 1 := by rw [HN.out, hkm, Nat.sub_self]
      subst hN1 hkm
      gi_wp2
      go_end0
      exact ⟨⟨_, rfl⟩, HC3.out, HA3.out⟩
    · have hp : 2 ^ (m - k) = 2 * 2 ^ (m - (k + 1)) := by rw [show m - k = m - (k + 1) + 1 by omega, Nat.pow_succ, Nat.mul_comm]
      have h1 : 1 ≤ 2 ^ (m - (k + 1)) := Nat.one_le_two_pow
      have hN2 : 1 < N := by rw [HN.out]; omega
      have hhalf : 2 ^ (m - (k + 1)) < N := by rw [HN.out]; omega
      have HH := Lib.hid hhalf
      clear hp h1 hhalf
      have hkm2 : k < m := by omega
      gi_wp2_with (gi_at_call 47; refine (H47.out _ k _ _ _ _ _ HX3.out hkm2 HN.out).mono ?_; rintro e w4 ⟨b', off', cap', rfl, hx, hb⟩; have HX4 := Lib.hid hx; have HC4 := Lib.hid (HG.out _ _ _ HC3.out hb); have HA4 := Lib.hid (HA.out _ _ HA3.out hb); clear hx hb)
      go_roundw
      case rel => exact ⟨k + 1, b', off', cap', _, by omega, rfl, rfl, HC4, HA4, HX4⟩
      case measure => exact HH.out

end Go.Proofs.Ytkkbjkjmhjgaiaa
