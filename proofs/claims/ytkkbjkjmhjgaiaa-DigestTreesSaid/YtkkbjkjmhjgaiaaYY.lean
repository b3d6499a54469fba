/- Contracts of the reference: Root, Prove. Conditions: at most 40 strings, of lengths that Go permits. -/
import Derived.Test.YtkkbjkjmhjgaiaaXX
namespace Go.Proofs.Ytkkbjkjmhjgaiaa
open Go.RowKit

theorem headD_getD (l : List Dg) : l.headD [] = l.getD 0 [] := by cases l <;> rfl

theorem pow_half {m k : Nat} (hk : k < m) : 2 ^ (m - k) / 2 = 2 ^ (m - (k + 1)) := by
  rw [show m - k = m - (k + 1) + 1 by omega, Nat.pow_succ]
  omega
theorem pow_big {m k : Nat} (hk : k < m) : 2 ≤ 2 ^ (m - k) ∧ 2 ^ (m - k) % 2 = 0 := by
  rw [show m - k = m - (k + 1) + 1 by omega, Nat.pow_succ]
  have := Nat.one_le_two_pow (n := m - (k + 1))
  omega

/-- The level k, in memory. -/
structure LvlI (w : World) (v : Value) (L0 : List Dg) (m k : Nat) (wr : World) : Prop where
  sx : Sx wr v ((lvl k L0).map sA)
  bl : Below w.heap.size w wr

theorem above_S {w : World} {v : Value} {L0 : List Dg} {m k : Nat} (hX : Sx w v ((lvl k L0).map sA)) (h8 : All8 L0) (hl : L0.length = 2 ^ m) (hm : m ≤ 6) (hk : k < m) :
    Calls Try.prog 39 #[v] w fun e w' => ∃ ao cap, e = .returned (.slice ao (2 ^ (m - (k + 1))) cap) ∧ Sx w' (.slice ao (2 ^ (m - (k + 1))) cap) ((lvl (k + 1) L0).map sA) ∧ Below w.heap.size w w' := by
  have hlen := lvl_len k m L0 hl (by omega)
  have hb : 2 ^ (m - k) ≤ 64 := Nat.le_trans (Nat.pow_le_pow_right (by omega) (show m - k ≤ 6 by omega)) (by decide)
  refine (above_any hX (all8_lvl k L0 h8) (by omega) (by rw [hlen]; exact (pow_big hk).2)).mono fun e w' ⟨ao, n, cap, h1, h2, h3⟩ => ?_
  have hn := owns_len h2
  rw [hlen, pow_half hk] at hn
  subst hn
  exact ⟨ao, cap, h1, by rw [lvl_succ]; exact (Sx.of_sv h2).1, h3⟩

theorem lowest_S {w : World} {v : Value} {l : List ByteArray} (hX : Sx w v l) (hlen : l.length ≤ 40) (hsz : ∀ k, (l.getD k ⟨#[]⟩).size ≤ 1000) {m : Nat} (hm : wid l.length = 2 ^ m) :
    Calls Try.prog 38 #[v] w fun e w' => ∃ ao cap, e = .returned (.slice ao (2 ^ m) cap) ∧ Sx w' (.slice ao (2 ^ m) cap) ((lvl 0 (leavesD (l.map by'))).map sA) ∧ Below w.heap.size w w' :=
  (lowest_any hX hlen hsz).mono fun e w' ⟨ao, n, cap, h1, h2, h3⟩ => by
    have hn := owns_len h2
    rw [hm] at hn
    subst hn
    exact ⟨ao, cap, h1, (Sx.of_sv h2).1, h3⟩

set_option maxRecDepth 10000 in
set_option maxHeartbeats 1000000 in
theorem rRoot_any {w : World} {v : Value} {l : List ByteArray} (hX : Sx w v l) (hlen : l.length ≤ 40) (hsz : ∀ k, (l.getD k ⟨#[]⟩).size ≤ 1000) {m : Nat} (hm : wid l.length = 2 ^ m) (hm6 : m ≤ 6) :
    Calls Try.prog 22 #[v] w fun e w' => e = .returned (.string (rootS l m)) ∧ Below w.heap.size w w' := by
  have HLO := Lib.hid (lowest_S hX hlen hsz hm)
  obtain ⟨L0, hL0⟩ : ∃ L0, L0 = leavesD (l.map by') := ⟨_, rfl⟩
  have hl0 : L0.length = 2 ^ m := by rw [hL0, leavesD_len, List.length_map, hm]
  have h80 : All8 L0 := by rw [hL0]; exact all8_leaves _
  have hr : rootS l m = sA ((lvl m L0).getD 0 []) := by rw [rootS, ← hL0, rootD_lvl, headD_getD]
  rw [← hL0] at HLO
  rw [hr]
  have HAB := Lib.hid (fun W v k (h : Sx W v ((lvl k L0).map sA)) (hk : k < m) => above_S (m := m) h h80 hl0 hm6 hk)
  have HLN : Hid (∀ k, k ≤ m → (lvl k L0).length = 2 ^ (m - k)) := fun k hk => lvl_len k m L0 hl0 hk
  clear hX hsz hm hL0 hr hl0 h80 hlen
  go_enter Try.func22, Try.ntmps22
  go_wp2_with (go_at_call 38; refine HLO.out.mono ?_; rintro e w1 ⟨ao1, cap1, rfl, hsx, hb⟩)
  have HI0 : Hid (LvlI w (.slice ao1 (2 ^ m) cap1) L0 m 0 w1) := Lib.hid ⟨hsx, hb⟩
  clear hsx hb
  obtain ⟨M, hM⟩ : ∃ M : Nat, M = 2 ^ m := ⟨_, rfl⟩
  have HM := Lib.hid hM
  rw [← hM] at HI0 ⊢
  clear hM HLO
  go_loopw [3] (fun pv wr => ∃ (k N : Nat) (ao2 : Option Addr) (pc : Nat), k ≤ m ∧ Hid (N = 2 ^ (m - k)) ∧ pv = .slice ao2 N pc ∧ Hid (LvlI w (.slice ao2 N pc) L0 m k wr)) (fun pv _ => lenV pv)
  case atStart => exact ⟨0, M, _, _, by omega, Lib.hid (by rw [Nat.sub_zero]; exact HM.out), rfl, HI0⟩
  case round =>
    obtain ⟨k, N, ao2, pc, hk, hN, rfl, hJ⟩ := hrel
    clear HI0
    by_cases hkm : k = m
    · have hN1 : N = 1 := by rw [hN.out, hkm, Nat.sub_self]
      subst hN1
      have hl1 := HLN.out k hk
      rw [hkm, Nat.sub_self, Nat.pow_zero] at hl1
      have hsx := hJ.out.sx
      rw [hkm] at hsx
      obtain ⟨b, off, cap', hv, hlt, hcl⟩ := hsx.at (fun e => by have h := congrArg List.length e; rw [List.length_map, hl1, List.length_nil] at h; omega)
      injection hv with hv1 hv2 hv3
      subst hv1 hv3
      have hc := hcl 0 (by rw [List.length_map, hl1]; omega)
      rw [sA_getD (by omega), Nat.add_zero] at hc
      have HBL := Lib.hid hJ.out.bl
      clear hsx hcl hv2 hlt hJ hN hl1
      go_wp2
      go_ret
      exact ⟨rfl, HBL.out⟩
    · have hk2 : k < m := by omega
      have hN2 : 2 ≤ N := by rw [hN.out]; exact (pow_big hk2).1
      have HA := Lib.hid (HAB.out wr _ k hJ.out.sx hk2)
      obtain ⟨N2, hN3⟩ : ∃ N2, N2 = 2 ^ (m - (k + 1)) := ⟨_, rfl⟩
      have hlt2 : N2 < N := by
        have := pow_half hk2
        rw [← hN.out, ← hN3] at this
        omega
      have HN3 := Lib.hid hN3
      rw [← hN3] at HA
      clear hN3
      go_wp2_with (go_at_call 39; refine HA.out.mono ?_; rintro e w2 ⟨ao3, cap3, rfl, hsx, hb⟩)
      exact ⟨⟨k + 1, N2, _, _, by omega, HN3, rfl, Lib.hid ⟨hsx, hJ.out.bl.trans (hb.mono hJ.out.bl.size)⟩⟩, by simp only [lenV]; omega⟩

end Go.Proofs.Ytkkbjkjmhjgaiaa
