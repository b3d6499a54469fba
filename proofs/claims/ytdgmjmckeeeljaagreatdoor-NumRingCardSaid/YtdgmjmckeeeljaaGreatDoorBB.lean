/- Contracts of num: Bits, and Same of the reference. No condition but that the slices read as digits. -/
import Derived.Lib.ItoaNum
import Derived.Test.YtdgmjmckeeeljaaGreatDoorAA
namespace Go.Proofs.YtdgmjmckeeeljaaGreatDoor
open Go.RowKit

/-- The number of binary digits. -/
def bitsB (neg : Bool) (ds : List Nat) : Nat := if ds = [] then 0 else if rightB neg ds = true then 32 * (ds.length - 1) + Lib.bitLen (ds.getD (ds.length - 1) 0) else 0

set_option maxRecDepth 10000 in
set_option maxHeartbeats 1000000 in
theorem bits_any {w : World} {s : Value} {ds : List Nat} (neg : Bool) (h : Sl w s ds) (hreach : ds.length ≤ 140737488351232) :
    Calls Tryz.prog 33 #[.agg #[.bool neg, s]] w fun e w' => e = .returned (.int .i64 (bitsB neg ds : Nat)) ∧ Below w.heap.size w w' := by
  obtain ⟨ao, cap, rfl⟩ := h.mk'
  have HR := Lib.hid (fun W (h : Sl W (.slice ao ds.length cap) ds) => right_any neg h hreach)
  obtain ⟨n, hn⟩ : ∃ n, n = ds.length := ⟨_, rfl⟩
  by_cases h0 : n = 0
  · subst h0
    obtain rfl : ds = [] := List.eq_nil_of_length_eq_zero hn.symm
    have e0 : bitsB neg [] = 0 := rfl
    rw [e0]
    clear e0 hn HR h
    go_enter Tryz.func33, Tryz.ntmps33
    go_wp2
    go_returns
    exact ⟨rfl, by go_grown⟩
  · obtain ⟨d, hd⟩ : ∃ d, d = ds.getD (n - 1) 0 := ⟨_, rfl⟩
    have e0 : bitsB neg ds = if rightB neg ds = true then 32 * (n - 1) + Lib.bitLen d else 0 := by
      unfold bitsB
      rw [if_neg (by intro h; apply h0; rw [hn, h]; rfl), hd, hn]
    rw [e0]
    have hlen := h.len
    obtain ⟨rb, hrb⟩ : ∃ rb, rb = rightB neg ds := ⟨_, rfl⟩
    have hlim : rb = true → n ≤ 256 := by
      intro hr; rw [hrb] at hr; unfold rightB at hr
      rw [if_neg (by intro h; apply h0; rw [hn, h]; rfl)] at hr
      simp at hr; omega
    rw [← hrb]
    rw [← hrb] at HR
    rw [← hn] at h HR hreach ⊢
    obtain ⟨b, off, rfl, hcap, hbs, hcl⟩ := h.at h0
    have hc := hcl (n - 1) (by omega)
    have hd4 : d < 4294967296 := by rw [hd]; rw [val_digit h.bd]; exact Nat.mod_lt _ (by omega)
    rw [← hd] at hc
    have hD := Lib.hid hd
    have hN := Lib.hid hn
    have H4 := Lib.hid hd4
    clear hd hn e0 hcl hrb hlen hd4
    have hz : ((n : Int) == 0) = false := by simp; omega
    obtain ⟨m, rfl⟩ : ∃ m, n = m + 1 := ⟨n - 1, by omega⟩
    have hm1 : m + 1 - 1 = m := by omega
    rw [hm1] at hc ⊢
    cases rb with
    | false =>
      go_enter Tryz.func33, Tryz.ntmps33
      go_wp2_with (first | (go_at_call 32; refine (HR.out _ (h.below (by go_grown))).mono ?_; rintro e w' ⟨rfl, rfl⟩))
      go_returns
      exact ⟨rfl, by go_grown⟩
    | true =>
      have hm := hlim rfl
      clear hlim
      obtain ⟨L, hL⟩ : ∃ L, L = Lib.bitLen d := ⟨_, rfl⟩
      have hL64 : L ≤ 64 := by rw [hL]; exact Lib.bitLen_le d 64 (by omega) (by have := H4.out; omega)
      have HB := Lib.hid (fun W => Tryz.bits_Len32 (d : Int) W (by omega) (by have := H4.out; omega))
      rw [show (d : Int).toNat = d from rfl, ← hL] at HB
      rw [← hL]
      clear hL
      go_enter Tryz.func33, Tryz.ntmps33
      go_wp2_with (first | (go_at_call 32; refine (HR.out _ (h.below (by go_grown))).mono ?_; rintro e w' ⟨rfl, rfl⟩) | (go_at_call 70; refine (HB.out _).mono ?_; rintro e w' ⟨rfl, rfl⟩))
      go_returns
      refine ⟨?_, by go_grown⟩
      congr 2

end Go.Proofs.YtdgmjmckeeeljaaGreatDoor
