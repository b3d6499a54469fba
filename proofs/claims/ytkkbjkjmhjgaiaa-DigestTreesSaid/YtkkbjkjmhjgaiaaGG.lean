/- Contract of the law: list. No condition but that the slice reads as strings of lengths that Go permits. -/
import Derived.BigRegion
import Derived.Test.YtkkbjkjmhjgaiaaCC
namespace Go.Proofs.Ytkkbjkjmhjgaiaa
open Go.RowKit

/-- Strings as cells. -/
def sv (l : List ByteArray) : List Value := l.map Value.string
theorem sv_append (a b : List ByteArray) : sv (a ++ b) = sv a ++ sv b := by simp [sv]

theorem Sx.of_sv {W : World} {B n : Nat} {v : Value} {l : List ByteArray} (h : W.ownsRow B 9 1 v n (sv l)) : Sx W v l ∧ l.length = n := by
  obtain ⟨h1, h2⟩ := h
  have hn : l.length = n := by simpa [sv] using h1
  refine ⟨?_, hn⟩
  rcases h2 with ⟨rfl, rfl⟩ | ⟨g, cap, cur, rfl, _, hg, hc, hm, hs, ht⟩
  · have : l = [] := List.eq_nil_of_length_eq_zero hn
    subst this
    exact Sx.nil _ _ _
  · refine ⟨by rw [hn]; omega, .inr ⟨g, 0, cap, by rw [hn], by rw [hn]; exact hc, (Array.getElem?_eq_some_iff.1 hg).1, fun j hj => ?_⟩⟩
    rw [cell_of_row _ _ _ _ _ _ hg, Nat.zero_add, ← Array.getElem?_toList]
    have e : (cur.toList.take (n * 1))[j]? = (sv l)[j]? := by rw [ht]
    rw [List.getElem?_take_of_lt (by omega)] at e
    rw [e]
    simp [sv, List.getD, hj]

/-- What list returns. -/
def cutL (l : List ByteArray) : List ByteArray := (l.take 20).map fun s => cutS s 30

theorem cutL_len (l : List ByteArray) : (cutL l).length = min l.length 20 := by simp [cutL]; omega
theorem cutL_size (l : List ByteArray) : ∀ s ∈ cutL l, s.size ≤ 30 := by
  intro s hs
  simp only [cutL, List.mem_map] at hs
  obtain ⟨t, _, rfl⟩ := hs
  rw [cutS_size]; omega

theorem cutL_snoc {l : List ByteArray} {k : Nat} (hk : k < l.length) : (l.take (k + 1)).map (fun s => cutS s 30) = (l.take k).map (fun s => cutS s 30) ++ [cutS (l.getD k ⟨#[]⟩) 30] := by
  rw [List.take_succ_eq_append_getElem hk, List.map_append]
  simp [List.getD, hk]

structure LsI (w : World) (l : List ByteArray) (k : Nat) (pv : Value) (wr : World) : Prop where
  own : wr.ownsRow w.heap.size 9 1 pv k (sv ((l.take k).map fun s => cutS s 30))
  bl : Below w.heap.size w wr

attribute [local go_sem ↓] appX_rw

set_option maxRecDepth 10000 in
set_option maxHeartbeats 4000000 in
theorem list_any {w : World} {v : Value} {l : List ByteArray} (hX : Sx w v l) : Calls Try.prog 21 #[v] w fun e w' => ∃ ao n cap, e = .returned (.slice ao n cap) ∧ w'.ownsRow w.heap.size 9 1 (.slice ao n cap) (cutL l).length (sv (cutL l)) ∧ Below w.heap.size w w' := by
  obtain ⟨ao, cap, rfl⟩ := hX.mk'
  obtain ⟨i0, hii, hz0, hz1, hz2⟩ := info_parts Try.info9
  have hlen := hX.len
  unfold maxLen at hlen
  obtain ⟨n, hn⟩ : ∃ n, n = l.length := ⟨_, rfl⟩
  rw [← hn] at hlen ⊢
  have HX := Lib.hid hX
  have HN := Lib.hid hn
  have HI0 : Hid (LsI w l 0 (.slice none 0 0) w) := Lib.hid ⟨⟨rfl, .inl ⟨rfl, rfl⟩⟩, Below.refl _ _⟩
  clear hX hn
  go_enter Try.func21, Try.ntmps21
  go_wp2
  go_loopw [3, 4] (fun pv kv wr => ∃ (k : Nat) (ao2 : Option Addr) (pn pc : Nat), k ≤ n ∧ k ≤ 20 ∧ kv = .int .i64 (k : Nat) ∧ pv = .slice ao2 pn pc ∧ Hid (LsI w l k (.slice ao2 pn pc) wr)) (fun _ kv _ => n - (intOf kv).toNat)
  case atStart => exact ⟨0, _, _, _, by omega, by omega, rfl, rfl, HI0⟩
  case round =>
    obtain ⟨k, ao2, pn, pc, hk, hk20, rfl, rfl, hJ⟩ := hrel
    by_cases hstop : k = n ∨ k = 20
    · have hres : (l.take k).map (fun s => cutS s 30) = cutL l := by
        unfold cutL
        rcases hstop with h | h
        · rw [List.take_of_length_le (by rw [← HN.out]; omega), List.take_of_length_le (by rw [← HN.out]; omega)]
        · rw [h]
      have hlen2 : k = (cutL l).length := by rw [cutL_len, ← HN.out]; omega
      have hown := hJ.out.own
      rw [hres, hlen2] at hown
      have HO := Lib.hid hown
      have HBL := Lib.hid hJ.out.bl
      clear hres hlen2 hown hJ
      rcases hstop with rfl | rfl
      · go_wp2
        go_ret
        exact ⟨_, _, _, rfl, HO.out, HBL.out⟩
      · by_cases h20 : (20 : Nat) < n
        · go_wp2
          go_ret
          exact ⟨_, _, _, rfl, HO.out, HBL.out⟩
        · have hn20 : n = 20 := by omega
          subst hn20
          go_wp2
          go_ret
          exact ⟨_, _, _, rfl, HO.out, HBL.out⟩
    · have hkn : k < n := by omega
      have hk2 : k < 20 := by omega
      rcases HX.out.is with ⟨rfl, _⟩ | ⟨b, off, cap', hv, hcap, hlt, hcl⟩
      · have := HN.out
        simp at this
        omega
      · have hkl : k < l.length := by rw [← HN.out]; exact hkn
        have hc1 := hcl k hkl
        injection hv with hv1 hv2 hv3
        subst hv1 hv3
        have hsn := cutL_snoc hkl
        obtain ⟨s, hsv⟩ : ∃ s, s = l.getD k ⟨#[]⟩ := ⟨_, rfl⟩
        rw [← hsv] at hc1 hsn
        have hc : wr.cell? ⟨b, off + k, none⟩ = some (.string s) := (hJ.out.bl.cell (p := ⟨b, off + k, none⟩) hlt).trans hc1
        have hs0 := hJ.out.bl.size
        obtain ⟨q, hq⟩ : ∃ q : ByteArray, q = s.extract 0 (min (s.size : Int) 30).toNat := ⟨_, rfl⟩
        have hq2 : q = cutS s 30 := by
          rw [hq]; unfold cutS
          rw [show (min (s.size : Int) 30).toNat = min s.size 30 by omega]
        have hc3 : (wr.alloc (.cells #[.string q] 9)).drew.cell? ⟨b, off + k, none⟩ = some (.string s) := cell_later ((show Below wr.heap.size wr wr.drew from ⟨rfl, rfl, rfl, Nat.le_refl _, fun _ _ => rfl⟩).alloc (Nat.le_refl _) _) hc
        have hown0 : (wr.alloc (.cells #[.string q] 9)).drew.ownsRow w.heap.size 9 1 (.slice ao2 pn pc) k (sv ((l.take k).map fun s => cutS s 30)) := owns_kept hJ.out.own (KeptC.of_below ((show Below wr.heap.size wr wr.drew from ⟨rfl, rfl, rfl, Nat.le_refl _, fun _ _ => rfl⟩).alloc (Nat.le_refl _) _))
        obtain ⟨v', w3, hrun, hown', hgrow, hnil⟩ := run_append_own (P := Try.prog) (wr.alloc (.cells #[.string q] 9)).drew w.heap.size 29 29 9 i0 (.string ⟨#[]⟩) 1 16 Try.underlying29 hii hz0 hz1 hz2 rfl (by decide) (.slice ao2 pn pc) k _ hown0 ⟨wr.heap.size, 0, none⟩ 1 1 [.string q] rfl (cell_one_new wr.drew (.string q) 9) (fun x hx => by simp at hx; subst hx; rfl) (by unfold maxLen; omega) (by omega) (by simp; omega)
        rw [appX_rw] at hrun
        obtain ⟨ao3, n3, cap3, rfl⟩ := slice_of_owns hown'
        have hAS := append_step (W := wr) (w1 := wr.drew) (B := w.heap.size) (o := .cells #[.string q] 9) ⟨rfl, rfl, rfl, Nat.le_refl _, fun _ _ => rfl⟩ hs0 (owns_kept hJ.out.own (fun g o h _ => h)) hgrow
        have hnext : LsI w l (k + 1) (.slice ao3 n3 cap3) w3 := ⟨by rw [hsn, sv_append, ← hq2]; exact hown', hJ.out.bl.trans hAS.2.1⟩
        have HNX := Lib.hid hnext
        rw [hq] at hrun hc3
        clear hnext hAS hnil hgrow hown' hown0 hq2 hq hsn hsv hc1 hcl hv2 hJ hkl
        go_wp2_with fail
        go_region
        go_wp2
        exact ⟨⟨k + 1, _, _, _, by omega, by omega, by go_num, rfl, HNX⟩, by simp [intOf]; omega⟩

end Go.Proofs.Ytkkbjkjmhjgaiaa
