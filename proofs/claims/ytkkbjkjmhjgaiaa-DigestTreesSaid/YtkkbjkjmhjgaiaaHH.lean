/- Contract of the reference: Up. Conditions: a digest, at most 20 elements, each of 8 bytes, a number below 2^elements; or a number not below it. -/
import Derived.Test.YtkkbjkjmhjgaiaaCC
namespace Go.Proofs.Ytkkbjkjmhjgaiaa
open Go.RowKit

/-- What is left when j elements are done. -/
structure UpI (w : World) (ps : List ByteArray) (R : Dg) (j x : Nat) (ds : ByteArray) (wr : World) : Prop where
  up : upD (by' ds) x ((ps.drop j).map by') = R
  sz : ds.size = 8
  bl : Below w.heap.size w wr

set_option maxRecDepth 10000 in
set_option maxHeartbeats 400000 in
theorem up_far {w : World} (d : ByteArray) (i : Nat) (ao : Option Addr) (n cap : Nat) (h20 : n ≤ 20) (h : 2 ^ n ≤ i) : Calls Try.prog 29 #[.string d, .int .i64 i, .slice ao n cap] w fun e w' => e = .returned (.tuple #[.string ⟨#[]⟩, .bool false]) ∧ Below w.heap.size w w' := by
  have hp : 2 ^ n ≤ 1048576 := Nat.le_trans (Nat.pow_le_pow_right (by omega) h20) (by decide)
  obtain ⟨N, hN⟩ : ∃ N : Nat, N = 2 ^ n := ⟨_, rfl⟩
  have hw := wrap_pow n N hN (by omega)
  rw [← hN] at h hp
  clear hN
  go_enter Try.func29, Try.ntmps29
  go_wp2
  go_returns
  exact ⟨rfl, by go_grown⟩

set_option maxRecDepth 10000 in
set_option maxHeartbeats 2000000 in
theorem up_in {w : World} {pv : Value} {ps : List ByteArray} (hX : Sx w pv ps) (h20 : ps.length ≤ 20) (i : Nat) (hi : i < 2 ^ ps.length) (d : ByteArray) (hd : d.size = 8) (h8 : ∀ k, k < ps.length → (ps.getD k ⟨#[]⟩).size = 8) :
    Calls Try.prog 29 #[.string d, .int .i64 i, pv] w fun e w' => e = .returned (.tuple #[.string (sA (upD (by' d) i (ps.map by'))), .bool true]) ∧ Below w.heap.size w w' := by
  obtain ⟨ao, cap, rfl⟩ := hX.mk'
  obtain ⟨n, hn⟩ : ∃ n, n = ps.length := ⟨_, rfl⟩
  rw [← hn] at h20 hi ⊢
  obtain ⟨N, hN⟩ : ∃ N : Nat, N = 2 ^ n := ⟨_, rfl⟩
  have hNb : N ≤ 1048576 := by rw [hN]; exact Nat.le_trans (Nat.pow_le_pow_right (by omega) h20) (by decide)
  have hw := wrap_pow n N hN hNb
  rw [← hN] at hi
  obtain ⟨R, hR⟩ : ∃ R, R = upD (by' d) i (ps.map by') := ⟨_, rfl⟩
  rw [← hR]
  have hI0 : Hid (UpI w ps R 0 i d w) := Lib.hid ⟨by rw [List.drop_zero]; exact hR.symm, hd, Below.refl _ _⟩
  have HX := Lib.hid hX
  have HN := Lib.hid hn
  have H8 := Lib.hid h8
  have HP := Lib.hid pair_any
  clear hR hX hn h8 hN hd
  have hib : i ≤ 1048576 := by omega
  go_enter Try.func29, Try.ntmps29
  go_wp2
  rw [show decide (N ≤ i) = false from decide_eq_false (by omega), Bool.or_false]
  go_loopw [0, 1, 8] (fun dv xv jv wr => ∃ (j x : Nat) (ds : ByteArray), j ≤ n ∧ x ≤ 1048576 ∧ dv = .string ds ∧ xv = .int .i64 (x : Nat) ∧ jv = .int .i64 (j : Nat) ∧ Hid (UpI w ps R j x ds wr)) (fun _ _ jv _ => n - (intOf jv).toNat)
  case atStart => exact ⟨0, i, d, by omega, by omega, rfl, rfl, rfl, hI0⟩
  case round =>
    obtain ⟨j, x, ds, hj, hxb, rfl, rfl, rfl, hJ⟩ := hrel
    by_cases hjn : j = n
    · subst hjn
      have hdR : ds = sA R := by
        have h := hJ.out.up
        rw [List.drop_of_length_le (by rw [← HN.out]; omega)] at h
        rw [← h]
        exact (sA_by ds).symm
      have HBJ := Lib.hid hJ.out.bl
      clear hJ
      subst hdR
      go_wp2
      go_returns
      exact ⟨rfl, HBJ.out⟩
    · have hjn2 : j < n := by omega
      rcases HX.out.is with ⟨rfl, _⟩ | ⟨b, off, cap', hv, hcap, hlt, hcl⟩
      · have := HN.out
        simp at this
        omega
      · have hjl : j < ps.length := by rw [← HN.out]; exact hjn2
        have hc1 := hcl j hjl
        injection hv with hv1 hv2 hv3
        subst hv1 hv3
        have hs8 := H8.out j hjl
        have hdrop : (ps.drop j).map by' = by' (ps.getD j ⟨#[]⟩) :: (ps.drop (j + 1)).map by' := by
          rw [List.drop_eq_getElem_cons hjl, List.map_cons, show ps.getD j ⟨#[]⟩ = ps[j] by simp [List.getD, hjl]]
        obtain ⟨s, hsv⟩ : ∃ s, s = ps.getD j ⟨#[]⟩ := ⟨_, rfl⟩
        rw [← hsv] at hc1 hs8 hdrop
        have hc : wr.cell? ⟨b, off + j, none⟩ = some (.string s) := (hJ.out.bl.cell (p := ⟨b, off + j, none⟩) hlt).trans hc1
        have hdR := hJ.out.up
        have hd8 := hJ.out.sz
        have HBJ := Lib.hid hJ.out.bl
        rw [hdrop] at hdR
        clear hc1 hcl hv2 hJ hjl hsv hdrop
        by_cases hx2 : x % 2 = 0
        · obtain ⟨dn, hdn⟩ : ∃ dn, dn = sA (nodeD (by' ds) (by' s)) := ⟨_, rfl⟩
          have HPP := Lib.hid (fun W => HP.out ds s (by omega) (by omega) W)
          rw [← hdn] at HPP
          have hup : UpI w ps R (j + 1) (x / 2) dn wr := ⟨by
            rw [← hdR, hdn, by_sA]
            show _ = upD (if x % 2 = 0 then nodeD (by' ds) (by' s) else nodeD (by' s) (by' ds)) (x / 2) _
            rw [if_pos hx2], by rw [hdn, sA_size]; exact dig_len _, HBJ.out⟩
          have HUP := Lib.hid hup
          clear hup hdn hdR
          go_wp2_with (go_at_call 44; refine (HPP.out _).mono ?_; rintro e w2 ⟨rfl, hb⟩)
          go_roundw
          case rel => exact ⟨j + 1, x / 2, dn, by omega, by omega, rfl, by go_num, by go_num, Lib.hid ⟨HUP.out.up, HUP.out.sz, HBJ.out.trans (hb.mono HBJ.out.size)⟩⟩
          case measure => simp [intOf]; omega
        · obtain ⟨dn, hdn⟩ : ∃ dn, dn = sA (nodeD (by' s) (by' ds)) := ⟨_, rfl⟩
          have HPP := Lib.hid (fun W => HP.out s ds (by omega) (by omega) W)
          rw [← hdn] at HPP
          have hup : UpI w ps R (j + 1) (x / 2) dn wr := ⟨by
            rw [← hdR, hdn, by_sA]
            show _ = upD (if x % 2 = 0 then nodeD (by' ds) (by' s) else nodeD (by' s) (by' ds)) (x / 2) _
            rw [if_neg hx2], by rw [hdn, sA_size]; exact dig_len _, HBJ.out⟩
          have HUP := Lib.hid hup
          clear hup hdn hdR
          go_wp2_with (go_at_call 44; refine (HPP.out _).mono ?_; rintro e w2 ⟨rfl, hb⟩)
          go_roundw
          case rel => exact ⟨j + 1, x / 2, dn, by omega, by omega, rfl, by go_num, by go_num, Lib.hid ⟨HUP.out.up, HUP.out.sz, HBJ.out.trans (hb.mono HBJ.out.size)⟩⟩
          case measure => simp [intOf]; omega

end Go.Proofs.Ytkkbjkjmhjgaiaa
