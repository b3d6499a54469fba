/- Contracts of the reference: Prove (no such element), Up (an element of another length; more than 20 elements; no number that fits), Verify. -/
import Derived.Test.YtkkbjkjmhjgaiaaYY
namespace Go.Proofs.Ytkkbjkjmhjgaiaa
open Go.RowKit

set_option maxRecDepth 10000 in
set_option maxHeartbeats 400000 in
theorem rProve_no {w : World} (ao : Option Addr) (n cap : Nat) (i : Int) (h : i < 0 ∨ (n : Int) ≤ i) : Calls Try.prog 25 #[.slice ao n cap, .int .i64 i] w fun e w' => e = .returned (.tuple #[.slice none 0 0, .bool false]) ∧ Below w.heap.size w w' := by
  by_cases h0 : i < 0
  · clear h
    go_enter Try.func25, Try.ntmps25
    go_wp2
    go_returns
    exact ⟨rfl, by go_grown⟩
  · have h1 : (n : Int) ≤ i := by omega
    have h2 : 0 ≤ i := by omega
    clear h h0
    go_enter Try.func25, Try.ntmps25
    go_wp2
    go_returns
    exact ⟨rfl, by go_grown⟩

set_option maxRecDepth 10000 in
set_option maxHeartbeats 400000 in
theorem up_out {w : World} (d : ByteArray) (i : Int) (ao : Option Addr) (n cap : Nat) (h : 20 < n ∨ i < 0) : Calls Try.prog 29 #[.string d, .int .i64 i, .slice ao n cap] w fun e w' => e = .returned (.tuple #[.string ⟨#[]⟩, .bool false]) ∧ Below w.heap.size w w' := by
  by_cases h1 : 20 < n
  · clear h
    go_enter Try.func29, Try.ntmps29
    go_wp2
    go_returns
    exact ⟨rfl, by go_grown⟩
  · have h0 : i < 0 := by omega
    clear h
    go_enter Try.func29, Try.ntmps29
    go_wp2
    go_returns
    exact ⟨rfl, by go_grown⟩

structure UbI (w : World) (ps : List ByteArray) (j : Nat) (ds : ByteArray) (wr : World) : Prop where
  sz : ds.size = 8
  bl : Below w.heap.size w wr
  all : ∀ k, k < j → (ps.getD k ⟨#[]⟩).size = 8

set_option maxRecDepth 10000 in
set_option maxHeartbeats 2000000 in
theorem up_bad {w : World} {pv : Value} {ps : List ByteArray} (hX : Sx w pv ps) (h20 : ps.length ≤ 20) (i : Nat) (hi : i < 2 ^ ps.length) (d : ByteArray) (hd : d.size = 8) (hbad : ¬ ∀ s ∈ ps, s.size = 8) (hsz : ∀ k, (ps.getD k ⟨#[]⟩).size ≤ 9223372036854775807) :
    Calls Try.prog 29 #[.string d, .int .i64 i, pv] w fun e w' => e = .returned (.tuple #[.string ⟨#[]⟩, .bool false]) ∧ Below w.heap.size w w' := by
  obtain ⟨ao, cap, rfl⟩ := hX.mk'
  obtain ⟨n, hn⟩ : ∃ n, n = ps.length := ⟨_, rfl⟩
  rw [← hn] at h20 hi ⊢
  obtain ⟨N, hN⟩ : ∃ N : Nat, N = 2 ^ n := ⟨_, rfl⟩
  have hNb : N ≤ 1048576 := by rw [hN]; exact Nat.le_trans (Nat.pow_le_pow_right (by omega) h20) (by decide)
  have hw := wrap_pow n N hN hNb
  rw [← hN] at hi
  have hI0 : Hid (UbI w ps 0 d w) := Lib.hid ⟨hd, Below.refl _ _, fun k hk => by omega⟩
  have HX := Lib.hid hX
  have HN := Lib.hid hn
  have HB := Lib.hid hbad
  have HSZ := Lib.hid hsz
  have HP := Lib.hid pair_any
  clear hX hn hbad hN hd hsz
  have hib : i ≤ 1048576 := by omega
  go_enter Try.func29, Try.ntmps29
  go_wp2
  rw [show decide (N ≤ i) = false from decide_eq_false (by omega), Bool.or_false]
  go_loopw [0, 1, 8] (fun dv xv jv wr => ∃ (j x : Nat) (ds : ByteArray), j ≤ n ∧ x ≤ 1048576 ∧ dv = .string ds ∧ xv = .int .i64 (x : Nat) ∧ jv = .int .i64 (j : Nat) ∧ Hid (UbI w ps j ds wr)) (fun _ _ jv _ => n - (intOf jv).toNat)
  case atStart => exact ⟨0, i, d, by omega, by omega, rfl, rfl, rfl, hI0⟩
  case round =>
    obtain ⟨j, x, ds, hj, hxb, rfl, rfl, rfl, hJ⟩ := hrel
    by_cases hjn : j = n
    · exact absurd (all_of (by rw [← HN.out, ← hjn]; exact hJ.out.all)) HB.out
    · have hjn2 : j < n := by omega
      rcases HX.out.is with ⟨rfl, _⟩ | ⟨b, off, cap', hv, hcap, hlt, hcl⟩
      · have := HN.out
        simp at this
        omega
      · have hjl : j < ps.length := by rw [← HN.out]; exact hjn2
        have hc1 := hcl j hjl
        injection hv with hv1 hv2 hv3
        subst hv1 hv3
        have hss := HSZ.out j
        obtain ⟨s, hsv⟩ : ∃ s, s = ps.getD j ⟨#[]⟩ := ⟨_, rfl⟩
        rw [← hsv] at hc1 hss
        have hc : wr.cell? ⟨b, off + j, none⟩ = some (.string s) := (hJ.out.bl.cell (p := ⟨b, off + j, none⟩) hlt).trans hc1
        have hd8 := hJ.out.sz
        have HBJ := Lib.hid hJ.out.bl
        by_cases hs8 : s.size = 8
        · have HALL : Hid (∀ k, k < j + 1 → (ps.getD k ⟨#[]⟩).size = 8) := fun k hk => by
            rcases Nat.lt_succ_iff_lt_or_eq.1 hk with h | h
            · exact hJ.out.all k h
            · subst h; rw [← hsv]; exact hs8
          clear hc1 hcl hv2 hJ hjl hsv hI0
          by_cases hx2 : x % 2 = 0
          · obtain ⟨dn, hdn⟩ : ∃ dn, dn = sA (nodeD (by' ds) (by' s)) := ⟨_, rfl⟩
            have HPP := Lib.hid (fun W => HP.out ds s (by omega) (by omega) W)
            rw [← hdn] at HPP
            have HDN : Hid (dn.size = 8) := Lib.hid (by rw [hdn, sA_size]; exact dig_len _)
            clear hdn
            go_wp2_with (go_at_call 44; refine (HPP.out _).mono ?_; rintro e w2 ⟨rfl, hb⟩)
            go_roundw
            case rel => exact ⟨j + 1, x / 2, dn, by omega, by omega, rfl, by go_num, by go_num, Lib.hid ⟨HDN.out, HBJ.out.trans (hb.mono HBJ.out.size), HALL.out⟩⟩
            case measure => simp [intOf]; omega
          · obtain ⟨dn, hdn⟩ : ∃ dn, dn = sA (nodeD (by' s) (by' ds)) := ⟨_, rfl⟩
            have HPP := Lib.hid (fun W => HP.out s ds (by omega) (by omega) W)
            rw [← hdn] at HPP
            have HDN : Hid (dn.size = 8) := Lib.hid (by rw [hdn, sA_size]; exact dig_len _)
            clear hdn
            go_wp2_with (go_at_call 44; refine (HPP.out _).mono ?_; rintro e w2 ⟨rfl, hb⟩)
            go_roundw
            case rel => exact ⟨j + 1, x / 2, dn, by omega, by omega, rfl, by go_num, by go_num, Lib.hid ⟨HDN.out, HBJ.out.trans (hb.mono HBJ.out.size), HALL.out⟩⟩
            case measure => simp [intOf]; omega
        · clear hc1 hcl hv2 hJ hjl hsv hI0
          go_wp2
          go_returns
          exact ⟨rfl, HBJ.out⟩

/-- Verify of the reference, where Up returns u and k. -/
theorem rVerify_of {w : World} (root leaf : ByteArray) (i : Int) (ao : Option Addr) (n cap : Nat) (u : ByteArray) (k : Bool) (hl : leaf.size ≤ 140737488355000)
    (HU : ∀ W, Below w.heap.size w W → Calls Try.prog 29 #[.string (sA (leafD (by' leaf))), .int .i64 i, .slice ao n cap] W fun e w' => e = .returned (.tuple #[.string u, .bool k]) ∧ Below W.heap.size W w') :
    Calls Try.prog 28 #[.string root, .string leaf, .int .i64 i, .slice ao n cap] w fun e w' => e = .returned (.bool (k && (u.toList == root.toList))) ∧ Below w.heap.size w w' := by
  have HL := Lib.hid (fun W => rLeaf_any leaf hl W)
  obtain ⟨lf, hlf⟩ : ∃ lf, lf = sA (leafD (by' leaf)) := ⟨_, rfl⟩
  rw [← hlf] at HU HL
  have HUU := Lib.hid HU
  clear HU hlf
  cases k with
  | false =>
    go_enter Try.func28, Try.ntmps28
    go_wp2_with (first | (go_at_call 30; refine (HL.out _).mono ?_; rintro e w1 ⟨rfl, hb1⟩) | (go_at_call 29; refine (HUU.out _ hb1).mono ?_; rintro e w2 ⟨rfl, hb2⟩))
    go_ret
    exact ⟨rfl, hb1.trans (hb2.mono hb1.size)⟩
  | true =>
    by_cases hq : (u.toList == root.toList) = true
    · go_enter Try.func28, Try.ntmps28
      go_wp2_with (first | (go_at_call 30; refine (HL.out _).mono ?_; rintro e w1 ⟨rfl, hb1⟩) | (go_at_call 29; refine (HUU.out _ hb1).mono ?_; rintro e w2 ⟨rfl, hb2⟩))
      go_ret
      exact ⟨by rw [hq]; rfl, hb1.trans (hb2.mono hb1.size)⟩
    · have hq' : (u.toList == root.toList) = false := by simpa using hq
      clear hq
      go_enter Try.func28, Try.ntmps28
      go_wp2_with (first | (go_at_call 30; refine (HL.out _).mono ?_; rintro e w1 ⟨rfl, hb1⟩) | (go_at_call 29; refine (HUU.out _ hb1).mono ?_; rintro e w2 ⟨rfl, hb2⟩))
      go_ret
      exact ⟨by rw [hq']; rfl, hb1.trans (hb2.mono hb1.size)⟩

end Go.Proofs.Ytkkbjkjmhjgaiaa
