/- Verify(27), and that it answers as the reference's: for strings of any length. -/
import Derived.Test.YtkkbjkjmhjgaiaaAC
namespace Go.Proofs.Ytkkbjkjmhjgaiaa
open Go.RowKit

set_option maxRecDepth 10000 in
set_option maxHeartbeats 1000000 in
theorem read_no2 (s : ByteArray) (h : s.size ≠ 8) (w : World) : Calls Try.prog 42 #[.string s] w fun e w' => e = .returned (.tuple #[dval zero8, .bool false]) ∧ Below w.heap.size w w' := by
  have e0 : dval zero8 = .agg #[.int .u8 0, .int .u8 0, .int .u8 0, .int .u8 0, .int .u8 0, .int .u8 0, .int .u8 0, .int .u8 0] := rfl
  have h8 : ((s.size : Int) != 8) = true := by simp; omega
  rw [e0]
  clear e0 h
  go_enter Try.func42, Try.ntmps42
  go_wp2
  go_returns
  exact ⟨rfl, by go_grown⟩

set_option maxRecDepth 10000 in
set_option maxHeartbeats 2000000 in
theorem verify_in2 {w : World} {pv : Value} {ps : List ByteArray} (hX : Sx w pv ps) (h20 : ps.length ≤ 20) (i : Nat) (hi : i < 2 ^ ps.length) (root leaf : ByteArray) (hl : leaf.size ≤ 140737488355000) (hr : root.size ≤ 140737488355000) :
    Calls Try.prog 27 #[.string root, .string leaf, .int .i64 i, pv] w fun e w' => e = .returned (.bool (decide (∀ s ∈ ps, s.size = 8) && decide (by' root = upD (leafD (by' leaf)) i (ps.map by')))) ∧ Below w.heap.size w w' := by
  obtain ⟨ao, cap, rfl⟩ := hX.mk'
  obtain ⟨n, hn⟩ : ∃ n, n = ps.length := ⟨_, rfl⟩
  rw [← hn] at h20 hi ⊢
  obtain ⟨N, hN⟩ : ∃ N : Nat, N = 2 ^ n := ⟨_, rfl⟩
  have hNb : N ≤ 1048576 := by rw [hN]; exact Nat.le_trans (Nat.pow_le_pow_right (by omega) h20) (by decide)
  have hw := wrap_pow n N hN hNb
  rw [← hN] at hi
  obtain ⟨R, hR⟩ : ∃ R, R = upD (leafD (by' leaf)) i (ps.map by') := ⟨_, rfl⟩
  rw [← hR]
  obtain ⟨z0, z1, z2, z3, z4, z5, z6, z7, ez⟩ := dval_eight (d := leafD (by' leaf)) (dig_len _)
  have HLF := Lib.hid (fun W => leafOf_any leaf (by omega) W)
  rw [ez] at HLF
  have HZ := Lib.hid ez
  have HIS : Hid (∀ (d : Dg) W, d.length = 8 → Calls Try.prog 37 #[dval d, .string root] W fun e w' => e = .returned (.bool (decide (by' root = d))) ∧ Below W.heap.size W w') := fun d W h => is_any d h root (by omega) W
  obtain ⟨res, hres⟩ : ∃ res, res = (decide (∀ s ∈ ps, s.size = 8) && decide (by' root = R)) := ⟨_, rfl⟩
  rw [← hres]
  have HRES := Lib.hid hres
  have HR := Lib.hid hR
  have HX := Lib.hid hX
  have HN := Lib.hid hn
  clear ez hres hR hX hn hN
  go_enter Try.func27, Try.ntmps27
  go_wp2_with (go_at_call 41; refine (HLF.out _).mono ?_; rintro e w1 ⟨rfl, hb1⟩)
  obtain ⟨g, hg⟩ : ∃ g, g = w1.heap.size := ⟨_, rfl⟩
  rw [← hg]
  have hgl : w.heap.size ≤ g := by rw [hg]; exact hb1.size
  have hI0 : Hid (VfI w g ps R 0 i (w1.alloc (.cells #[.int .u8 z0, .int .u8 z1, .int .u8 z2, .int .u8 z3, .int .u8 z4, .int .u8 z5, .int .u8 z6, .int .u8 z7] 52))) := Lib.hid ⟨⟨_, dig_len _, ⟨_, _, _, _, _, _, _, _, HZ.out, by rw [hg]; exact heap_alloc_new _ _⟩, by rw [List.drop_zero]; exact HR.out.symm⟩, hb1.alloc hb1.size _, fun k hk => by omega⟩
  clear hg hb1
  go_loopw [2, 32] (fun xv jv wr => ∃ j : Nat, j ≤ n ∧ jv = .int .i64 (j : Nat) ∧ ∃ x : Nat, x ≤ 1048576 ∧ xv = .int .i64 (x : Nat) ∧ Hid (VfI w g ps R j x wr)) (fun _ jv _ => n - (intOf jv).toNat)
  case atStart => exact ⟨0, by omega, rfl, i, by omega, rfl, hI0⟩
  case round =>
    obtain ⟨j, hj, rfl, x, hxb, rfl, hJ⟩ := hrel
    obtain ⟨d, hd8, ⟨a0, a1, a2, a3, a4, a5, a6, a7, ea, hrow⟩, hdR⟩ := hJ.out.d
    have HALL := Lib.hid hJ.out.all
    have HBJ := Lib.hid hJ.out.bl
    by_cases hjn : j = n
    · subst hjn
      have hdR2 : d = R := by
        rw [List.drop_of_length_le (by rw [← HN.out]; omega)] at hdR
        exact hdR
      have hall : ∀ s ∈ ps, s.size = 8 := all_of (by rw [← HN.out]; exact HALL.out)
      have hres : res = decide (by' root = R) := by rw [HRES.out, decide_eq_true hall, Bool.true_and]
      have HI := Lib.hid (fun W => HIS.out d W hd8)
      rw [hdR2, ← hres, ← hdR2, ea] at HI
      obtain ⟨c0, c1, c2, c3, c4, c5, c6, c7⟩ := row8_cells hrow
      clear hall hres hdR hdR2 ea hrow hJ hd8
      go_wp2_with (go_at_call 37; refine (HI.out _).mono ?_; rintro e w2 ⟨rfl, hb⟩)
      go_ret
      exact ⟨rfl, HBJ.out.trans (hb.mono HBJ.out.size)⟩
    · have hjn2 : j < n := by omega
      rcases HX.out.is with ⟨rfl, _⟩ | ⟨b, off, cap', hv, hcap, hlt, hcl⟩
      · have := HN.out
        simp at this
        omega
      · have hjl : j < ps.length := by rw [← HN.out]; exact hjn2
        have hc1 := hcl j hjl
        injection hv with hv1 hv2 hv3
        subst hv1 hv3
        have hdrop : (ps.drop j).map by' = by' (ps.getD j ⟨#[]⟩) :: (ps.drop (j + 1)).map by' := by
          rw [List.drop_eq_getElem_cons hjl, List.map_cons, show ps.getD j ⟨#[]⟩ = ps[j] by simp [List.getD, hjl]]
        obtain ⟨s, hsv⟩ : ∃ s, s = ps.getD j ⟨#[]⟩ := ⟨_, rfl⟩
        rw [← hsv] at hc1 hdrop
        have hc : (∀ W, Below w.heap.size w W → W.cell? ⟨b, off + j, none⟩ = some (.string s)) := fun W hb' => (hb'.cell (p := ⟨b, off + j, none⟩) hlt).trans hc1
        have hcw := hc _ HBJ.out
        by_cases hs8 : s.size = 8
        · have HRD := Lib.hid (fun W => read_yes s hs8 W)
          obtain ⟨b0, b1, b2, b3, b4, b5, b6, b7, eb⟩ := dval_eight (d := by' s) (by rw [by_len]; exact hs8)
          rw [eb] at HRD
          have HS8 : Hid ((ps.getD j ⟨#[]⟩).size = 8) := by rw [← hsv]; exact hs8
          clear hc hc1 hcl hv2 hJ hjl
          by_cases hx2 : x % 2 = 0
          · have hup : upD (nodeD d (by' s)) (x / 2) ((ps.drop (j + 1)).map by') = R := by
              rw [← hdR, hdrop]
              show _ = upD (if x % 2 = 0 then nodeD d (by' s) else nodeD (by' s) d) (x / 2) _
              rw [if_pos hx2]
            obtain ⟨e0, e1, e2, e3, e4, e5, e6, e7, ee⟩ := dval_eight (d := nodeD d (by' s)) (dig_len _)
            have HN := Lib.hid (fun W => nodeOf_any d (by' s) hd8 (by rw [by_len]; exact hs8) W)
            rw [ee, ea, eb] at HN
            have HUP := Lib.hid hup
            have HEE := Lib.hid ee
            clear hup ee ea eb hdrop hdR hs8 hd8 hsv
            go_wp2_with (first | (go_at_call 42; refine (HRD.out _).mono ?_; rintro e w2 ⟨rfl, hb⟩; have HB2 := Lib.hid (HBJ.out.trans (hb.mono HBJ.out.size)); have hrA := row8_below hrow hb (Array.getElem?_eq_some_iff.1 hrow).1; have hrB : row8 (w2.alloc (.cells #[.int .u8 b0, .int .u8 b1, .int .u8 b2, .int .u8 b3, .int .u8 b4, .int .u8 b5, .int .u8 b6, .int .u8 b7] 52)) g a0 a1 a2 a3 a4 a5 a6 a7 := row8_below hrA ((Below.refl w2.heap.size w2).alloc (Nat.le_refl _) _) (Array.getElem?_eq_some_iff.1 hrA).1; obtain ⟨c0, c1, c2, c3, c4, c5, c6, c7⟩ := row8_cells hrB; have HRB := Lib.hid hrB; clear hrA hrB hb) | (go_at_call 43; refine (HN.out _).mono ?_; rintro e w3 ⟨rfl, hb⟩; have HB3 := Lib.hid ((HB2.out.alloc HB2.out.size _).trans (hb.mono (by have := HB2.out.size; simp; omega))); have hrC := row8_below HRB.out hb (Array.getElem?_eq_some_iff.1 HRB.out).1; obtain ⟨k0, k1, k2, k3, k4, k5, k6, k7⟩ := row8_cells hrC; obtain ⟨f0, f1, f2, f3, f4, f5, f6, f7⟩ := row8_free hrC; have HRC := Lib.hid hrC; clear hrC hb))
            go_roundw
            case rel => exact ⟨j + 1, by omega, by go_num, x / 2, by omega, by go_num, Lib.hid ⟨⟨_, dig_len _, ⟨_, _, _, _, _, _, _, _, HEE.out, put8_row HRC.out⟩, HUP.out⟩, put8_below HB3.out hgl, fun k hk => by
              rcases Nat.lt_succ_iff_lt_or_eq.1 hk with h | h
              · exact HALL.out k h
              · subst h; exact HS8.out⟩⟩
            case measure => simp [intOf]; omega
          · have hup : upD (nodeD (by' s) d) (x / 2) ((ps.drop (j + 1)).map by') = R := by
              rw [← hdR, hdrop]
              show _ = upD (if x % 2 = 0 then nodeD d (by' s) else nodeD (by' s) d) (x / 2) _
              rw [if_neg hx2]
            obtain ⟨e0, e1, e2, e3, e4, e5, e6, e7, ee⟩ := dval_eight (d := nodeD (by' s) d) (dig_len _)
            have HN := Lib.hid (fun W => nodeOf_any (by' s) d (by rw [by_len]; exact hs8) hd8 W)
            rw [ee, ea, eb] at HN
            have HUP := Lib.hid hup
            have HEE := Lib.hid ee
            clear hup ee ea eb hdrop hdR hs8 hd8 hsv
            go_wp2_with (first | (go_at_call 42; refine (HRD.out _).mono ?_; rintro e w2 ⟨rfl, hb⟩; have HB2 := Lib.hid (HBJ.out.trans (hb.mono HBJ.out.size)); have hrA := row8_below hrow hb (Array.getElem?_eq_some_iff.1 hrow).1; have hrB : row8 (w2.alloc (.cells #[.int .u8 b0, .int .u8 b1, .int .u8 b2, .int .u8 b3, .int .u8 b4, .int .u8 b5, .int .u8 b6, .int .u8 b7] 52)) g a0 a1 a2 a3 a4 a5 a6 a7 := row8_below hrA ((Below.refl w2.heap.size w2).alloc (Nat.le_refl _) _) (Array.getElem?_eq_some_iff.1 hrA).1; obtain ⟨c0, c1, c2, c3, c4, c5, c6, c7⟩ := row8_cells hrB; have HRB := Lib.hid hrB; clear hrA hrB hb) | (go_at_call 43; refine (HN.out _).mono ?_; rintro e w3 ⟨rfl, hb⟩; have HB3 := Lib.hid ((HB2.out.alloc HB2.out.size _).trans (hb.mono (by have := HB2.out.size; simp; omega))); have hrC := row8_below HRB.out hb (Array.getElem?_eq_some_iff.1 HRB.out).1; obtain ⟨k0, k1, k2, k3, k4, k5, k6, k7⟩ := row8_cells hrC; obtain ⟨f0, f1, f2, f3, f4, f5, f6, f7⟩ := row8_free hrC; have HRC := Lib.hid hrC; clear hrC hb))
            go_roundw
            case rel => exact ⟨j + 1, by omega, by go_num, x / 2, by omega, by go_num, Lib.hid ⟨⟨_, dig_len _, ⟨_, _, _, _, _, _, _, _, HEE.out, put8_row HRC.out⟩, HUP.out⟩, put8_below HB3.out hgl, fun k hk => by
              rcases Nat.lt_succ_iff_lt_or_eq.1 hk with h | h
              · exact HALL.out k h
              · subst h; exact HS8.out⟩⟩
            case measure => simp [intOf]; omega
        · have HRD := Lib.hid (fun W => read_no2 s hs8 W)
          have e0 : dval zero8 = .agg #[.int .u8 0, .int .u8 0, .int .u8 0, .int .u8 0, .int .u8 0, .int .u8 0, .int .u8 0, .int .u8 0] := rfl
          rw [e0] at HRD
          have hres : res = false := by
            rw [HRES.out]
            have : ¬ ∀ s ∈ ps, s.size = 8 := fun h => hs8 (h s (by
              rw [hsv, show ps.getD j ⟨#[]⟩ = ps[j] by simp [List.getD, hjl]]
              exact List.getElem_mem hjl))
            rw [decide_eq_false this, Bool.false_and]
          have HRE := Lib.hid hres
          clear hc hc1 hcl hv2 hJ hjl hres hdrop hsv hs8 e0 ea hdR hd8
          go_wp2_with (go_at_call 42; refine (HRD.out _).mono ?_; rintro e w2 ⟨rfl, hb⟩)
          go_ret
          exact ⟨by rw [HRE.out]; rfl, (HBJ.out.trans (hb.mono HBJ.out.size)).alloc (by have := HBJ.out.size; have := hb.size; omega) _⟩

theorem verify_all {w : World} {pv : Value} {ps : List ByteArray} (hX : Sx w pv ps) (root leaf : ByteArray) (i : Int) (hl : leaf.size ≤ 140737488355000) (hr : root.size ≤ 140737488355000) (hsz : ∀ k, (ps.getD k ⟨#[]⟩).size ≤ 9223372036854775807) :
    ∃ bl : Bool, ∀ W, Below w.heap.size w W →
      (Calls Try.prog 27 #[.string root, .string leaf, .int .i64 i, pv] W fun e w' => e = .returned (.bool bl) ∧ Below W.heap.size W w') ∧
      (Calls Try.prog 28 #[.string root, .string leaf, .int .i64 i, pv] W fun e w' => e = .returned (.bool bl) ∧ Below W.heap.size W w') := by
  obtain ⟨ao, cap, rfl⟩ := hX.mk'
  have h8 : (sA (leafD (by' leaf))).size = 8 := by rw [sA_size]; exact dig_len _
  by_cases h0 : 20 < ps.length ∨ i < 0
  · refine ⟨false, fun W hW => ⟨verify_far root leaf i ao ps.length cap (by rcases h0 with h | h; exact .inl h; exact .inr (.inl h)), ?_⟩⟩
    have := rVerify_of (w := W) root leaf i ao ps.length cap ⟨#[]⟩ false hl (fun W2 _ => up_out _ i ao ps.length cap h0)
    simpa using this
  · obtain ⟨x, rfl⟩ : ∃ x : Nat, i = (x : Nat) := ⟨i.toNat, by omega⟩
    have h20 : ps.length ≤ 20 := by omega
    by_cases hx : 2 ^ ps.length ≤ x
    · refine ⟨false, fun W hW => ⟨verify_far root leaf x ao ps.length cap (.inr (.inr ⟨h20, by exact_mod_cast hx⟩)), ?_⟩⟩
      have := rVerify_of (w := W) root leaf x ao ps.length cap ⟨#[]⟩ false hl (fun W2 _ => up_far _ x ao ps.length cap h20 hx)
      simpa using this
    · have hx2 : x < 2 ^ ps.length := by omega
      refine ⟨_, fun W hW => ⟨verify_in2 (hX.below hW) h20 x hx2 root leaf hl hr, ?_⟩⟩
      by_cases hall : ∀ s ∈ ps, s.size = 8
      · have := rVerify_of (w := W) root leaf x ao ps.length cap (sA (upD (leafD (by' leaf)) x (ps.map by'))) true hl (fun W2 hW2 => by
          have h := up_in ((hX.below hW).below hW2) h20 x hx2 (sA (leafD (by' leaf))) h8 (getD_all hall)
          rwa [by_sA] at h)
        rw [str_beq, by_sA, Bool.true_and] at this
        rw [decide_eq_true hall, Bool.true_and, show decide (by' root = upD (leafD (by' leaf)) x (ps.map by')) = decide (upD (leafD (by' leaf)) x (ps.map by') = by' root) from decide_eq_decide.2 eq_comm]
        exact this
      · have := rVerify_of (w := W) root leaf x ao ps.length cap ⟨#[]⟩ false hl (fun W2 hW2 => up_bad ((hX.below hW).below hW2) h20 x hx2 (sA (leafD (by' leaf))) h8 hall hsz)
        rw [decide_eq_false hall, Bool.false_and]
        rwa [Bool.false_and] at this

end Go.Proofs.Ytkkbjkjmhjgaiaa
