/- Contract of num: Gcd, where the lesser number has at most two digits. -/
import Derived.Test.YtdgmjmckeeeljaaGreatDoorZ
namespace Go.Proofs.YtdgmjmckeeeljaaGreatDoor
open Go.RowKit

set_option maxRecDepth 10000 in
set_option maxHeartbeats 2000000 in
theorem common_lt {w : World} {va vb : Value} {x y l : Nat} (ha : Sl w va (digs x)) (hb : Sl w vb (digs y)) (hla : (digs x).length ≤ 256) (hlb : (digs y).length ≤ 2) (hc : y < x) (hl : l = (digs (Nat.gcd x y)).length)
    (hd : ∀ W va vb, y ≠ 0 → Sl W va (digs x) → Sl W vb (digs y) → Calls Tryz.prog 44 #[va, vb] W (DivRes W x y)) :
    Calls Tryz.prog 51 #[vb, va] w (NewD w (Nat.gcd x y) l) := by
  have hcm := compare_any hb ha (by omega) (by omega)
  have hge : cmpN y x < 0 := by rw [cmpN_lt hc]; decide
  obtain ⟨ab, cb, rfl⟩ := hb.mk'
  obtain ⟨lb, hlb'⟩ : ∃ lb, lb = (digs y).length := ⟨_, rfl⟩
  rw [← hlb'] at hb hlb hcm ⊢
  have HCM := Lib.hid hcm
  have HCL : Hid (∀ W, Sl W va (digs x) → Calls Tryz.prog 74 #[va] W (NewSl W (digs x))) := fun W h => clone_any h (by omega)
  have HD := Lib.hid hd
  have HLB := Lib.hid hlb'
  have HL := Lib.hid hl
  clear hcm hd hlb' hl
  by_cases h0 : lb = 0
  · subst h0
    have hy : y = 0 := digs_inj (by rw [digs_zero]; exact List.eq_nil_of_length_eq_zero HLB.out.symm)
    have HY := Lib.hid hy
    clear hy
    go_enter Tryz.func51, Tryz.ntmps51
    go_wp2_with (go_at_call 68; refine HCM.out.mono ?_; rintro e W1 ⟨rfl, hb1⟩)
    refine wp_loop_rounds 1 ?_
    rw [rounds_succ]
    go_wp2_with (go_at_call 74; refine (HCL.out _ (ha.below hb1)).mono ?_; rintro e W2 ⟨ao, cap, rfl, hs, hb2⟩)
    go_ret
    have hg : Nat.gcd x y = x := by rw [HY.out, Nat.gcd_zero_right]
    have hl := HL.out
    rw [hg] at hl ⊢
    rw [hl]
    exact ⟨_, _, rfl, hs.mono hb1.size, hb1.trans (hb2.mono hb1.size)⟩
  · have hy0 : y ≠ 0 := fun h => h0 (by rw [HLB.out, h, digs_zero]; rfl)
    have hlz : ((lb : Int) == 0) = false := by simp; omega
    have hyw : y / 4294967296 < 4294967296 := by
      have := digs_length_le.1 (show (digs y).length ≤ 2 by rw [← HLB.out]; exact hlb)
      rw [show (4294967296 : Nat) ^ 2 = 4294967296 * 4294967296 from rfl] at this
      omega
    have hr : x % y < y := Nat.mod_lt _ (by omega)
    have hrl : (digs (x % y)).length ≤ 2 := digs_word (by omega)
    have hg : Nat.gcd y (x % y) = Nat.gcd x y := by rw [Nat.gcd_comm x y, Nat.gcd_rec y x, Nat.gcd_comm]
    have hgl : Nat.gcd x y / 4294967296 < 4294967296 := by
      have := Nat.gcd_le_right x (show 0 < y by omega)
      omega
    have HW1 : Hid (∀ W v, Sl W v (digs y) → Calls Tryz.prog 66 #[v] W fun e w' => e = .returned (.int .u64 (y : Nat)) ∧ w' = W) := fun W v h => by
      have := word_any h (by rw [← HLB.out]; exact hlb)
      rwa [val_digs] at this
    have HW2 : Hid (∀ W v, Sl W v (digs (x % y)) → Calls Tryz.prog 66 #[v] W fun e w' => e = .returned (.int .u64 (x % y : Nat)) ∧ w' = W) := fun W v h => by
      have := word_any h hrl
      rwa [val_digs] at this
    have HCW : Hid (∀ W, Calls Tryz.prog 87 #[.int .u64 y, .int .u64 (x % y : Nat)] W fun e w' => e = .returned (.int .u64 (Nat.gcd x y : Nat)) ∧ ∃ m, w' = W.drewN m) := fun W => by
      have := commonWord_any y (x % y) W hyw (by omega)
      rwa [hg] at this
    have HDO : Hid (∀ W, Calls Tryz.prog 67 #[.int .u64 (Nat.gcd x y : Nat)] W (NewD W (Nat.gcd x y) l)) := fun W => by
      have := digitsOf_at (x := Nat.gcd x y) (n := l) W hgl HL.out.symm
      exact this
    have HY0 := Lib.hid hy0
    clear hyw hr hrl hg hgl hy0
    unfold DivRes at HD
    obtain ⟨g, hg⟩ : ∃ g, g = Nat.gcd x y := ⟨_, rfl⟩
    obtain ⟨r, hr⟩ : ∃ r, r = x % y := ⟨_, rfl⟩
    rw [← hg] at HCW HDO ⊢
    rw [← hr] at HCW HW2 HD
    clear hg hr
    go_enter Tryz.func51, Tryz.ntmps51
    go_wp2_with (go_at_call 68; refine HCM.out.mono ?_; rintro e W1 ⟨rfl, hb1⟩)
    refine wp_loop_rounds 1 ?_
    rw [rounds_succ]
    go_wp2_with fail
    refine (HD.out _ _ _ HY0.out (ha.below hb1) (hb.below hb1)).mono ?_
    rintro e W2 ⟨aq, cq, ar, cr, rfl, hsq, hsr, hb2⟩
    have hbb : Below w.heap.size w W2 := hb1.trans (hb2.mono hb1.size)
    have HSR := Lib.hid hsr
    clear hsq hsr
    go_wp2_with fail
    refine (HW1.out _ _ (hb.below hbb)).mono ?_
    rintro e w' ⟨rfl, rfl⟩
    go_wp2_with fail
    refine (HW2.out _ _ HSR.out.sl).mono ?_
    rintro e w'' ⟨rfl, rfl⟩
    go_wp2_with fail
    refine (HCW.out _).mono ?_
    rintro e w3 ⟨rfl, m, rfl⟩
    go_wp2_with fail
    refine (HDO.out _).mono ?_
    rintro e W4 ⟨ao, cap, rfl, hs4, hb4⟩
    have HS4 := Lib.hid hs4
    clear hs4
    go_wp2
    go_ret
    have hz : Below w.heap.size w (w''.drewN m) := below_drewN' hbb m
    exact ⟨_, _, rfl, HS4.out.mono hz.size, hz.trans (hb4.mono hz.size)⟩

theorem common_any {w : World} {va vb : Value} {x y l : Nat} (ha : Sl w va (digs x)) (hb : Sl w vb (digs y)) (hla : (digs x).length ≤ 256) (hlb : (digs y).length ≤ 256) (h2 : (digs x).length ≤ 2 ∨ (digs y).length ≤ 2) (hl : (digs (Nat.gcd x y)).length = l)
    (hd : ∀ (u v : Nat) W va vb, (u = x ∧ v = y ∨ u = y ∧ v = x) → v ≠ 0 → Sl W va (digs u) → Sl W vb (digs v) → Calls Tryz.prog 44 #[va, vb] W (DivRes W u v)) :
    Calls Tryz.prog 51 #[va, vb] w fun e w' => ∃ ao cap, e = .returned (.slice ao l cap) ∧ Sw w.heap.size w' (.slice ao l cap) (digs (Nat.gcd x y)) ∧ Below w.heap.size w w' := by
  rcases Nat.lt_or_ge x y with h | h
  · have := digs_mono (Nat.le_of_lt h)
    rw [Nat.gcd_comm] at hl ⊢
    exact common_lt hb ha hlb (by omega) h hl.symm (fun W va vb hv h1 h2 => hd y x W va vb (.inr ⟨rfl, rfl⟩) hv h1 h2)
  · have := digs_mono h
    exact common_ge ha hb hla (by omega) h hl.symm (fun W va vb hv h1 h2 => hd x y W va vb (.inl ⟨rfl, rfl⟩) hv h1 h2)

set_option maxRecDepth 10000 in
set_option maxHeartbeats 1000000 in
theorem gcd_any {w : World} {x y : Value} {a b : Int} (hx : Nu w x a) (hy : Nu w y b) (h2 : (digs a.natAbs).length ≤ 2 ∨ (digs b.natAbs).length ≤ 2)
    (hd : ∀ (u v : Nat) W va vb, (u = a.natAbs ∧ v = b.natAbs ∨ u = b.natAbs ∧ v = a.natAbs) → v ≠ 0 → Sl W va (digs u) → Sl W vb (digs v) → Calls Tryz.prog 44 #[va, vb] W (DivRes W u v)) :
    Calls Tryz.prog 17 #[x, y] w (NumRes w (Nat.gcd a.natAbs b.natAbs : Nat)) := by
  obtain ⟨sa, rfl, ha, la⟩ := hx
  obtain ⟨sb, rfl, hb, lb⟩ := hy
  have ra := rightB_digs a la
  have rb := rightB_digs b lb
  obtain ⟨na, hna⟩ : ∃ na, na = decide (a < 0) := ⟨_, rfl⟩
  obtain ⟨nb, hnb⟩ : ∃ nb, nb = decide (b < 0) := ⟨_, rfl⟩
  rw [← hna] at ra ⊢
  rw [← hnb] at rb ⊢
  have HNA := Lib.hid hna
  have HNB := Lib.hid hnb
  clear hna hnb
  have R1 : ∀ W, Sl W sa (digs a.natAbs) → Calls Tryz.prog 32 #[.agg #[.bool na, sa]] W fun e w' => e = .returned (.bool true) ∧ w' = W.alloc (.cells #[.bool na, sa] 27) := fun W h => by have := right_any na h (by omega); rwa [ra] at this
  have R2 : ∀ W, Sl W sb (digs b.natAbs) → Calls Tryz.prog 32 #[.agg #[.bool nb, sb]] W fun e w' => e = .returned (.bool true) ∧ w' = W.alloc (.cells #[.bool nb, sb] 27) := fun W h => by have := right_any nb h (by omega); rwa [rb] at this
  have HR1 := Lib.hid R1
  have HR2 := Lib.hid R2
  clear R1 R2 ra rb
  have HD := Lib.hid hd
  have H2 := Lib.hid h2
  clear hd h2
  go_enter Tryz.func17, Tryz.ntmps17
  go_wp2_with (first | (go_at_call_of 32 (Value.agg #[.bool na, sa]); refine (HR1.out _ (ha.below (by go_grown))).mono ?_; rintro e w' ⟨rfl, rfl⟩) | (go_at_call_of 32 (Value.agg #[.bool nb, sb]); refine (HR2.out _ (hb.below (by go_grown))).mono ?_; rintro e w' ⟨rfl, rfl⟩))
  have HB : Box3 ((((w.alloc (.cells #[.bool na, sa] 27)).alloc (.cells #[.bool nb, sb] 27)).alloc (.cells #[.bool false, .slice none 0 0] 27)).alloc (.cells #[.bool na, sa] 27) |>.alloc (.cells #[.bool nb, sb] 27)) w.heap.size na nb sa sb a.natAbs b.natAbs :=
    box3_new ha hb (by go_grown)
  have HBL : Below w.heap.size w ((((w.alloc (.cells #[.bool na, sa] 27)).alloc (.cells #[.bool nb, sb] 27)).alloc (.cells #[.bool false, .slice none 0 0] 27)).alloc (.cells #[.bool na, sa] 27) |>.alloc (.cells #[.bool nb, sb] 27)) := by go_grown
  revert HB HBL
  generalize ((((w.alloc (.cells #[.bool na, sa] 27)).alloc (.cells #[.bool nb, sb] 27)).alloc (.cells #[.bool false, .slice none 0 0] 27)).alloc (.cells #[.bool na, sa] 27) |>.alloc (.cells #[.bool nb, sb] 27)) = W
  intro HB HBL
  have a0 := HB.a0
  have a1 := HB.a1
  have b0 := HB.b0
  have b1 := HB.b1
  obtain ⟨n, hn⟩ : ∃ n, n = (digs (Nat.gcd a.natAbs b.natAbs)).length := ⟨_, rfl⟩
  have HN := Lib.hid hn
  clear hn
  refine (common_any HB.sa HB.sb la lb H2.out HN.out.symm HD.out).mono ?_
  rintro e w1 ⟨ao, cap, rfl, hs1, hb1'⟩
  have HB1 := HB.below hb1'
  obtain ⟨r0, r1, f0, f1⟩ := HB1.cells
  have hz := HB1.lt
  have hbw := hb1'.mono (Nat.le_of_lt HB.lt)
  have hbw0 := Nat.le_of_lt hz
  go_wp2_with (go_at_call 47; refine (made_any _ _ _ _ _).mono ?_; rintro e w2 ⟨rfl, rfl⟩)
  have HHs := Lib.hid hs1
  clear hs1
  have hfin : Below w.heap.size w (((w1.setCell ⟨w.heap.size + 1 + 1, 0, none⟩ (.bool (mkN false n))).setCell ⟨w.heap.size + 1 + 1, 1, none⟩ (.slice (mkA ao n) (mkL n) (mkC n cap))).alloc (.cells #[.bool (mkN false n), .slice (mkA ao n) (mkL n) (mkC n cap)] 27)) :=
    (((HBL.trans (hb1'.mono (by have := HB.lt; omega))).setCell (by simp; omega) _).setCell (by simp; omega) _).alloc (by simp; omega) _
  obtain ⟨q0, q1⟩ := res_cells HB1.r (.bool (mkN false n)) (.slice (mkA ao n) (mkL n) (mkC n cap)) (.cells #[.bool (mkN false n), .slice (mkA ao n) (mkL n) (mkC n cap)] 27)
  have hsw := HHs.out.after (g := w.heap.size + 1 + 1) HB.lt (.bool (mkN false n)) (.slice (mkA ao n) (mkL n) (mkC n cap)) (.cells #[.bool (mkN false n), .slice (mkA ao n) (mkL n) (mkC n cap)] 27)
  revert q0 q1 hfin hsw
  generalize (((w1.setCell ⟨w.heap.size + 1 + 1, 0, none⟩ (.bool (mkN false n))).setCell ⟨w.heap.size + 1 + 1, 1, none⟩ (.slice (mkA ao n) (mkL n) (mkC n cap))).alloc (.cells #[.bool (mkN false n), .slice (mkA ao n) (mkL n) (mkC n cap)] 27)) = W3
  intro hfin q0 q1 hsw
  have HSW := Lib.hid hsw
  clear hsw
  refine bodyPost_ret (v := .tuple #[.agg #[.bool (mkN false n), .slice (mkA ao n) (mkL n) (mkC n cap)], .bool (mkK n)]) (by simp [results, Tryz.results17, go_sem, q0, q1]) rfl ?_
  exact numRes_made hfin (by rw [Int.natAbs_natCast]; exact HN.out) (fun hz => by simp) (fun _ => by rw [Int.natAbs_natCast]; exact HSW.out.mono HBL.size)

end Go.Proofs.YtdgmjmckeeeljaaGreatDoor
