/- Contract of num: Gcd, where the lesser number has at most two digits. Contracts of num: Bits, and Same of the reference. No condition but that the slices read as digits. Contracts: Same of the reference, is, divides. No condition but that the slices read as digits. Contracts: is, divides of the statements; Div and Gcd with a divisor of one digit. Contracts of num's texts: decimal. No condition. Contracts of num's texts: parsed. Contract of num: Parse. No condition. Contract of num's texts: groups. Contract of num's texts: groups. Contracts of the reference: trim, signed. Contract of the reference: Made, for any slice of ints. -/
import Derived.Test.YtdgmjmckeeeljaaGreatDoorGd3
import Derived.Lib.ItoaNum
import Derived.BigQuiet
import Derived.Lib.ConvBytes
import Derived.Lib.SmallJoins
import Derived.Test.YtdgmjmckeeeljaaGreatDoorGd2
import Derived.Laws.OwnMore
import Derived.OwnWalk
namespace Go.Proofs.YtdgmjmckeeeljaaGreatDoor
open Go.RowKit

set_option maxRecDepth 10000 in
set_option maxHeartbeats 2000000 in
theorem common_lt {w : World} {va vb : Value} {x y l : Nat} (ha : Sl w va (digs x)) (hb : Sl w vb (digs y)) (hla : (digs x).length ≤ 256) (hlb : (digs y).length ≤ 2) (hc : y < x) (hl : l = (digs (Nat.gcd x y)).length)
    (hd : ∀ W va vb, y ≠ 0 → Sl W va (digs x) → Sl W vb (digs y) → Calls Tryz.prog 44 #[va, vb] W (DivRes W x y)) :
    Calls Tryz.prog 51 #[vb, va] w (NewD w (Nat.gcd x y) l) := by
  have hcm := compare_any hb ha (by omega) (by omega)
  have hge : cmpN y x < 0 := by rw [cmpN_lt hc]; decide
  obtain ⟨ab, cb, rfl⟩ := hb.mk'
  obtain ⟨lb, hlb'⟩ : ∃ lb, lb = (digs y).length := ⟨_, rfl⟩
  rw [← hlb'] at hb hlb hcm ⊢
  have HCM := Lib.hid hcm
  have HCL : Hid (∀ W, Sl W va (digs x) → Calls Tryz.prog 74 #[va] W (NewSl W (digs x))) := fun W h => clone_any h (by omega)
  have HD := Lib.hid hd
  have HLB := Lib.hid hlb'
  have HL := Lib.hid hl
  clear hcm hd hlb' hl
  by_cases h0 : lb = 0
  · subst h0
    have hy : y = 0 := digs_inj (by rw [digs_zero]; exact List.eq_nil_of_length_eq_zero HLB.out.symm)
    have HY := Lib.hid hy
    clear hy
    go_enter Tryz.func51, Tryz.ntmps51
    go_wp2_with (go_at_call 68; refine HCM.out.mono ?_; rintro e W1 ⟨rfl, hb1⟩)
    refine wp_loop_rounds 1 ?_
    rw [rounds_succ]
    go_wp2_with (go_at_call 74; refine (HCL.out _ (ha.below hb1)).mono ?_; rintro e W2 ⟨ao, cap, rfl, hs, hb2⟩)
    go_ret
    have hg : Nat.gcd x y = x := by rw [HY.out, Nat.gcd_zero_right]
    have hl := HL.out
    rw [hg] at hl ⊢
    rw [hl]
    exact ⟨_, _, rfl, hs.mono hb1.size, hb1.trans (hb2.mono hb1.size)⟩
  · have hy0 : y ≠ 0 := fun h => h0 (by rw [HLB.out, h, digs_zero]; rfl)
    have hlz : ((lb : Int) == 0) = false := by simp; omega
    have hyw : y / 4294967296 < 4294967296 := by
      have := digs_length_le.1 (show (digs y).length ≤ 2 by rw [← HLB.out]; exact hlb)
      rw [show (4294967296 : Nat) ^ 2 = 4294967296 * 4294967296 from rfl] at this
      omega
    have hr : x % y < y := Nat.mod_lt _ (by omega)
    have hrl : (digs (x % y)).length ≤ 2 := digs_word (by omega)
    have hg : Nat.gcd y (x % y) = Nat.gcd x y := by rw [Nat.gcd_comm x y, Nat.gcd_rec y x, Nat.gcd_comm]
    have hgl : Nat.gcd x y / 4294967296 < 4294967296 := by
      have := Nat.gcd_le_right x (show 0 < y by omega)
      omega
    have HW1 : Hid (∀ W v, Sl W v (digs y) → Calls Tryz.prog 66 #[v] W fun e w' => e = .returned (.int .u64 (y : Nat)) ∧ w' = W) := fun W v h => by
      have := word_any h (by rw [← HLB.out]; exact hlb)
      rwa [val_digs] at this
    have HW2 : Hid (∀ W v, Sl W v (digs (x % y)) → Calls Tryz.prog 66 #[v] W fun e w' => e = .returned (.int .u64 (x % y : Nat)) ∧ w' = W) := fun W v h => by
      have := word_any h hrl
      rwa [val_digs] at this
    have HCW : Hid (∀ W, Calls Tryz.prog 87 #[.int .u64 y, .int .u64 (x % y : Nat)] W fun e w' => e = .returned (.int .u64 (Nat.gcd x y : Nat)) ∧ ∃ m, w' = W.drewN m) := fun W => by
      have := commonWord_any y (x % y) W hyw (by omega)
      rwa [hg] at this
    have HDO : Hid (∀ W, Calls Tryz.prog 67 #[.int .u64 (Nat.gcd x y : Nat)] W (NewD W (Nat.gcd x y) l)) := fun W => by
      have := digitsOf_at (x := Nat.gcd x y) (n := l) W hgl HL.out.symm
      exact this
    have HY0 := Lib.hid hy0
    clear hyw hr hrl hg hgl hy0
    unfold DivRes at HD
    obtain ⟨g, hg⟩ : ∃ g, g = Nat.gcd x y := ⟨_, rfl⟩
    obtain ⟨r, hr⟩ : ∃ r, r = x % y := ⟨_, rfl⟩
    rw [← hg] at HCW HDO ⊢
    rw [← hr] at HCW HW2 HD
    clear hg hr
    go_enter Tryz.func51, Tryz.ntmps51
    go_wp2_with (go_at_call 68; refine HCM.out.mono ?_; rintro e W1 ⟨rfl, hb1⟩)
    refine wp_loop_rounds 1 ?_
    rw [rounds_succ]
    go_wp2_with fail
    refine (HD.out _ _ _ HY0.out (ha.below hb1) (hb.below hb1)).mono ?_
    rintro e W2 ⟨aq, cq, ar, cr, rfl, hsq, hsr, hb2⟩
    have hbb : Below w.heap.size w W2 := hb1.trans (hb2.mono hb1.size)
    have HSR := Lib.hid hsr
    clear hsq hsr
    go_wp2_with fail
    refine (HW1.out _ _ (hb.below hbb)).mono ?_
    rintro e w' ⟨rfl, rfl⟩
    go_wp2_with fail
    refine (HW2.out _ _ HSR.out.sl).mono ?_
    rintro e w'' ⟨rfl, rfl⟩
    go_wp2_with fail
    refine (HCW.out _).mono ?_
    rintro e w3 ⟨rfl, m, rfl⟩
    go_wp2_with fail
    refine (HDO.out _).mono ?_
    rintro e W4 ⟨ao, cap, rfl, hs4, hb4⟩
    have HS4 := Lib.hid hs4
    clear hs4
    go_wp2
    go_ret
    have hz : Below w.heap.size w (w''.drewN m) := below_drewN' hbb m
    exact ⟨_, _, rfl, HS4.out.mono hz.size, hz.trans (hb4.mono hz.size)⟩

theorem common_any {w : World} {va vb : Value} {x y l : Nat} (ha : Sl w va (digs x)) (hb : Sl w vb (digs y)) (hla : (digs x).length ≤ 256) (hlb : (digs y).length ≤ 256) (h2 : (digs x).length ≤ 2 ∨ (digs y).length ≤ 2) (hl : (digs (Nat.gcd x y)).length = l)
    (hd : ∀ (u v : Nat) W va vb, (u = x ∧ v = y ∨ u = y ∧ v = x) → v ≠ 0 → Sl W va (digs u) → Sl W vb (digs v) → Calls Tryz.prog 44 #[va, vb] W (DivRes W u v)) :
    Calls Tryz.prog 51 #[va, vb] w fun e w' => ∃ ao cap, e = .returned (.slice ao l cap) ∧ Sw w.heap.size w' (.slice ao l cap) (digs (Nat.gcd x y)) ∧ Below w.heap.size w w' := by
  rcases Nat.lt_or_ge x y with h | h
  · have := digs_mono (Nat.le_of_lt h)
    rw [Nat.gcd_comm] at hl ⊢
    exact common_lt hb ha hlb (by omega) h hl.symm (fun W va vb hv h1 h2 => hd y x W va vb (.inr ⟨rfl, rfl⟩) hv h1 h2)
  · have := digs_mono h
    exact common_ge ha hb hla (by omega) h hl.symm (fun W va vb hv h1 h2 => hd x y W va vb (.inl ⟨rfl, rfl⟩) hv h1 h2)

set_option maxRecDepth 10000 in
set_option maxHeartbeats 1000000 in
theorem gcd_any {w : World} {x y : Value} {a b : Int} (hx : Nu w x a) (hy : Nu w y b) (h2 : (digs a.natAbs).length ≤ 2 ∨ (digs b.natAbs).length ≤ 2)
    (hd : ∀ (u v : Nat) W va vb, (u = a.natAbs ∧ v = b.natAbs ∨ u = b.natAbs ∧ v = a.natAbs) → v ≠ 0 → Sl W va (digs u) → Sl W vb (digs v) → Calls Tryz.prog 44 #[va, vb] W (DivRes W u v)) :
    Calls Tryz.prog 17 #[x, y] w (NumRes w (Nat.gcd a.natAbs b.natAbs : Nat)) := by
  obtain ⟨sa, rfl, ha, la⟩ := hx
  obtain ⟨sb, rfl, hb, lb⟩ := hy
  have ra := rightB_digs a la
  have rb := rightB_digs b lb
  obtain ⟨na, hna⟩ : ∃ na, na = decide (a < 0) := ⟨_, rfl⟩
  obtain ⟨nb, hnb⟩ : ∃ nb, nb = decide (b < 0) := ⟨_, rfl⟩
  rw [← hna] at ra ⊢
  rw [← hnb] at rb ⊢
  have HNA := Lib.hid hna
  have HNB := Lib.hid hnb
  clear hna hnb
  have R1 : ∀ W, Sl W sa (digs a.natAbs) → Calls Tryz.prog 32 #[.agg #[.bool na, sa]] W fun e w' => e = .returned (.bool true) ∧ w' = W.alloc (.cells #[.bool na, sa] 27) := fun W h => by have := right_any na h (by omega); rwa [ra] at this
  have R2 : ∀ W, Sl W sb (digs b.natAbs) → Calls Tryz.prog 32 #[.agg #[.bool nb, sb]] W fun e w' => e = .returned (.bool true) ∧ w' = W.alloc (.cells #[.bool nb, sb] 27) := fun W h => by have := right_any nb h (by omega); rwa [rb] at this
  have HR1 := Lib.hid R1
  have HR2 := Lib.hid R2
  clear R1 R2 ra rb
  have HD := Lib.hid hd
  have H2 := Lib.hid h2
  clear hd h2
  go_enter Tryz.func17, Tryz.ntmps17
  go_wp2_with (first | (go_at_call_of 32 (Value.agg #[.bool na, sa]); refine (HR1.out _ (ha.below (by go_grown))).mono ?_; rintro e w' ⟨rfl, rfl⟩) | (go_at_call_of 32 (Value.agg #[.bool nb, sb]); refine (HR2.out _ (hb.below (by go_grown))).mono ?_; rintro e w' ⟨rfl, rfl⟩))
  have HB : Box3 ((((w.alloc (.cells #[.bool na, sa] 27)).alloc (.cells #[.bool nb, sb] 27)).alloc (.cells #[.bool false, .slice none 0 0] 27)).alloc (.cells #[.bool na, sa] 27) |>.alloc (.cells #[.bool nb, sb] 27)) w.heap.size na nb sa sb a.natAbs b.natAbs :=
    box3_new ha hb (by go_grown)
  have HBL : Below w.heap.size w ((((w.alloc (.cells #[.bool na, sa] 27)).alloc (.cells #[.bool nb, sb] 27)).alloc (.cells #[.bool false, .slice none 0 0] 27)).alloc (.cells #[.bool na, sa] 27) |>.alloc (.cells #[.bool nb, sb] 27)) := by go_grown
  revert HB HBL
  generalize ((((w.alloc (.cells #[.bool na, sa] 27)).alloc (.cells #[.bool nb, sb] 27)).alloc (.cells #[.bool false, .slice none 0 0] 27)).alloc (.cells #[.bool na, sa] 27) |>.alloc (.cells #[.bool nb, sb] 27)) = W
  intro HB HBL
  have a0 := HB.a0
  have a1 := HB.a1
  have b0 := HB.b0
  have b1 := HB.b1
  obtain ⟨n, hn⟩ : ∃ n, n = (digs (Nat.gcd a.natAbs b.natAbs)).length := ⟨_, rfl⟩
  have HN := Lib.hid hn
  clear hn
  refine (common_any HB.sa HB.sb la lb H2.out HN.out.symm HD.out).mono ?_
  rintro e w1 ⟨ao, cap, rfl, hs1, hb1'⟩
  have HB1 := HB.below hb1'
  obtain ⟨r0, r1, f0, f1⟩ := HB1.cells
  have hz := HB1.lt
  have hbw := hb1'.mono (Nat.le_of_lt HB.lt)
  have hbw0 := Nat.le_of_lt hz
  go_wp2_with (go_at_call 47; refine (made_any _ _ _ _ _).mono ?_; rintro e w2 ⟨rfl, rfl⟩)
  have HHs := Lib.hid hs1
  clear hs1
  have hfin : Below w.heap.size w (((w1.setCell ⟨w.heap.size + 1 + 1, 0, none⟩ (.bool (mkN false n))).setCell ⟨w.heap.size + 1 + 1, 1, none⟩ (.slice (mkA ao n) (mkL n) (mkC n cap))).alloc (.cells #[.bool (mkN false n), .slice (mkA ao n) (mkL n) (mkC n cap)] 27)) :=
    (((HBL.trans (hb1'.mono (by have := HB.lt; omega))).setCell (by simp; omega) _).setCell (by simp; omega) _).alloc (by simp; omega) _
  obtain ⟨q0, q1⟩ := res_cells HB1.r (.bool (mkN false n)) (.slice (mkA ao n) (mkL n) (mkC n cap)) (.cells #[.bool (mkN false n), .slice (mkA ao n) (mkL n) (mkC n cap)] 27)
  have hsw := HHs.out.after (g := w.heap.size + 1 + 1) HB.lt (.bool (mkN false n)) (.slice (mkA ao n) (mkL n) (mkC n cap)) (.cells #[.bool (mkN false n), .slice (mkA ao n) (mkL n) (mkC n cap)] 27)
  revert q0 q1 hfin hsw
  generalize (((w1.setCell ⟨w.heap.size + 1 + 1, 0, none⟩ (.bool (mkN false n))).setCell ⟨w.heap.size + 1 + 1, 1, none⟩ (.slice (mkA ao n) (mkL n) (mkC n cap))).alloc (.cells #[.bool (mkN false n), .slice (mkA ao n) (mkL n) (mkC n cap)] 27)) = W3
  intro hfin q0 q1 hsw
  have HSW := Lib.hid hsw
  clear hsw
  refine bodyPost_ret (v := .tuple #[.agg #[.bool (mkN false n), .slice (mkA ao n) (mkL n) (mkC n cap)], .bool (mkK n)]) (by simp [results, Tryz.results17, go_sem, q0, q1]) rfl ?_
  exact numRes_made hfin (by rw [Int.natAbs_natCast]; exact HN.out) (fun hz => by simp) (fun _ => by rw [Int.natAbs_natCast]; exact HSW.out.mono HBL.size)

end Go.Proofs.YtdgmjmckeeeljaaGreatDoor

namespace Go.Proofs.YtdgmjmckeeeljaaGreatDoor
open Go.RowKit

/-- The number of binary digits. -/
def bitsB (neg : Bool) (ds : List Nat) : Nat := if ds = [] then 0 else if rightB neg ds = true then 32 * (ds.length - 1) + Lib.bitLen (ds.getD (ds.length - 1) 0) else 0

set_option maxRecDepth 10000 in
set_option maxHeartbeats 1000000 in
theorem bits_any {w : World} {s : Value} {ds : List Nat} (neg : Bool) (h : Sl w s ds) (hreach : ds.length ≤ 140737488351232) :
    Calls Tryz.prog 33 #[.agg #[.bool neg, s]] w fun e w' => e = .returned (.int .i64 (bitsB neg ds : Nat)) ∧ Below w.heap.size w w' := by
  obtain ⟨ao, cap, rfl⟩ := h.mk'
  have HR := Lib.hid (fun W (h : Sl W (.slice ao ds.length cap) ds) => right_any neg h hreach)
  obtain ⟨n, hn⟩ : ∃ n, n = ds.length := ⟨_, rfl⟩
  by_cases h0 : n = 0
  · subst h0
    obtain rfl : ds = [] := List.eq_nil_of_length_eq_zero hn.symm
    have e0 : bitsB neg [] = 0 := rfl
    rw [e0]
    clear e0 hn HR h
    go_enter Tryz.func33, Tryz.ntmps33
    go_wp2
    go_returns
    exact ⟨rfl, by go_grown⟩
  · obtain ⟨d, hd⟩ : ∃ d, d = ds.getD (n - 1) 0 := ⟨_, rfl⟩
    have e0 : bitsB neg ds = if rightB neg ds = true then 32 * (n - 1) + Lib.bitLen d else 0 := by
      unfold bitsB
      rw [if_neg (by intro h; apply h0; rw [hn, h]; rfl), hd, hn]
    rw [e0]
    have hlen := h.len
    obtain ⟨rb, hrb⟩ : ∃ rb, rb = rightB neg ds := ⟨_, rfl⟩
    have hlim : rb = true → n ≤ 256 := by
      intro hr; rw [hrb] at hr; unfold rightB at hr
      rw [if_neg (by intro h; apply h0; rw [hn, h]; rfl)] at hr
      simp at hr; omega
    rw [← hrb]
    rw [← hrb] at HR
    rw [← hn] at h HR hreach ⊢
    obtain ⟨b, off, rfl, hcap, hbs, hcl⟩ := h.at h0
    have hc := hcl (n - 1) (by omega)
    have hd4 : d < 4294967296 := by rw [hd]; rw [val_digit h.bd]; exact Nat.mod_lt _ (by omega)
    rw [← hd] at hc
    have hD := Lib.hid hd
    have hN := Lib.hid hn
    have H4 := Lib.hid hd4
    clear hd hn e0 hcl hrb hlen hd4
    have hz : ((n : Int) == 0) = false := by simp; omega
    obtain ⟨m, rfl⟩ : ∃ m, n = m + 1 := ⟨n - 1, by omega⟩
    have hm1 : m + 1 - 1 = m := by omega
    rw [hm1] at hc ⊢
    cases rb with
    | false =>
      go_enter Tryz.func33, Tryz.ntmps33
      go_wp2_with (first | (go_at_call 32; refine (HR.out _ (h.below (by go_grown))).mono ?_; rintro e w' ⟨rfl, rfl⟩))
      go_returns
      exact ⟨rfl, by go_grown⟩
    | true =>
      have hm := hlim rfl
      clear hlim
      obtain ⟨L, hL⟩ : ∃ L, L = Lib.bitLen d := ⟨_, rfl⟩
      have hL64 : L ≤ 64 := by rw [hL]; exact Lib.bitLen_le d 64 (by omega) (by have := H4.out; omega)
      have HB := Lib.hid (fun W => Tryz.bits_Len32 (d : Int) W (by omega) (by have := H4.out; omega))
      rw [show (d : Int).toNat = d from rfl, ← hL] at HB
      rw [← hL]
      clear hL
      go_enter Tryz.func33, Tryz.ntmps33
      go_wp2_with (first | (go_at_call 32; refine (HR.out _ (h.below (by go_grown))).mono ?_; rintro e w' ⟨rfl, rfl⟩) | (go_at_call 70; refine (HB.out _).mono ?_; rintro e w' ⟨rfl, rfl⟩))
      go_returns
      refine ⟨?_, by go_grown⟩
      congr 2

end Go.Proofs.YtdgmjmckeeeljaaGreatDoor

namespace Go.Proofs.YtdgmjmckeeeljaaGreatDoor
open Go.RowKit

theorem eq_of_getD {xs ys : List Nat} (hl : xs.length = ys.length) (h : ∀ j, j < xs.length → xs.getD j 0 = ys.getD j 0) : xs = ys := by
  refine List.ext_getElem hl fun i h1 h2 => ?_
  have := h i h1
  simpa [List.getD, List.getElem?_eq_getElem h1, List.getElem?_eq_getElem h2] using this

def SameRes (w : World) (r : Bool) (e : Ending) (w' : World) : Prop := e = .returned (.bool r) ∧ Below w.heap.size w w'

set_option maxRecDepth 10000 in
set_option maxHeartbeats 1000000 in
theorem same_sign {w : World} {sa sb : Value} (na nb : Bool) (h : (na == nb) = false) :
    Calls Tryz.prog 19 #[.agg #[.bool na, sa], .agg #[.bool nb, sb]] w (SameRes w false) := by
  go_enter Tryz.func19, Tryz.ntmps19
  go_wp2
  go_returns
  exact ⟨rfl, by go_grown⟩

set_option maxRecDepth 10000 in
set_option maxHeartbeats 1000000 in
theorem same_len {w : World} {aa ab : Option Addr} {n m ca cb : Nat} (na : Bool) (h : ((n : Int) == (m : Int)) = false) :
    Calls Tryz.prog 19 #[.agg #[.bool na, .slice aa n ca], .agg #[.bool na, .slice ab m cb]] w (SameRes w false) := by
  go_enter Tryz.func19, Tryz.ntmps19
  go_wp2
  go_returns
  exact ⟨rfl, by go_grown⟩

set_option maxRecDepth 10000 in
set_option maxHeartbeats 1000000 in
theorem same_nil {w : World} {aa ab : Option Addr} {ca cb : Nat} (na : Bool) :
    Calls Tryz.prog 19 #[.agg #[.bool na, .slice aa 0 ca], .agg #[.bool na, .slice ab 0 cb]] w (SameRes w true) := by
  go_enter Tryz.func19, Tryz.ntmps19
  go_wp2
  go_rounds 1
  go_returns
  exact ⟨rfl, by go_grown⟩

set_option maxRecDepth 10000 in
set_option maxHeartbeats 1000000 in
theorem same_pos {w : World} {sa sb : Value} {xs ys : List Nat} {n : Nat} (na : Bool) (ha : Sl w sa xs) (hb : Sl w sb ys) (h1 : xs.length = n) (h2 : ys.length = n) (h0 : n ≠ 0) :
    Calls Tryz.prog 19 #[.agg #[.bool na, sa], .agg #[.bool na, sb]] w (SameRes w (decide (xs = ys))) := by
  obtain ⟨aa, ca, rfl⟩ := ha.mk'
  obtain ⟨ab, cb, rfl⟩ := hb.mk'
  rw [h1] at ha ⊢
  rw [h2] at hb ⊢
  have HE : Hid ((∀ j, j < n → xs.getD j 0 = ys.getD j 0) → xs = ys) := fun h => eq_of_getD (by omega) (by rw [h1]; exact h)
  have HD : Hid (∀ k, xs.getD k 0 ≠ ys.getD k 0 → xs ≠ ys) := fun k h e => h (by rw [e])
  obtain ⟨ba, oa, rfl, hca, hba, hcla⟩ := ha.at h0
  obtain ⟨bb, ob, rfl, hcb, hbb, hclb⟩ := hb.at h0
  have hlen : n ≤ maxLen := by rw [← h1]; exact ha.len
  unfold maxLen at hlen
  have HAL := Lib.hid h1
  have HBL := Lib.hid h2
  clear h1 h2 ha hb
  have HA := Lib.hid hcla
  have HB := Lib.hid hclb
  clear hcla hclb
  go_enter Tryz.func19, Tryz.ntmps19
  go_wp2
  go_loopw [5] (fun i wr => ∃ k m : Nat, k ≤ n ∧ i = .int .i64 (k : Nat) ∧ Hid (∀ j, j < k → xs.getD j 0 = ys.getD j 0) ∧ wr = ((w.alloc (.cells #[.bool na, .slice (some ⟨ba, oa, none⟩) n ca] 27)).alloc (.cells #[.bool na, .slice (some ⟨bb, ob, none⟩) n cb] 27)).drewN m) (fun i _ => n - (intOf i).toNat)
  case atStart => exact ⟨0, 0, by omega, rfl, Lib.hid (fun j hj => by omega), rfl⟩
  case round =>
    obtain ⟨k, m, hk, rfl, hj, rfl⟩ := hrel
    by_cases hkn : k = n
    · subst hkn
      have he := HE.out hj.out
      go_wp2
      go_ret
      exact ⟨by simp [he], below_drewN' (by go_grown) _⟩
    · have hlt : k < n := by omega
      have hA := HA.out
      have hB := HB.out
      have ea := HAL.out
      have eb := HBL.out
      have hx := hA k (by omega)
      have hy := hB k (by omega)
      obtain ⟨x, hxx⟩ : ∃ x, x = xs.getD k 0 := ⟨_, rfl⟩
      obtain ⟨y, hyy⟩ : ∃ y, y = ys.getD k 0 := ⟨_, rfl⟩
      rw [← hxx] at hx
      rw [← hyy] at hy
      have hlx := block_lt_of_cell hx
      by_cases hxy : x = y
      · have hj2 : ∀ j, j < k + 1 → xs.getD j 0 = ys.getD j 0 := fun j h => by
          by_cases hjk : j = k
          · rw [hjk, ← hxx, ← hyy, hxy]
          · exact hj.out j (by omega)
        have HJ := Lib.hid hj2
        clear hA hB hj2 hxx hyy
        subst hxy
        clear ea eb
        go_wp2
        go_quiet (fail)
        go_wp2
        go_roundw
        case rel => exact ⟨k + 1, m + nq, by omega, by go_num, HJ, rfl⟩
        case measure => simp only [intOf]; omega
      · have hne : xs ≠ ys := HD.out k (by rw [← hxx, ← hyy]; exact hxy)
        have hf : ((x : Int) != (y : Int)) = true := by simp; omega
        clear hA hB hxx hyy ea eb
        go_wp2
        go_quiet (fail)
        go_wp2
        go_ret
        exact ⟨by simp [hne], below_drewN' (below_drewN' (by go_grown) _) _⟩

/-- Same of two Nums whose slices read as digits. -/
theorem same_any {w : World} {sa sb : Value} {xs ys : List Nat} (na nb : Bool) (ha : Sl w sa xs) (hb : Sl w sb ys) :
    Calls Tryz.prog 19 #[.agg #[.bool na, sa], .agg #[.bool nb, sb]] w (SameRes w (decide (na = nb ∧ xs = ys))) := by
  by_cases hn : na = nb
  · subst hn
    by_cases hl : xs.length = ys.length
    · have e : decide (na = na ∧ xs = ys) = decide (xs = ys) := by simp
      rw [e]
      by_cases h0 : xs.length = 0
      · obtain rfl := List.eq_nil_of_length_eq_zero h0
        obtain rfl := List.eq_nil_of_length_eq_zero (hl.symm.trans h0)
        obtain ⟨aa, ca, rfl⟩ := ha.mk'
        obtain ⟨ab, cb, rfl⟩ := hb.mk'
        exact same_nil na
      · exact same_pos na ha hb rfl hl.symm h0
    · have e : decide (na = na ∧ xs = ys) = false := by
        rw [decide_eq_false_iff_not]; exact fun h => hl (by rw [h.2])
      rw [e]
      obtain ⟨aa, ca, rfl⟩ := ha.mk'
      obtain ⟨ab, cb, rfl⟩ := hb.mk'
      exact same_len na (by simp; omega)
  · have e : decide (na = nb ∧ xs = ys) = false := by
      rw [decide_eq_false_iff_not]; exact fun h => hn h.1
    rw [e]
    exact same_sign na nb (by cases na <;> cases nb <;> simp_all)

/-- Same of right Nums is equality. -/
theorem same_nu {w : World} {x y : Value} {a b : Int} (hx : Nu w x a) (hy : Nu w y b) : Calls Tryz.prog 19 #[x, y] w (SameRes w (decide (a = b))) := by
  obtain ⟨sa, rfl, ha, la⟩ := hx
  obtain ⟨sb, rfl, hb, lb⟩ := hy
  have := same_any (decide (a < 0)) (decide (b < 0)) ha hb
  have e : decide (decide (a < 0) = decide (b < 0) ∧ digs a.natAbs = digs b.natAbs) = decide (a = b) := by
    by_cases h : a = b
    · subst h; simp
    · rw [decide_eq_false h, decide_eq_false_iff_not]
      rintro ⟨h1, h2⟩
      have h3 := digs_inj h2
      apply h
      simp only [decide_eq_decide] at h1
      omega
  rwa [e] at this

end Go.Proofs.YtdgmjmckeeeljaaGreatDoor

namespace Go.Proofs.YtdgmjmckeeeljaaGreatDoor
open Go.RowKit

set_option maxRecDepth 10000 in
set_option maxHeartbeats 1000000 in
theorem is_any {w : World} {sa sb : Value} {xs ys : List Nat} (na nb r : Bool) (hr : r = decide (na = nb ∧ xs = ys)) (ha : Sl w sa xs) (hb : Sl w sb ys) :
    Calls Tryz.prog 34 #[.agg #[.bool na, sa], .bool true, .bool nb, sb] w (SameRes w r) := by
  have HS : Hid (∀ W, Sl W sa xs → Sl W sb ys → Calls Tryz.prog 19 #[.agg #[.bool na, sa], .agg #[.bool nb, sb]] W (SameRes W (decide (na = nb ∧ xs = ys)))) := fun W h1 h2 => same_any na nb h1 h2
  rw [← hr] at HS
  clear hr
  obtain ⟨aa, ca, rfl⟩ := ha.mk'
  obtain ⟨ab, cb, rfl⟩ := hb.mk'
  obtain ⟨n, hn⟩ : ∃ n, n = xs.length := ⟨_, rfl⟩
  obtain ⟨m, hm⟩ : ∃ m, m = ys.length := ⟨_, rfl⟩
  rw [← hn, ← hm] at HS
  rw [← hn] at ha ⊢
  rw [← hm] at hb ⊢
  clear hn hm
  go_enter Tryz.func34, Tryz.ntmps34
  go_wp2_with (go_at_call 19; refine (HS.out _ (ha.below (by go_grown)) (hb.below (by go_grown))).mono ?_; rintro e W2 ⟨rfl, hb2⟩)
  go_returns
  exact ⟨rfl, Below.trans (by go_grown) (hb2.mono (by simp))⟩

/-- divide by a divisor of one digit. -/
theorem divide_small {w : World} {va vb : Value} {x y : Nat} (ha : Sl w va (digs x)) (hb : Sl w vb (digs y)) (h0 : y ≠ 0) (hy : y < 4294967296) (hla : (digs x).length ≤ 256) :
    Calls Tryz.prog 44 #[va, vb] w (DivRes w x y) := by
  rcases Nat.lt_or_ge x y with h | h
  · exact divide_less ha hb h hla (by rw [digs_small h0 hy]; simp)
  · exact divide_one ha hb h0 h hy hla

theorem div_small {w : World} {x y : Value} {a b : Int} (hx : Nu w x a) (hy : Nu w y b) (hb0 : b ≠ 0) (hb : b.natAbs < 4294967296) : Calls Tryz.prog 15 #[x, y] w (DivOut w a b) :=
  div_any hx hy hb0 (fun W va vb h1 h2 => divide_small h1 h2 (by omega) hb hx.choose_spec.2.2)

/-- Gcd of numbers that have one digit each. -/
theorem gcd_small {w : World} {x y : Value} {a b : Int} (hx : Nu w x a) (hy : Nu w y b) (ha : a.natAbs < 4294967296) (hb : b.natAbs < 4294967296) : Calls Tryz.prog 17 #[x, y] w (NumRes w (Nat.gcd a.natAbs b.natAbs : Nat)) :=
  gcd_any hx hy (.inl (digs_length_le.2 (by omega))) (fun u v W va vb h hv h1 h2 => divide_small h1 h2 hv (by omega) (by
    rcases h with ⟨rfl, -⟩ | ⟨rfl, -⟩
    · exact hx.choose_spec.2.2
    · exact hy.choose_spec.2.2))

theorem fit_i64 {z : Int} (h1 : -9223372036854775808 ≤ z) (h2 : z ≤ 9223372036854775807) : (digs z.natAbs).length ≤ 256 :=
  Nat.le_trans (digs_word (by omega)) (by omega)

set_option maxRecDepth 10000 in
set_option maxHeartbeats 1000000 in
theorem divides_yes {w : World} (a b : Int) (hb0 : b ≠ 0) (hb : b.natAbs < 4294967296) (ha1 : -2147483648 ≤ a) (ha2 : a ≤ 2147483647) :
    Calls Tryz.prog 35 #[.int .i64 a, .int .i64 b, .int .i64 (a / b), .int .i64 (a % b)] w (SameRes w true) := by
  have hq : (a / b).natAbs ≤ a.natAbs := Int.natAbs_ediv_le_natAbs a b
  have hr : (a % b).natAbs < b.natAbs := by
    have h1 := Int.emod_nonneg a hb0
    have h2 := Int.emod_lt a hb0
    omega
  have O1 : Hid (∀ W, Calls Tryz.prog 27 #[.int .i64 a] W fun e w' => ∃ x, e = .returned x ∧ Nu w' x a ∧ Below W.heap.size W w') := fun W => (of_any a W (by omega) (by omega)).mono fun e w' h => h.nu (fit_i64 (by omega) (by omega))
  have O2 : Hid (∀ W, Calls Tryz.prog 27 #[.int .i64 b] W fun e w' => ∃ x, e = .returned x ∧ Nu w' x b ∧ Below W.heap.size W w') := fun W => (of_any b W (by omega) (by omega)).mono fun e w' h => h.nu (fit_i64 (by omega) (by omega))
  have DV : Hid (∀ W x y, Nu W x a → Nu W y b → Calls Tryz.prog 15 #[x, y] W (DivOut W a b)) := fun W x y h1 h2 => div_small h1 h2 hb0 hb
  obtain ⟨q, hq0⟩ : ∃ q, q = a / b := ⟨_, rfl⟩
  obtain ⟨r, hr0⟩ : ∃ r, r = a % b := ⟨_, rfl⟩
  have I1 : Hid (∀ W x, Nu W x q → Calls Tryz.prog 26 #[x] W (IntRes W q true)) := fun W x h => int_yes h (by omega) (by omega)
  have I2 : Hid (∀ W x, Nu W x r → Calls Tryz.prog 26 #[x] W (IntRes W r true)) := fun W x h => int_yes h (by omega) (by omega)
  unfold DivOut at DV
  rw [← hq0, ← hr0] at DV ⊢
  clear hq hr hq0 hr0 hb0 hb ha1 ha2
  go_enter Tryz.func35, Tryz.ntmps35
  go_wp2_with (first | (go_at_call_of 27 (Value.int IntKind.i64 a); refine (O1.out _).mono ?_; rintro e W1 ⟨x, rfl, hx, hb1⟩) | (go_at_call_of 27 (Value.int IntKind.i64 b); refine (O2.out _).mono ?_; rintro e W2 ⟨y, rfl, hy, hb2⟩) | (go_at_call 15; refine (DV.out _ _ _ (hx.below hb2) hy).mono ?_; rintro e W3 ⟨n1, a1, l1, c1, n2, a2, l2, c2, rfl, hb3, hq, hr⟩) | (go_at_call_of 26 (Value.agg #[Value.bool n1, Value.slice a1 l1 c1]); refine (I1.out _ _ (hq.below (by go_grown))).mono ?_; rintro e W4 ⟨rfl, hb4⟩; have k0 : W4.cell? ⟨W3.heap.size + 1, 0, none⟩ = some (.bool n2) := (hb4.cell (p := ⟨W3.heap.size + 1, 0, none⟩) (by simp)).trans (by simp [go_sem]); have k1 : W4.cell? ⟨W3.heap.size + 1, 1, none⟩ = some (.slice a2 l2 c2) := (hb4.cell (p := ⟨W3.heap.size + 1, 1, none⟩) (by simp)).trans (by simp [go_sem])) | (go_at_call_of 26 (Value.agg #[Value.bool n2, Value.slice a2 l2 c2]); refine (I2.out _ _ (hr.below (Below.trans (by go_grown) (hb4.mono (by simp; omega))))).mono ?_; rintro e W5 ⟨rfl, hb5⟩))
  go_returns
  have hx1 := hb1.size
  have hx2 := hb2.size
  have hx3 := hb3.size
  have hx4 := hb4.size
  simp at hx4
  have h5 : Below w.heap.size w W3 := (hb1.trans (hb2.mono hx1)).trans (hb3.mono (by omega))
  have h6 : Below w.heap.size w W4 := by
    refine Below.trans ?_ (hb4.mono (by simp; omega))
    refine Below.trans h5 ?_
    go_grown
  exact ⟨rfl, h6.trans (hb5.mono (by omega))⟩

end Go.Proofs.YtdgmjmckeeeljaaGreatDoor

namespace Go.Proofs.YtdgmjmckeeeljaaGreatDoor
open Go.RowKit

def digB (b : UInt8) : Bool := decide (48 ≤ b.toNat) && decide (b.toNat ≤ 57)

/-- Whether a string is the text of a number that is not negative, of at most 2467 digits. -/
def decB (s : ByteArray) : Bool := decide (s.size ≠ 0) && decide (s.size ≤ 2467) && (decide ((s.data.toList.getD 0 0).toNat ≠ 48) || decide (s.size = 1)) && s.data.toList.all digB

theorem eql_empty (s : ByteArray) (h : s.size ≠ 0) : binOp BinOp.eql 9 (.string s) (.string ⟨#[]⟩) = (pure (.bool false) : Sem Value) := by
  rw [binOp_string_eql]
  have : (s.toList == (ByteArray.mk #[]).toList) = false := by
    rw [beq_eq_false_iff_ne, ByteArray.toList_eq, ByteArray.toList_eq]
    intro hs
    apply h
    have : s.data.toList.length = 0 := by rw [hs]; rfl
    rw [Array.length_toList] at this
    exact this
  rw [this]

theorem neq_zero (s : ByteArray) (h0 : (s.data.toList.getD 0 0).toNat = 48) (h : s.size ≠ 0) : binOp BinOp.neq 9 (.string s) (.string ⟨#[48]⟩) = (pure (.bool (!decide (s.size = 1))) : Sem Value) := by
  rw [binOp_string_neq]
  have : (s.toList == (ByteArray.mk #[48]).toList) = decide (s.size = 1) := by
    rw [ByteArray.toList_eq, ByteArray.toList_eq]
    rw [Bool.eq_iff_iff, beq_iff_eq, decide_eq_true_iff]
    have hsz : s.size = s.data.toList.length := by rw [Array.length_toList]; rfl
    rw [hsz]
    constructor
    · intro e; rw [e]; rfl
    · intro e
      match hm : s.data.toList, e with
      | [b], _ =>
        rw [hm] at h0
        have hb : b = 48 := UInt8.toNat_inj.1 (by simpa using h0)
        rw [hb]
  rw [this]

theorem index_first (s : ByteArray) (h : s.size ≠ 0) (w : World) : (Instr.index 9 (.string s) (.int .i64 0)).run Tryz.prog w = .ok (.int .u8 (s.data.toList.getD 0 0).toNat) w := by
  rw [run_index_string _ _ _ _ _ (by first | exact Tryz.underlying9 | kernel_rfl)]
  have h1 : 0 < s.size := by omega
  have h2 : 0 < s.data.size := h1
  have e : s.data.toList.getD 0 0 = s[0] := by
    simp only [List.getD, Array.getElem?_toList]
    rw [Array.getElem?_eq_getElem h2]
    rfl
  rw [dif_pos ⟨by omega, by omega⟩, e]
  rfl

set_option maxRecDepth 10000 in
set_option maxHeartbeats 1000000 in
theorem decimal_empty (w : World) : Calls Tryz.prog 64 #[.string ⟨#[]⟩] w (SameRes w false) := by
  go_enter Tryz.func64, Tryz.ntmps64
  go_wp2
  go_returns
  exact ⟨rfl, by go_grown⟩

set_option maxRecDepth 10000 in
set_option maxHeartbeats 1000000 in
theorem decimal_long (s : ByteArray) (w : World) (h : 2467 < s.size) : Calls Tryz.prog 64 #[.string s] w (SameRes w false) := by
  have e1 := eql_empty s (by omega)
  go_enter Tryz.func64, Tryz.ntmps64
  go_wp2
  go_returns
  exact ⟨rfl, by go_grown⟩

set_option maxRecDepth 10000 in
set_option maxHeartbeats 1000000 in
theorem decimal_zeros (s : ByteArray) (w : World) (h1 : 1 < s.size) (h2 : s.size ≤ 2467) (h0 : (s.data.toList.getD 0 0).toNat = 48) : Calls Tryz.prog 64 #[.string s] w (SameRes w false) := by
  have e1 := eql_empty s (by omega)
  have e2 := neq_zero s h0 (by omega)
  have e3 := index_first s (by omega)
  rw [h0] at e3
  have e4 : (!decide (s.size = 1)) = true := by simp; omega
  rw [e4] at e2
  clear e4 h0
  go_enter Tryz.func64, Tryz.ntmps64
  go_wp2
  go_returns
  exact ⟨rfl, by go_grown⟩

set_option maxRecDepth 10000 in
set_option maxHeartbeats 1000000 in
theorem decimal_loop (s : ByteArray) (w : World) (c : Bool) (h1 : s.size ≠ 0) (h2 : s.size ≤ 2467) (h0 : (s.data.toList.getD 0 0).toNat ≠ 48 ∨ s.size = 1) (hc : c = s.data.toList.all digB) : Calls Tryz.prog 64 #[.string s] w (SameRes w c) := by
  have e1 := eql_empty s h1
  have e3 := index_first s h1
  have hlen : s.data.toList.length = s.size := by rw [Array.length_toList]; rfl
  have hall : (∀ j, j < s.size → digB (s.data.toList.getD j 0) = true) → c = true := fun h => by
    rw [hc, List.all_eq_true]
    intro x hx
    obtain ⟨j, hj, rfl⟩ := List.getElem_of_mem hx
    have := h j (by omega)
    simpa [List.getD, List.getElem?_eq_getElem hj] using this
  have hno : ∀ j, j < s.size → digB (s.data.toList.getD j 0) = false → c = false := fun j hj h => by
    rw [hc]
    rw [Bool.eq_false_iff]
    intro ha
    rw [List.all_eq_true] at ha
    have hj' : j < s.data.toList.length := by omega
    have := ha _ (List.getElem_mem hj')
    simp only [List.getD, List.getElem?_eq_getElem hj', Option.getD_some] at h
    rw [this] at h
    cases h
  have HALL := Lib.hid hall
  have HNO := Lib.hid hno
  have HC : Hid (∀ j, j < s.size → (Lib.bytesWorld w 5 s).cell? ⟨w.heap.size, j, none⟩ = some (.int .u8 (s.data.toList.getD j 0).toNat)) := fun j hj => Lib.bytesWorld_cell w 5 s j hj
  have HBW : Hid (Below w.heap.size w (Lib.bytesWorld w 5 s)) := Lib.bytesWorld_below _ _ _
  have hconv := Lib.run_convert_string_bytes (P := Tryz.prog) w 9 56 5 s (by first | exact Tryz.underlying9 | kernel_rfl) (by first | exact Tryz.underlying56 | kernel_rfl) (by first | exact Tryz.underlying5 | kernel_rfl)
  obtain ⟨W, hW⟩ : ∃ W, W = Lib.bytesWorld w 5 s := ⟨_, rfl⟩
  rw [← hW] at HC HBW hconv
  obtain ⟨d, hd⟩ : ∃ d, d = (s.data.toList.getD 0 0).toNat := ⟨_, rfl⟩
  obtain ⟨n, hn⟩ : ∃ n, n = s.size := ⟨_, rfl⟩
  have hcap : n ≤ grownCap w n 0 5 := grownCap_ge _ _ _ _
  rw [← hd] at e3 h0
  clear hall hno hlen hc hW
  have HN := Lib.hid hn
  rw [← hn] at hconv
  by_cases h48 : d = 48
  · have e2 := neq_zero s (by rw [← hd, h48]) h1
    have hs1 : s.size = 1 := by omega
    rw [hs1] at e2
    subst h48
    have en : n = 1 := by rw [hn, hs1]
    clear hn hd hs1
    have e4 : (!decide ((1 : Nat) = 1)) = false := rfl
    rw [e4] at e2
    clear e4
    go_enter Tryz.func64, Tryz.ntmps64
    go_wp2
    go_loop [24] (fun i => ∃ k : Nat, k ≤ n ∧ i = .int .i64 (k : Nat) ∧ Hid (∀ j, j < k → digB (s.data.toList.getD j 0) = true)) (fun i => n - (intOf i).toNat)
    case atStart => exact ⟨0, by omega, rfl, Lib.hid (fun j hj => by omega)⟩
    case round =>
      obtain ⟨k, hk, rfl, hj⟩ := hrel
      by_cases hkn : k = n
      · have he := HALL.out (fun j hj' => hj.out j (by rw [hkn, HN.out]; exact hj'))
        subst he
        subst hkn
        go_wp2
        go_ret
        exact ⟨rfl, HBW.out⟩
      · have hx := HC.out k (by rw [← HN.out]; omega)
        have hkl : k < s.size := by rw [← HN.out]; omega
        by_cases hg : digB (s.data.toList.getD k 0) = true
        · have hJ : ∀ j, j < k + 1 → digB (s.data.toList.getD j 0) = true := fun j hj' => by
            by_cases hjk : j = k
            · rw [hjk]; exact hg
            · exact hj.out j (by omega)
          have HJ := Lib.hid hJ
          clear hJ
          obtain ⟨x, hxx⟩ : ∃ x, x = (s.data.toList.getD k 0).toNat := ⟨_, rfl⟩
          unfold digB at hg
          rw [← hxx] at hx hg
          simp only [Bool.and_eq_true, decide_eq_true_eq] at hg
          obtain ⟨g1, g2⟩ := hg
          clear hxx
          go_wp2
          go_round
          case rel => exact ⟨k + 1, by omega, by go_num, HJ⟩
          case measure => simp only [intOf]; omega
        · have he := HNO.out k hkl (by simpa using hg)
          subst he
          obtain ⟨x, hxx⟩ : ∃ x, x = (s.data.toList.getD k 0).toNat := ⟨_, rfl⟩
          unfold digB at hg
          rw [← hxx] at hx hg
          simp only [Bool.and_eq_true, decide_eq_true_eq] at hg
          clear hxx
          by_cases g1 : x < 48
          · go_wp2
            go_ret
            exact ⟨rfl, HBW.out⟩
          · have g2 : 57 < x := by omega
            go_wp2
            go_ret
            exact ⟨rfl, HBW.out⟩
  · have h49 : ((d : Int) == 48) = false := by simp; omega
    clear hn hd
    go_enter Tryz.func64, Tryz.ntmps64
    go_wp2
    go_loop [24] (fun i => ∃ k : Nat, k ≤ n ∧ i = .int .i64 (k : Nat) ∧ Hid (∀ j, j < k → digB (s.data.toList.getD j 0) = true)) (fun i => n - (intOf i).toNat)
    case atStart => exact ⟨0, by omega, rfl, Lib.hid (fun j hj => by omega)⟩
    case round =>
      obtain ⟨k, hk, rfl, hj⟩ := hrel
      by_cases hkn : k = n
      · have he := HALL.out (fun j hj' => hj.out j (by rw [hkn, HN.out]; exact hj'))
        subst he
        subst hkn
        go_wp2
        go_ret
        exact ⟨rfl, HBW.out⟩
      · have hx := HC.out k (by rw [← HN.out]; omega)
        have hkl : k < s.size := by rw [← HN.out]; omega
        by_cases hg : digB (s.data.toList.getD k 0) = true
        · have hJ : ∀ j, j < k + 1 → digB (s.data.toList.getD j 0) = true := fun j hj' => by
            by_cases hjk : j = k
            · rw [hjk]; exact hg
            · exact hj.out j (by omega)
          have HJ := Lib.hid hJ
          clear hJ
          obtain ⟨x, hxx⟩ : ∃ x, x = (s.data.toList.getD k 0).toNat := ⟨_, rfl⟩
          unfold digB at hg
          rw [← hxx] at hx hg
          simp only [Bool.and_eq_true, decide_eq_true_eq] at hg
          obtain ⟨g1, g2⟩ := hg
          clear hxx
          go_wp2
          go_round
          case rel => exact ⟨k + 1, by omega, by go_num, HJ⟩
          case measure => simp only [intOf]; omega
        · have he := HNO.out k hkl (by simpa using hg)
          subst he
          obtain ⟨x, hxx⟩ : ∃ x, x = (s.data.toList.getD k 0).toNat := ⟨_, rfl⟩
          unfold digB at hg
          rw [← hxx] at hx hg
          simp only [Bool.and_eq_true, decide_eq_true_eq] at hg
          clear hxx
          by_cases g1 : x < 48
          · go_wp2
            go_ret
            exact ⟨rfl, HBW.out⟩
          · have g2 : 57 < x := by omega
            go_wp2
            go_ret
            exact ⟨rfl, HBW.out⟩

/-- num.decimal. -/
theorem decimal_any (s : ByteArray) (w : World) : Calls Tryz.prog 64 #[.string s] w (SameRes w (decB s)) := by
  by_cases h1 : s.size = 0
  · have e : s = ⟨#[]⟩ := by
      apply ByteArray.ext
      exact Array.eq_empty_of_size_eq_zero h1
    have e2 : decB s = false := by unfold decB; rw [h1]; rfl
    rw [e2, e]
    exact decimal_empty w
  · by_cases h2 : 2467 < s.size
    · have e2 : decB s = false := by
        unfold decB
        have : decide (s.size ≤ 2467) = false := decide_eq_false (by omega)
        rw [this, Bool.and_false]; rfl
      rw [e2]
      exact decimal_long s w h2
    · by_cases h0 : (s.data.toList.getD 0 0).toNat = 48 ∧ s.size ≠ 1
      · have e2 : decB s = false := by
          unfold decB
          have : (decide ((s.data.toList.getD 0 0).toNat ≠ 48) || decide (s.size = 1)) = false := by rw [decide_eq_false (by intro h; exact h h0.1), decide_eq_false h0.2]; rfl
          rw [this, Bool.and_false]; rfl
        rw [e2]
        exact decimal_zeros s w (by omega) (by omega) h0.1
      · refine decimal_loop s w (decB s) h1 (by omega) (by omega) ?_
        unfold decB
        have a1 : decide (s.size ≠ 0) = true := decide_eq_true h1
        have a2 : decide (s.size ≤ 2467) = true := decide_eq_true (by omega)
        have a3 : (decide ((s.data.toList.getD 0 0).toNat ≠ 48) || decide (s.size = 1)) = true := by
          rw [Bool.or_eq_true, decide_eq_true_iff, decide_eq_true_iff]; omega
        rw [a1, a2, a3]; rfl

end Go.Proofs.YtdgmjmckeeeljaaGreatDoor

namespace Go.Proofs.YtdgmjmckeeeljaaGreatDoor
open Go.RowKit

/-- What digits spell, on from acc. -/
def decV (acc : Nat) (l : List UInt8) : Nat := l.foldl (fun a b => a * 10 + (b.toNat - 48)) acc

theorem decV_acc (acc : Nat) (l : List UInt8) : decV acc l = acc * 10 ^ l.length + decV 0 l := by
  induction l generalizing acc with
  | nil => simp [decV]
  | cons b r ih =>
    have h1 : decV acc (b :: r) = decV (acc * 10 + (b.toNat - 48)) r := rfl
    have h2 : decV 0 (b :: r) = decV (0 * 10 + (b.toNat - 48)) r := rfl
    rw [h1, h2, ih, ih (0 * 10 + (b.toNat - 48)), List.length_cons, Nat.pow_succ]
    simp only [Nat.add_mul, Nat.zero_mul, Nat.zero_add, Nat.mul_assoc, Nat.mul_comm 10, Nat.add_assoc]

theorem decV_append (acc : Nat) (l r : List UInt8) : decV acc (l ++ r) = decV (decV acc l) r := List.foldl_append

theorem decV_lt (l : List UInt8) (h : l.all digB = true) : decV 0 l < 10 ^ l.length := by
  induction l with
  | nil => simp [decV]
  | cons b r ih =>
    simp only [List.all_cons, Bool.and_eq_true] at h
    have h1 : decV 0 (b :: r) = decV (0 * 10 + (b.toNat - 48)) r := rfl
    have h2 := h.1
    unfold digB at h2
    simp only [Bool.and_eq_true, decide_eq_true_eq] at h2
    rw [h1, decV_acc, List.length_cons, Nat.pow_succ]
    have := ih h.2
    have h3 : (0 * 10 + (b.toNat - 48)) * 10 ^ r.length ≤ 9 * 10 ^ r.length := Nat.mul_le_mul_right _ (by omega)
    omega

theorem parseM_dec (l : List UInt8) (acc : Nat) (h : l.all digB = true) (hl : (acc + 1) * 10 ^ l.length ≤ 1000000000) : Lib.parseUintM 4294967295 acc l = .ok (decV acc l) := by
  induction l generalizing acc with
  | nil => rfl
  | cons b r ih =>
    simp only [List.all_cons, Bool.and_eq_true] at h
    have h2 := h.1
    unfold digB at h2
    simp only [Bool.and_eq_true, decide_eq_true_eq] at h2
    rw [List.length_cons, Nat.pow_succ] at hl
    have hp : 1 ≤ 10 ^ r.length := Nat.pow_pos (by omega)
    have hx : (acc + 1) * 10 * 10 ^ r.length ≤ 1000000000 := by
      rw [Nat.mul_assoc, Nat.mul_comm 10]; exact hl
    have hy : (acc + 1) * 10 * 1 ≤ (acc + 1) * 10 * 10 ^ r.length := Nat.mul_le_mul_left _ hp
    unfold Lib.parseUintM
    rw [if_pos h2, if_neg (by omega), if_neg (by omega)]
    refine ih _ h.2 (Nat.le_trans (Nat.mul_le_mul_right _ ?_) hx)
    omega

theorem parseB_dec (l : List UInt8) (h0 : l ≠ []) (h : l.all digB = true) (hl : l.length ≤ 9) : Lib.parseUintB 32 l = .ok (decV 0 l) := by
  unfold Lib.parseUintB
  rw [if_neg h0]
  refine parseM_dec l 0 h ?_
  have := Nat.pow_le_pow_right (n := 10) (by omega) hl
  omega

theorem list_extract (t : ByteArray) (a b : Nat) : (t.extract a b).data.toList = (t.data.toList.drop a).take (b - a) := by
  rw [ByteArray.data_extract, Array.toList_extract, List.extract_eq_take_drop]

theorem ten_fit (x k : Nat) (h : x < 10 ^ k) : (digs x).length ≤ k :=
  digs_length_le.2 (Nat.lt_of_lt_of_le h (Nat.pow_le_pow_left (by omega) _))

/-- The loop of parsed: what is read, and what is left. -/
structure ParI (w : World) (full : List UInt8) (wr : World) (t : ByteArray) (v : Value) (d : Nat) : Prop where
  sum : d * 10 ^ t.size + decV 0 t.data.toList = decV 0 full
  all : t.data.toList.all digB = true
  len : t.size ≤ 2467
  whole : d = 0 ∨ t.size % 9 = 0
  sl : Sw w.heap.size wr v (digs d)
  below : Below w.heap.size w wr

theorem digs_group (d n : Nat) (h : (digs d).length ≤ n) : (digs (d * 1000000000)).length ≤ n + 1 := digs_length_le.2 (by
  rw [Nat.pow_succ]
  have h1 := digs_length_le.1 h
  have h2 : 0 < 4294967296 ^ n := Nat.pow_pos (by omega)
  calc d * 1000000000 ≤ 4294967296 ^ n * 1000000000 := Nat.mul_le_mul_right _ (Nat.le_of_lt h1)
    _ < 4294967296 ^ n * 4294967296 := Nat.mul_lt_mul_of_pos_left (by omega) h2)

/-- A round of parsed: what its first group spells. -/
theorem ParI.step {w wr W : World} {full : List UInt8} {t : ByteArray} {v v' : Value} {d g k : Nat} (h : ParI w full wr t v d) (hk : k = (t.size - 1) % 9 + 1) (h0 : 0 < t.size) (hg : g = decV 0 (t.data.toList.take k))
    (hs : Sw w.heap.size W v' (digs (d * 1000000000 + g))) (hb : Below w.heap.size w W) : ParI w full W (t.extract k t.size) v' (d * 1000000000 + g) := by
  have hlen : t.data.toList.length = t.size := by rw [Array.length_toList]; rfl
  have hkt : k ≤ t.size := by have := Nat.mod_le (t.size - 1) 9; omega
  have he : (t.extract k t.size).data.toList = t.data.toList.drop k := by
    rw [list_extract]
    exact List.take_of_length_le (by rw [List.length_drop]; omega)
  have hsz : (t.extract k t.size).size = t.size - k := by
    have : (t.extract k t.size).size = (t.extract k t.size).data.toList.length := by rw [Array.length_toList]; rfl
    rw [this, he, List.length_drop, hlen]
  refine ⟨?_, ?_, by rw [hsz]; have := h.len; omega, ?_, hs, hb⟩
  · rw [hsz, he, ← h.sum]
    have hsplit : decV 0 t.data.toList = g * 10 ^ (t.size - k) + decV 0 (t.data.toList.drop k) := by
      conv => lhs; rw [← List.take_append_drop k t.data.toList]
      rw [decV_append, decV_acc, ← hg, List.length_drop, hlen]
    rw [hsplit, Nat.add_mul, Nat.add_assoc]
    congr 1
    rcases h.whole with h9 | h9
    · simp [h9]
    · have : k = 9 := by omega
      subst this
      have e : t.size = 9 + (t.size - 9) := by omega
      conv => rhs; rw [e, Nat.pow_add, ← Nat.mul_assoc]
  · rw [he]
    have := h.all
    rw [List.all_eq_true] at this ⊢
    exact fun x hx => this x (List.mem_of_mem_drop hx)
  · right; rw [hsz]; omega

theorem ParI.group {w wr : World} {full : List UInt8} {t : ByteArray} {v : Value} {d k : Nat} (h : ParI w full wr t v d) (hk : k = (t.size - 1) % 9 + 1) (h0 : 0 < t.size) :
    decV 0 (t.data.toList.take k) < 1000000000 ∧ Lib.parseUintB 32 (t.extract 0 k).data.toList = .ok (decV 0 (t.data.toList.take k)) := by
  have hlen : t.data.toList.length = t.size := by rw [Array.length_toList]; rfl
  have hall : (t.data.toList.take k).all digB = true := by
    have := h.all
    rw [List.all_eq_true] at this ⊢
    exact fun x hx => this x (List.mem_of_mem_take hx)
  have hl : (t.data.toList.take k).length ≤ 9 := by rw [List.length_take]; omega
  constructor
  · refine Nat.lt_of_lt_of_le (decV_lt _ hall) ?_
    exact Nat.pow_le_pow_right (n := 10) (by omega) hl
  · rw [list_extract, List.drop_zero, Nat.sub_zero]
    refine parseB_dec _ ?_ hall hl
    intro e
    have : (t.data.toList.take k).length = 0 := by rw [e]; rfl
    rw [List.length_take] at this
    omega

set_option maxRecDepth 10000 in
set_option maxHeartbeats 1000000 in
theorem parsed_any (s : ByteArray) (w : World) (h1 : s.size ≤ 2467) (h2 : s.data.toList.all digB = true) :
    Calls Tryz.prog 65 #[.string s] w (NewDigs w (decV 0 s.data.toList)) := by
  have h0 : ParI w s.data.toList w s (.slice none 0 0) 0 := ⟨by rw [Nat.zero_mul, Nat.zero_add], h2, h1, .inl rfl, by rw [digs_zero]; exact Sw.nil _ _ _ _, Below.refl _ _⟩
  have H0 := Lib.hid h0
  obtain ⟨D, hD⟩ : ∃ D, D = decV 0 s.data.toList := ⟨_, rfl⟩
  obtain ⟨full, hf⟩ : ∃ full, full = s.data.toList := ⟨_, rfl⟩
  rw [← hf] at H0 hD
  rw [← hf, ← hD]
  have HD := Lib.hid hD
  have hfit : (digs D).length ≤ 2467 := by
    have := ten_fit _ _ (decV_lt _ h2)
    rw [Array.length_toList] at this
    rw [hD, hf]
    exact Nat.le_trans this h1
  have HF := Lib.hid hfit
  clear h0 h2 hf hD hfit
  go_enter Tryz.func65, Tryz.ntmps65
  go_wp2
  go_loopw [0, 3] (fun sv dv wr => ∃ t d, sv = .string t ∧ t.size ≤ 2467 ∧ Hid (ParI w full wr t dv d)) (fun sv _ _ => match sv with | .string t => t.size | _ => 0)
  case atStart => exact ⟨s, 0, rfl, h1, H0⟩
  case round =>
    obtain ⟨t, d, rfl, ht, HI⟩ := hrel
    by_cases hz : t.size = 0
    · have hd : d = D := by
        have := HI.out.sum
        have he : t.data.toList = [] := List.eq_nil_of_length_eq_zero (by rw [Array.length_toList]; exact hz)
        rw [he, hz, Nat.pow_zero, Nat.mul_one, ← HD.out] at this
        exact this
      subst hd
      go_wp2
      go_ret
      exact ⟨_, rfl, HI.out.sl, HI.out.below⟩
    · have hp : 0 < t.size := by omega
      obtain ⟨g, hg⟩ : ∃ g, g = decV 0 (t.data.toList.take ((t.size - 1) % 9 + 1)) := ⟨_, rfl⟩
      obtain ⟨hg1, hg2⟩ := HI.out.group rfl hp
      have hex : (t.extract 0 ((t.size - 1) % 9 + 1)).size ≤ 9223372036854775806 := by
        rw [ByteArray.size_extract]; omega
      rw [← hg] at hg1 hg2
      have HPU : Hid (∀ W, Calls Tryz.prog 97 #[.string (t.extract 0 ((t.size - 1) % 9 + 1)), .int .i64 10, .int .i64 32] W fun e w' => e = .returned (.tuple #[.int .u64 g, .nilIface]) ∧ Below W.heap.size W w') := fun W =>
        (Tryz.strconv_ParseUint_10_at32_ok _ hex g hg2 W).mono fun e w' h => ⟨h.1, by
          rcases h.2 with rfl | rfl
          · exact Below.refl _ _
          · exact Lib.bytesWorld_below _ _ _⟩
      have hle : d ≤ D := by
        have h3 := HI.out.sum
        rw [← HD.out] at h3
        have : d * 1 ≤ d * 10 ^ t.size := Nat.mul_le_mul_left _ (Nat.pow_pos (by omega))
        omega
      have hl1 : (digs d).length ≤ 2467 := Nat.le_trans (digs_mono hle) HF.out
      have hl2 : (digs (d * 1000000000)).length ≤ 2468 := digs_group d 2467 hl1
      have HTM : Hid (∀ W v1 v2, Sl W v1 (digs d) → Sl W v2 [1000000000] → Calls Tryz.prog 69 #[v1, v2] W (NewDigs W (d * 1000000000))) := fun W v1 v2 h3 h4 => by
        have := times_any h3 h4 (by omega) (by simp)
        rw [val_digs, show val [1000000000] = 1000000000 from rfl] at this
        exact this
      have HPL : Hid (∀ W v1 v2, Sl W v1 (digs (d * 1000000000)) → Sl W v2 [g] → Calls Tryz.prog 45 #[v1, v2] W (NewDigs W (d * 1000000000 + g))) := fun W v1 v2 h3 h4 => by
        have := plus_any h3 h4 (by omega) (by simp)
        rw [val_digs, show val [g] = g by simp [val]] at this
        exact this
      have HST : Hid (∀ W v', Sw w.heap.size W v' (digs (d * 1000000000 + g)) → Below w.heap.size w W → ParI w full W (t.extract ((t.size - 1) % 9 + 1) t.size) v' (d * 1000000000 + g)) := fun W v' h3 h4 => HI.out.step rfl hp hg h3 h4
      have HIs := Lib.hid HI.out.sl.sl
      have HIb := Lib.hid HI.out.below
      have hg4 : g < 4294967296 := by omega
      clear hg hg2 hex hle hl1 hl2 hg1
      go_wp2_with (first | (go_at_call 97; refine (HPU.out _).mono ?_; rintro e W1 ⟨rfl, hb1⟩) | (go_at_call 69; refine (HTM.out _ _ _ ((HIs.out.below hb1).below (by go_grown)) (sl_one _ 1000000000 (by omega)).sl).mono ?_; rintro e W2 ⟨v2, rfl, hs2, hb2⟩) | (go_at_call 45; refine (HPL.out _ _ _ (hs2.sl.below (by go_grown)) (sl_one _ g hg4).sl).mono ?_; rintro e W3 ⟨v3, rfl, hs3, hb3⟩))
      have q0 := HIb.out.size
      have q1 := hb1.size
      have q2 := hb2.size
      have q3 := hb3.size
      simp at q2 q3
      have r1 : Below w.heap.size w W1 := HIb.out.trans (hb1.mono q0)
      have r2 : Below w.heap.size w W2 := (r1.trans (by go_grown)).trans (hb2.mono (by simp; omega))
      have r3 : Below w.heap.size w W3 := (r2.trans (by go_grown)).trans (hb3.mono (by simp; omega))
      have HN := Lib.hid (HST.out W3 v3 (hs3.mono (by simp; omega)) r3)
      go_roundw
      case rel => exact ⟨_, _, rfl, by rw [ByteArray.size_extract]; omega, HN⟩
      case measure => simp only [ByteArray.size_extract]; omega

end Go.Proofs.YtdgmjmckeeeljaaGreatDoor

namespace Go.Proofs.YtdgmjmckeeeljaaGreatDoor
open Go.RowKit

def isZ (t : ByteArray) : Bool := t.data.toList == [48]
def cutT (s : ByteArray) : ByteArray := ⟨(Lib.trimPrefix s.data.toList [45]).toArray⟩
def cutN (s : ByteArray) : Bool := Lib.hasPrefix s.data.toList [45]

/-- What a text stands for. -/
def parseZ (s : ByteArray) : Option Int :=
  if decB (cutT s) = true ∧ ¬(cutN s = true ∧ isZ (cutT s) = true) then some (if cutN s = true then -((decV 0 (cutT s).data.toList : Nat) : Int) else ((decV 0 (cutT s).data.toList : Nat) : Int)) else none

def ParseRes (w : World) : Option Int → Ending → World → Prop
  | none, e, w' => e = .returned (.tuple #[.agg #[.bool false, .slice none 0 0], .bool false]) ∧ Below w.heap.size w w'
  | some z, e, w' => NumRes w z e w'

theorem eql_zero (t : ByteArray) : binOp BinOp.eql 9 (.string t) (.string ⟨#[48]⟩) = (pure (.bool (isZ t)) : Sem Value) := by
  rw [binOp_string_eql, ByteArray.toList_eq, ByteArray.toList_eq]
  rfl

theorem decV_pos (t : ByteArray) (h : decB t = true) (hz : isZ t = false) : 0 < decV 0 t.data.toList := by
  unfold decB at h
  simp only [Bool.and_eq_true, Bool.or_eq_true, decide_eq_true_eq] at h
  obtain ⟨⟨⟨h1, _⟩, h3⟩, h4⟩ := h
  have hlen : t.data.toList.length = t.size := by rw [Array.length_toList]; rfl
  unfold isZ at hz
  rw [beq_eq_false_iff_ne] at hz
  match hm : t.data.toList with
  | [] => rw [hm] at hlen; exact absurd hlen.symm h1
  | b :: r =>
    rw [hm] at h3 h4 hlen hz
    simp only [List.all_cons, Bool.and_eq_true] at h4
    have h5 := h4.1
    unfold digB at h5
    simp only [Bool.and_eq_true, decide_eq_true_eq] at h5
    have h6 : b.toNat ≠ 48 := by
      rcases h3 with h3 | h3
      · exact h3
      · intro hb
        apply hz
        have hr : r = [] := List.eq_nil_of_length_eq_zero (by simp at hlen; omega)
        rw [hr, show b = 48 from UInt8.toNat_inj.1 hb]
    have h7 : decV 0 (b :: r) = decV (0 * 10 + (b.toNat - 48)) r := rfl
    rw [h7, decV_acc]
    have h8 : 1 ≤ (0 * 10 + (b.toNat - 48)) * 10 ^ r.length := Nat.mul_pos (by omega) (Nat.pow_pos (by omega))
    omega

set_option maxRecDepth 10000 in
set_option maxHeartbeats 1000000 in
theorem parse_bad (s : ByteArray) (w : World) (h : decB (cutT s) = false) : Calls Tryz.prog 24 #[.string s] w (ParseRes w none) := by
  have HCP : Hid (∀ W, Calls Tryz.prog 63 #[.string s, .string ⟨#[45]⟩] W fun e w' => e = .returned (.tuple #[.string (cutT s), .bool (cutN s)]) ∧ w' = W) := fun W => Tryz.strings_CutPrefix s _ W
  have HDC : Hid (∀ W, Calls Tryz.prog 64 #[.string (cutT s)] W (SameRes W false)) := fun W => by have := decimal_any (cutT s) W; rwa [h] at this
  obtain ⟨t, ht⟩ : ∃ t, t = cutT s := ⟨_, rfl⟩
  obtain ⟨neg, hn⟩ : ∃ neg, neg = cutN s := ⟨_, rfl⟩
  rw [← ht] at HCP HDC
  rw [← hn] at HCP
  clear ht hn h
  go_enter Tryz.func24, Tryz.ntmps24
  go_wp2_with (first | (go_at_call 63; refine (HCP.out _).mono ?_; rintro e w' ⟨rfl, rfl⟩) | (go_at_call 64; refine (HDC.out _).mono ?_; rintro e W1 ⟨rfl, hb1⟩; have hr := (resbox_new w).below hb1; obtain ⟨r0, r1, f0, f1⟩ := hr.cells; obtain ⟨q0, q1⟩ := hr.stored (.bool false) (.slice none 0 0)))
  refine bodyPost_ret (v := .tuple #[.agg #[.bool false, .slice none 0 0], .bool false]) (by simp [results, Tryz.results24, go_sem, q0, q1]) rfl ?_
  refine ⟨rfl, ?_⟩
  have hs := hb1.size
  simp at hs
  exact ((Below.trans (by go_grown) (hb1.mono (by simp))).setCell (by simp) _).setCell (by simp) _

set_option maxRecDepth 10000 in
set_option maxHeartbeats 1000000 in
theorem parse_minus (s : ByteArray) (w : World) (h : decB (cutT s) = true) (hn : cutN s = true) (hz : isZ (cutT s) = true) : Calls Tryz.prog 24 #[.string s] w (ParseRes w none) := by
  have HCP : Hid (∀ W, Calls Tryz.prog 63 #[.string s, .string ⟨#[45]⟩] W fun e w' => e = .returned (.tuple #[.string (cutT s), .bool (cutN s)]) ∧ w' = W) := fun W => Tryz.strings_CutPrefix s _ W
  have HDC : Hid (∀ W, Calls Tryz.prog 64 #[.string (cutT s)] W (SameRes W true)) := fun W => by have := decimal_any (cutT s) W; rwa [h] at this
  have hzz := eql_zero (cutT s)
  rw [hz] at hzz
  rw [hn] at HCP
  obtain ⟨t, ht⟩ : ∃ t, t = cutT s := ⟨_, rfl⟩
  rw [← ht] at HCP HDC hzz
  clear ht hn h hz
  go_enter Tryz.func24, Tryz.ntmps24
  go_wp2_with (first | (go_at_call 63; refine (HCP.out _).mono ?_; rintro e w' ⟨rfl, rfl⟩) | (go_at_call 64; refine (HDC.out _).mono ?_; rintro e W1 ⟨rfl, hb1⟩; have hr := (resbox_new w).below hb1; obtain ⟨r0, r1, f0, f1⟩ := hr.cells; obtain ⟨q0, q1⟩ := hr.stored (.bool false) (.slice none 0 0)))
  refine bodyPost_ret (v := .tuple #[.agg #[.bool false, .slice none 0 0], .bool false]) (by simp [results, Tryz.results24, go_sem, q0, q1]) rfl ?_
  refine ⟨rfl, ?_⟩
  have hs := hb1.size
  simp at hs
  exact ((Below.trans (by go_grown) (hb1.mono (by simp))).setCell (by simp) _).setCell (by simp) _

theorem decB_fit (t : ByteArray) (h : decB t = true) : t.size ≤ 2467 ∧ t.data.toList.all digB = true := by
  unfold decB at h
  simp only [Bool.and_eq_true, decide_eq_true_eq] at h
  exact ⟨h.1.1.2, h.2⟩

set_option maxRecDepth 10000 in
set_option maxHeartbeats 1000000 in
theorem parse_neg (s : ByteArray) (w : World) (h : decB (cutT s) = true) (hn : cutN s = true) (hz : true = true → isZ (cutT s) = false) (v : Nat) (hv : v = decV 0 (cutT s).data.toList) : Calls Tryz.prog 24 #[.string s] w (NumRes w (-((v : Nat) : Int))) := by
  have HCP : Hid (∀ W, Calls Tryz.prog 63 #[.string s, .string ⟨#[45]⟩] W fun e w' => e = .returned (.tuple #[.string (cutT s), .bool (cutN s)]) ∧ w' = W) := fun W => Tryz.strings_CutPrefix s _ W
  have HDC : Hid (∀ W, Calls Tryz.prog 64 #[.string (cutT s)] W (SameRes W true)) := fun W => by have := decimal_any (cutT s) W; rwa [h] at this
  obtain ⟨n, hnl⟩ : ∃ n, n = (digs v).length := ⟨_, rfl⟩
  have HPA : Hid (∀ W, Calls Tryz.prog 65 #[.string (cutT s)] W fun e w' => ∃ ao cap, e = .returned (.slice ao n cap) ∧ Sw W.heap.size w' (.slice ao n cap) (digs v) ∧ Below W.heap.size W w') := fun W => by
    obtain ⟨h1, h2⟩ := decB_fit _ h
    refine (parsed_any _ W h1 h2).mono ?_
    rintro e w' ⟨x, rfl, hs, hb⟩
    rw [← hv] at hs
    obtain ⟨ao, cap, rfl⟩ := hs.sl.mk'
    rw [← hnl] at hs ⊢
    exact ⟨_, _, rfl, hs, hb⟩
  have hzz := eql_zero (cutT s)
  have hsg : (-((v : Nat) : Int)) ≠ 0 → true = decide ((-((v : Nat) : Int)) < 0) := by have := decV_pos _ h (hz rfl); rw [← hv] at this; intro _; symm; rw [decide_eq_true_eq]; omega
  have hab : n = (digs (-((v : Nat) : Int)).natAbs).length := by rw [hnl]; congr 2 <;> omega
  have had : digs v = digs (-((v : Nat) : Int)).natAbs := by congr 1 <;> omega
  rw [hz rfl] at hzz
  rw [hn] at HCP
  obtain ⟨t, ht⟩ : ∃ t, t = cutT s := ⟨_, rfl⟩
  obtain ⟨z, hzd⟩ : ∃ z : Int, z = -((v : Nat) : Int) := ⟨_, rfl⟩
  rw [← ht] at HCP HDC HPA hzz
  rw [← hzd] at hsg hab had ⊢
  rw [had] at HPA
  have HSG := Lib.hid hsg
  have HAB := Lib.hid hab
  clear ht hn h hz hzd hsg hab had hv hnl
  go_enter Tryz.func24, Tryz.ntmps24
  go_wp2_with (first | (go_at_call 63; refine (HCP.out _).mono ?_; rintro e w' ⟨rfl, rfl⟩) | (go_at_call 64; refine (HDC.out _).mono ?_; rintro e W1 ⟨rfl, hb1⟩) | (go_at_call 65; refine (HPA.out _).mono ?_; rintro e W2 ⟨ao, cap, rfl, hs2, hb2⟩; have hr := ((resbox_new w).below hb1).below hb2; obtain ⟨r0, r1, f0, f1⟩ := hr.cells; have hz1 := hr.lt; have hz2 := Nat.le_of_lt hz1) | (go_at_call 47; refine (made_any _ _ _ _ _).mono ?_; rintro e W3 ⟨rfl, rfl⟩))
  have q0 := hb1.size
  have q1 := hb2.size
  simp at q0
  have b1 : Below w.heap.size w W1 := Below.trans (by go_grown) (hb1.mono (by simp))
  have b2 : Below w.heap.size w W2 := b1.trans (hb2.mono (by omega))
  have hfin : Below w.heap.size w (((W2.setCell ⟨w.heap.size, 0, none⟩ (.bool (mkN true n))).setCell ⟨w.heap.size, 1, none⟩ (.slice (mkA ao n) (mkL n) (mkC n cap))).alloc (.cells #[.bool (mkN true n), .slice (mkA ao n) (mkL n) (mkC n cap)] 27)) :=
    ((b2.setCell (by simp) _).setCell (by simp) _).alloc (by simp; omega) _
  obtain ⟨c0, c1⟩ := res_cells hr (.bool (mkN true n)) (.slice (mkA ao n) (mkL n) (mkC n cap)) (.cells #[.bool (mkN true n), .slice (mkA ao n) (mkL n) (mkC n cap)] 27)
  have hsw := hs2.after (g := w.heap.size) (by omega) (.bool (mkN true n)) (.slice (mkA ao n) (mkL n) (mkC n cap)) (.cells #[.bool (mkN true n), .slice (mkA ao n) (mkL n) (mkC n cap)] 27)
  revert hfin c0 c1 hsw
  generalize (((W2.setCell ⟨w.heap.size, 0, none⟩ (.bool (mkN true n))).setCell ⟨w.heap.size, 1, none⟩ (.slice (mkA ao n) (mkL n) (mkC n cap))).alloc (.cells #[.bool (mkN true n), .slice (mkA ao n) (mkL n) (mkC n cap)] 27)) = W4
  intro hfin c0 c1 hsw
  have HSW := Lib.hid hsw
  clear hsw
  refine bodyPost_ret (v := .tuple #[.agg #[.bool (mkN true n), .slice (mkA ao n) (mkL n) (mkC n cap)], .bool (mkK n)]) (by simp [results, Tryz.results24, go_sem, c0, c1]) rfl ?_
  exact numRes_made hfin HAB.out HSG.out (fun _ => HSW.out.mono (by omega))

set_option maxRecDepth 10000 in
set_option maxHeartbeats 1000000 in
theorem parse_pos (s : ByteArray) (w : World) (h : decB (cutT s) = true) (hn : cutN s = false) (hz : false = true → isZ (cutT s) = false) (v : Nat) (hv : v = decV 0 (cutT s).data.toList) : Calls Tryz.prog 24 #[.string s] w (NumRes w (((v : Nat) : Int))) := by
  have HCP : Hid (∀ W, Calls Tryz.prog 63 #[.string s, .string ⟨#[45]⟩] W fun e w' => e = .returned (.tuple #[.string (cutT s), .bool (cutN s)]) ∧ w' = W) := fun W => Tryz.strings_CutPrefix s _ W
  have HDC : Hid (∀ W, Calls Tryz.prog 64 #[.string (cutT s)] W (SameRes W true)) := fun W => by have := decimal_any (cutT s) W; rwa [h] at this
  obtain ⟨n, hnl⟩ : ∃ n, n = (digs v).length := ⟨_, rfl⟩
  have HPA : Hid (∀ W, Calls Tryz.prog 65 #[.string (cutT s)] W fun e w' => ∃ ao cap, e = .returned (.slice ao n cap) ∧ Sw W.heap.size w' (.slice ao n cap) (digs v) ∧ Below W.heap.size W w') := fun W => by
    obtain ⟨h1, h2⟩ := decB_fit _ h
    refine (parsed_any _ W h1 h2).mono ?_
    rintro e w' ⟨x, rfl, hs, hb⟩
    rw [← hv] at hs
    obtain ⟨ao, cap, rfl⟩ := hs.sl.mk'
    rw [← hnl] at hs ⊢
    exact ⟨_, _, rfl, hs, hb⟩
  have hzz := eql_zero (cutT s)
  have hsg : (((v : Nat) : Int)) ≠ 0 → false = decide ((((v : Nat) : Int)) < 0) := by intro _; symm; rw [decide_eq_false_iff_not]; omega
  have hab : n = (digs (((v : Nat) : Int)).natAbs).length := by rw [hnl]; congr 2 <;> omega
  have had : digs v = digs (((v : Nat) : Int)).natAbs := by congr 1 <;> omega
  clear hzz
  rw [hn] at HCP
  obtain ⟨t, ht⟩ : ∃ t, t = cutT s := ⟨_, rfl⟩
  obtain ⟨z, hzd⟩ : ∃ z : Int, z = ((v : Nat) : Int) := ⟨_, rfl⟩
  rw [← ht] at HCP HDC HPA
  rw [← hzd] at hsg hab had ⊢
  rw [had] at HPA
  have HSG := Lib.hid hsg
  have HAB := Lib.hid hab
  clear ht hn h hz hzd hsg hab had hv hnl
  go_enter Tryz.func24, Tryz.ntmps24
  go_wp2_with (first | (go_at_call 63; refine (HCP.out _).mono ?_; rintro e w' ⟨rfl, rfl⟩) | (go_at_call 64; refine (HDC.out _).mono ?_; rintro e W1 ⟨rfl, hb1⟩) | (go_at_call 65; refine (HPA.out _).mono ?_; rintro e W2 ⟨ao, cap, rfl, hs2, hb2⟩; have hr := ((resbox_new w).below hb1).below hb2; obtain ⟨r0, r1, f0, f1⟩ := hr.cells; have hz1 := hr.lt; have hz2 := Nat.le_of_lt hz1) | (go_at_call 47; refine (made_any _ _ _ _ _).mono ?_; rintro e W3 ⟨rfl, rfl⟩))
  have q0 := hb1.size
  have q1 := hb2.size
  simp at q0
  have b1 : Below w.heap.size w W1 := Below.trans (by go_grown) (hb1.mono (by simp))
  have b2 : Below w.heap.size w W2 := b1.trans (hb2.mono (by omega))
  have hfin : Below w.heap.size w (((W2.setCell ⟨w.heap.size, 0, none⟩ (.bool (mkN false n))).setCell ⟨w.heap.size, 1, none⟩ (.slice (mkA ao n) (mkL n) (mkC n cap))).alloc (.cells #[.bool (mkN false n), .slice (mkA ao n) (mkL n) (mkC n cap)] 27)) :=
    ((b2.setCell (by simp) _).setCell (by simp) _).alloc (by simp; omega) _
  obtain ⟨c0, c1⟩ := res_cells hr (.bool (mkN false n)) (.slice (mkA ao n) (mkL n) (mkC n cap)) (.cells #[.bool (mkN false n), .slice (mkA ao n) (mkL n) (mkC n cap)] 27)
  have hsw := hs2.after (g := w.heap.size) (by omega) (.bool (mkN false n)) (.slice (mkA ao n) (mkL n) (mkC n cap)) (.cells #[.bool (mkN false n), .slice (mkA ao n) (mkL n) (mkC n cap)] 27)
  revert hfin c0 c1 hsw
  generalize (((W2.setCell ⟨w.heap.size, 0, none⟩ (.bool (mkN false n))).setCell ⟨w.heap.size, 1, none⟩ (.slice (mkA ao n) (mkL n) (mkC n cap))).alloc (.cells #[.bool (mkN false n), .slice (mkA ao n) (mkL n) (mkC n cap)] 27)) = W4
  intro hfin c0 c1 hsw
  have HSW := Lib.hid hsw
  clear hsw
  refine bodyPost_ret (v := .tuple #[.agg #[.bool (mkN false n), .slice (mkA ao n) (mkL n) (mkC n cap)], .bool (mkK n)]) (by simp [results, Tryz.results24, go_sem, c0, c1]) rfl ?_
  exact numRes_made hfin HAB.out HSG.out (fun _ => HSW.out.mono (by omega))

/-- num.Parse. -/
theorem parse_any (s : ByteArray) (w : World) : Calls Tryz.prog 24 #[.string s] w (ParseRes w (parseZ s)) := by
  by_cases h : decB (cutT s) = true
  · by_cases hn : cutN s = true
    · by_cases hz : isZ (cutT s) = true
      · have e : parseZ s = none := by unfold parseZ; rw [if_neg (by rw [hn, hz]; simp)]
        rw [e]
        exact parse_minus s w h hn hz
      · have e : parseZ s = some (-((decV 0 (cutT s).data.toList : Nat) : Int)) := by
          unfold parseZ; rw [if_pos ⟨h, fun h => hz h.2⟩, if_pos hn]
        rw [e]
        exact parse_neg s w h hn (fun _ => by simpa using hz) _ rfl
    · have e : parseZ s = some ((decV 0 (cutT s).data.toList : Nat) : Int) := by
        unfold parseZ; rw [if_pos ⟨h, fun h => hn h.1⟩, if_neg hn]
      rw [e]
      exact parse_pos s w h (by simpa using hn) (fun h => by cases h) _ rfl
  · have e : parseZ s = none := by unfold parseZ; rw [if_neg (fun h' => h h'.1)]
    rw [e]
    exact parse_bad s w (by simpa using h)

end Go.Proofs.YtdgmjmckeeeljaaGreatDoor

namespace Go.Proofs.YtdgmjmckeeeljaaGreatDoor
open Go.RowKit

/-- The digits to the base 10^9, at least one, the lowest first. -/
def grp (x : Nat) : List Nat := if x < 1000000000 then [x] else x % 1000000000 :: grp (x / 1000000000)
termination_by x
decreasing_by exact Nat.div_lt_self (by omega) (by omega)

theorem grp_step (x : Nat) : grp x = x % 1000000000 :: (if x / 1000000000 = 0 then [] else grp (x / 1000000000)) := by
  rw [grp]
  by_cases h : x < 1000000000
  · rw [if_pos h, if_pos (by omega), Nat.mod_eq_of_lt h]
  · rw [if_neg h, if_neg (by omega)]

theorem grp_len : ∀ (k x : Nat), x < 1000000000 ^ (k + 1) → (grp x).length ≤ k + 1
  | 0, x, h => by rw [grp, if_pos (by simpa using h)]; simp
  | k + 1, x, h => by
    rw [grp]
    by_cases h0 : x < 1000000000
    · rw [if_pos h0]; simp
    · rw [if_neg h0, List.length_cons]
      have := grp_len k (x / 1000000000) (by rw [Nat.div_lt_iff_lt_mul (by omega)]; rwa [Nat.pow_succ] at h)
      omega

theorem grp_bd (x : Nat) : ∀ d ∈ grp x, d < 1000000000 := by
  induction x using Nat.strongRecOn with
  | _ x ih =>
    intro d hd
    rw [grp] at hd
    by_cases h : x < 1000000000
    · rw [if_pos h] at hd
      simp at hd; omega
    · rw [if_neg h] at hd
      rcases List.mem_cons.1 hd with rfl | hd
      · exact Nat.mod_lt _ (by omega)
      · exact ih _ (Nat.div_lt_self (by omega) (by omega)) d hd

theorem Sw.keptNe {B : Nat} {W W' : World} {ao : Option Addr} {n cap : Nat} {ds : List Nat} {row : Option Nat} (h : Sw B W (.slice ao n cap) ds) (hg : W.grownBy W' row) (hne : ∀ b off, ao = some ⟨b, off, none⟩ → row ≠ some b) : Sw B W' (.slice ao n cap) ds := by
  have hb : ∀ b off, ao = some ⟨b, off, none⟩ → b < W.heap.size → W'.heap[b]? = W.heap[b]? := fun b off e hl => hg.block b hl (fun e' => hne b off e e'.symm)
  refine ⟨⟨h.sl.bd, h.sl.len, ?_⟩, ?_⟩
  · rcases h.sl.is with h1 | ⟨b, off, cap', hv, hc, hcl⟩
    · exact .inl h1
    · refine .inr ⟨b, off, cap', hv, hc, fun j hj => ?_⟩
      have := hb b off (by cases hv; rfl) (block_lt_of_cell (hcl j hj))
      rw [← hcl j hj]
      simp [World.cell?, this]
  · intro ao' n' cap' hv hn
    cases hv
    obtain ⟨b, off, e1, e2, e3⟩ := h.own _ _ _ rfl hn
    obtain ⟨b', off', e4, _, hlt, hcl⟩ := h.sl.at hn
    rw [e1] at e4
    cases e4
    refine ⟨b, off, e1, e2, fun j hj => ?_⟩
    have := hb b off e1 hlt
    rw [← e3 j hj]
    simp [World.frozen?, this]

/-- What holds at the head of the loop of groups. -/
structure GrpI (w : World) (B1 : Nat) (x : Nat) (ao : Option Addr) (cap : Nat) (wr : World) (y n : Nat) (lv : Value) (k : Nat) : Prop where
  rest : Sw w.heap.size wr (.slice ao n cap) (digs y)
  len : n = (digs y).length
  le : y ≤ x
  own : ∃ gs, gs.length = k ∧ wr.ownsRow B1 59 1 lv k (gs.map u32v) ∧ gs ++ (if y = 0 then [] else grp y) = grp x
  below : Below w.heap.size w wr
  big : B1 ≤ wr.heap.size

/-- The rest is divided once more. -/
theorem GrpI.cut {w wr W : World} {B1 x y n k cap : Nat} {ao : Option Addr} {lv : Value} (h : GrpI w B1 x ao cap wr y n lv k) (hB : w.heap.size ≤ B1) (hbl : Below w.heap.size wr W) (hk : ∀ g, g < wr.heap.size → (∀ b off, ao = some ⟨b, off, none⟩ → b ≠ g) → W.heap[g]? = wr.heap[g]?) (hao : ∀ b off, ao = some ⟨b, off, none⟩ → b < B1) :
    ∃ gs, gs.length = k ∧ W.ownsRow B1 59 1 lv k (gs.map u32v) ∧ gs ++ (if y = 0 then [] else grp y) = grp x := by
  obtain ⟨gs, h1, h2, h3⟩ := h.own
  refine ⟨gs, h1, ?_, h3⟩
  refine ⟨h2.1, ?_⟩
  rcases h2.2 with h4 | ⟨g, c, cur, e1, e2, e3, e4⟩
  · exact .inl h4
  · refine .inr ⟨g, c, cur, e1, e2, ?_, e4⟩
    rw [hk g (Array.getElem?_eq_some_iff.1 e3).1 (fun b off e => by have := hao b off e; omega)]
    exact e3

end Go.Proofs.YtdgmjmckeeeljaaGreatDoor

namespace Go.Proofs.YtdgmjmckeeeljaaGreatDoor
open Go.RowKit

/-- The slice lies in a row of digits. -/
def Ty59 (w : World) (ao : Option Addr) : Prop := ∀ bb off, ao = some ⟨bb, off, none⟩ → ∃ cs f, w.heap[bb]? = some (.cells cs 59 f)

theorem grp_len2 {x n : Nat} (h : (digs x).length ≤ n) (h0 : n ≠ 0) : (grp x).length ≤ 2 * n := by
  have h1 := digs_length_le.1 h
  have h2 : 4294967296 ^ n ≤ (1000000000 ^ 2) ^ n := Nat.pow_le_pow_left (by omega) n
  rw [← Nat.pow_mul] at h2
  have h3 := grp_len (2 * n - 1) x (by
    rw [show 2 * n - 1 + 1 = 2 * n by omega]
    exact Nat.lt_of_lt_of_le h1 h2)
  omega

theorem grp_pos (x : Nat) : 1 ≤ (grp x).length := by
  rw [grp_step]; simp

/-- The first group is cut off. -/
theorem grpI_start {w W1 W2 : World} {x cap n0 b0 off0 : Nat} {ds : List Nat} (hb1 : Below w.heap.size w W1) (hb2 : Below w.heap.size W1 W2) (hs : Sw w.heap.size W2 (.slice (some ⟨b0, off0, none⟩) n0 cap) ds) (hv : val ds = x / 1000000000) {n : Nat} (hn : n = (digs (val ds)).length) :
    GrpI w W1.heap.size x (some ⟨b0, off0, none⟩) cap (W2.alloc (.cells #[.int .u32 ((x % 1000000000 : Nat) : Int)] 59)) (x / 1000000000) n (.slice (some ⟨W2.heap.size, 0, none⟩) 1 1) 1 := by
  have h1 := hb1.size
  have h2 := hb2.size
  have hbb : Below w.heap.size w W2 := hb1.trans hb2
  refine ⟨?_, by rw [hn, hv], Nat.div_le_self _ _, ⟨[x % 1000000000], rfl, ?_, (grp_step x).symm⟩, hbb.alloc (by omega) _, by simp; omega⟩
  · have hal : Below W2.heap.size W2 (W2.alloc (.cells #[.int .u32 ((x % 1000000000 : Nat) : Int)] 59)) := (Below.refl _ _).alloc (Nat.le_refl _) _
    have := (hs.below hal).trim
    rw [hv] at this hn
    rw [hn]
    exact this
  · exact World.ownsRow_lit (base := W1.heap.size) (size := 1) W2 #[.int .u32 ((x % 1000000000 : Nat) : Int)] 1 (by omega) (by decide) rfl

/-- A round of groups. -/
theorem GrpI.step {w wr W2 W3 : World} {B1 x y n k cap b0 off0 m : Nat} {lv v' : Value} {ds : List Nat} (h : GrpI w B1 x (some ⟨b0, off0, none⟩) cap wr y n lv k) (hy : y ≠ 0) (hb0 : b0 < B1) (hB : w.heap.size ≤ B1) (hs : Sw w.heap.size W2 (.slice (some ⟨b0, off0, none⟩) n cap) ds) (hv : val ds = y / 1000000000) (hbl : Below w.heap.size wr W2)
    (hm : m = (digs (val ds)).length) (hw : ∀ gs, gs.length = k → gs ++ (y % 1000000000 :: (if y / 1000000000 = 0 then [] else grp (y / 1000000000))) = grp x → W3.ownsRow B1 59 1 v' (k + 1) ((gs ++ [y % 1000000000]).map u32v)) (hg : (W2.alloc (.cells #[.int .u32 ((y % 1000000000 : Nat) : Int)] 59)).grownBy W3 lv.ownBlock) (hlv : ∀ b, lv.ownBlock = some b → B1 ≤ b) :
    GrpI w B1 x (some ⟨b0, off0, none⟩) cap W3 (y / 1000000000) m v' (k + 1) := by
  have h2 := hbl.size
  have hal : Below W2.heap.size W2 (W2.alloc (.cells #[.int .u32 ((y % 1000000000 : Nat) : Int)] 59)) := (Below.refl _ _).alloc (Nat.le_refl _) _
  have h3 := hg.size
  have h4 := h.below.size
  simp at h3
  obtain ⟨gs, e1, _, e3⟩ := h.own
  rw [if_neg hy, grp_step y] at e3
  refine ⟨?_, by rw [hm, hv], Nat.le_trans (Nat.div_le_self _ _) h.le, ⟨gs ++ [y % 1000000000], by simp [e1], hw gs e1 e3, by rw [List.append_assoc]; exact e3⟩, ?_, by have := h.big; omega⟩
  · have := ((hs.below hal).keptNe hg (fun b off e => by cases e; intro e'; have := hlv _ e'; omega)).trim
    rw [hv] at this hm
    rw [hm]
    exact this
  · exact ((h.below.trans hbl).trans (hal.mono (by omega))).grown hg (by simp; omega) (fun r e => Nat.le_trans hB (hlv r e))

set_option maxRecDepth 10000 in
set_option maxHeartbeats 2000000 in
theorem groups_pos {w : World} {v : Value} {x : Nat} (h : Sl w v (digs x)) (hl : (digs x).length ≤ 256) (h0 : x ≠ 0) :
    Calls Tryz.prog 57 #[v] w fun e w' => ∃ ao cap, e = .returned (.slice ao (grp x).length cap) ∧ Sw w.heap.size w' (.slice ao (grp x).length cap) (grp x) ∧ Below w.heap.size w w' ∧ Ty59 w' ao := by
  have hn0 : (digs x).length ≠ 0 := fun e => h0 (digs_inj (by rw [digs_zero]; exact List.eq_nil_of_length_eq_zero e))
  have HCL : Hid (∀ W, Sl W v (digs x) → Calls Tryz.prog 74 #[v] W fun e w' => ∃ b off cap, e = .returned (.slice (some ⟨b, off, none⟩) (digs x).length cap) ∧ Sw W.heap.size w' (.slice (some ⟨b, off, none⟩) (digs x).length cap) (digs x) ∧ Below W.heap.size W w' ∧ b < w'.heap.size) := fun W hW => (clone_any hW (by omega)).mono fun e w' ⟨ao, cap, e1, e2, e3⟩ => by
    obtain ⟨b, off, rfl, _, hlt, _⟩ := e2.sl.at hn0
    exact ⟨b, off, cap, e1, e2, e3, hlt⟩
  obtain ⟨G, hG⟩ : ∃ G, G = grp x := ⟨_, rfl⟩
  have hG2 : G.length ≤ 512 := by rw [hG]; exact Nat.le_trans (grp_len2 hl (by omega)) (by omega)
  have HGL := Lib.hid hG
  have HCU : Hid (∀ W b off n cap y, Sw w.heap.size W (.slice (some ⟨b, off, none⟩) n cap) (digs y) → n ≤ 256 → w.heap.size ≤ W.heap.size → Calls Tryz.prog 75 #[.slice (some ⟨b, off, none⟩) n cap, .int .u32 1000000000] W fun e w' => e = .returned (.int .u32 (y % 1000000000 : Nat)) ∧ (∃ ds, val ds = y / 1000000000 ∧ Sw w.heap.size w' (.slice (some ⟨b, off, none⟩) n cap) ds) ∧ Below w.heap.size W w' ∧ (∀ g, g < W.heap.size → (∀ b' off', (some ⟨b, off, none⟩ : Option Addr) = some ⟨b', off', none⟩ → b' ≠ g) → w'.heap[g]? = W.heap[g]?)) := fun W b off n cap y h1 h2 h3 => (cut_kept _ n cap _ 1000000000 h1 (by omega) (by omega) (by omega) h3).mono fun e w' hh => by
    rw [val_digs] at hh
    obtain ⟨q1, ⟨ds, _, q2, q3⟩, q4⟩ := hh
    exact ⟨q1, ⟨ds, q2, q3⟩, q4⟩
  obtain ⟨n0, hn⟩ : ∃ n, n = (digs x).length := ⟨_, rfl⟩
  rw [← hn] at hl hn0 HCL
  rw [← hG]
  have HN := Lib.hid hn
  clear hn hG
  go_enter Tryz.func57, Tryz.ntmps57
  go_wp2_with (first | (go_at_call 74; refine (HCL.out _ h).mono ?_; rintro e W1 ⟨b0, off0, cap, rfl, hs1, hb1, hlt⟩) | (go_at_call 75; refine (HCU.out _ _ _ _ _ _ hs1 hl hb1.size).mono ?_; rintro e W2 ⟨rfl, ⟨ds, hv, hs2⟩, hb2, hk2⟩; have HV := Lib.hid hv; clear hv; obtain ⟨m, hm⟩ : ∃ m, m = (digs (val ds)).length := ⟨_, rfl⟩) | (go_at_call 76; refine (trim_any _ _ _ (hs2.sl.below (by go_grown))).mono ?_; rintro e w' ⟨rfl, rfl⟩; rw [← hm]))
  subst hm
  have hst := grpI_start hb1 hb2 hs2 HV.out rfl
  rw [show ((x % 1000000000 : Nat) : Int) = ((x % 1000000000 : Nat) : Int) from rfl] at hst
  have HST := Lib.hid hst
  obtain ⟨B1, hB1⟩ : ∃ B1, B1 = W1.heap.size := ⟨_, rfl⟩
  rw [← hB1] at HST
  have hBw : w.heap.size ≤ B1 := by rw [hB1]; exact hb1.size
  have hb0B : b0 < B1 := by rw [hB1]; exact hlt
  have HA : Hid (∀ W y n m k lv W2 ds, GrpI w B1 x (some ⟨b0, off0, none⟩) cap W y n lv k → y ≠ 0 → Sw w.heap.size W2 (.slice (some ⟨b0, off0, none⟩) n cap) ds → val ds = y / 1000000000 → Below w.heap.size W W2 → m = (digs (val ds)).length → ∀ v' W3, (∀ gs, gs.length = k → gs ++ (y % 1000000000 :: (if y / 1000000000 = 0 then [] else grp (y / 1000000000))) = grp x → W3.ownsRow B1 59 1 v' (k + 1) ((gs ++ [y % 1000000000]).map u32v)) → (W2.alloc (.cells #[.int .u32 ((y % 1000000000 : Nat) : Int)] 59)).grownBy W3 lv.ownBlock → (∀ b, lv.ownBlock = some b → B1 ≤ b) → GrpI w B1 x (some ⟨b0, off0, none⟩) cap W3 (y / 1000000000) m v' (k + 1)) :=
    fun W y n m k lv W2 ds h1 h2 h3 h4 h5 h6 v' W3 h7 h8 h9 => h1.step h2 hb0B hBw h3 h4 h5 h6 h7 h8 h9
  obtain ⟨i0, hi, hz0, hz1, hz2⟩ := info_parts Tryz.info59
  have hW1s := hb1.size
  clear hst hs2 hs1 hb2 hk2 hn0
  go_loopw [3, 4] (fun rv lv wr => ∃ y n k ao c, rv = .slice (some ⟨b0, off0, none⟩) n cap ∧ lv = .slice ao k c ∧ k ≤ 512 ∧ n ≤ 256 ∧ Hid (GrpI w B1 x (some ⟨b0, off0, none⟩) cap wr y n lv k)) (fun _ lv _ => match lv with | .slice _ k _ => 1024 - k | _ => 1025)
  case atStart => exact ⟨_, _, 1, _, _, rfl, rfl, by omega, by rw [HV.out]; exact Nat.le_trans (digs_mono (Nat.div_le_self _ _)) (by rw [← HN.out]; exact hl), HST⟩
  case round =>
    obtain ⟨y, n, k, ao, c, rfl, rfl, hk, hn, HI⟩ := hrel
    by_cases hz : n = 0
    · subst hz
      have hy : y = 0 := digs_inj (by rw [digs_zero]; exact List.eq_nil_of_length_eq_zero HI.out.len.symm)
      obtain ⟨gs, e1, e2, e3⟩ := HI.out.own
      rw [if_pos hy, List.append_nil, ← HGL.out] at e3
      subst e3
      rw [← e1] at e2 ⊢
      have e7 : Ty59 wr ao := fun bb off e => by
        rcases e2.2 with ⟨h1, _⟩ | ⟨g, _, cur, h1, _, h2, _⟩
        · injection h1 with q1
          rw [q1] at e
          cases e
        · injection h1 with q1
          rw [q1] at e
          cases e
          exact ⟨_, _, h2⟩
      obtain ⟨ao', cap', e4, e5⟩ := sw_of_owns (by intro d hd; have := grp_bd x d (by rw [← HGL.out]; exact hd); omega) e2
      cases e4
      have HE5 := Lib.hid (e5.mono hBw)
      have HE6 := Lib.hid HI.out.below
      have HE7 := Lib.hid e7
      clear e1 e2 e5 e7
      go_wp2
      go_ret
      exact ⟨_, _, rfl, HE5.out, HE6.out, HE7.out⟩
    · have hy : y ≠ 0 := fun e => hz (by rw [HI.out.len, e, digs_zero]; rfl)
      have hpos : 0 < (n : Int) := by omega
      go_wp2_with (first | (go_at_call 75; refine (HCU.out _ _ _ _ _ _ HI.out.rest hn HI.out.below.size).mono ?_; rintro e W2' ⟨rfl, ⟨ds', hv, hs2⟩, hb2, hk2⟩; have HV' := Lib.hid hv; clear hv; obtain ⟨m', hm⟩ : ∃ m, m = (digs (val ds')).length := ⟨_, rfl⟩; obtain ⟨gs, g1, g2, g3⟩ := HI.out.cut hBw hb2 hk2 (fun b off e => by cases e; exact hb0B)) | (at_builtin; refine wpList_append_own _ rfl _ _ 25 rfl B1 59 i0 (.int .u32 0) 1 4 Tryz.underlying25 hi hz0 hz1 hz2 rfl (by decide) _ _ _ rfl (g2.alloc _) ⟨W2'.heap.size, 0, none⟩ 1 1 [.int .u32 ((y % 1000000000 : Nat) : Int)] rfl rfl (cell_one_new _ _ _) (fun x hx => by simp at hx; subst hx; rfl) (by unfold maxLen; omega) (by omega) (by have := HI.out.big; have := hb2.size; simp; omega) ?_; intro v' w3 hown' hgrow3 hnil3; have hlv : ∀ b, (Value.slice ao k c).ownBlock = some b → B1 ≤ b := fun b e => (g2.lt b e).1; have hs3 := (hs2.below ((Below.refl _ _).alloc (Nat.le_refl _) _)).keptNe hgrow3 (fun b off e => by cases e; intro e'; have := hlv _ e'; omega)) | (go_at_call 76; refine (trim_any _ _ _ hs3.sl).mono ?_; rintro e w' ⟨rfl, rfl⟩; rw [← hm]))
      subst hm
      have hk1 : k + 1 ≤ 512 := by
        have := congrArg List.length g3
        rw [if_neg hy, List.length_append, g1, ← HGL.out] at this
        have := grp_pos y
        omega
      have hnl : (digs (val ds')).length ≤ 256 := by
        rw [HV'.out]
        exact Nat.le_trans (digs_mono (Nat.le_trans (Nat.div_le_self _ _) HI.out.le)) (by rw [← HN.out]; exact hl)
      have hG := HA.out _ y n _ k _ W2' ds' HI.out hy hs2 HV'.out hb2 rfl v' w' (fun gs' e1 e2 => by
        have e3 : gs' = gs := List.append_cancel_right (e2.trans (by rw [← g3, if_neg hy, grp_step y]))
        rw [e3, List.map_append]
        exact hown') hgrow3 hlv
      have HG := Lib.hid hG
      obtain ⟨ao2, c2, rfl⟩ : ∃ ao2 c2, v' = .slice ao2 (k + 1) c2 := by
        rcases hown'.2 with ⟨_, e⟩ | ⟨g, cc, _, e, _⟩
        · omega
        · exact ⟨_, _, e⟩
      clear hG hown' hgrow3 hs3 hs2
      go_roundw
      case rel => exact ⟨_, _, k + 1, _, _, rfl, rfl, hk1, hnl, HG⟩
      case measure => simp only []; omega

set_option maxRecDepth 10000 in
set_option maxHeartbeats 1000000 in
theorem groups_zero {w : World} {v : Value} (h : Sl w v (digs 0)) :
    Calls Tryz.prog 57 #[v] w fun e w' => ∃ ao cap, e = .returned (.slice ao (grp 0).length cap) ∧ Sw w.heap.size w' (.slice ao (grp 0).length cap) (grp 0) ∧ Below w.heap.size w w' ∧ Ty59 w' ao := by
  have eg : grp 0 = [0] := by rw [grp]; rfl
  rw [eg]
  rw [digs_zero] at h
  have HCL : Hid (∀ W, Sl W v [] → Calls Tryz.prog 74 #[v] W fun e w' => ∃ ao cap, e = .returned (.slice ao 0 cap) ∧ Sw W.heap.size w' (.slice ao 0 cap) [] ∧ Below W.heap.size W w') := fun W hW => clone_any hW (by simp)
  have HCU : Hid (∀ W ao cap, Sw w.heap.size W (.slice ao 0 cap) [] → w.heap.size ≤ W.heap.size → Calls Tryz.prog 75 #[.slice ao 0 cap, .int .u32 1000000000] W fun e w' => e = .returned (.int .u32 0) ∧ Below w.heap.size W w') := fun W ao cap h1 h2 => (cut_kept ao 0 cap [] 1000000000 h1 (by omega) (by omega) (by omega) h2).mono fun e w' hh => ⟨hh.1, hh.2.2.1⟩
  have HTR : Hid (∀ W ao cap, Calls Tryz.prog 76 #[.slice ao 0 cap] W fun e w' => e = .returned (.slice ao 0 cap) ∧ w' = W) := fun W ao cap => by
    have := trim_any ao 0 cap (Sl.nil W ao cap)
    rwa [show val [] = 0 from rfl, digs_zero] at this
  clear eg
  go_enter Tryz.func57, Tryz.ntmps57
  go_wp2_with (first | (go_at_call 74; refine (HCL.out _ h).mono ?_; rintro e W1 ⟨ao, cap, rfl, hs1, hb1⟩) | (go_at_call 75; refine (HCU.out _ _ _ hs1 hb1.size).mono ?_; rintro e W2 ⟨rfl, hb2⟩) | (go_at_call 76; refine (HTR.out _ _ _).mono ?_; rintro e w' ⟨rfl, rfl⟩))
  refine wp_loop_rounds 1 ?_
  rw [rounds_succ]
  go_wp2
  go_ret
  have h1 := hb1.size
  have h2 := hb2.size
  exact ⟨_, _, rfl, (sl_one W2 0 (by omega)).mono (by omega), (hb1.trans hb2).alloc (by omega) _, fun bb off e => by cases e; exact ⟨_, _, heap_alloc_new _ _⟩⟩

/-- num.groups of at most 256 digits. -/
theorem groups_any {w : World} {v : Value} {x : Nat} (h : Sl w v (digs x)) (hl : (digs x).length ≤ 256) :
    Calls Tryz.prog 57 #[v] w fun e w' => ∃ ao cap, e = .returned (.slice ao (grp x).length cap) ∧ Sw w.heap.size w' (.slice ao (grp x).length cap) (grp x) ∧ Below w.heap.size w w' ∧ Ty59 w' ao := by
  by_cases h0 : x = 0
  · subst h0
    exact groups_zero h
  · exact groups_pos h hl h0

end Go.Proofs.YtdgmjmckeeeljaaGreatDoor

namespace Go.Proofs.YtdgmjmckeeeljaaGreatDoor
open Go.RowKit

set_option maxHeartbeats 400000 in
theorem rtrim_any {w : World} {ds : List Nat} (ao : Option Addr) (n cap : Nat) (h : Sl w (.slice ao n cap) ds) :
    Calls Tryz.prog 55 #[.slice ao n cap] w fun e w' => e = .returned (.slice ao (digs (val ds)).length cap) ∧ w' = w := by
  obtain ⟨hb, hl, h⟩ := h
  unfold maxLen at hl
  rcases h with ⟨rfl, ao', cap', hv⟩ | ⟨b, off, cap', hv, hc, hcl⟩
  · cases hv
    simp only [val, digs_zero, List.length_nil]
    go_enter Tryz.func55, Tryz.ntmps55
    go_wp2
    go_rounds 1
    go_ret
    exact ⟨rfl, rfl⟩
  · cases hv
    have hst := trim_stop hb
    have htk := @trim_step ds
    obtain ⟨m, hm⟩ : ∃ m, m = (digs (val ds)).length := ⟨_, rfl⟩
    rw [← hm] at hst ⊢
    have hml : m ≤ ds.length := by rw [hm]; exact (take_trim hb).2
    clear hb hm
    have HST := Lib.hid hst
    clear hst
    have HTK := Lib.hid htk
    clear htk
    have HCL := Lib.hid hcl
    clear hcl
    go_enter Tryz.func55, Tryz.ntmps55
    go_wp2
    go_loop [3] (fun n => ∃ k : Nat, k ≤ ds.length ∧ n = .int .i64 k ∧ Hid (val (ds.take k) = val ds)) (fun n => (intOf n).toNat)
    case atStart => exact ⟨ds.length, Nat.le_refl _, rfl, by simp [Hid]⟩
    case round =>
      obtain ⟨k, hk, rfl, hv⟩ := hrel
      cases k with
      | zero =>
        have e0 := HST.out 0 (by omega) hv.out (.inl rfl)
        subst e0
        go_wp2
        go_ret
        exact ⟨rfl, rfl⟩
      | succ k =>
        have hcc := HCL.out k (by omega)
        obtain ⟨x, hx⟩ : ∃ x, x = ds.getD k 0 := ⟨_, rfl⟩
        rw [← hx] at hcc
        by_cases h0 : x = 0
        · have hv' := HTK.out k hk hv.out (by omega)
          have HV' := Lib.hid hv'
          clear hv' hv hx
          subst h0
          go_wp2
          go_round
          case rel => exact ⟨k, by omega, by go_num, HV'⟩
          case measure => simp [intOf]
        · have e0 := HST.out (k + 1) hk hv.out (.inr (by rw [Nat.add_sub_cancel, ← hx]; exact h0))
          clear hx
          subst e0
          go_wp2
          go_ret
          exact ⟨rfl, rfl⟩


set_option maxRecDepth 10000 in
set_option maxHeartbeats 1000000 in
theorem rsigned_big {w : World} {v : Value} {ds : List Nat} (neg : Bool) (h : Sl w v ds) (hn : 256 < (digs (val ds)).length) : Calls Tryz.prog 36 #[.bool neg, v] w (NumRes w (if neg = true then -((val ds : Nat) : Int) else ((val ds : Nat) : Int))) := by
  obtain ⟨z, hz⟩ : ∃ z : Int, z = if neg = true then -((val ds : Nat) : Int) else ((val ds : Nat) : Int) := ⟨_, rfl⟩
  have hza : z.natAbs = val ds := by rw [hz]; split <;> omega
  rw [← hz]
  obtain ⟨ao, cap, rfl⟩ := h.mk'
  have HTR : Hid (∀ W, Sl W (.slice ao ds.length cap) ds → Calls Tryz.prog 55 #[.slice ao ds.length cap] W fun e w' => e = .returned (.slice ao (digs (val ds)).length cap) ∧ w' = W) := fun W h => rtrim_any _ _ _ h
  obtain ⟨n, hnn⟩ : ∃ n, n = (digs (val ds)).length := ⟨_, rfl⟩
  obtain ⟨m, hm⟩ : ∃ m, m = ds.length := ⟨_, rfl⟩
  have hf : fitsB z.natAbs = false := by rw [hza]; unfold fitsB; simp; omega
  rw [← hnn] at HTR hn
  rw [← hm] at HTR h ⊢
  have hr := resbox_new w
  obtain ⟨r0, r1, f0, f1⟩ := hr.cells
  obtain ⟨q0, q1⟩ := hr.stored (.bool false) (.slice none 0 0)
  clear hnn hm hz hza
  go_enter Tryz.func36, Tryz.ntmps36
  go_wp2_with (go_at_call 55; refine (HTR.out _ (h.below (by go_grown))).mono ?_; rintro e w' ⟨rfl, rfl⟩)
  refine bodyPost_ret (v := .tuple #[.agg #[.bool false, .slice none 0 0], .bool false]) (by simp [results, Tryz.results36, go_sem, q0, q1]) rfl ?_
  exact numRes_no hf (by go_grown)

set_option maxRecDepth 10000 in
set_option maxHeartbeats 1000000 in
theorem rsigned_zero {w : World} {v : Value} {ds : List Nat} (neg : Bool) (h : Sl w v ds) (hn : val ds = 0) : Calls Tryz.prog 36 #[.bool neg, v] w (NumRes w 0) := by
  obtain ⟨ao, cap, rfl⟩ := h.mk'
  have HTR : Hid (∀ W, Sl W (.slice ao ds.length cap) ds → Calls Tryz.prog 55 #[.slice ao ds.length cap] W fun e w' => e = .returned (.slice ao 0 cap) ∧ w' = W) := fun W h => by
    have := rtrim_any _ _ _ h
    rwa [hn, digs_zero] at this
  obtain ⟨m, hm⟩ : ∃ m, m = ds.length := ⟨_, rfl⟩
  rw [← hm] at HTR h ⊢
  have hr := resbox_new w
  obtain ⟨r0, r1, f0, f1⟩ := hr.cells
  obtain ⟨q0, q1⟩ := hr.stored (.bool false) (.slice none 0 0)
  clear hm hn
  go_enter Tryz.func36, Tryz.ntmps36
  go_wp2_with (go_at_call 55; refine (HTR.out _ (h.below (by go_grown))).mono ?_; rintro e w' ⟨rfl, rfl⟩)
  refine bodyPost_ret (v := .tuple #[.agg #[.bool false, .slice none 0 0], .bool true]) (by simp [results, Tryz.results36, go_sem, q0, q1]) rfl ?_
  have hf : fitsB (Int.natAbs 0) = true := by show decide ((digs 0).length ≤ 256) = true; rw [digs_zero]; rfl
  exact numRes_yes hf (by go_grown) rfl (by rw [show digs (Int.natAbs 0) = [] from digs_zero]; exact Sw.nil _ _ _ _)

set_option maxRecDepth 10000 in
set_option maxHeartbeats 1000000 in
theorem rsigned_ok {w : World} {v : Value} {ds : List Nat} (neg : Bool) (h : Sl w v ds) (hn : (digs (val ds)).length ≤ 256) (h0 : val ds ≠ 0) : Calls Tryz.prog 36 #[.bool neg, v] w (NumRes w (if neg = true then -((val ds : Nat) : Int) else ((val ds : Nat) : Int))) := by
  obtain ⟨z, hz⟩ : ∃ z : Int, z = if neg = true then -((val ds : Nat) : Int) else ((val ds : Nat) : Int) := ⟨_, rfl⟩
  have hza : z.natAbs = val ds := by rw [hz]; split <;> omega
  have hsg : neg = decide (z < 0) := by
    rw [hz]
    cases neg with
    | true => rw [if_pos rfl]; symm; rw [decide_eq_true_eq]; omega
    | false => rw [if_neg (by simp)]; symm; rw [decide_eq_false_iff_not]; omega
  rw [← hz]
  obtain ⟨ao, cap, rfl⟩ := h.mk'
  have HTR : Hid (∀ W, Sl W (.slice ao ds.length cap) ds → Calls Tryz.prog 55 #[.slice ao ds.length cap] W fun e w' => e = .returned (.slice ao (digs (val ds)).length cap) ∧ w' = W) := fun W h => rtrim_any _ _ _ h
  have hst := h.trim
  obtain ⟨xs, hxs⟩ : ∃ xs, xs = digs (val ds) := ⟨_, rfl⟩
  have hxn : xs.length ≠ 0 := fun e => h0 (digs_inj (by rw [digs_zero, ← hxs]; exact List.eq_nil_of_length_eq_zero e))
  rw [← hxs] at HTR hn hst
  obtain ⟨n, hnn⟩ : ∃ n, n = xs.length := ⟨_, rfl⟩
  obtain ⟨m, hm⟩ : ∃ m, m = ds.length := ⟨_, rfl⟩
  have hf : fitsB z.natAbs = true := by rw [hza]; unfold fitsB; rw [← hxs]; simpa using hn
  rw [← hnn] at HTR hn hst hxn
  rw [← hm] at HTR h ⊢
  obtain ⟨b, off, rfl, hcap, hlt, hcl⟩ := hst.at hxn
  have HXS := Lib.hid hxs
  have HNN := Lib.hid hnn
  have HZA := Lib.hid hza
  have HCL := Lib.hid hcl
  have HBD := Lib.hid hst.bd
  have HR := Lib.hid (resbox_new w)
  have HOW : Hid (((w.alloc (.cells #[.bool false, .slice none 0 0] 27)).alloc (.cells #[] 59)).ownsRow (w.heap.size + 1) 59 1 (.slice (some ⟨w.heap.size + 1, 0, none⟩) 0 0) 0 []) := by
    have := World.ownsRow_lit (base := w.heap.size + 1) (size := 1) (e := 59) (w.alloc (.cells #[.bool false, .slice none 0 0] 27)) #[] 0 (by simp) (by decide) rfl
    refine Lib.hid ?_
    simpa using this
  have HNW : Hid (∀ j u, (xs.map u32v)[j]? = some u → ((w.alloc (.cells #[.bool false, .slice none 0 0] 27)).alloc (.cells #[] 59)).cell? ((⟨b, off, none⟩ : Addr).add j) = some u) := Lib.hid fun j u hj => by
    rw [List.getElem?_map] at hj
    have hjl : j < xs.length := by
      rcases Nat.lt_or_ge j xs.length with h | h
      · exact h
      · rw [List.getElem?_eq_none h] at hj; cases hj
    have hcj := HCL.out j hjl
    rw [List.getElem?_eq_getElem hjl] at hj
    simp only [Option.map_some, Option.some.injEq] at hj
    have hb : Below w.heap.size w ((w.alloc (.cells #[.bool false, .slice none 0 0] 27)).alloc (.cells #[] 59)) := by go_grown
    have := cell_later hb hcj
    rw [← hj]
    have ea : ((⟨b, off, none⟩ : Addr).add j) = ⟨b, off + j, none⟩ := by simp [Addr.add]
    rw [ea]
    refine Eq.trans this ?_
    simp [List.getD, List.getElem?_eq_getElem hjl, u32v]
  obtain ⟨i0, hi, hz0, hz1, hz2⟩ := info_parts Tryz.info59
  have hpos : ((n : Int) == 0) = false := by simp; omega
  clear hnn hm hz hza hxs hcl h0
  go_enter Tryz.func36, Tryz.ntmps36
  go_wp2_with (first | (go_at_call 55; refine (HTR.out _ (h.below (by go_grown))).mono ?_; rintro e w' ⟨rfl, rfl⟩) | (at_builtin; go_must (refine wpList_append_own _ rfl _ _ 25 rfl (w.heap.size + 1) 59 i0 (.int .u32 0) 1 4 Tryz.underlying25 hi hz0 hz1 hz2 rfl (by decide) (.slice (some ⟨w.heap.size + 1, 0, none⟩) 0 0) 0 [] rfl HOW.out ⟨b, off, none⟩ n cap (xs.map u32v) rfl (by simp; exact HNN.out.symm) HNW.out (fun x hx => by obtain ⟨d, _, rfl⟩ := List.mem_map.1 hx; rfl) (by unfold maxLen; omega) (by omega) (by simp) ?_; intro v' w3 hown' hgrow3 hnil3; have hr3 : ResBox w3 w.heap.size := (hgrow3.block _ (by simp; omega) (by simp [Value.ownBlock])).trans (((Below.refl _ _).alloc (Nat.le_refl _) _ : Below (w.alloc (.cells #[.bool false, .slice none 0 0] 27)).heap.size _ _).block _ (by simp) |>.trans HR.out); obtain ⟨r0, r1, f0, f1⟩ := hr3.cells; obtain ⟨ao', cap', rfl, hs3⟩ := sw_of_owns HBD.out (show w3.ownsRow (w.heap.size + 1) 59 1 v' xs.length (xs.map u32v) by rw [← HNN.out]; simpa using hown'))))
  obtain ⟨q0, q1⟩ := hr3.stored (.bool (decide (z < 0))) (.slice ao' xs.length cap')
  have hb3 : Below w.heap.size w w3 := by
    have h1 : Below w.heap.size w ((w.alloc (.cells #[.bool false, .slice none 0 0] 27)).alloc (.cells #[] 59)) := by go_grown
    exact h1.grown hgrow3 (by simp; omega) (fun r e => by simp [Value.ownBlock] at e; omega)
  have hsw := (hs3.after2 (g := w.heap.size) (by omega) (.bool (decide (z < 0))) (.slice ao' xs.length cap')).mono (B' := w.heap.size) (by omega)
  refine bodyPost_ret (v := .tuple #[.agg #[.bool (decide (z < 0)), .slice ao' xs.length cap'], .bool true]) (by simp [results, Tryz.results36, go_sem, q0, q1]) rfl ?_
  exact numRes_yes hf ((hb3.setCell (by simp) _).setCell (by simp) _) rfl (by rw [HZA.out, ← HXS.out]; exact hsw)

/-- signed of the reference. -/
theorem rsigned_any {w : World} {v : Value} {ds : List Nat} (neg : Bool) (h : Sl w v ds) : Calls Tryz.prog 36 #[.bool neg, v] w (NumRes w (if neg = true then -((val ds : Nat) : Int) else ((val ds : Nat) : Int))) := by
  by_cases h0 : val ds = 0
  · have e : (if neg = true then -((val ds : Nat) : Int) else ((val ds : Nat) : Int)) = 0 := by rw [h0]; split <;> rfl
    rw [e]
    exact rsigned_zero neg h h0
  · by_cases hn : (digs (val ds)).length ≤ 256
    · exact rsigned_ok neg h hn h0
    · exact rsigned_big neg h (by omega)

end Go.Proofs.YtdgmjmckeeeljaaGreatDoor

namespace Go.Proofs.YtdgmjmckeeeljaaGreatDoor
open Go.RowKit

/-- A slice that reads as ints. -/
def Li (w : World) (v : Value) (zs : List Int) : Prop := ∃ ao cap, v = .slice ao zs.length cap ∧ zs.length ≤ cap ∧ zs.length ≤ maxLen ∧ (zs.length ≠ 0 → ∃ b off, ao = some ⟨b, off, none⟩ ∧ ∀ j, j < zs.length → w.cell? ⟨b, off + j, none⟩ = some (.int .i64 (zs.getD j 0)))

structure MadI (w : World) (B : Nat) (wr : World) (dv : Value) (j : Nat) : Prop where
  own : ∃ ds, ds.length = j ∧ Bd ds ∧ wr.ownsRow B 59 1 dv j (ds.map u32v)
  below : Below w.heap.size w wr
  box : ResBox wr w.heap.size
  big : B ≤ wr.heap.size

theorem Bd.append1 {ds : List Nat} (h : Bd ds) {r : Nat} (hr : r < 4294967296) : Bd (ds ++ [r]) := fun d hd => by
  rcases List.mem_append.1 hd with h1 | h1
  · exact h d h1
  · simp at h1; omega

set_option maxRecDepth 10000 in
set_option maxHeartbeats 1000000 in
theorem made11_any {w : World} {v : Value} {zs : List Int} (h : Li w v zs) :
    Calls Tryz.prog 11 #[v] w fun e w' => ∃ x z, e = .returned x ∧ Nu w' x z ∧ (digs z.natAbs).length ≤ 6 ∧ Below w.heap.size w w' := by
  obtain ⟨ao, cap, rfl, hc, hm, hcell⟩ := h
  obtain ⟨n, hn⟩ : ∃ n, n = zs.length := ⟨_, rfl⟩
  rw [← hn] at hc hm hcell ⊢
  have hbase : w.heap.size + 1 ≤ (w.alloc (.cells #[.bool false, .slice none 0 0] 27)).heap.size := by simp
  have HI0 : Hid (MadI w (w.heap.size + 1) (w.alloc (.cells #[.bool false, .slice none 0 0] 27)) (.slice none 0 0) 0) := Lib.hid ⟨⟨[], rfl, bd_nil, World.ownsRow_nil _ _ _ _⟩, by go_grown, resbox_new w, hbase⟩
  obtain ⟨i0, hi, hz0, hz1, hz2⟩ := info_parts Tryz.info59
  unfold maxLen at hm
  clear hn hbase
  go_enter Tryz.func11, Tryz.ntmps11
  go_wp2
  go_loopw [3, 4] (fun dv kv wr => ∃ j dao dc, dv = .slice dao j dc ∧ kv = .int .i64 ((j + 1 : Nat) : Int) ∧ j ≤ 6 ∧ Hid (MadI w (w.heap.size + 1) wr dv j)) (fun _ kv _ => 8 - (intOf kv).toNat)
  case atStart => exact ⟨0, none, 0, rfl, rfl, by omega, HI0⟩
  case round =>
    obtain ⟨j, dao, dc, rfl, rfl, hj, HI⟩ := hrel
    by_cases h1 : j + 1 < n ∧ j + 1 < 7
    · obtain ⟨h1, h2⟩ := h1
      obtain ⟨b, off, rfl, hcl⟩ := hcell (by omega)
      obtain ⟨z, hz⟩ : ∃ z, z = zs.getD (j + 1) 0 := ⟨_, rfl⟩
      have hx := cell_later HI.out.below (hcl (j + 1) (by omega))
      rw [← hz] at hx
      clear hz hcl hcell
      obtain ⟨ds, g1, g2, g3⟩ := HI.out.own
      obtain ⟨r, hr⟩ : ∃ r : Nat, z % 4294967296 = (r : Int) := ⟨(z % 4294967296).toNat, by omega⟩
      have hr4 : r < 4294967296 := by omega
      have HIB := Lib.hid HI.out.big
      go_wp2_with (at_builtin; go_must (refine wpList_append_own _ rfl _ _ 25 rfl (w.heap.size + 1) 59 i0 (.int .u32 0) 1 4 Tryz.underlying25 hi hz0 hz1 hz2 rfl (by decide) (.slice dao j dc) j (ds.map u32v) rfl (g3.alloc _) ⟨wr.heap.size, 0, none⟩ 1 1 [.int .u32 (r : Int)] rfl rfl (cell_one_new _ _ _) (fun x hx => by simp at hx; subst hx; rfl) (by unfold maxLen; omega) (by omega) (by have := HIB.out; simp; omega) ?_; intro v' w3 hown' hgrow3 hnil3))
      have hown2 : w3.ownsRow (w.heap.size + 1) 59 1 v' (j + 1) ((ds ++ [r]).map u32v) := by
        rw [List.map_append]
        exact hown'
      have hlv : ∀ b, (Value.slice dao j dc).ownBlock = some b → w.heap.size + 1 ≤ b := fun b e => (g3.lt b e).1
      have hgs := hgrow3.size
      simp at hgs
      have hblt := HI.out.box.lt
      have HN : Hid (MadI w (w.heap.size + 1) w3 v' (j + 1)) := Lib.hid ⟨⟨ds ++ [r], by simp [g1], Bd.append1 g2 hr4, hown2⟩,
        (HI.out.below.alloc (by have := HI.out.below.size; omega) _).grown hgrow3 (by simp; omega) (fun r e => by have := hlv r e; omega),
        (hgrow3.block _ (by simp; omega) (fun e => by have := hlv _ e.symm; omega)).trans ((Below.heap_alloc wr _ _ hblt).trans HI.out.box), by have := HIB.out; omega⟩
      obtain ⟨ao2, c2, rfl⟩ : ∃ ao2 c2, v' = .slice ao2 (j + 1) c2 := by
        rcases hown2.2 with ⟨_, e⟩ | ⟨g, cc, _, e, _⟩
        · omega
        · exact ⟨_, _, e⟩
      clear hown' hown2 hgrow3 hgs
      go_roundw
      case rel => exact ⟨j + 1, _, _, rfl, by go_num, by omega, HN⟩
      case measure => simp [intOf]; omega
    · obtain ⟨ds, g1, g2, g3⟩ := HI.out.own
      rw [← g1] at g3
      obtain ⟨dao', dc', e4, e5⟩ := sw_of_owns g2 g3
      rw [g1] at e4
      cases e4
      rw [g1] at e5
      have hsl := e5.sl
      have hd6 : (digs (val ds)).length ≤ 6 := Nat.le_trans (take_trim g2).2 (by omega)
      have HSI : Hid (∀ W neg, Sl W (.slice dao j dc) ds → Calls Tryz.prog 36 #[.bool neg, .slice dao j dc] W fun e w' => ∃ (z : Int) (neg' : Bool) (ao : Option Addr) (n c : Nat), e = .returned (.tuple #[.agg #[.bool neg', .slice ao n c], .bool true]) ∧ (neg' = decide (z < 0) ∧ Sw W.heap.size w' (.slice ao n c) (digs z.natAbs) ∧ (digs z.natAbs).length ≤ 6) ∧ Below W.heap.size W w') := fun W neg h => by
        have hza : (if neg = true then -((val ds : Nat) : Int) else ((val ds : Nat) : Int)).natAbs = val ds := by split <;> omega
        have hf : fitsB (if neg = true then -((val ds : Nat) : Int) else ((val ds : Nat) : Int)).natAbs = true := by
          rw [hza]; unfold fitsB; simp; omega
        refine (rsigned_any neg h).mono ?_
        rintro e w' ⟨neg', ao2, n2, c2, rfl, hb2, hyes, -⟩
        obtain ⟨h1, h2⟩ := hyes hf
        exact ⟨_, neg', ao2, n2, c2, by rw [hf], ⟨h1, h2, by rw [hza]; exact hd6⟩, hb2⟩
      have HBX := Lib.hid HI.out.box
      have HBL := Lib.hid HI.out.below
      clear g1 g2 g3 e5 hd6 HI0 HI hz0 hz1 hz2 hi
      by_cases hn0 : n = 0
      · subst hn0
        go_wp2_with (go_at_call 36; refine (HSI.out _ _ hsl).mono ?_; rintro e W2 ⟨z, neg', ao2, n2, c2, rfl, hres, hb2⟩; have HRS := Lib.hid hres; clear hres; have hr2 := HBX.out.below hb2; obtain ⟨r0, r1, f0, f1⟩ := hr2.cells; have hz1' := hr2.lt; have hz2' := Nat.le_of_lt hz1')
        obtain ⟨c0, c1⟩ := res_cells hr2 (.bool neg') (.slice ao2 n2 c2) (.cells #[.bool neg', .slice ao2 n2 c2] 27)
        have hsz := HBL.out.size
        have hsz2 := hb2.size
        have hfin : Below w.heap.size w (((W2.setCell ⟨w.heap.size, 0, none⟩ (.bool neg')).setCell ⟨w.heap.size, 1, none⟩ (.slice ao2 n2 c2)).alloc (.cells #[.bool neg', .slice ao2 n2 c2] 27)) :=
          (((HBL.out.trans (hb2.mono hsz)).setCell (by simp) _).setCell (by simp) _).alloc (by simp; omega) _
        have hgt := HBX.out.lt
        have hsw := HRS.out.2.1.after (g := w.heap.size) hgt (.bool neg') (.slice ao2 n2 c2) (.cells #[.bool neg', .slice ao2 n2 c2] 27)
        revert hfin c0 c1 hsw
        generalize (((W2.setCell ⟨w.heap.size, 0, none⟩ (.bool neg')).setCell ⟨w.heap.size, 1, none⟩ (.slice ao2 n2 c2)).alloc (.cells #[.bool neg', .slice ao2 n2 c2] 27)) = W4
        intro c0 c1 hfin hsw
        have HSW := Lib.hid hsw
        clear hsw
        refine bodyPost_ret (v := .agg #[.bool neg', .slice ao2 n2 c2]) (by simp [results, Tryz.results11, go_sem, c0, c1]) rfl ?_
        exact ⟨_, z, rfl, ⟨.slice ao2 n2 c2, by rw [← HRS.out.1], HSW.out.sl, by have := HRS.out.2.2; omega⟩, HRS.out.2.2, hfin⟩
      · obtain ⟨b, off, rfl, hcl⟩ := hcell hn0
        have hx := cell_later HBL.out (hcl 0 (by omega))
        obtain ⟨z0, hz⟩ : ∃ z0, z0 = zs.getD 0 0 := ⟨_, rfl⟩
        rw [← hz, Nat.add_zero] at hx
        clear hz hcl hcell
        have hn1 : 0 < n := by omega
        by_cases h3 : j + 1 < n
        · have h4 : j = 6 := by omega
          subst h4
          go_wp2_with (go_at_call 36; refine (HSI.out _ _ hsl).mono ?_; rintro e W2 ⟨z, neg', ao2, n2, c2, rfl, hres, hb2⟩; have HRS := Lib.hid hres; clear hres; have hr2 := HBX.out.below hb2; obtain ⟨r0, r1, f0, f1⟩ := hr2.cells; have hz1' := hr2.lt; have hz2' := Nat.le_of_lt hz1')
          obtain ⟨c0, c1⟩ := res_cells hr2 (.bool neg') (.slice ao2 n2 c2) (.cells #[.bool neg', .slice ao2 n2 c2] 27)
          have hsz := HBL.out.size
          have hsz2 := hb2.size
          have hfin : Below w.heap.size w (((W2.setCell ⟨w.heap.size, 0, none⟩ (.bool neg')).setCell ⟨w.heap.size, 1, none⟩ (.slice ao2 n2 c2)).alloc (.cells #[.bool neg', .slice ao2 n2 c2] 27)) :=
            (((HBL.out.trans (hb2.mono hsz)).setCell (by simp) _).setCell (by simp) _).alloc (by simp; omega) _
          have hgt := HBX.out.lt
          have hsw := HRS.out.2.1.after (g := w.heap.size) hgt (.bool neg') (.slice ao2 n2 c2) (.cells #[.bool neg', .slice ao2 n2 c2] 27)
          revert hfin c0 c1 hsw
          generalize (((W2.setCell ⟨w.heap.size, 0, none⟩ (.bool neg')).setCell ⟨w.heap.size, 1, none⟩ (.slice ao2 n2 c2)).alloc (.cells #[.bool neg', .slice ao2 n2 c2] 27)) = W4
          intro c0 c1 hfin hsw
          have HSW := Lib.hid hsw
          clear hsw
          refine bodyPost_ret (v := .agg #[.bool neg', .slice ao2 n2 c2]) (by simp [results, Tryz.results11, go_sem, c0, c1]) rfl ?_
          exact ⟨_, z, rfl, ⟨.slice ao2 n2 c2, by rw [← HRS.out.1], HSW.out.sl, by have := HRS.out.2.2; omega⟩, HRS.out.2.2, hfin⟩
        · have h4 : n ≤ j + 1 := by omega
          go_wp2_with (go_at_call 36; refine (HSI.out _ _ hsl).mono ?_; rintro e W2 ⟨z, neg', ao2, n2, c2, rfl, hres, hb2⟩; have HRS := Lib.hid hres; clear hres; have hr2 := HBX.out.below hb2; obtain ⟨r0, r1, f0, f1⟩ := hr2.cells; have hz1' := hr2.lt; have hz2' := Nat.le_of_lt hz1')
          obtain ⟨c0, c1⟩ := res_cells hr2 (.bool neg') (.slice ao2 n2 c2) (.cells #[.bool neg', .slice ao2 n2 c2] 27)
          have hsz := HBL.out.size
          have hsz2 := hb2.size
          have hfin : Below w.heap.size w (((W2.setCell ⟨w.heap.size, 0, none⟩ (.bool neg')).setCell ⟨w.heap.size, 1, none⟩ (.slice ao2 n2 c2)).alloc (.cells #[.bool neg', .slice ao2 n2 c2] 27)) :=
            (((HBL.out.trans (hb2.mono hsz)).setCell (by simp) _).setCell (by simp) _).alloc (by simp; omega) _
          have hgt := HBX.out.lt
          have hsw := HRS.out.2.1.after (g := w.heap.size) hgt (.bool neg') (.slice ao2 n2 c2) (.cells #[.bool neg', .slice ao2 n2 c2] 27)
          revert hfin c0 c1 hsw
          generalize (((W2.setCell ⟨w.heap.size, 0, none⟩ (.bool neg')).setCell ⟨w.heap.size, 1, none⟩ (.slice ao2 n2 c2)).alloc (.cells #[.bool neg', .slice ao2 n2 c2] 27)) = W4
          intro c0 c1 hfin hsw
          have HSW := Lib.hid hsw
          clear hsw
          refine bodyPost_ret (v := .agg #[.bool neg', .slice ao2 n2 c2]) (by simp [results, Tryz.results11, go_sem, c0, c1]) rfl ?_
          exact ⟨_, z, rfl, ⟨.slice ao2 n2 c2, by rw [← HRS.out.1], HSW.out.sl, by have := HRS.out.2.2; omega⟩, HRS.out.2.2, hfin⟩

end Go.Proofs.YtdgmjmckeeeljaaGreatDoor
