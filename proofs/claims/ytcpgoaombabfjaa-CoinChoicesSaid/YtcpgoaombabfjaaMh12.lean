/- Contract of num: Div. Condition: divide keeps its contract at these arguments. Contract of num: Div. Greatest common divisors, where the lesser number has at most two digits. Contract of num: Gcd, where the lesser number has at most two digits. Contracts: is, divides of the statements; Div and Gcd with a divisor of one digit. Contracts of ratio: Fit, for a numerator and a denominator from 0 to 1000, and what it calls. Contracts of ratio: common, ofInts, right, Right, Fit, for a numerator and a denominator from 0 to 1000. -/
import Derived.Test.YtcpgoaombabfjaaMh11
import Derived.Test.YtcpgoaombabfjaaMh2
import Derived.Test.YtcpgoaombabfjaaMh10
import Derived.Deep.RegionHeld3
import Derived.Test.YtcpgoaombabfjaaMh1
namespace Go.Proofs.Ytcpgoaombabfjaa.Nums
open Go.RowKit

theorem heap_four (w : World) (o1 o2 o3 o4 : Obj) : ((((w.alloc o1).alloc o2).alloc o3).alloc o4).heap[w.heap.size]? = some o1 ∧ ((((w.alloc o1).alloc o2).alloc o3).alloc o4).heap[w.heap.size + 1]? = some o2 ∧
    ((((w.alloc o1).alloc o2).alloc o3).alloc o4).heap[w.heap.size + 1 + 1]? = some o3 ∧ ((((w.alloc o1).alloc o2).alloc o3).alloc o4).heap[w.heap.size + 1 + 1 + 1]? = some o4 := by
  obtain ⟨h1, h2, h3⟩ := heap_three w o1 o2 o3
  have h4 := heap_alloc_new (((w.alloc o1).alloc o2).alloc o3) o4
  simp only [World.size_alloc] at h4
  refine ⟨?_, ?_, ?_, h4⟩
  · rw [Below.heap_alloc _ _ _ (by simp only [World.size_alloc]; omega)]; exact h1
  · rw [Below.heap_alloc _ _ _ (by simp only [World.size_alloc]; omega)]; exact h2
  · rw [Below.heap_alloc _ _ _ (by simp only [World.size_alloc]; omega)]; exact h3

/-- The boxes of Div. -/
structure Box4 (W : World) (B : Nat) (na nb : Bool) (sa sb : Value) (x y : Nat) : Prop where
  a : W.heap[B]? = some (.cells #[.bool na, sa] 88 (0, 0))
  b : W.heap[B + 1]? = some (.cells #[.bool nb, sb] 88 (0, 0))
  q : ResBox W (B + 1 + 1)
  r : ResBox W (B + 1 + 1 + 1)
  sa : Sl W sa (digs x)
  sb : Sl W sb (digs y)

theorem Box4.lt {W : World} {B : Nat} {na nb : Bool} {sa sb : Value} {x y : Nat} (h : Box4 W B na nb sa sb x y) : B + 1 + 1 + 1 < W.heap.size := h.r.lt

theorem Box4.below {W W' : World} {B : Nat} {na nb : Bool} {sa sb : Value} {x y : Nat} (h : Box4 W B na nb sa sb x y) (hb : Below W.heap.size W W') : Box4 W' B na nb sa sb x y := by
  have hl := h.lt
  exact ⟨(hb.block _ (by omega)).trans h.a, (hb.block _ (by omega)).trans h.b, h.q.below hb, h.r.below hb, h.sa.below hb, h.sb.below hb⟩

theorem box4_new {w W : World} {na nb : Bool} {sa sb : Value} {x y : Nat} (ha : Sl w sa (digs x)) (hb : Sl w sb (digs y))
    (h : Below (w.heap.size + 4) ((((w.alloc (.cells #[.bool na, sa] 88)).alloc (.cells #[.bool nb, sb] 88)).alloc (.cells #[.bool false, .slice none 0 0] 88)).alloc (.cells #[.bool false, .slice none 0 0] 88)) W) : Box4 W w.heap.size na nb sa sb x y := by
  obtain ⟨h1, h2, h3, h4⟩ := heap_four w (.cells #[.bool na, sa] 88) (.cells #[.bool nb, sb] 88) (.cells #[.bool false, .slice none 0 0] 88) (.cells #[.bool false, .slice none 0 0] 88)
  rw [← h.block _ (by omega)] at h1 h2 h3 h4
  have hw : Below w.heap.size w W := (((((Below.refl _ w).alloc (Nat.le_refl _) _).alloc (by simp) _).alloc (by simp; omega) _).alloc (by simp; omega) _).trans (h.mono (by omega))
  exact ⟨h1, h2, h3, h4, ha.below hw, hb.below hw⟩

/-- What Div returns. -/
def DivOut (w : World) (a b : Int) (e : Ending) (w' : World) : Prop :=
  ∃ n1 a1 l1 c1 n2 a2 l2 c2, e = .returned (.tuple #[.agg #[.bool n1, .slice a1 l1 c1], .agg #[.bool n2, .slice a2 l2 c2], .bool true]) ∧ Below w.heap.size w w' ∧
    Nu w' (.agg #[.bool n1, .slice a1 l1 c1]) (a / b) ∧ Nu w' (.agg #[.bool n2, .slice a2 l2 c2]) (a % b)

theorem res_two {W : World} {g : Nat} (h : ResBox W g) (h' : ResBox W (g + 1)) (_ : True ∨ True) (u0 u1 v0 v1 : Value) :
    ((((W.setCell ⟨g, 0, none⟩ u0).setCell ⟨g, 1, none⟩ u1).setCell ⟨g + 1, 0, none⟩ v0).setCell ⟨g + 1, 1, none⟩ v1).cell? ⟨g, 0, none⟩ = some u0 ∧
    ((((W.setCell ⟨g, 0, none⟩ u0).setCell ⟨g, 1, none⟩ u1).setCell ⟨g + 1, 0, none⟩ v0).setCell ⟨g + 1, 1, none⟩ v1).cell? ⟨g, 1, none⟩ = some u1 ∧
    ((((W.setCell ⟨g, 0, none⟩ u0).setCell ⟨g, 1, none⟩ u1).setCell ⟨g + 1, 0, none⟩ v0).setCell ⟨g + 1, 1, none⟩ v1).cell? ⟨g + 1, 0, none⟩ = some v0 ∧
    ((((W.setCell ⟨g, 0, none⟩ u0).setCell ⟨g, 1, none⟩ u1).setCell ⟨g + 1, 0, none⟩ v0).setCell ⟨g + 1, 1, none⟩ v1).cell? ⟨g + 1, 1, none⟩ = some v1 := by
  obtain ⟨a0, a1⟩ := h.stored u0 u1
  have hx : ResBox ((W.setCell ⟨g, 0, none⟩ u0).setCell ⟨g, 1, none⟩ u1) (g + 1) := by
    unfold ResBox
    rw [heap_setCell_other _ _ _ _ (by simp), heap_setCell_other _ _ _ _ (by simp)]
    exact h'
  obtain ⟨b0, b1⟩ := hx.stored v0 v1
  refine ⟨?_, ?_, b0, b1⟩
  · rw [cell_other (by simp), cell_other (by simp)]; exact a0
  · rw [cell_other (by simp), cell_other (by simp)]; exact a1

theorem div_uniq {n d k m : Nat} (h : n = d * k + m) (hm : m < d) : n / d = k ∧ n % d = m := by
  subst h
  exact ⟨by rw [Nat.mul_add_div (by omega), Nat.div_eq_of_lt hm, Nat.add_zero], by rw [Nat.mul_add_mod, Nat.mod_eq_of_lt hm]⟩

theorem div_signs (a b : Int) (hb : b ≠ 0) :
    (0 ≤ a ∨ a.natAbs % b.natAbs = 0 → (a / b).natAbs = a.natAbs / b.natAbs ∧ (a % b).natAbs = a.natAbs % b.natAbs) ∧
    (a < 0 → a.natAbs % b.natAbs ≠ 0 → (a / b).natAbs = a.natAbs / b.natAbs + 1 ∧ (a % b).natAbs = b.natAbs - a.natAbs % b.natAbs) ∧
    (a / b ≠ 0 → (!(decide (a < 0) == decide (b < 0))) = decide (a / b < 0)) ∧ 0 ≤ a % b := by
  have h1 := Int.mul_ediv_add_emod a b
  have h2 := Int.emod_nonneg a hb
  have h3 := Int.emod_lt a hb
  obtain ⟨q, hq⟩ : ∃ q, q = a / b := ⟨_, rfl⟩
  obtain ⟨r, hr⟩ : ∃ r, r = a % b := ⟨_, rfl⟩
  rw [← hq, ← hr] at h1 ⊢
  rw [← hr] at h2 h3
  have hP : (b * q).natAbs = b.natAbs * q.natAbs := Int.natAbs_mul b q
  have hbig : q ≠ 0 → b.natAbs ≤ b.natAbs * q.natAbs := fun h => Nat.le_mul_of_pos_right _ (by omega)
  obtain ⟨P, hPP⟩ : ∃ P : Int, P = b * q := ⟨_, rfl⟩
  rw [← hPP] at h1 hP
  have hsame : 0 < b * q → (decide (b < 0) = decide (q < 0)) := fun h => by
    rcases Int.lt_or_gt_of_ne hb with hb1 | hb1
    · by_cases hq1 : q < 0
      · simp [hb1, hq1]
      · have := Int.mul_nonpos_of_nonpos_of_nonneg (show b ≤ 0 by omega) (show 0 ≤ q by omega); omega
    · by_cases hq1 : q < 0
      · have := Int.mul_neg_of_pos_of_neg hb1 hq1; omega
      · have h4 : ¬ b < 0 := by omega
        simp [h4, hq1]
  have hdiff : b * q < 0 → (decide (b < 0) = !(decide (q < 0))) := fun h => by
    rcases Int.lt_or_gt_of_ne hb with hb1 | hb1
    · by_cases hq1 : q < 0
      · have := Int.mul_pos_of_neg_of_neg hb1 hq1; omega
      · simp [hb1, hq1]
    · by_cases hq1 : q < 0
      · have h4 : ¬ b < 0 := by omega
        simp [h4, hq1]
      · have := Int.mul_nonneg (show 0 ≤ b by omega) (show 0 ≤ q by omega); omega
  rw [← hPP] at hsame hdiff
  have hz : q = 0 → P = 0 := fun h => by rw [hPP, h, Int.mul_zero]
  obtain ⟨M, hM⟩ : ∃ M, M = b.natAbs * q.natAbs := ⟨_, rfl⟩
  rw [← hM] at hP hbig
  refine ⟨fun h => ?_, fun h hne => ?_, fun hq0 => ?_, h2⟩
  · by_cases ha : 0 ≤ a
    · have hpos : 0 ≤ P := by
        by_cases hq0 : q = 0
        · rw [hz hq0]; omega
        · have := hbig hq0; omega
      obtain ⟨u1, u2⟩ := div_uniq (n := a.natAbs) (d := b.natAbs) (k := q.natAbs) (m := r.natAbs) (by rw [← hM]; omega) (by omega)
      exact ⟨u1.symm, u2.symm⟩
    · have hm : a.natAbs % b.natAbs = 0 := h.resolve_left ha
      have hr0 : r = 0 := by
        by_cases hr0 : r = 0
        · exact hr0
        · exfalso
          have hq0 : q ≠ 0 := fun h0 => by rw [hz h0] at h1; omega
          have hM1 : b.natAbs * (q.natAbs - 1) = M - b.natAbs := by rw [Nat.mul_sub_one, ← hM]
          have hb' := hbig hq0
          obtain ⟨_, u2⟩ := div_uniq (n := a.natAbs) (d := b.natAbs) (k := q.natAbs - 1) (m := b.natAbs - r.natAbs) (by rw [hM1]; omega) (by omega)
          omega
      obtain ⟨u1, u2⟩ := div_uniq (n := a.natAbs) (d := b.natAbs) (k := q.natAbs) (m := 0) (by rw [← hM]; omega) (by omega)
      exact ⟨u1.symm, by rw [u2, hr0]; rfl⟩
  · have hq0 : q ≠ 0 := fun h0 => by rw [hz h0] at h1; omega
    have hr0 : r ≠ 0 := fun h0 => by
      apply hne
      exact (div_uniq (n := a.natAbs) (d := b.natAbs) (k := q.natAbs) (m := 0) (by rw [← hM]; omega) (by omega)).2
    have hM1 : b.natAbs * (q.natAbs - 1) = M - b.natAbs := by rw [Nat.mul_sub_one, ← hM]
    have hb' := hbig hq0
    obtain ⟨u1, u2⟩ := div_uniq (n := a.natAbs) (d := b.natAbs) (k := q.natAbs - 1) (m := b.natAbs - r.natAbs) (by rw [hM1]; omega) (by omega)
    rw [u1, u2]
    omega
  · by_cases ha : 0 ≤ a
    · have hpos : 0 < P := by have := hbig hq0; omega
      have hn : ¬ a < 0 := by omega
      rw [hsame hpos]
      simp [hn]
    · have hneg : P < 0 := by have := hbig hq0; omega
      have hn : a < 0 := by omega
      rw [hdiff hneg]
      simp [hn]

end Go.Proofs.Ytcpgoaombabfjaa.Nums

namespace Go.Proofs.Ytcpgoaombabfjaa.Nums
open Go.RowKit

end Go.Proofs.Ytcpgoaombabfjaa.Nums

namespace Go.Proofs.Ytcpgoaombabfjaa.Nums
open Go.RowKit

def WordRel (g : Nat) (w : World) (xv yv : Value) (wr : World) : Prop := ∃ x y m, xv = .int .u64 (x : Nat) ∧ yv = .int .u64 (y : Nat) ∧ x / 4294967296 < 4294967296 ∧ y / 4294967296 < 4294967296 ∧ Nat.gcd x y = g ∧ wr = w.drewN m

set_option maxRecDepth 10000 in
set_option maxHeartbeats 1000000 in
theorem commonWord_any (x y : Nat) (w : World) (hx : x / 4294967296 < 4294967296) (hy : y / 4294967296 < 4294967296) :
    Calls Try.prog 81 #[.int .u64 x, .int .u64 y] w fun e w' => e = .returned (.int .u64 (Nat.gcd x y : Nat)) ∧ ∃ m, w' = w.drewN m := by
  obtain ⟨g, hg⟩ : ∃ g, g = Nat.gcd x y := ⟨_, rfl⟩
  rw [← hg]
  go_enter Try.func81, Try.ntmps81
  go_wp2
  go_loopw [0, 1] (fun xv yv wr => WordRel g w xv yv wr) (fun _ yv _ => (intOf yv).toNat)
  case atStart => exact ⟨x, y, 0, rfl, rfl, hx, hy, hg.symm, rfl⟩
  case round =>
    obtain ⟨u, v, m, rfl, rfl, hu, hv, huv, rfl⟩ := hrel
    clear hg
    by_cases h0 : v = 0
    · subst h0
      have huv' : u = g := by simpa using huv
      subst huv'
      clear huv
      go_wp2
      go_ret
      exact ⟨rfl, m, rfl⟩
    · have hpos : 0 < (v : Int) := by omega
      have hz : ((v : Int) == 0) = false := by simp; omega
      have hm : u % v < v := Nat.mod_lt _ (by omega)
      have hn : Nat.gcd v (u % v) = g := by rw [← huv, Nat.gcd_comm u v, Nat.gcd_rec v u, Nat.gcd_comm]
      have HN := Lib.hid hn
      obtain ⟨r, hr⟩ : ∃ r, r = u % v := ⟨_, rfl⟩
      have er : (u : Int) % v = r := by rw [hr]; rfl
      rw [← hr] at hm HN
      clear hr huv hn h0
      go_wp2
      go_quiet (fail)
      go_wp2
      go_roundw
      case rel => exact ⟨v, r, m + nq, rfl, by rw [er], hv, by omega, HN.out, by rw [World.drewN_drewN]⟩
      case measure => simp only [intOf]; rw [er]; omega

/-- A slice of the digits of n in new memory, its length named. -/
def NewD (w : World) (n l : Nat) (e : Ending) (w' : World) : Prop := ∃ ao cap, e = .returned (.slice ao l cap) ∧ Sw w.heap.size w' (.slice ao l cap) (digs n) ∧ Below w.heap.size w w'

set_option maxRecDepth 10000 in
set_option maxHeartbeats 2000000 in
theorem common_ge {w : World} {va vb : Value} {x y l : Nat} (ha : Sl w va (digs x)) (hb : Sl w vb (digs y)) (hla : (digs x).length ≤ 256) (hlb : (digs y).length ≤ 2) (hc : y ≤ x) (hl : l = (digs (Nat.gcd x y)).length)
    (hd : ∀ W va vb, y ≠ 0 → Sl W va (digs x) → Sl W vb (digs y) → Calls Try.prog 79 #[va, vb] W (DivRes W x y)) :
    Calls Try.prog 72 #[va, vb] w (NewD w (Nat.gcd x y) l) := by
  have hcm := compare_any ha hb (by omega) (by omega)
  have hge : 0 ≤ cmpN x y := by unfold cmpN; rw [if_neg (by omega)]; split <;> decide
  obtain ⟨ab, cb, rfl⟩ := hb.mk'
  obtain ⟨lb, hlb'⟩ : ∃ lb, lb = (digs y).length := ⟨_, rfl⟩
  rw [← hlb'] at hb hlb hcm ⊢
  have HCM := Lib.hid hcm
  have HCL : Hid (∀ W, Sl W va (digs x) → Calls Try.prog 80 #[va] W (NewSl W (digs x))) := fun W h => clone_any h (by omega)
  have HD := Lib.hid hd
  have HLB := Lib.hid hlb'
  have HL := Lib.hid hl
  clear hcm hd hlb' hl
  by_cases h0 : lb = 0
  · subst h0
    have hy : y = 0 := digs_inj (by rw [digs_zero]; exact List.eq_nil_of_length_eq_zero HLB.out.symm)
    have HY := Lib.hid hy
    clear hy
    go_enter Try.func72, Try.ntmps72
    go_wp2_with (go_at_call 71; refine HCM.out.mono ?_; rintro e W1 ⟨rfl, hb1⟩)
    refine wp_loop_rounds 1 ?_
    rw [rounds_succ]
    go_wp2_with (go_at_call 80; refine (HCL.out _ (ha.below hb1)).mono ?_; rintro e W2 ⟨ao, cap, rfl, hs, hb2⟩)
    go_ret
    have hg : Nat.gcd x y = x := by rw [HY.out, Nat.gcd_zero_right]
    have hl := HL.out
    rw [hg] at hl ⊢
    rw [hl]
    exact ⟨_, _, rfl, hs.mono hb1.size, hb1.trans (hb2.mono hb1.size)⟩
  · have hy0 : y ≠ 0 := fun h => h0 (by rw [HLB.out, h, digs_zero]; rfl)
    have hlz : ((lb : Int) == 0) = false := by simp; omega
    have hyw : y / 4294967296 < 4294967296 := by
      have := digs_length_le.1 (show (digs y).length ≤ 2 by rw [← HLB.out]; exact hlb)
      rw [show (4294967296 : Nat) ^ 2 = 4294967296 * 4294967296 from rfl] at this
      omega
    have hr : x % y < y := Nat.mod_lt _ (by omega)
    have hrl : (digs (x % y)).length ≤ 2 := digs_word (by omega)
    have hg : Nat.gcd y (x % y) = Nat.gcd x y := by rw [Nat.gcd_comm x y, Nat.gcd_rec y x, Nat.gcd_comm]
    have hgl : Nat.gcd x y / 4294967296 < 4294967296 := by
      have := Nat.gcd_le_right x (show 0 < y by omega)
      omega
    have HW1 : Hid (∀ W v, Sl W v (digs y) → Calls Try.prog 82 #[v] W fun e w' => e = .returned (.int .u64 (y : Nat)) ∧ w' = W) := fun W v h => by
      have := word_any h (by rw [← HLB.out]; exact hlb)
      rwa [val_digs] at this
    have HW2 : Hid (∀ W v, Sl W v (digs (x % y)) → Calls Try.prog 82 #[v] W fun e w' => e = .returned (.int .u64 (x % y : Nat)) ∧ w' = W) := fun W v h => by
      have := word_any h hrl
      rwa [val_digs] at this
    have HCW : Hid (∀ W, Calls Try.prog 81 #[.int .u64 y, .int .u64 (x % y : Nat)] W fun e w' => e = .returned (.int .u64 (Nat.gcd x y : Nat)) ∧ ∃ m, w' = W.drewN m) := fun W => by
      have := commonWord_any y (x % y) W hyw (by omega)
      rwa [hg] at this
    have HDO : Hid (∀ W, Calls Try.prog 70 #[.int .u64 (Nat.gcd x y : Nat)] W (NewD W (Nat.gcd x y) l)) := fun W => by
      have := digitsOf_at (x := Nat.gcd x y) (n := l) W hgl HL.out.symm
      exact this
    have HY0 := Lib.hid hy0
    clear hyw hr hrl hg hgl hy0
    unfold DivRes at HD
    obtain ⟨g, hg⟩ : ∃ g, g = Nat.gcd x y := ⟨_, rfl⟩
    obtain ⟨r, hr⟩ : ∃ r, r = x % y := ⟨_, rfl⟩
    rw [← hg] at HCW HDO ⊢
    rw [← hr] at HCW HW2 HD
    clear hg hr
    go_enter Try.func72, Try.ntmps72
    go_wp2_with (go_at_call 71; refine HCM.out.mono ?_; rintro e W1 ⟨rfl, hb1⟩)
    refine wp_loop_rounds 1 ?_
    rw [rounds_succ]
    go_wp2_with fail
    refine (HD.out _ _ _ HY0.out (ha.below hb1) (hb.below hb1)).mono ?_
    rintro e W2 ⟨aq, cq, ar, cr, rfl, hsq, hsr, hb2⟩
    have hbb : Below w.heap.size w W2 := hb1.trans (hb2.mono hb1.size)
    have HSR := Lib.hid hsr
    clear hsq hsr
    go_wp2_with fail
    refine (HW1.out _ _ (hb.below hbb)).mono ?_
    rintro e w' ⟨rfl, rfl⟩
    go_wp2_with fail
    refine (HW2.out _ _ HSR.out.sl).mono ?_
    rintro e w'' ⟨rfl, rfl⟩
    go_wp2_with fail
    refine (HCW.out _).mono ?_
    rintro e w3 ⟨rfl, m, rfl⟩
    go_wp2_with fail
    refine (HDO.out _).mono ?_
    rintro e W4 ⟨ao, cap, rfl, hs4, hb4⟩
    have HS4 := Lib.hid hs4
    clear hs4
    go_wp2
    go_ret
    have hz : Below w.heap.size w (w''.drewN m) := below_drewN' hbb m
    exact ⟨_, _, rfl, HS4.out.mono hz.size, hz.trans (hb4.mono hz.size)⟩

end Go.Proofs.Ytcpgoaombabfjaa.Nums

namespace Go.Proofs.Ytcpgoaombabfjaa.Nums
open Go.RowKit

theorem digs_mono {x y : Nat} (h : x ≤ y) : (digs x).length ≤ (digs y).length :=
  digs_length_le.2 (Nat.lt_of_le_of_lt h (digs_length_le.1 (Nat.le_refl _)))

set_option maxRecDepth 10000 in
set_option maxHeartbeats 2000000 in
theorem common_lt {w : World} {va vb : Value} {x y l : Nat} (ha : Sl w va (digs x)) (hb : Sl w vb (digs y)) (hla : (digs x).length ≤ 256) (hlb : (digs y).length ≤ 2) (hc : y < x) (hl : l = (digs (Nat.gcd x y)).length)
    (hd : ∀ W va vb, y ≠ 0 → Sl W va (digs x) → Sl W vb (digs y) → Calls Try.prog 79 #[va, vb] W (DivRes W x y)) :
    Calls Try.prog 72 #[vb, va] w (NewD w (Nat.gcd x y) l) := by
  have hcm := compare_any hb ha (by omega) (by omega)
  have hge : cmpN y x < 0 := by rw [cmpN_lt hc]; decide
  obtain ⟨ab, cb, rfl⟩ := hb.mk'
  obtain ⟨lb, hlb'⟩ : ∃ lb, lb = (digs y).length := ⟨_, rfl⟩
  rw [← hlb'] at hb hlb hcm ⊢
  have HCM := Lib.hid hcm
  have HCL : Hid (∀ W, Sl W va (digs x) → Calls Try.prog 80 #[va] W (NewSl W (digs x))) := fun W h => clone_any h (by omega)
  have HD := Lib.hid hd
  have HLB := Lib.hid hlb'
  have HL := Lib.hid hl
  clear hcm hd hlb' hl
  by_cases h0 : lb = 0
  · subst h0
    have hy : y = 0 := digs_inj (by rw [digs_zero]; exact List.eq_nil_of_length_eq_zero HLB.out.symm)
    have HY := Lib.hid hy
    clear hy
    go_enter Try.func72, Try.ntmps72
    go_wp2_with (go_at_call 71; refine HCM.out.mono ?_; rintro e W1 ⟨rfl, hb1⟩)
    refine wp_loop_rounds 1 ?_
    rw [rounds_succ]
    go_wp2_with (go_at_call 80; refine (HCL.out _ (ha.below hb1)).mono ?_; rintro e W2 ⟨ao, cap, rfl, hs, hb2⟩)
    go_ret
    have hg : Nat.gcd x y = x := by rw [HY.out, Nat.gcd_zero_right]
    have hl := HL.out
    rw [hg] at hl ⊢
    rw [hl]
    exact ⟨_, _, rfl, hs.mono hb1.size, hb1.trans (hb2.mono hb1.size)⟩
  · have hy0 : y ≠ 0 := fun h => h0 (by rw [HLB.out, h, digs_zero]; rfl)
    have hlz : ((lb : Int) == 0) = false := by simp; omega
    have hyw : y / 4294967296 < 4294967296 := by
      have := digs_length_le.1 (show (digs y).length ≤ 2 by rw [← HLB.out]; exact hlb)
      rw [show (4294967296 : Nat) ^ 2 = 4294967296 * 4294967296 from rfl] at this
      omega
    have hr : x % y < y := Nat.mod_lt _ (by omega)
    have hrl : (digs (x % y)).length ≤ 2 := digs_word (by omega)
    have hg : Nat.gcd y (x % y) = Nat.gcd x y := by rw [Nat.gcd_comm x y, Nat.gcd_rec y x, Nat.gcd_comm]
    have hgl : Nat.gcd x y / 4294967296 < 4294967296 := by
      have := Nat.gcd_le_right x (show 0 < y by omega)
      omega
    have HW1 : Hid (∀ W v, Sl W v (digs y) → Calls Try.prog 82 #[v] W fun e w' => e = .returned (.int .u64 (y : Nat)) ∧ w' = W) := fun W v h => by
      have := word_any h (by rw [← HLB.out]; exact hlb)
      rwa [val_digs] at this
    have HW2 : Hid (∀ W v, Sl W v (digs (x % y)) → Calls Try.prog 82 #[v] W fun e w' => e = .returned (.int .u64 (x % y : Nat)) ∧ w' = W) := fun W v h => by
      have := word_any h hrl
      rwa [val_digs] at this
    have HCW : Hid (∀ W, Calls Try.prog 81 #[.int .u64 y, .int .u64 (x % y : Nat)] W fun e w' => e = .returned (.int .u64 (Nat.gcd x y : Nat)) ∧ ∃ m, w' = W.drewN m) := fun W => by
      have := commonWord_any y (x % y) W hyw (by omega)
      rwa [hg] at this
    have HDO : Hid (∀ W, Calls Try.prog 70 #[.int .u64 (Nat.gcd x y : Nat)] W (NewD W (Nat.gcd x y) l)) := fun W => by
      have := digitsOf_at (x := Nat.gcd x y) (n := l) W hgl HL.out.symm
      exact this
    have HY0 := Lib.hid hy0
    clear hyw hr hrl hg hgl hy0
    unfold DivRes at HD
    obtain ⟨g, hg⟩ : ∃ g, g = Nat.gcd x y := ⟨_, rfl⟩
    obtain ⟨r, hr⟩ : ∃ r, r = x % y := ⟨_, rfl⟩
    rw [← hg] at HCW HDO ⊢
    rw [← hr] at HCW HW2 HD
    clear hg hr
    go_enter Try.func72, Try.ntmps72
    go_wp2_with (go_at_call 71; refine HCM.out.mono ?_; rintro e W1 ⟨rfl, hb1⟩)
    refine wp_loop_rounds 1 ?_
    rw [rounds_succ]
    go_wp2_with fail
    refine (HD.out _ _ _ HY0.out (ha.below hb1) (hb.below hb1)).mono ?_
    rintro e W2 ⟨aq, cq, ar, cr, rfl, hsq, hsr, hb2⟩
    have hbb : Below w.heap.size w W2 := hb1.trans (hb2.mono hb1.size)
    have HSR := Lib.hid hsr
    clear hsq hsr
    go_wp2_with fail
    refine (HW1.out _ _ (hb.below hbb)).mono ?_
    rintro e w' ⟨rfl, rfl⟩
    go_wp2_with fail
    refine (HW2.out _ _ HSR.out.sl).mono ?_
    rintro e w'' ⟨rfl, rfl⟩
    go_wp2_with fail
    refine (HCW.out _).mono ?_
    rintro e w3 ⟨rfl, m, rfl⟩
    go_wp2_with fail
    refine (HDO.out _).mono ?_
    rintro e W4 ⟨ao, cap, rfl, hs4, hb4⟩
    have HS4 := Lib.hid hs4
    clear hs4
    go_wp2
    go_ret
    have hz : Below w.heap.size w (w''.drewN m) := below_drewN' hbb m
    exact ⟨_, _, rfl, HS4.out.mono hz.size, hz.trans (hb4.mono hz.size)⟩

theorem common_any {w : World} {va vb : Value} {x y l : Nat} (ha : Sl w va (digs x)) (hb : Sl w vb (digs y)) (hla : (digs x).length ≤ 256) (hlb : (digs y).length ≤ 256) (h2 : (digs x).length ≤ 2 ∨ (digs y).length ≤ 2) (hl : (digs (Nat.gcd x y)).length = l)
    (hd : ∀ (u v : Nat) W va vb, (u = x ∧ v = y ∨ u = y ∧ v = x) → v ≠ 0 → Sl W va (digs u) → Sl W vb (digs v) → Calls Try.prog 79 #[va, vb] W (DivRes W u v)) :
    Calls Try.prog 72 #[va, vb] w fun e w' => ∃ ao cap, e = .returned (.slice ao l cap) ∧ Sw w.heap.size w' (.slice ao l cap) (digs (Nat.gcd x y)) ∧ Below w.heap.size w w' := by
  rcases Nat.lt_or_ge x y with h | h
  · have := digs_mono (Nat.le_of_lt h)
    rw [Nat.gcd_comm] at hl ⊢
    exact common_lt hb ha hlb (by omega) h hl.symm (fun W va vb hv h1 h2 => hd y x W va vb (.inr ⟨rfl, rfl⟩) hv h1 h2)
  · have := digs_mono h
    exact common_ge ha hb hla (by omega) h hl.symm (fun W va vb hv h1 h2 => hd x y W va vb (.inl ⟨rfl, rfl⟩) hv h1 h2)

set_option maxRecDepth 10000 in
set_option maxHeartbeats 1000000 in
theorem gcd_any {w : World} {x y : Value} {a b : Int} (hx : Nu w x a) (hy : Nu w y b) (h2 : (digs a.natAbs).length ≤ 2 ∨ (digs b.natAbs).length ≤ 2)
    (hd : ∀ (u v : Nat) W va vb, (u = a.natAbs ∧ v = b.natAbs ∨ u = b.natAbs ∧ v = a.natAbs) → v ≠ 0 → Sl W va (digs u) → Sl W vb (digs v) → Calls Try.prog 79 #[va, vb] W (DivRes W u v)) :
    Calls Try.prog 68 #[x, y] w (NumRes w (Nat.gcd a.natAbs b.natAbs : Nat)) := by
  obtain ⟨sa, rfl, ha, la⟩ := hx
  obtain ⟨sb, rfl, hb, lb⟩ := hy
  have ra := rightB_digs a la
  have rb := rightB_digs b lb
  obtain ⟨na, hna⟩ : ∃ na, na = decide (a < 0) := ⟨_, rfl⟩
  obtain ⟨nb, hnb⟩ : ∃ nb, nb = decide (b < 0) := ⟨_, rfl⟩
  rw [← hna] at ra ⊢
  rw [← hnb] at rb ⊢
  have HNA := Lib.hid hna
  have HNB := Lib.hid hnb
  clear hna hnb
  have R1 : ∀ W, Sl W sa (digs a.natAbs) → Calls Try.prog 66 #[.agg #[.bool na, sa]] W fun e w' => e = .returned (.bool true) ∧ w' = W.alloc (.cells #[.bool na, sa] 88) := fun W h => by have := right_any na h (by omega); rwa [ra] at this
  have R2 : ∀ W, Sl W sb (digs b.natAbs) → Calls Try.prog 66 #[.agg #[.bool nb, sb]] W fun e w' => e = .returned (.bool true) ∧ w' = W.alloc (.cells #[.bool nb, sb] 88) := fun W h => by have := right_any nb h (by omega); rwa [rb] at this
  have HR1 := Lib.hid R1
  have HR2 := Lib.hid R2
  clear R1 R2 ra rb
  have HD := Lib.hid hd
  have H2 := Lib.hid h2
  clear hd h2
  go_enter Try.func68, Try.ntmps68
  go_wp2_with (first | (go_at_call_of 66 (Value.agg #[.bool na, sa]); refine (HR1.out _ (ha.below (by go_grown))).mono ?_; rintro e w' ⟨rfl, rfl⟩) | (go_at_call_of 66 (Value.agg #[.bool nb, sb]); refine (HR2.out _ (hb.below (by go_grown))).mono ?_; rintro e w' ⟨rfl, rfl⟩))
  have HB : Box3 ((((w.alloc (.cells #[.bool na, sa] 88)).alloc (.cells #[.bool nb, sb] 88)).alloc (.cells #[.bool false, .slice none 0 0] 88)).alloc (.cells #[.bool na, sa] 88) |>.alloc (.cells #[.bool nb, sb] 88)) w.heap.size na nb sa sb a.natAbs b.natAbs :=
    box3_new ha hb (by go_grown)
  have HBL : Below w.heap.size w ((((w.alloc (.cells #[.bool na, sa] 88)).alloc (.cells #[.bool nb, sb] 88)).alloc (.cells #[.bool false, .slice none 0 0] 88)).alloc (.cells #[.bool na, sa] 88) |>.alloc (.cells #[.bool nb, sb] 88)) := by go_grown
  revert HB HBL
  generalize ((((w.alloc (.cells #[.bool na, sa] 88)).alloc (.cells #[.bool nb, sb] 88)).alloc (.cells #[.bool false, .slice none 0 0] 88)).alloc (.cells #[.bool na, sa] 88) |>.alloc (.cells #[.bool nb, sb] 88)) = W
  intro HB HBL
  have a0 := HB.a0
  have a1 := HB.a1
  have b0 := HB.b0
  have b1 := HB.b1
  obtain ⟨n, hn⟩ : ∃ n, n = (digs (Nat.gcd a.natAbs b.natAbs)).length := ⟨_, rfl⟩
  have HN := Lib.hid hn
  clear hn
  refine (common_any HB.sa HB.sb la lb H2.out HN.out.symm HD.out).mono ?_
  rintro e w1 ⟨ao, cap, rfl, hs1, hb1'⟩
  have HB1 := HB.below hb1'
  obtain ⟨r0, r1, f0, f1⟩ := HB1.cells
  have hz := HB1.lt
  have hbw := hb1'.mono (Nat.le_of_lt HB.lt)
  have hbw0 := Nat.le_of_lt hz
  go_wp2_with (go_at_call 69; refine (made_any _ _ _ _ _).mono ?_; rintro e w2 ⟨rfl, rfl⟩)
  have HHs := Lib.hid hs1
  clear hs1
  have hfin : Below w.heap.size w (((w1.setCell ⟨w.heap.size + 1 + 1, 0, none⟩ (.bool (mkN false n))).setCell ⟨w.heap.size + 1 + 1, 1, none⟩ (.slice (mkA ao n) (mkL n) (mkC n cap))).alloc (.cells #[.bool (mkN false n), .slice (mkA ao n) (mkL n) (mkC n cap)] 88)) :=
    (((HBL.trans (hb1'.mono (by have := HB.lt; omega))).setCell (by simp; omega) _).setCell (by simp; omega) _).alloc (by simp; omega) _
  obtain ⟨q0, q1⟩ := res_cells HB1.r (.bool (mkN false n)) (.slice (mkA ao n) (mkL n) (mkC n cap)) (.cells #[.bool (mkN false n), .slice (mkA ao n) (mkL n) (mkC n cap)] 88)
  have hsw := HHs.out.after (g := w.heap.size + 1 + 1) HB.lt (.bool (mkN false n)) (.slice (mkA ao n) (mkL n) (mkC n cap)) (.cells #[.bool (mkN false n), .slice (mkA ao n) (mkL n) (mkC n cap)] 88)
  revert q0 q1 hfin hsw
  generalize (((w1.setCell ⟨w.heap.size + 1 + 1, 0, none⟩ (.bool (mkN false n))).setCell ⟨w.heap.size + 1 + 1, 1, none⟩ (.slice (mkA ao n) (mkL n) (mkC n cap))).alloc (.cells #[.bool (mkN false n), .slice (mkA ao n) (mkL n) (mkC n cap)] 88)) = W3
  intro hfin q0 q1 hsw
  have HSW := Lib.hid hsw
  clear hsw
  refine bodyPost_ret (v := .tuple #[.agg #[.bool (mkN false n), .slice (mkA ao n) (mkL n) (mkC n cap)], .bool (mkK n)]) (by simp [results, Try.results68, go_sem, q0, q1]) rfl ?_
  exact numRes_made hfin (by rw [Int.natAbs_natCast]; exact HN.out) (fun hz => by simp) (fun _ => by rw [Int.natAbs_natCast]; exact HSW.out.mono HBL.size)

end Go.Proofs.Ytcpgoaombabfjaa.Nums

namespace Go.Proofs.Ytcpgoaombabfjaa.Nums
open Go.RowKit

/-- divide by a divisor of one digit. -/
theorem divide_small {w : World} {va vb : Value} {x y : Nat} (ha : Sl w va (digs x)) (hb : Sl w vb (digs y)) (h0 : y ≠ 0) (hy : y < 4294967296) (hla : (digs x).length ≤ 256) :
    Calls Try.prog 79 #[va, vb] w (DivRes w x y) := by
  rcases Nat.lt_or_ge x y with h | h
  · exact divide_less ha hb h hla (by rw [digs_small h0 hy]; simp)
  · exact divide_one ha hb h0 h hy hla

/-- Gcd of numbers that have one digit each. -/
theorem gcd_small {w : World} {x y : Value} {a b : Int} (hx : Nu w x a) (hy : Nu w y b) (ha : a.natAbs < 4294967296) (hb : b.natAbs < 4294967296) : Calls Try.prog 68 #[x, y] w (NumRes w (Nat.gcd a.natAbs b.natAbs : Nat)) :=
  gcd_any hx hy (.inl (digs_length_le.2 (by omega))) (fun u v W va vb h hv h1 h2 => divide_small h1 h2 hv (by omega) (by
    rcases h with ⟨rfl, -⟩ | ⟨rfl, -⟩
    · exact hx.choose_spec.2.2
    · exact hy.choose_spec.2.2))

theorem fit_i64 {z : Int} (h1 : -9223372036854775808 ≤ z) (h2 : z ≤ 9223372036854775807) : (digs z.natAbs).length ≤ 256 :=
  Nat.le_trans (digs_word (by omega)) (by omega)

end Go.Proofs.Ytcpgoaombabfjaa.Nums

namespace Go.Proofs.Ytcpgoaombabfjaa
open Go.RowKit

/-- A small number that is not negative. -/
structure Ns (w : World) (s : Value) (n : Nat) : Prop where
  nu : Nums.Nu w (.agg #[.bool false, s]) (n : Int)
theorem Ns.below {w w' : World} {s : Value} {n : Nat} (h : Ns w s n) (hb : Below w.heap.size w w') : Ns w' s n := ⟨h.nu.below hb⟩
theorem Ns.sl {w : World} {s : Value} {n : Nat} (h : Ns w s n) : Nums.Sl w s (Nums.digs n) := by
  obtain ⟨s', e, h1, _⟩ := h.nu
  have e2 : s = s' := by simpa using e
  rw [e2]; simpa using h1
theorem neg_nat (n : Nat) : decide ((n : Int) < 0) = false := by simp
theorem ns_of {w : World} {b : Bool} {s : Value} {n : Nat} (hb : b = decide ((n : Int) < 0)) (h : Nums.Sl w s (Nums.digs n)) (hn : n < 4294967296) : b = false ∧ Ns w s n := by
  rw [neg_nat] at hb
  exact ⟨hb, ⟨s, by rw [neg_nat], by simpa using h, Nat.le_trans (Nums.digs_word (by simp; omega)) (by omega)⟩⟩
theorem ns_zero (w : World) : Ns w (.slice none 0 0) 0 := ⟨.slice none 0 0, rfl, by
  rw [show Nums.digs (((0 : Nat) : Int).natAbs) = [] from by simp [Nums.digs_zero]]
  exact Nums.Sl.nil w none 0, by simp [Nums.digs_zero]⟩

theorem of_num (n : Nat) (h : n ≤ 1000) (W : World) : Calls Try.prog 65 #[.int .i64 (n : Int)] W fun e w' => ∃ ao k cap, e = .returned (.agg #[.bool false, .slice ao k cap]) ∧ Ns w' (.slice ao k cap) n ∧ Below W.heap.size W w' := by
  refine (Nums.of_any (n : Int) W (by omega) (by omega)).mono fun e w' h => ?_
  obtain ⟨neg, ao, k, cap, he, hb, h1, h2⟩ := h
  obtain ⟨rfl, h3⟩ := ns_of (n := n) (w := w') h1 (by simpa using h2.sl) (by omega)
  exact ⟨ao, k, cap, he, h3, hb⟩
theorem right_num {W : World} {s : Value} {n : Nat} (hn : Ns W s n) :
    Calls Try.prog 66 #[.agg #[.bool false, s]] W fun e w' => e = .returned (.bool true) ∧ Below W.heap.size W w' := by
  obtain ⟨s', e, h1, h2⟩ := hn.nu
  have hr := Nums.rightB_digs (n : Int) h2
  rw [neg_nat] at hr
  have e2 : s = s' := by simpa using e
  refine (Nums.right_any false (hn.sl) (by simp at h2; omega)).mono fun e w' h => ⟨?_, ?_⟩
  · rw [h.1]; simp at hr; rw [hr]
  · rw [h.2]; exact (Below.refl _ _).alloc (Nat.le_refl _) _
theorem cmp_num {W : World} {s t : Value} {n m : Nat} (hn : Ns W s n) (hm : Ns W t m) :
    Calls Try.prog 67 #[.agg #[.bool false, s], .agg #[.bool false, t]] W fun e w' => e = .returned (.int .i64 (Nums.cmpZ n m)) ∧ Below W.heap.size W w' := Nums.cmp_any hn.nu hm.nu
theorem gcd_num {W : World} {s t : Value} {n m : Nat} (hn : Ns W s n) (hm : Ns W t m) (h1 : n < 4294967296) (h2 : m < 4294967296) :
    Calls Try.prog 68 #[.agg #[.bool false, s], .agg #[.bool false, t]] W fun e w' => ∃ ao k cap, e = .returned (.tuple #[.agg #[.bool false, .slice ao k cap], .bool true]) ∧ Ns w' (.slice ao k cap) (Nat.gcd n m) ∧ Below W.heap.size W w' := by
  refine (Nums.gcd_small hn.nu hm.nu (by simpa using h1) (by simpa using h2)).mono fun e w' h => ?_
  simp only [Int.natAbs_natCast] at h
  obtain ⟨neg, ao, k, cap, he, hb, h3, _⟩ := h
  have hg : Nat.gcd n m < 4294967296 := by
    rcases Nat.eq_zero_or_pos n with h0 | h0
    · subst h0; simpa using h2
    · exact Nat.lt_of_le_of_lt (Nat.gcd_le_left m h0) h1
  have hf : Nums.fitsB (((Nat.gcd n m : Nat) : Int).natAbs) = true := decide_eq_true (Nat.le_trans (Nums.digs_word (by simp; omega)) (by omega))
  obtain ⟨h4, h5⟩ := h3 hf
  rw [hf] at he
  obtain ⟨rfl, h6⟩ := ns_of (n := Nat.gcd n m) (w := w') h4 (by simpa using h5.sl) hg
  exact ⟨ao, k, cap, he, h6, hb⟩

/-- A number in a box, a fraction in one. -/
abbrev NBox (W : World) (B : Nat) (s : Value) : Prop := W.heap[B]? = some (.cells #[.bool false, s] 88 (0, 0))
abbrev RBox (W : World) (B : Nat) (s t : Value) : Prop := W.heap[B]? = some (.cells #[.bool false, s, .bool false, t] 90 (0, 0))
theorem NBox.below {W W' : World} {B : Nat} {s : Value} (h : NBox W B s) (hb : Below W.heap.size W W') : NBox W' B s := (hb.block B (Array.getElem?_eq_some_iff.1 h).1).trans h
theorem RBox.below {W W' : World} {B : Nat} {s t : Value} (h : RBox W B s t) (hb : Below W.heap.size W W') : RBox W' B s t := (hb.block B (Array.getElem?_eq_some_iff.1 h).1).trans h
theorem NBox.cells {W : World} {B : Nat} {s : Value} (h : NBox W B s) : W.cell? ⟨B, 0, none⟩ = some (.bool false) ∧ W.cell? ⟨B, 1, none⟩ = some s := ⟨cell_of_row _ _ _ _ _ _ h, cell_of_row _ _ _ _ _ _ h⟩
theorem RBox.cells {W : World} {B : Nat} {s t : Value} (h : RBox W B s t) : W.cell? ⟨B, 0, none⟩ = some (.bool false) ∧ W.cell? ⟨B, 1, none⟩ = some s ∧ W.cell? ⟨B, 2, none⟩ = some (.bool false) ∧ W.cell? ⟨B, 3, none⟩ = some t := ⟨cell_of_row _ _ _ _ _ _ h, cell_of_row _ _ _ _ _ _ h, cell_of_row _ _ _ _ _ _ h, cell_of_row _ _ _ _ _ _ h⟩

theorem results_cell88 {fn : Func} {t g : Nat} {tmps : Array Value} {w : World} {x y : Value} (h : fn.results = #[.cell t 88]) (hp : tmps.getD t undef = .pointer (some ⟨g, 0, none⟩)) (hg : w.heap[g]? = some (.cells #[x, y] 88 (0, 0))) :
    (results fn tmps).run Try.prog w = .ok (.agg #[x, y]) w := by
  have h1 := run_loadVar_row (P := Try.prog) w g 88 88 #[x, y] (0, 0) _ hg Try.underlying88 rfl (by kernel_rfl)
  have hp' : tmps[t]?.getD undef = .pointer (some ⟨g, 0, none⟩) := by simpa [Array.getD_eq_getD_getElem?] using hp
  simp [results, h, hp', h1, asAddr]
theorem results_cell90 {fn : Func} {t g : Nat} {tmps : Array Value} {w : World} {x y z u : Value} (h : fn.results = #[.cell t 90]) (hp : tmps.getD t undef = .pointer (some ⟨g, 0, none⟩)) (hg : w.heap[g]? = some (.cells #[x, y, z, u] 90 (0, 0))) :
    (results fn tmps).run Try.prog w = .ok (.agg #[x, y, z, u]) w := by
  have h1 := run_loadVar_row (P := Try.prog) w g 90 90 #[x, y, z, u] (0, 0) _ hg Try.underlying90 rfl (by kernel_rfl)
  have hp' : tmps[t]?.getD undef = .pointer (some ⟨g, 0, none⟩) := by simpa [Array.getD_eq_getD_getElem?] using hp
  simp [results, h, hp', h1, asAddr]

set_option maxRecDepth 10000 in
set_option maxHeartbeats 1000000 in
theorem sign_num {W : World} {ao : Option Addr} {k c : Nat} {n : Nat} (hn : Ns W (.slice ao k c) n) :
    Calls Try.prog 62 #[.agg #[.bool false, .slice ao k c]] W fun e w' => e = .returned (.int .i64 (Nums.cmpZ n 0)) ∧ Below W.heap.size W w' := by
  have hb : Below W.heap.size W (W.alloc (.cells #[.bool false, .slice ao k c] 88)) := (Below.refl _ _).alloc (Nat.le_refl _) _
  have HB := Lib.hid hb
  have HC := Lib.hid (cmp_num (hn.below hb) (ns_zero _))
  obtain ⟨z, hz⟩ : ∃ z, z = Nums.cmpZ n 0 := ⟨_, rfl⟩
  rw [show (((0 : Nat)) : Int) = 0 from rfl, ← hz] at HC
  rw [← hz]
  obtain ⟨c0, c1⟩ := NBox.cells (heap_alloc_new W (.cells #[.bool false, .slice ao k c] 88))
  clear hz hb hn
  go_enter Try.func62, Try.ntmps62
  go_wp2_with (go_at_call 67; (with_reducible refine HC.out.mono ?_); rintro e w1 ⟨rfl, hb1⟩; have HB1 := Lib.hid (HB.out.trans (hb1.mono HB.out.size)); clear hb1)
  go_ret
  exact ⟨rfl, HB1.out⟩

set_option maxRecDepth 10000 in
set_option maxHeartbeats 2000000 in
theorem isOne_num {W : World} {ao : Option Addr} {k c : Nat} {n : Nat} (hn : Ns W (.slice ao k c) n) :
    Calls Try.prog 63 #[.agg #[.bool false, .slice ao k c]] W fun e w' => e = .returned (.bool (decide (n = 1))) ∧ Below W.heap.size W w' := by
  have hb : Below W.heap.size W (W.alloc (.cells #[.bool false, .slice ao k c] 88)) := (Below.refl _ _).alloc (Nat.le_refl _) _
  have HB := Lib.hid hb
  have HX : Hid (NBox (W.alloc (.cells #[.bool false, .slice ao k c] 88)) W.heap.size (.slice ao k c)) := Lib.hid (heap_alloc_new W (.cells #[.bool false, .slice ao k c] 88))
  have HO := Lib.hid (fun W' => of_num 1 (by omega) W')
  have HN := Lib.hid (hn.below hb)
  have HC := Lib.hid (fun W' s t (h1 : Ns W' s n) (h2 : Ns W' t 1) => cmp_num h1 h2)
  obtain ⟨z, hz⟩ : ∃ z, z = Nums.cmpZ n 1 := ⟨_, rfl⟩
  have hd : (z == 0) = decide (n = 1) := by
    rw [hz]; unfold Nums.cmpZ
    by_cases h : n = 1
    · subst h; rfl
    · rw [decide_eq_false h]
      split
      · rfl
      · rw [if_neg (by omega)]; rfl
  rw [show (((1 : Nat)) : Int) = 1 from rfl] at HO HC
  rw [← hz] at HC
  obtain ⟨R, hR⟩ : ∃ R, R = decide (n = 1) := ⟨_, rfl⟩
  rw [← hR] at hd ⊢
  have HD := Lib.hid hd
  have HS : Hid (∀ W', Below (W.alloc (.cells #[.bool false, .slice ao k c] 88)).heap.size (W.alloc (.cells #[.bool false, .slice ao k c] 88)) W' → W'.cell? ⟨W.heap.size, 0, none⟩ = some (.bool false) ∧ W'.cell? ⟨W.heap.size, 1, none⟩ = some (.slice ao k c)) := Lib.hid (fun W' hb => (HX.out.below hb).cells)
  have HBX := Lib.hid ((Below.refl (W.alloc (.cells #[.bool false, .slice ao k c] 88)).heap.size (W.alloc (.cells #[.bool false, .slice ao k c] 88))).drew)
  obtain ⟨k0, k1⟩ := HX.out.cells
  clear hz hb hn hR hd
  go_enter Try.func63, Try.ntmps63
  go_wp2
  go_region_held3 (fun W' => W'.cell? ⟨W.heap.size, 0, none⟩ = some (.bool false) ∧ W'.cell? ⟨W.heap.size, 1, none⟩ = some (.slice ao k c))
    (first | (with_reducible exact HS.out _ HBX.out))
    ((first
    | (go_at_call 65; (with_reducible refine (HO.out _).mono ?_); rintro e w2 ⟨bo, m, d, rfl, hs, hb⟩; have HI := Lib.hid hs; have HBX := Lib.hid (HBX.out.trans (hb.mono HBX.out.size)); clear hb hs)
    | (go_at_call 67; (with_reducible refine (HC.out _ _ _ (HN.out.below HBX.out) HI.out).mono ?_); rintro e w3 ⟨rfl, hb⟩; have HBX := Lib.hid (HBX.out.trans (hb.mono HBX.out.size)); clear hb)))
  go_wp2
  go_ret
  exact ⟨by rw [← HD.out]; rfl, HB.out.trans (HBX.out.mono HB.out.size)⟩

end Go.Proofs.Ytcpgoaombabfjaa

namespace Go.Proofs.Ytcpgoaombabfjaa
open Go.RowKit

/-- Digits do not lie where no ints do. -/
theorem sl_set {w : World} {v : Value} {ds : List Nat} (h : Nums.Sl w v ds) {q : Nat} {cs : Array Value} {ty : TypeId} (hb : w.heap[q]? = some (.cells cs ty (0, 0))) (hc : ∀ (i : Nat) (k : IntKind) (x : Int), cs[i]? ≠ some (.int k x)) (o : Nat) (u : Value) : Nums.Sl (w.setCell ⟨q, o, none⟩ u) v ds := by
  obtain ⟨h1, h2, h3⟩ := h
  refine ⟨h1, h2, ?_⟩
  rcases h3 with h3 | ⟨b, off, cap, hv, hcap, hl⟩
  · exact .inl h3
  · by_cases h0 : ds = []
    · subst h0
      exact .inl ⟨rfl, some ⟨b, off, none⟩, cap, hv⟩
    · have hn : 0 < ds.length := List.length_pos_iff.2 h0
      have hbq : b ≠ q := fun e => by
        subst e
        have c := hl 0 hn
        rw [cell_of_row _ _ _ _ _ _ hb] at c
        exact hc _ _ _ c
      refine .inr ⟨b, off, cap, hv, hcap, fun j hj => ?_⟩
      exact (World.cell?_of_block (Below.heap_setCell _ _ _ _ (by simpa using hbq))).trans (hl j hj)
theorem ns_set {w : World} {s : Value} {n : Nat} (h : Ns w s n) {q : Nat} {cs : Array Value} {ty : TypeId} (hb : w.heap[q]? = some (.cells cs ty (0, 0))) (hc : ∀ (i : Nat) (k : IntKind) (x : Int), cs[i]? ≠ some (.int k x)) (o : Nat) (u : Value) : Ns (w.setCell ⟨q, o, none⟩ u) s n := by
  obtain ⟨s', e, h1, h2⟩ := h.nu
  exact ⟨⟨s', e, sl_set h1 hb hc o u, h2⟩⟩
theorem no_ints2 (b : Bool) (ao : Option Addr) (n c : Nat) (i : Nat) (k : IntKind) (x : Int) : (#[Value.bool b, .slice ao n c] : Array Value)[i]? ≠ some (.int k x) := by
  rcases (show i = 0 ∨ i = 1 ∨ 2 ≤ i by omega) with rfl | rfl | h
  · simp
  · simp
  · rw [show (#[Value.bool b, .slice ao n c] : Array Value)[i]? = none by simp; omega]; simp

set_option maxRecDepth 10000 in
set_option maxHeartbeats 2000000 in
theorem common_num {W : World} {ao bo : Option Addr} {k c m d : Nat} {n p : Nat} (hn : Ns W (.slice ao k c) n) (hm : Ns W (.slice bo m d) p) (h1 : n < 4294967296) (h2 : p < 4294967296) :
    Calls Try.prog 64 #[.agg #[.bool false, .slice ao k c], .agg #[.bool false, .slice bo m d]] W fun e w' => ∃ ao k cap, e = .returned (.agg #[.bool false, .slice ao k cap]) ∧ Ns w' (.slice ao k cap) (Nat.gcd n p) ∧ Below W.heap.size W w' := by
  obtain ⟨W1, hW1⟩ : ∃ W1, W1 = ((W.alloc (.cells #[.bool false, .slice ao k c] 88)).alloc (.cells #[.bool false, .slice bo m d] 88)).alloc (.cells #[.bool false, .slice none 0 0] 88) := ⟨_, rfl⟩
  have hb : Below W.heap.size W W1 := by rw [hW1]; exact (((Below.refl _ _).alloc (Nat.le_refl _) _).alloc (by simp) _).alloc (by simp; omega) _
  have HB := Lib.hid hb
  have x0 : NBox W1 W.heap.size (.slice ao k c) := by rw [hW1]; exact ((show NBox _ _ _ from heap_alloc_new W (.cells #[.bool false, .slice ao k c] 88)).below ((Below.refl _ _).alloc (Nat.le_refl _) _)).below ((Below.refl _ _).alloc (Nat.le_refl _) _)
  have x1 : NBox W1 (W.heap.size + 1) (.slice bo m d) := by
    have h := heap_alloc_new (W.alloc (.cells #[.bool false, .slice ao k c] 88)) (.cells #[.bool false, .slice bo m d] 88)
    rw [World.size_alloc] at h
    rw [hW1]; exact (show NBox _ _ _ from h).below ((Below.refl _ _).alloc (Nat.le_refl _) _)
  have x2 : NBox W1 (W.heap.size + 2) (.slice none 0 0) := by
    have h := heap_alloc_new ((W.alloc (.cells #[.bool false, .slice ao k c] 88)).alloc (.cells #[.bool false, .slice bo m d] 88)) (.cells #[.bool false, .slice none 0 0] 88)
    rw [World.size_alloc, World.size_alloc] at h
    rw [hW1]; exact h
  have HX2 := Lib.hid x2
  have HG := Lib.hid (gcd_num (hn.below hb) (hm.below hb) h1 h2)
  obtain ⟨c0, c1⟩ := x0.cells
  obtain ⟨d0, d1⟩ := x1.cells
  obtain ⟨g, hg⟩ : ∃ g, g = Nat.gcd n p := ⟨_, rfl⟩
  rw [← hg] at HG ⊢
  rw [hW1] at HG HB HX2 c0 c1 d0 d1
  clear hn hm h1 h2 hb x0 x1 x2 hg hW1 W1
  go_enter Try.func64, Try.ntmps64
  go_wp2_with (go_at_call 68; (with_reducible refine HG.out.mono ?_); rintro e w1 ⟨ro, rk, rc, rfl, hs, hb1⟩; have HS := Lib.hid hs; have HB1 := Lib.hid (HB.out.trans (hb1.mono HB.out.size)); have x2 := HX2.out.below hb1; have HX3 := Lib.hid x2; have l2 := (Array.getElem?_eq_some_iff.1 x2).1; obtain ⟨e0, e1⟩ := x2.cells; have f0 := frozen_of_row _ _ 0 _ _ x2; have f1 := frozen_of_row _ _ 1 _ _ x2; clear hs hb1 x2)
  have k1 := heap_setCell_same _ (W.heap.size + 1 + 1) 0 _ 88 (.bool false) HX3.out
  have k2 := heap_setCell_same _ (W.heap.size + 1 + 1) 1 _ 88 (.slice ro rk rc) k1
  have n1 := ns_set HS.out HX3.out (no_ints2 _ _ _ _) 0 (.bool false)
  have n2 := ns_set n1 k1 (no_ints2 _ _ _ _) 1 (.slice ro rk rc)
  have b2 : Below W.heap.size W ((w1.setCell ⟨W.heap.size + 1 + 1, 0, none⟩ (.bool false)).setCell ⟨W.heap.size + 1 + 1, 1, none⟩ (.slice ro rk rc)) := (HB1.out.setCell (by simp only; omega) _).setCell (by simp only; omega) _
  have hal := (Below.refl ((w1.setCell ⟨W.heap.size + 1 + 1, 0, none⟩ (.bool false)).setCell ⟨W.heap.size + 1 + 1, 1, none⟩ (.slice ro rk rc)).heap.size ((w1.setCell ⟨W.heap.size + 1 + 1, 0, none⟩ (.bool false)).setCell ⟨W.heap.size + 1 + 1, 1, none⟩ (.slice ro rk rc))).alloc (Nat.le_refl _) (.cells #[.bool false, .slice ro rk rc] 88)
  have k3 := (hal.block _ (Array.getElem?_eq_some_iff.1 k2).1).trans k2
  exact bodyPost_ret (results_cell88 (t := 4) rfl rfl k3) rfl ⟨_, _, _, rfl, n2.below hal, b2.trans (hal.mono b2.size)⟩

end Go.Proofs.Ytcpgoaombabfjaa
