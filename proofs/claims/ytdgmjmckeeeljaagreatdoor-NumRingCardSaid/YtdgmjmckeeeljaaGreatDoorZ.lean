/- Greatest common divisors, where the lesser number has at most two digits. -/
import Derived.Test.YtdgmjmckeeeljaaGreatDoorY2
namespace Go.Proofs.YtdgmjmckeeeljaaGreatDoor
open Go.RowKit

def WordRel (g : Nat) (w : World) (xv yv : Value) (wr : World) : Prop := ∃ x y m, xv = .int .u64 (x : Nat) ∧ yv = .int .u64 (y : Nat) ∧ x / 4294967296 < 4294967296 ∧ y / 4294967296 < 4294967296 ∧ Nat.gcd x y = g ∧ wr = w.drewN m

set_option maxRecDepth 10000 in
set_option maxHeartbeats 1000000 in
theorem commonWord_any (x y : Nat) (w : World) (hx : x / 4294967296 < 4294967296) (hy : y / 4294967296 < 4294967296) :
    Calls Tryz.prog 87 #[.int .u64 x, .int .u64 y] w fun e w' => e = .returned (.int .u64 (Nat.gcd x y : Nat)) ∧ ∃ m, w' = w.drewN m := by
  obtain ⟨g, hg⟩ : ∃ g, g = Nat.gcd x y := ⟨_, rfl⟩
  rw [← hg]
  go_enter Tryz.func87, Tryz.ntmps87
  go_wp2
  go_loopw [0, 1] (fun xv yv wr => WordRel g w xv yv wr) (fun _ yv _ => (intOf yv).toNat)
  case atStart => exact ⟨x, y, 0, rfl, rfl, hx, hy, hg.symm, rfl⟩
  case round =>
    obtain ⟨u, v, m, rfl, rfl, hu, hv, huv, rfl⟩ := hrel
    clear hg
    by_cases h0 : v = 0
    · subst h0
      have huv' : u = g := by simpa using huv
      subst huv'
      clear huv
      go_wp2
      go_ret
      exact ⟨rfl, m, rfl⟩
    · have hpos : 0 < (v : Int) := by omega
      have hz : ((v : Int) == 0) = false := by simp; omega
      have hm : u % v < v := Nat.mod_lt _ (by omega)
      have hn : Nat.gcd v (u % v) = g := by rw [← huv, Nat.gcd_comm u v, Nat.gcd_rec v u, Nat.gcd_comm]
      have HN := Lib.hid hn
      obtain ⟨r, hr⟩ : ∃ r, r = u % v := ⟨_, rfl⟩
      have er : (u : Int) % v = r := by rw [hr]; rfl
      rw [← hr] at hm HN
      clear hr huv hn h0
      go_wp2
      go_quiet (fail)
      go_wp2
      go_roundw
      case rel => exact ⟨v, r, m + nq, rfl, by rw [er], hv, by omega, HN.out, by rw [World.drewN_drewN]⟩
      case measure => simp only [intOf]; rw [er]; omega

/-- A slice of the digits of n in new memory, its length named. -/
def NewD (w : World) (n l : Nat) (e : Ending) (w' : World) : Prop := ∃ ao cap, e = .returned (.slice ao l cap) ∧ Sw w.heap.size w' (.slice ao l cap) (digs n) ∧ Below w.heap.size w w'

set_option maxRecDepth 10000 in
set_option maxHeartbeats 2000000 in
theorem common_ge {w : World} {va vb : Value} {x y l : Nat} (ha : Sl w va (digs x)) (hb : Sl w vb (digs y)) (hla : (digs x).length ≤ 256) (hlb : (digs y).length ≤ 2) (hc : y ≤ x) (hl : l = (digs (Nat.gcd x y)).length)
    (hd : ∀ W va vb, y ≠ 0 → Sl W va (digs x) → Sl W vb (digs y) → Calls Tryz.prog 44 #[va, vb] W (DivRes W x y)) :
    Calls Tryz.prog 51 #[va, vb] w (NewD w (Nat.gcd x y) l) := by
  have hcm := compare_any ha hb (by omega) (by omega)
  have hge : 0 ≤ cmpN x y := by unfold cmpN; rw [if_neg (by omega)]; split <;> decide
  obtain ⟨ab, cb, rfl⟩ := hb.mk'
  obtain ⟨lb, hlb'⟩ : ∃ lb, lb = (digs y).length := ⟨_, rfl⟩
  rw [← hlb'] at hb hlb hcm ⊢
  have HCM := Lib.hid hcm
  have HCL : Hid (∀ W, Sl W va (digs x) → Calls Tryz.prog 74 #[va] W (NewSl W (digs x))) := fun W h => clone_any h (by omega)
  have HD := Lib.hid hd
  have HLB := Lib.hid hlb'
  have HL := Lib.hid hl
  clear hcm hd hlb' hl
  by_cases h0 : lb = 0
  · subst h0
    have hy : y = 0 := digs_inj (by rw [digs_zero]; exact List.eq_nil_of_length_eq_zero HLB.out.symm)
    have HY := Lib.hid hy
    clear hy
    go_enter Tryz.func51, Tryz.ntmps51
    go_wp2_with (go_at_call 68; refine HCM.out.mono ?_; rintro e W1 ⟨rfl, hb1⟩)
    refine wp_loop_rounds 1 ?_
    rw [rounds_succ]
    go_wp2_with (go_at_call 74; refine (HCL.out _ (ha.below hb1)).mono ?_; rintro e W2 ⟨ao, cap, rfl, hs, hb2⟩)
    go_ret
    have hg : Nat.gcd x y = x := by rw [HY.out, Nat.gcd_zero_right]
    have hl := HL.out
    rw [hg] at hl ⊢
    rw [hl]
    exact ⟨_, _, rfl, hs.mono hb1.size, hb1.trans (hb2.mono hb1.size)⟩
  · have hy0 : y ≠ 0 := fun h => h0 (by rw [HLB.out, h, digs_zero]; rfl)
    have hlz : ((lb : Int) == 0) = false := by simp; omega
    have hyw : y / 4294967296 < 4294967296 := by
      have := digs_length_le.1 (show (digs y).length ≤ 2 by rw [← HLB.out]; exact hlb)
      rw [show (4294967296 : Nat) ^ 2 = 4294967296 * 4294967296 from rfl] at this
      omega
    have hr : x % y < y := Nat.mod_lt _ (by omega)
    have hrl : (digs (x % y)).length ≤ 2 := digs_word (by omega)
    have hg : Nat.gcd y (x % y) = Nat.gcd x y := by rw [Nat.gcd_comm x y, Nat.gcd_rec y x, Nat.gcd_comm]
    have hgl : Nat.gcd x y / 4294967296 < 4294967296 := by
      have := Nat.gcd_le_right x (show 0 < y by omega)
      omega
    have HW1 : Hid (∀ W v, Sl W v (digs y) → Calls Tryz.prog 66 #[v] W fun e w' => e = .returned (.int .u64 (y : Nat)) ∧ w' = W) := fun W v h => by
      have := word_any h (by rw [← HLB.out]; exact hlb)
      rwa [val_digs] at this
    have HW2 : Hid (∀ W v, Sl W v (digs (x % y)) → Calls Tryz.prog 66 #[v] W fun e w' => e = .returned (.int .u64 (x % y : Nat)) ∧ w' = W) := fun W v h => by
      have := word_any h hrl
      rwa [val_digs] at this
    have HCW : Hid (∀ W, Calls Tryz.prog 87 #[.int .u64 y, .int .u64 (x % y : Nat)] W fun e w' => e = .returned (.int .u64 (Nat.gcd x y : Nat)) ∧ ∃ m, w' = W.drewN m) := fun W => by
      have := commonWord_any y (x % y) W hyw (by omega)
      rwa [hg] at this
    have HDO : Hid (∀ W, Calls Tryz.prog 67 #[.int .u64 (Nat.gcd x y : Nat)] W (NewD W (Nat.gcd x y) l)) := fun W => by
      have := digitsOf_at (x := Nat.gcd x y) (n := l) W hgl HL.out.symm
      exact this
    have HY0 := Lib.hid hy0
    clear hyw hr hrl hg hgl hy0
    unfold DivRes at HD
    obtain ⟨g, hg⟩ : ∃ g, g = Nat.gcd x y := ⟨_, rfl⟩
    obtain ⟨r, hr⟩ : ∃ r, r = x % y := ⟨_, rfl⟩
    rw [← hg] at HCW HDO ⊢
    rw [← hr] at HCW HW2 HD
    clear hg hr
    go_enter Tryz.func51, Tryz.ntmps51
    go_wp2_with (go_at_call 68; refine HCM.out.mono ?_; rintro e W1 ⟨rfl, hb1⟩)
    refine wp_loop_rounds 1 ?_
    rw [rounds_succ]
    go_wp2_with fail
    refine (HD.out _ _ _ HY0.out (ha.below hb1) (hb.below hb1)).mono ?_
    rintro e W2 ⟨aq, cq, ar, cr, rfl, hsq, hsr, hb2⟩
    have hbb : Below w.heap.size w W2 := hb1.trans (hb2.mono hb1.size)
    have HSR := Lib.hid hsr
    clear hsq hsr
    go_wp2_with fail
    refine (HW1.out _ _ (hb.below hbb)).mono ?_
    rintro e w' ⟨rfl, rfl⟩
    go_wp2_with fail
    refine (HW2.out _ _ HSR.out.sl).mono ?_
    rintro e w'' ⟨rfl, rfl⟩
    go_wp2_with fail
    refine (HCW.out _).mono ?_
    rintro e w3 ⟨rfl, m, rfl⟩
    go_wp2_with fail
    refine (HDO.out _).mono ?_
    rintro e W4 ⟨ao, cap, rfl, hs4, hb4⟩
    have HS4 := Lib.hid hs4
    clear hs4
    go_wp2
    go_ret
    have hz : Below w.heap.size w (w''.drewN m) := below_drewN' hbb m
    exact ⟨_, _, rfl, HS4.out.mono hz.size, hz.trans (hb4.mono hz.size)⟩

end Go.Proofs.YtdgmjmckeeeljaaGreatDoor
