/- divide by one digit. Condition: the divisor is not 0, and has one digit, or is greater. -/
import Derived.Test.YtdgmjmckeeeljaaGreatDoorU
namespace Go.Proofs.YtdgmjmckeeeljaaGreatDoor
open Go.RowKit

/-- What divide returns. -/
def DivRes (w : World) (x y : Nat) (e : Ending) (w' : World) : Prop :=
  ∃ aq cq ar cr, e = .returned (.tuple #[.slice aq (digs (x / y)).length cq, .slice ar (digs (x % y)).length cr]) ∧
    Sw w.heap.size w' (.slice aq (digs (x / y)).length cq) (digs (x / y)) ∧ Sw w.heap.size w' (.slice ar (digs (x % y)).length cr) (digs (x % y)) ∧ Below w.heap.size w w'

theorem digs_small {y : Nat} (h0 : y ≠ 0) (h : y < 4294967296) : digs y = [y] := by
  rw [digs_pos h0, Nat.mod_eq_of_lt h, Nat.div_eq_of_lt h, digs_zero]

set_option maxRecDepth 10000 in
set_option maxHeartbeats 1000000 in
theorem divide_less {w : World} {va vb : Value} {x y : Nat} (ha : Sl w va (digs x)) (hb : Sl w vb (digs y)) (h : x < y) (hla : (digs x).length ≤ 256) (hlb : (digs y).length ≤ 256) :
    Calls Tryz.prog 44 #[va, vb] w (DivRes w x y) := by
  have hc := compare_any ha hb (by omega) (by omega)
  rw [cmpN_lt h] at hc
  have hcl : ∀ W, Sl W va (digs x) → Calls Tryz.prog 74 #[va] W (NewSl W (digs x)) := fun W h => clone_any h (by omega)
  have hq : x / y = 0 := Nat.div_eq_of_lt h
  have hr : x % y = x := Nat.mod_eq_of_lt h
  have HCL := Lib.hid hcl
  have HQ := Lib.hid hq
  have HR := Lib.hid hr
  clear hcl hq hr
  go_enter Tryz.func44, Tryz.ntmps44
  go_wp2_with (first | (go_at_call 68; refine hc.mono ?_; rintro e W1 ⟨rfl, hb1⟩) | (go_at_call 74; refine (HCL.out _ (ha.below hb1)).mono ?_; rintro e W2 ⟨ao, cap, rfl, hs, hb2⟩))
  go_ret2
  unfold DivRes
  rw [HQ.out, HR.out, digs_zero]
  exact ⟨none, 0, ao, cap, rfl, Sw.nil _ _ _ _, hs.mono hb1.size, hb1.trans (hb2.mono hb1.size)⟩

set_option maxRecDepth 10000 in
set_option maxHeartbeats 2000000 in
theorem divide_one {w : World} {va vb : Value} {x y : Nat} (ha : Sl w va (digs x)) (hb : Sl w vb (digs y)) (h0 : y ≠ 0) (h : y ≤ x) (hy : y < 4294967296) (hla : (digs x).length ≤ 256) :
    Calls Tryz.prog 44 #[va, vb] w (DivRes w x y) := by
  have hc := compare_any ha hb (by omega) (by rw [digs_small h0 hy]; simp)
  have hcm : 0 ≤ cmpN x y := by unfold cmpN; rw [if_neg (by omega)]; split <;> decide
  have hcl : ∀ W, Sl W va (digs x) → Calls Tryz.prog 74 #[va] W (NewSl W (digs x)) := fun W h => clone_any h (by omega)
  rw [digs_small h0 hy] at hb
  obtain ⟨ab, cb, rfl⟩ := hb.mk'
  obtain ⟨b, off, rfl, hcap, hbs, hcb⟩ := hb.at (by simp)
  have hcy := hcb 0 (by simp)
  simp only [List.getD_cons_zero, Nat.add_zero] at hcy
  have hlx : (digs x).length ≤ 140737488351232 := by omega
  obtain ⟨n, hn⟩ : ∃ n, n = (digs x).length := ⟨_, rfl⟩
  rw [← hn] at hlx
  have HCL := Lib.hid hcl
  have HN := Lib.hid hn
  have HB := Lib.hid hb
  have HCB := Lib.hid hcb
  have HC := Lib.hid hc
  clear hcl hn hb hcb hc
  go_enter Tryz.func44, Tryz.ntmps44
  have hyl : y / 4294967296 < 4294967296 := by omega
  have hrl : x % y / 4294967296 < 4294967296 := by have := Nat.mod_lt x (show 0 < y by omega); omega
  have HD : Hid (∀ W, Calls Tryz.prog 67 #[.int .u64 (x % y : Nat)] W fun e w' => ∃ ao cap, e = .returned (.slice ao (digs (x % y)).length cap) ∧ Sw W.heap.size w' (.slice ao (digs (x % y)).length cap) (digs (x % y)) ∧ Below W.heap.size W w') := fun W => digitsOf_at W hrl rfl
  have HCUT : Hid (∀ W B0 ao cap, Sw B0 W (.slice ao n cap) (digs x) → B0 ≤ W.heap.size → Calls Tryz.prog 75 #[.slice ao n cap, .int .u32 y] W fun e w' => e = .returned (.int .u32 (x % y : Nat)) ∧ (∃ ds, ds.length = n ∧ val ds = x / y ∧ Sw B0 w' (.slice ao n cap) ds) ∧ Below B0 W w') := fun W B0 ao cap h hB => by
    have := cut_any ao n cap _ y h (by omega) hy hlx hB
    rwa [val_digs] at this
  clear hyl hrl
  obtain ⟨r, hr⟩ : ∃ r, r = x % y := ⟨_, rfl⟩
  obtain ⟨q, hq⟩ : ∃ q, q = x / y := ⟨_, rfl⟩
  have hry : r < y := by rw [hr]; exact Nat.mod_lt _ (by omega)
  unfold DivRes
  rw [← hr, ← hq] at HCUT ⊢
  rw [← hr] at HD
  obtain ⟨rl, hrl⟩ : ∃ rl, rl = (digs r).length := ⟨_, rfl⟩
  obtain ⟨ql, hql⟩ : ∃ ql, ql = (digs q).length := ⟨_, rfl⟩
  rw [← hrl] at HD ⊢
  rw [← hql]
  have HQL := Lib.hid hql
  clear hr hq hrl hql
  go_wp2_with (first | (go_at_call 68; refine HC.out.mono ?_; rintro e W1 ⟨rfl, hb1⟩; have hcy1 := cell_later hb1 hcy) | (go_at_call 74; refine (HCL.out _ (ha.below hb1)).mono ?_; unfold NewSl; rw [← HN.out]; rintro e W2 ⟨ao, cap, rfl, hs, hb2⟩; have hcy2 := cell_later hb2 hcy1; have HS := Lib.hid hs; clear hs) | (go_at_call 75; refine (HCUT.out _ _ ao cap HS.out hb2.size).mono ?_; rintro e W3 ⟨rfl, ⟨ds, hd1, hd2, hd3⟩, hb3⟩; have ht := trim_any _ _ _ hd3.sl; have hu := hd3.trim; rw [hd2, ← HQL.out] at ht hu; have HT := Lib.hid ht; have HU := Lib.hid hu; clear ht hu hd1 hd2 hd3) | (go_at_call 76; refine HT.out.mono ?_; rintro e w' ⟨rfl, rfl⟩) | (go_at_call 67; refine (HD.out _).mono ?_; rintro e W4 ⟨ar, cr, rfl, hs4, hb4⟩; have HS4 := Lib.hid hs4; clear hs4))
  go_ret2
  have b3 : Below w.heap.size w w' := (hb1.trans (hb2.mono hb1.size)).trans (hb3.mono (by have := hb1.size; omega))
  refine ⟨ao, cap, ar, cr, rfl, ?_, HS4.out.mono b3.size, b3.trans (hb4.mono b3.size)⟩
  exact (HU.out.mono hb1.size).below hb4

end Go.Proofs.YtdgmjmckeeeljaaGreatDoor
