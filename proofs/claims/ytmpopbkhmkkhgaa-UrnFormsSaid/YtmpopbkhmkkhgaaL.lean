/- Contracts: Next, whatever the choice; the law's next, refused, total. Condition: the slices read as ints, at most eight each. -/
import Derived.Test.YtmpopbkhmkkhgaaJ
namespace Go.Proofs.Ytmpopbkhmkkhgaa
open Go.RowKit

theorem next_any {W : World} {ar aw : Option Addr} {nr cr nw cw : Nat} {r row : List Int} (hr : Ix W (.slice ar nr cr) r) (hw : Ix W (.slice aw nw cw) row) (lr : r.length ≤ 8) (lw : row.length ≤ 8) (kd a x y z : Int) :
    Calls Try.prog 18 #[DV kd (.slice ar nr cr) a, .slice aw nw cw, .agg #[.int .i64 x, .int .i64 y, .int .i64 z]] W fun e w' => ∃ ao n cap, e = .returned (.tuple #[.slice ao n cap, .bool (nxB r a row (x, y, z))]) ∧ OwI w' W.heap.size (.slice ao n cap) n (nxV r a row (x, y, z)) ∧ Below W.heap.size W w' := by
  unfold nxV nxB
  by_cases hc : (x, y, z) ∈ chV r a row
  · rw [decide_eq_true hc, Bool.true_and]
    exact next_yes hr hw lr lw kd hc
  · rw [decide_eq_false hc, Bool.false_and]
    exact (next_no hr hw lr lw kd hc).mono fun e w' h => ⟨none, 0, 0, h.1, World.ownsRow_nil _ _ _ _, h.2⟩

theorem fit_in {l : List Int} (h : inB 0 1048576 l = true) (k : Nat) : I64 (l.getD k 0) := by
  by_cases hk : k < l.length
  · have := (inB_iff.1 h) k hk
    constructor <;> omega
  · rw [show l.getD k 0 = 0 by simp [List.getD, List.getElem?_eq_none (Nat.le_of_not_lt hk)]]; decide

theorem nxV_in {r row : List Int} {a : Int} {c : Ch} : inB 0 1048576 (nxV r a row c) = true := by
  unfold nxV
  split
  · rename_i h
    exact ((Bool.and_eq_true _ _).mp h).2
  · rfl
theorem nxV_len {r row : List Int} {a : Int} {c : Ch} (lr : r.length ≤ 8) : (nxV r a row c).length ≤ 8 := by
  unfold nxV
  split
  · unfold allV; rw [addV_len]; have := balV_len (r := r) (row := row) (a := a); omega
  · simp

theorem OwI.nx {W : World} {B n : Nat} {v : Value} {r row : List Int} {a : Int} {c : Ch} (h : OwI W B v n (nxV r a row c)) (lr : r.length ≤ 8) : Ix W v (nxV r a row c) :=
  h.ix (by have := owI_len h; have := nxV_len (row := row) (a := a) (c := c) lr; omega) (fit_in nxV_in)
theorem OwI.bx {W : World} {B n : Nat} {v : Value} {r row : List Int} {a : Int} (h : OwI W B v n (balV r a row)) (lr : r.length ≤ 8) : Ix W v (balV r a row) :=
  h.ix (by have := owI_len h; have := balV_len (r := r) (row := row) (a := a); omega) (fit_in balV_in)

set_option maxRecDepth 10000 in
set_option maxHeartbeats 2000000 in
theorem goes_any {W : World} {ar aw : Option Addr} {nr cr nw cw : Nat} {r row want : List Int} {vt : Value} (hr : Ix W (.slice ar nr cr) r) (hw : Ix W (.slice aw nw cw) row) (ht : Ix W vt want) (lr : r.length ≤ 8) (lw : row.length ≤ 8) (kd a x y z : Int) :
    Calls Try.prog 22 #[DV kd (.slice ar nr cr) a, .slice aw nw cw, .agg #[.int .i64 x, .int .i64 y, .int .i64 z], vt] W fun e w' => e = .returned (.bool (nxB r a row (x, y, z) && decide (nxV r a row (x, y, z) = want))) ∧ Below W.heap.size W w' := by
  have HB0 := Lib.hid (nbox_below W kd (.slice ar nr cr) a x y z)
  have HN := Lib.hid (next_any (hr.below HB0.out) (hw.below HB0.out) lr lw kd a x y z)
  have HS := Lib.hid (fun W' v (B n : Nat) (hb : Below W.heap.size W W') (h : OwI W' B v n (nxV r a row (x, y, z))) => sameInts_any (h.nx lr) (ht.below hb))
  obtain ⟨p, hp⟩ : ∃ p, p = nxB r a row (x, y, z) := ⟨_, rfl⟩
  obtain ⟨q, hq⟩ : ∃ q, q = decide (nxV r a row (x, y, z) = want) := ⟨_, rfl⟩
  rw [← hp] at HN ⊢
  rw [← hq] at HS ⊢
  clear hr hw ht lr lw hp hq
  cases p
  all_goals
    go_enter Try.func22, Try.ntmps22
    go_wp2_with (first
      | (go_at_call 18; (with_reducible refine HN.out.mono ?_); rintro e w1 ⟨ao, n, cap, rfl, ho, hb⟩; have HO := Lib.hid ho; have HB := Lib.hid (HB0.out.trans (hb.mono HB0.out.size)); clear ho hb)
      | (go_at_call 12; (with_reducible refine (HS.out _ _ _ _ HB.out HO.out).mono ?_); rintro e w2 ⟨rfl, hb⟩; have HB2 := Lib.hid (HB.out.trans (hb.mono HB.out.size)); clear hb))
    go_ret
    first | exact ⟨rfl, HB2.out⟩ | exact ⟨rfl, HB.out⟩ | exact ⟨by simp, HB2.out⟩ | exact ⟨by simp, HB.out⟩

set_option maxRecDepth 10000 in
set_option maxHeartbeats 2000000 in
theorem refused_any {W : World} {ar aw : Option Addr} {nr cr nw cw : Nat} {r row : List Int} (hr : Ix W (.slice ar nr cr) r) (hw : Ix W (.slice aw nw cw) row) (lr : r.length ≤ 8) (lw : row.length ≤ 8) (kd a x y z : Int) (hno : nxB r a row (x, y, z) = false) :
    Calls Try.prog 23 #[DV kd (.slice ar nr cr) a, .slice aw nw cw, .agg #[.int .i64 x, .int .i64 y, .int .i64 z]] W fun e w' => e = .returned (.bool true) ∧ Below W.heap.size W w' := by
  have HB0 := Lib.hid (nbox_below W kd (.slice ar nr cr) a x y z)
  have HN := Lib.hid (next_any (hr.below HB0.out) (hw.below HB0.out) lr lw kd a x y z)
  have hv : nxV r a row (x, y, z) = [] := by unfold nxV; rw [hno]; rfl
  rw [hno, hv] at HN
  clear hr hw lr lw hv hno
  go_enter Try.func23, Try.ntmps23
  go_wp2_with (go_at_call 18; (with_reducible refine HN.out.mono ?_); rintro e w1 ⟨ao, n, cap, rfl, ho, hb⟩; have hn0 : n = 0 := owI_len ho; subst hn0; have HB := Lib.hid (HB0.out.trans (hb.mono HB0.out.size)); clear ho hb)
  go_ret
  exact ⟨rfl, HB.out⟩

set_option maxRecDepth 10000 in
set_option maxHeartbeats 1000000 in
theorem total_any {W : World} {v : Value} {l : List Int} (hX : Ix W v l) (hl : l.length ≤ 1000) (hin : inB 0 1048576 l = true) :
    Calls Try.prog 21 #[v] W fun e w' => e = .returned (.int .i64 l.sum) ∧ w' = W := by
  obtain ⟨ao, cap, rfl⟩ := hX.mk'
  have HX := Lib.hid hX
  obtain ⟨n, hn⟩ : ∃ n, n = l.length := ⟨_, rfl⟩
  have HN := Lib.hid hn
  rw [← hn] at hl HX ⊢
  have HS := Lib.hid (sum_in hin)
  obtain ⟨R, hR⟩ : ∃ R, R = l.sum := ⟨_, rfl⟩
  have HR := Lib.hid hR
  rw [← hR]
  clear hX hn hin hR
  go_enter Try.func21, Try.ntmps21
  go_wp2
  go_loop [3, 5, 8] (fun sv _ kv => ∃ (k : Nat) (S : Int), k ≤ n ∧ 0 ≤ S ∧ S ≤ 1048576 * 1000 ∧ kv = .int .i64 (k : Nat) ∧ sv = .int .i64 S ∧ Hid (S = (l.take k).sum)) (fun _ _ kv => n - (intOf kv).toNat)
  case atStart => exact ⟨0, 0, by omega, by omega, by omega, rfl, rfl, Lib.hid (by simp)⟩
  case round =>
    obtain ⟨k, S, hk, hS0, hS1, rfl, rfl, hJ⟩ := hrel
    by_cases hkn : k = n
    · have e1 : S = R := by rw [hJ.out, HR.out, hkn, HN.out, List.take_length]
      subst hkn e1
      go_wp2
      go_ret
      exact ⟨rfl, rfl⟩
    · have hlt : k < n := by omega
      obtain ⟨b, off, rfl, hq, hcap, hbl, hcl⟩ := HX.out.at (by omega)
      have hc := hcl k hlt
      have hs := HS.out (k + 1) (by rw [← HN.out]; omega)
      have e := sum_take (l := l) (k := k) (by rw [← HN.out]; omega)
      rw [e, ← hJ.out] at hs
      rw [← hJ.out] at e
      obtain ⟨x, hx⟩ : ∃ x, x = l.getD k 0 := ⟨_, rfl⟩
      rw [← hx] at hc hs e
      obtain ⟨hs1, hs2⟩ := hs
      have hs3 : S + x ≤ 1048576 * 1000 := by omega
      have E := Lib.hid e
      clear hx hcl hq e hs2
      go_wp2
      go_round
      case rel => exact ⟨k + 1, S + x, by omega, hs1, hs3, by go_num, rfl, Lib.hid E.out.symm⟩
      case measure => simp [intOf]; omega

end Go.Proofs.Ytmpopbkhmkkhgaa
