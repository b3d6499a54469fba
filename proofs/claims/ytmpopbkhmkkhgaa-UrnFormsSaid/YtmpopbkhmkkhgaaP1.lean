/- Next of a made design and row, for a choice that can be drawn; what is known of the balls then. -/
import Derived.Test.YtmpopbkhmkkhgaaP0
namespace Go.Proofs.Ytmpopbkhmkkhgaa
open Go.RowKit

theorem addN_in {r : List Int} {a arm : Int} {b : List Int} {k j : Nat} (ha : 0 ≤ a ∧ a ≤ 3) (hb : 0 ≤ b.getD j 0 ∧ b.getD j 0 ≤ 1048) : 0 ≤ addN r a arm b k j ∧ addN r a arm b k j ≤ b.getD j 0 + a ∧ b.getD j 0 ≤ addN r a arm b k j := by
  unfold addN
  split <;> omega
theorem BalI.up {r : List Int} {a : Int} {b : List Int} (h : BalI r a b) (arm : Int) (n : Nat) : inB 0 1048576 (addV r a arm b n) = true := inB_iff.2 fun k hk => by
  rw [addV_len] at hk
  rw [addV_get hk]
  have h1 := h.i k hk
  have h2 := addN_in (r := r) (arm := arm) (k := n) (j := k) h.m.a0 ⟨h1.1, by omega⟩
  have := h.m.a0
  omega

theorem next_made {W : World} {ar aw : Option Addr} {nr cr nw cw : Nat} {r row : List Int} (hr : Ix W (.slice ar nr cr) r) (hw : Ix W (.slice aw nw cw) row) (lr : r.length ≤ 8) (lw : row.length ≤ 8) (kd : Int) {a x y z : Int} (hI : BalI r a (balV r a row)) (hc : (x, y, z) ∈ chV r a row) :
    Calls Try.prog 18 #[DV kd (.slice ar nr cr) a, .slice aw nw cw, .agg #[.int .i64 x, .int .i64 y, .int .i64 z]] W fun e w' => ∃ ao n cap, e = .returned (.tuple #[.slice ao n cap, .bool true]) ∧ OwI w' W.heap.size (.slice ao n cap) n (addV r a z (balV r a row) (balV r a row).length) ∧ Below W.heap.size W w' := by
  have h := next_yes hr hw lr lw kd hc
  have hin : inB 0 1048576 (allV r a row z) = true := hI.up _ _
  rw [hin, if_pos rfl] at h
  exact h

theorem OwI.ax {W : World} {B n m : Nat} {v : Value} {r : List Int} {a arm : Int} {b : List Int} (h : OwI W B v n (addV r a arm b m)) (hI : BalI r a b) : Ix W v (addV r a arm b m) :=
  h.ix (by have := owI_len h; rw [addV_len] at this; have := hI.l; have := hI.m.l4; omega) (fit_in (hI.up _ _))

end Go.Proofs.Ytmpopbkhmkkhgaa
