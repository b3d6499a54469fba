/- Contracts of the smallest functions of num: what digits a slice reads as. No condition but that the slices read as digits. -/
import Derived.Test.YtdgmjmckeeeljaaGreatDoorProg
import Derived.Test.YtdgmjmckeeeljaaGreatDoorM
import Derived.WalkKit
import Derived.WalkSpells
import Derived.Handy
import Derived.Lib.Hide
namespace Go.Proofs.YtdgmjmckeeeljaaGreatDoor
open Go.RowKit

/-- The cells of a slice of digits. -/
def Cl (w : World) (b off : Nat) (ds : List Nat) : Prop := ∀ j, j < ds.length → w.cell? ⟨b, off + j, none⟩ = some (.int .u32 ((ds.getD j 0 : Nat) : Int))

/-- A slice that reads as digits. -/
structure Sl (w : World) (v : Value) (ds : List Nat) : Prop where
  bd : Bd ds
  len : ds.length ≤ maxLen
  is : (ds = [] ∧ ∃ ao cap, v = .slice ao 0 cap) ∨ ∃ b off cap, v = .slice (some ⟨b, off, none⟩) ds.length cap ∧ ds.length ≤ cap ∧ Cl w b off ds

theorem Sl.below {w w' : World} {v : Value} {ds : List Nat} (h : Sl w v ds) (hb : Below w.heap.size w w') : Sl w' v ds := by
  obtain ⟨h1, h2, h3⟩ := h
  refine ⟨h1, h2, ?_⟩
  rcases h3 with h3 | ⟨b, off, cap, hv, hc, hl⟩
  · exact .inl h3
  · refine .inr ⟨b, off, cap, hv, hc, fun j hj => ?_⟩
    exact cell_later hb (hl j hj)

theorem getD_big (ds : List Nat) (n : Nat) (h : ds.length ≤ n) : ds.getD n 0 = 0 := by simp [List.getD, List.getElem?_eq_none h]

/-- A digit by its place; 0 beyond. -/
def dg (ds : List Nat) (k : Int) : Nat := if k < 0 then 0 else ds.getD k.toNat 0

set_option maxHeartbeats 400000 in
theorem digit_any {w : World} {v : Value} {ds : List Nat} (h : Sl w v ds) (k : Int) :
    Calls Tryz.prog 78 #[v, .int .i64 k] w fun e w' => e = .returned (.int .u32 (dg ds k : Nat)) ∧ w' = w := by
  obtain ⟨hb, hl, h⟩ := h
  have key : ∀ z : Nat, z = dg ds k → dg ds k = z := fun z h => h.symm
  unfold maxLen at hl
  rcases h with ⟨rfl, ao, cap, rfl⟩ | ⟨b, off, cap, rfl, hc, hcl⟩
  · have e0 : dg [] k = 0 := by unfold dg; split <;> simp
    rw [e0]
    clear e0 key
    by_cases h : k < 0
    all_goals
      go_enter Tryz.func78, Tryz.ntmps78
      go_wp2
      go_ret
      exact ⟨rfl, rfl⟩
  · by_cases h : k < 0
    · have e0 : dg ds k = 0 := by unfold dg; rw [if_pos h]
      rw [e0]
      clear e0 key
      go_enter Tryz.func78, Tryz.ntmps78
      go_wp2
      go_ret
      exact ⟨rfl, rfl⟩
    · obtain ⟨n, rfl⟩ : ∃ n : Nat, k = n := ⟨k.toNat, by omega⟩
      by_cases hn : n < ds.length
      · have hc := hcl n hn
        have e0 : dg ds n = ds.getD n 0 := by unfold dg; rw [if_neg h]; rfl
        rw [e0]
        obtain ⟨x, hx⟩ : ∃ x, x = ds.getD n 0 := ⟨_, rfl⟩
        rw [← hx] at hc ⊢
        clear e0 key hx hcl
        go_enter Tryz.func78, Tryz.ntmps78
        go_wp2
        go_ret
        exact ⟨rfl, rfl⟩
      · have e0 : dg ds n = 0 := by unfold dg; rw [if_neg h]; exact getD_big ds n (by omega)
        rw [e0]
        clear e0 key hcl
        go_enter Tryz.func78, Tryz.ntmps78
        go_wp2
        go_ret
        exact ⟨rfl, rfl⟩

theorem dg_nat {ds : List Nat} (h : Bd ds) (n : Nat) : dg ds n = val ds / 4294967296 ^ n % 4294967296 := by
  unfold dg; rw [if_neg (by omega)]; exact val_digit h n
theorem dg_lt {ds : List Nat} (h : Bd ds) (k : Int) : dg ds k < 4294967296 := by
  unfold dg; split
  · omega
  · rw [val_digit h]; exact Nat.mod_lt _ (by omega)

/-- The digits without the zeros at their end. -/
theorem take_trim {ds : List Nat} (h : Bd ds) : digs (val ds) = ds.take (digs (val ds)).length ∧ (digs (val ds)).length ≤ ds.length := by
  induction ds with
  | nil => simp [val, digs_zero]
  | cons d ds ih =>
    obtain ⟨hd, hb⟩ := h.cons
    obtain ⟨i1, i2⟩ := ih hb
    by_cases h0 : val (d :: ds) = 0
    · rw [h0, digs_zero]; simp
    · have e1 : val (d :: ds) % 4294967296 = d := by simp only [val]; omega
      have e2 : val (d :: ds) / 4294967296 = val ds := by simp only [val]; omega
      rw [digs_pos h0, e1, e2]
      simp only [List.length_cons, List.take_succ_cons]
      exact ⟨by rw [← i1], by omega⟩

theorem trim_stop {ds : List Nat} (h : Bd ds) (k : Nat) (hk : k ≤ ds.length) (hv : val (ds.take k) = val ds) (hs : k = 0 ∨ ds.getD (k - 1) 0 ≠ 0) : k = (digs (val ds)).length := by
  have hb : Bd (ds.take k) := fun x hx => h x (List.mem_of_mem_take hx)
  have : digs (val (ds.take k)) = ds.take k := digs_val hb (by
    rcases hs with rfl | hs
    · exact .inl (by simp)
    · by_cases h0 : k = 0
      · subst h0; exact .inl (by simp)
      · refine .inr ?_
        rw [List.getLast?_eq_getElem?, List.getElem?_take]
        simp only [List.length_take]
        rw [Nat.min_eq_left hk, if_pos (by omega)]
        intro h; apply hs; simp [List.getD, h])
  rw [← hv, this]; simp; omega

theorem trim_step {ds : List Nat} (k : Nat) (hk : k + 1 ≤ ds.length) (hv : val (ds.take (k + 1)) = val ds) (hz : ds.getD k 0 = 0) : val (ds.take k) = val ds := by
  rw [← hv, List.take_add_one, val_append]
  have : ds[k]?.toList = [0] := by
    rw [List.getElem?_eq_getElem (by omega)]
    simp [List.getD, List.getElem?_eq_getElem (show k < ds.length by omega)] at hz
    simp [hz]
  rw [this]; simp [val]

set_option maxHeartbeats 400000 in
theorem trim_any {w : World} {ds : List Nat} (ao : Option Addr) (n cap : Nat) (h : Sl w (.slice ao n cap) ds) :
    Calls Tryz.prog 76 #[.slice ao n cap] w fun e w' => e = .returned (.slice ao (digs (val ds)).length cap) ∧ w' = w := by
  obtain ⟨hb, hl, h⟩ := h
  unfold maxLen at hl
  rcases h with ⟨rfl, ao', cap', hv⟩ | ⟨b, off, cap', hv, hc, hcl⟩
  · cases hv
    simp only [val, digs_zero, List.length_nil]
    go_enter Tryz.func76, Tryz.ntmps76
    go_wp2
    go_rounds 1
    go_ret
    exact ⟨rfl, rfl⟩
  · cases hv
    have hst := trim_stop hb
    have htk := @trim_step ds
    obtain ⟨m, hm⟩ : ∃ m, m = (digs (val ds)).length := ⟨_, rfl⟩
    rw [← hm] at hst ⊢
    have hml : m ≤ ds.length := by rw [hm]; exact (take_trim hb).2
    clear hb hm
    have HST := Lib.hid hst
    clear hst
    have HTK := Lib.hid htk
    clear htk
    have HCL := Lib.hid hcl
    clear hcl
    go_enter Tryz.func76, Tryz.ntmps76
    go_wp2
    go_loop [3] (fun n => ∃ k : Nat, k ≤ ds.length ∧ n = .int .i64 k ∧ Hid (val (ds.take k) = val ds)) (fun n => (intOf n).toNat)
    case atStart => exact ⟨ds.length, Nat.le_refl _, rfl, by simp [Hid]⟩
    case round =>
      obtain ⟨k, hk, rfl, hv⟩ := hrel
      cases k with
      | zero =>
        have e0 := HST.out 0 (by omega) hv.out (.inl rfl)
        subst e0
        go_wp2
        go_ret
        exact ⟨rfl, rfl⟩
      | succ k =>
        have hcc := HCL.out k (by omega)
        obtain ⟨x, hx⟩ : ∃ x, x = ds.getD k 0 := ⟨_, rfl⟩
        rw [← hx] at hcc
        by_cases h0 : x = 0
        · have hv' := HTK.out k hk hv.out (by omega)
          have HV' := Lib.hid hv'
          clear hv' hv hx
          subst h0
          go_wp2
          go_round
          case rel => exact ⟨k, by omega, by go_num, HV'⟩
          case measure => simp [intOf]
        · have e0 := HST.out (k + 1) hk hv.out (.inr (by rw [Nat.add_sub_cancel, ← hx]; exact h0))
          clear hx
          subst e0
          go_wp2
          go_ret
          exact ⟨rfl, rfl⟩

end Go.Proofs.YtdgmjmckeeeljaaGreatDoor
