/- slices.Clone, Cmp, Bits. -/
import Derived.Test.YtdgmjmckeeeljaaGreatDoorN
import Derived.Test.YtdgmjmckeeeljaaGreatDoorS
namespace Go.Proofs.YtdgmjmckeeeljaaGreatDoor
open Go.RowKit

/-- A slice of digits in new memory. -/
def NewSl (w : World) (ds : List Nat) (e : Ending) (w' : World) : Prop := ∃ ao cap, e = .returned (.slice ao ds.length cap) ∧ Sw w.heap.size w' (.slice ao ds.length cap) ds ∧ Below w.heap.size w w'

theorem sw_of_owns {w : World} {B : Nat} {v : Value} {ds : List Nat} (hb : Bd ds) (h : w.ownsRow B 59 1 v ds.length (ds.map u32v)) : ∃ ao cap, v = .slice ao ds.length cap ∧ Sw B w v ds := by
  obtain ⟨h1, h2⟩ := h
  rcases h2 with ⟨rfl, h3⟩ | ⟨g, cap, cur, rfl, hB, hg, hc, hm, hs, ht⟩
  · have : ds = [] := List.eq_nil_of_length_eq_zero h3
    subst this
    exact ⟨none, 0, rfl, Sw.nil _ _ _ _⟩
  · refine ⟨_, _, rfl, ⟨hb, by omega, .inr ⟨g, 0, cap, rfl, hc, fun j hj => ?_⟩⟩, ?_⟩
    · rw [cell_of_row w _ _ _ _ _ hg]
      have h4 : (cur.toList.take (ds.length * 1))[j]? = (ds.map u32v)[j]? := by rw [ht]
      rw [List.getElem?_take, if_pos (by omega)] at h4
      rw [Nat.zero_add]
      rw [← Array.getElem?_toList, h4]
      simp [hj, u32v, List.getD]
    · intro ao n cap' hv _
      cases hv
      exact ⟨g, 0, rfl, hB, fun j _ => frozen_of_row w _ _ _ _ hg⟩

set_option maxRecDepth 10000 in
set_option maxHeartbeats 1000000 in
theorem clone_empty (ao : Option Addr) (cap : Nat) (w : World) : Calls Tryz.prog 74 #[.slice ao 0 cap] w (NewSl w []) := by
  cases ao with
  | none =>
    refine (Tryz.slices_Clone_nil 0 cap w).mono ?_
    rintro e w' ⟨rfl, rfl⟩
    exact ⟨_, _, rfl, Sw.nil _ _ _ _, Below.refl _ _⟩
  | some a =>
    have hq := fun (w : World) => Lib.run_eql_slice_nil (P := Tryz.prog) w 25 59 (some a) 0 cap 0 0 Tryz.underlying25
    go_enter Tryz.func74, Tryz.ntmps74
    go_wp2
    go_ret
    exact ⟨_, _, rfl, Sw.nil _ _ _ _, (Below.refl _ _).alloc (Nat.le_refl _) _⟩

theorem clone_any {w : World} {v : Value} {ds : List Nat} (h : Sl w v ds) (hl : 4 * ds.length ≤ 140737488351232) : Calls Tryz.prog 74 #[v] w (NewSl w ds) := by
  rcases h.is with ⟨rfl, ao, cap, rfl⟩ | ⟨b, off, cap, rfl, hcap, hcl⟩
  · exact clone_empty ao cap w
  · obtain ⟨i0, hi, hz0, hz1, hz2⟩ := info_parts Tryz.info59
    refine (Tryz.slices_Clone i0 _ 1 4 hi hz0 hz1 hz2 rfl (by omega) Tryz.sizeOf59 b off ds.length cap (ds.map u32v) w (by simp) (by unfold maxLen; omega) (by omega) ?_ ?_).mono ?_
    · intro j u hu
      have hj : j < ds.length := by
        have := (List.getElem?_eq_some_iff.1 hu).1
        simpa using this
      rw [hcl j hj]
      simp [hj, u32v] at hu
      simp [hj, List.getD, hu]
    · intro u hu
      obtain ⟨d, _, rfl⟩ := List.mem_map.1 hu
      rfl
    · rintro e w' ⟨v', rfl, hown, _, hb⟩
      obtain ⟨ao', cap', rfl, hs⟩ := sw_of_owns h.bd hown
      exact ⟨_, _, rfl, hs, hb⟩

end Go.Proofs.YtdgmjmckeeeljaaGreatDoor
