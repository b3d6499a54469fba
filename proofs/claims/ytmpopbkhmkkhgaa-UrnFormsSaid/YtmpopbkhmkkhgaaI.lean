/- Contract of urn: Next. Condition: the slices read as ints, at most eight each. -/
import Derived.Test.YtmpopbkhmkkhgaaU
namespace Go.Proofs.Ytmpopbkhmkkhgaa
open Go.RowKit Go.Shelf
attribute [local go_sem] Oper.semAt_some

theorem chV_len {r row : List Int} {a : Int} (lr : r.length ≤ 8) : (chV r a row).length ≤ 8 := by
  have h1 := cho_len r (balV r a row) (balV r a row).length
  have h2 := balV_len (r := r) (row := row) (a := a)
  unfold chV
  omega

theorem usB_iff {r : List Int} {a : Int} : usB r a = true ↔ r.length ≤ 6 ∧ inB 0 8 r = true ∧ 0 ≤ a ∧ a ≤ 8 := by
  unfold usB
  simp only [Bool.and_eq_true, decide_eq_true_eq]
  constructor
  · rintro ⟨⟨h1, h2⟩, h3, h4⟩; exact ⟨h1, h2, h3, h4⟩
  · rintro ⟨h1, h2, h3, h4⟩; exact ⟨⟨h1, h2⟩, h3, h4⟩

/-- What a choice that can be drawn is. -/
theorem ch_facts {r row : List Int} {a x y z : Int} (h : (x, y, z) ∈ chV r a row) : ∃ j : Nat, j < (balV r a row).length ∧ 0 < r.getD j 0 ∧ 0 < (balV r a row).getD j 0 ∧ x = (balV r a row).getD j 0 ∧ y = 0 ∧ z = (j : Int) ∧ (balV r a row).length = r.length ∧ usB r a = true ∧ x ≤ 1048576 := by
  obtain ⟨j, h1, h2, h3, h4⟩ := mem_cho.1 h
  injection h4 with e1 e2
  injection e2 with e2 e3
  have hl := balV_len (r := r) (row := row) (a := a)
  have hin := (inB_iff.1 (balV_in (r := r) (row := row) (a := a))) j h1
  refine ⟨j, h1, h2, h3, e1, e2, e3, by omega, ?_, by omega⟩
  cases hu : usB r a with
  | true => rfl
  | false => rw [balV_no1 hu] at h1; simp at h1

theorem fit_of {l : List Ch} (h : ∀ c ∈ l, I64 c.1 ∧ I64 c.2.1 ∧ I64 c.2.2) : ∀ k, I64 (l.getD k (0, 0, 0)).1 ∧ I64 (l.getD k (0, 0, 0)).2.1 ∧ I64 (l.getD k (0, 0, 0)).2.2 := fun k => by
  by_cases hk : k < l.length
  · exact h _ (getD_mem hk)
  · have : l.getD k (0, 0, 0) = (0, 0, 0) := by simp [List.getD, List.getElem?_eq_none (Nat.le_of_not_lt hk)]
    rw [this]; exact ⟨by decide, by decide, by decide⟩

theorem chV_fit {r row : List Int} {a : Int} (lr : r.length ≤ 8) : ∀ c ∈ chV r a row, I64 c.1 ∧ I64 c.2.1 ∧ I64 c.2.2 := fun c hc => by
  obtain ⟨x, y, z⟩ := c
  obtain ⟨j, h1, h2, h3, h4, h5, h6, h7, h8, h9⟩ := ch_facts hc
  exact ⟨⟨by simp only; omega, by simp only; omega⟩, ⟨by simp only; omega, by simp only; omega⟩, ⟨by simp only; omega, by simp only; omega⟩⟩

theorem OwC.chx {W : World} {B n : Nat} {v : Value} {r row : List Int} {a : Int} (h : OwC W B v n (chV r a row)) (lr : r.length ≤ 8) : Cx W v (chV r a row) :=
  h.cx (by have := owC_len h; have := chV_len (r := r) (row := row) (a := a) lr; omega) (fit_of (chV_fit lr))

/-- The two boxes of Next. -/
abbrev nbox (W : World) (kd : Int) (vr : Value) (a x y z : Int) : World := cbox (dbox W kd vr a) (x, y, z)
theorem nbox_below (W : World) (kd : Int) (vr : Value) (a x y z : Int) : Below W.heap.size W (nbox W kd vr a x y z) := (dbox_below W kd vr a).trans ((cbox_below _ _).mono (by simp))
theorem nbox_size (W : World) (kd : Int) (vr : Value) (a x y z : Int) : (nbox W kd vr a x y z).heap.size = W.heap.size + 2 := by simp [nbox, dbox, cbox]
theorem nbox_up {W W' : World} {kd : Int} {vr : Value} {a x y z : Int} (h : Below (nbox W kd vr a x y z).heap.size (nbox W kd vr a x y z) W') : Below W.heap.size W W' := (nbox_below W kd vr a x y z).trans (h.mono (by simp; omega))
theorem nbox_d {W W' : World} {kd : Int} {vr : Value} {a x y z : Int} (h : Below (nbox W kd vr a x y z).heap.size (nbox W kd vr a x y z) W') : DBox W' W.heap.size kd vr a := (DBox.below (dbox_is W kd vr a) (cbox_below _ _)).below h
theorem nbox_c {W W' : World} {kd : Int} {vr : Value} {a x y z : Int} (h : Below (nbox W kd vr a x y z).heap.size (nbox W kd vr a x y z) W') : CBox W' (W.heap.size + 1) (x, y, z) := by
  have h2 : CBox (nbox W kd vr a x y z) (W.heap.size + 1) (x, y, z) := by
    have := cbox_is (dbox W kd vr a) (x, y, z)
    rwa [dbox_size] at this
  exact h2.below h
theorem nbox_flat {W W' : World} {kd : Int} {vr : Value} {a x y z : Int} (h : Below (nbox W kd vr a x y z).heap.size (nbox W kd vr a x y z) W') : W'.cell? ⟨W.heap.size, 0, none⟩ = some (.int .i64 kd) ∧ W'.cell? ⟨W.heap.size, 1, none⟩ = some vr ∧ W'.cell? ⟨W.heap.size, 2, none⟩ = some (.slice none 0 0) ∧ W'.cell? ⟨W.heap.size, 3, none⟩ = some (.int .i64 a) ∧ W'.cell? ⟨W.heap.size, 4, none⟩ = some (.int .i64 0) ∧ W'.cell? ⟨W.heap.size, 5, none⟩ = some (.int .i64 0) ∧ W'.cell? ⟨W.heap.size + 1, 0, none⟩ = some (.int .i64 x) ∧ W'.cell? ⟨W.heap.size + 1, 1, none⟩ = some (.int .i64 y) ∧ W'.cell? ⟨W.heap.size + 1, 2, none⟩ = some (.int .i64 z) := by
  obtain ⟨a, b, c, d, e, f⟩ := (nbox_d h).cells
  obtain ⟨g, i, j⟩ := (nbox_c h).cells
  exact ⟨a, b, c, d, e, f, g, i, j⟩

set_option maxRecDepth 10000 in
set_option maxHeartbeats 4000000 in
theorem next_no {W : World} {ar aw : Option Addr} {nr cr nw cw : Nat} {r row : List Int} (hr : Ix W (.slice ar nr cr) r) (hw : Ix W (.slice aw nw cw) row) (lr : r.length ≤ 8) (lw : row.length ≤ 8) (kd : Int) {a x y z : Int} (hc : ¬ (x, y, z) ∈ chV r a row) :
    Calls Try.prog 18 #[DV kd (.slice ar nr cr) a, .slice aw nw cw, .agg #[.int .i64 x, .int .i64 y, .int .i64 z]] W fun e w' => e = .returned (.tuple #[.slice none 0 0, .bool false]) ∧ Below W.heap.size W w' := by
  have HB := Lib.hid (Below.refl (nbox W kd (.slice ar nr cr) a x y z).heap.size (nbox W kd (.slice ar nr cr) a x y z))
  have HCH := Lib.hid (fun W' (hb : Below (nbox W kd (.slice ar nr cr) a x y z).heap.size (nbox W kd (.slice ar nr cr) a x y z) W') => choices_any (hr.below (nbox_up hb)) (hw.below (nbox_up hb)) lr lw kd a)
  have HCO := Lib.hid (fun W' v (B n : Nat) (h : OwC W' B v n (chV r a row)) => contains_any (h.chx lr) x y z)
  rw [decide_eq_false hc] at HCO
  have HKP := Lib.hid (fun W' (hb : Below (nbox W kd (.slice ar nr cr) a x y z).heap.size (nbox W kd (.slice ar nr cr) a x y z) W') => nbox_flat hb)
  obtain ⟨k0, k1, k2, k3, k4, k5, k6, k7, k8⟩ := HKP.out _ HB.out
  clear hr hw hc lr lw
  go_enter Try.func18, Try.ntmps18
  go_wp2
  go_region_held3 (fun W' => W'.cell? ⟨W.heap.size, 0, none⟩ = some (.int .i64 kd) ∧ W'.cell? ⟨W.heap.size, 1, none⟩ = some (.slice ar nr cr) ∧ W'.cell? ⟨W.heap.size, 2, none⟩ = some (.slice none 0 0) ∧ W'.cell? ⟨W.heap.size, 3, none⟩ = some (.int .i64 a) ∧ W'.cell? ⟨W.heap.size, 4, none⟩ = some (.int .i64 0) ∧ W'.cell? ⟨W.heap.size, 5, none⟩ = some (.int .i64 0) ∧ W'.cell? ⟨W.heap.size + 1, 0, none⟩ = some (.int .i64 x) ∧ W'.cell? ⟨W.heap.size + 1, 1, none⟩ = some (.int .i64 y) ∧ W'.cell? ⟨W.heap.size + 1, 2, none⟩ = some (.int .i64 z))
    (first | (with_reducible exact HKP.out _ HB3.out) | (with_reducible exact HKP.out _ HB2.out) | (with_reducible exact HKP.out _ HB.out) | (exact HKP.out _ HB.out.drew))
    ((first
    | (go_at_call 17; (refine (HCH.out _ HB.out.drew).mono ?_); rintro e w1 ⟨ao1, n1, cap1, rfl, ho, hb⟩; have HO := Lib.hid ho; have HB2 := Lib.hid (HB.out.drew.trans (hb.mono HB.out.drew.size)); clear ho hb)
    | (go_at_call 30; (with_reducible refine (HCO.out _ _ _ _ HO.out).mono ?_); rintro e w2 ⟨rfl, hb2⟩; have HB3 := Lib.hid (HB2.out.trans (hb2.mono HB2.out.size)); clear hb2)))
  go_wp2
  go_ret2
  exact ⟨rfl, nbox_up HB3.out⟩

end Go.Proofs.Ytmpopbkhmkkhgaa
