/- Contract: Next. Condition: the slices read as ints, at most eight each. Contracts of the reference: ranged, Left, Has, Same; SameInts. Condition: the slices read as ints, as choices. Contracts of the reference: blocks, Choices. Condition: the slices read as ints, at most eight each. -/
import Derived.Test.YtjlneggfkpjnpaaMb2
import Derived.Deep.RegionHeld3
import Derived.Deep.RegionLaw
set_option linter.unusedSimpArgs false
set_option linter.unusedVariables false
namespace Go.Proofs.Ytjlneggfkpjnpaa
open Go.RowKit

theorem fit_in {l : List Int} (h : inB 0 1048576 l = true) (k : Nat) : I64 (l.getD k 0) := by
  by_cases hk : k < l.length
  · have := (inB_iff.1 h) k hk
    constructor <;> omega
  · rw [show l.getD k 0 = 0 by simp [List.getD, List.getElem?_eq_none (Nat.le_of_not_lt hk)]]; decide

theorem getD_set {l : List Int} {k j : Nat} {x : Int} (hk : k < l.length) : (l.set k x).getD j 0 = if j = k then x else l.getD j 0 := by
  simp only [List.getD, List.getElem?_set]
  by_cases h : k = j
  · subst h; simp [hk]
  · rw [if_neg h, if_neg (fun e => h e.symm)]

theorem less_in {l : List Int} {k : Nat} (h : inB 0 1048576 l = true) (hk : k < l.length) (h1 : 1 ≤ l.getD k 0) : inB 0 1048576 (lessV l (k : Int)) = true := by
  rw [inB_iff]
  unfold lessV
  intro j hj
  rw [List.length_set] at hj
  rw [Int.toNat_natCast, getD_set hk]
  have := (inB_iff.1 h) j hj
  have := (inB_iff.1 h) k hk
  split <;> omega

theorem before_any {W : World} {ar az aw : Option Addr} {nr cr ns cs nw cw : Nat} {r s row : List Int} (hr : Ix W (.slice ar nr cr) r) (hw : Ix W (.slice aw nw cw) row) (lr : r.length ≤ 8) {x y z : Int} (hc : (x, y, z) ∈ chV r s row) :
    Calls Try.prog 35 #[.agg #[.int .i64 0, .slice ar nr cr, .slice az ns cs, .int .i64 0, .int .i64 0, .int .i64 0], .slice aw nw cw, .int .i64 y] W fun e w' => ∃ ao cap, e = .returned (.slice ao nr cap) ∧ OwI w' W.heap.size (.slice ao nr cap) nr (blockV r row y) ∧ Below W.heap.size W w' := by
  obtain ⟨hB, hy, hin, hlen, k, hk, -⟩ := ch_facts hc
  have hnr := hr.size
  rcases hy with ⟨h0, hl⟩ | ⟨h1, h4⟩
  · subst h0
    have := before_old (ar := ar) (az := az) (nr := nr) (cr := cr) (ns := ns) (cs := cs) hw (by omega) (by omega)
    rw [hl, ← hnr] at this
    exact this
  · have := before_new (az := az) (aw := aw) (ns := ns) (cs := cs) (nw := nw) (cw := cw) hr (hasB_iff.1 hB).1.2.2.1 lr h1 h4
    rw [← hnr] at this
    have e : blockV r row y = r.map fun x => y * x := by unfold blockV; rw [if_neg (by omega)]
    rw [e]
    exact this

theorem chV_len {r s row : List Int} (lr : r.length ≤ 8) (ls : s.length ≤ 8) (lw : row.length ≤ 8) : (chV r s row).length ≤ 64 := by
  unfold chV
  split
  · split
    · have := coll_len 0 row row.length; omega
    · exact Nat.le_trans (blks_len r s _) (Nat.le_trans (Nat.mul_le_mul ls lr) (by decide))
  · simp

theorem chV_fit {r s row : List Int} {c : Ch} (h : c ∈ chV r s row) (lr : r.length ≤ 8) : (1 ≤ c.1 ∧ c.1 ≤ 1048576) ∧ (0 ≤ c.2.1 ∧ c.2.1 ≤ 4) ∧ (0 ≤ c.2.2 ∧ c.2.2 < r.length) := by
  obtain ⟨x, y, z⟩ := c
  obtain ⟨hB, hy, hin, hlen, k, hk, hz, h1, h2⟩ := ch_facts h
  refine ⟨?_, by simp only; omega, by simp only; omega⟩
  unfold chV at h
  split at h
  · split at h
    · obtain ⟨j, hj, h0, he⟩ := mem_coll.1 h
      rename_i hl
      have hin : inB 0 1048576 row = true := by
        unfold leftV at hl
        split at hl
        · assumption
        · omega
      injection he with e1 e2
      have := (inB_iff.1 hin) j hj
      simp only; omega
    · obtain ⟨i, hi, hc⟩ := mem_blks.1 h
      obtain ⟨j, hj, h0, he⟩ := mem_coll.1 hc
      injection he with e1 e2
      have := (inB_iff.1 (hasB_iff.1 hB).1.2.2.1) j hj
      simp only; omega
  · simp at h

theorem fit_of {l : List Ch} (h : ∀ c ∈ l, I64 c.1 ∧ I64 c.2.1 ∧ I64 c.2.2) : ∀ k, I64 (l.getD k (0, 0, 0)).1 ∧ I64 (l.getD k (0, 0, 0)).2.1 ∧ I64 (l.getD k (0, 0, 0)).2.2 := fun k => by
  by_cases hk : k < l.length
  · exact h _ (getD_mem hk)
  · have : l.getD k (0, 0, 0) = (0, 0, 0) := by simp [List.getD, List.getElem?_eq_none (Nat.le_of_not_lt hk)]
    rw [this]; exact ⟨by decide, by decide, by decide⟩

theorem OwC.chx {W : World} {B n : Nat} {v : Value} {r s row : List Int} (h : OwC W B v n (chV r s row)) (lr : r.length ≤ 8) (ls : s.length ≤ 8) (lw : row.length ≤ 8) : Cx W v (chV r s row) :=
  h.cx (by have := owC_len h; have := chV_len lr ls lw; omega) (fit_of fun c hc => by
    obtain ⟨a, b, c⟩ := chV_fit hc lr
    exact ⟨⟨by omega, by omega⟩, ⟨by omega, by omega⟩, ⟨by omega, by omega⟩⟩)

/-- The two boxes of Next. -/
abbrev nbox (W : World) (vr vs : Value) (x y z : Int) : World := cbox (dbox W vr vs) (x, y, z)
theorem nbox_below (W : World) (vr vs : Value) (x y z : Int) : Below W.heap.size W (nbox W vr vs x y z) := (dbox_below W vr vs).trans ((cbox_below _ _).mono (by simp))
theorem nbox_cells {W W' : World} {vr vs : Value} {x y z : Int} (h : Below (nbox W vr vs x y z).heap.size (nbox W vr vs x y z) W') : (W'.cell? ⟨W.heap.size, 0, none⟩ = some (.int .i64 0) ∧ W'.cell? ⟨W.heap.size, 1, none⟩ = some vr ∧ W'.cell? ⟨W.heap.size, 2, none⟩ = some vs ∧ W'.cell? ⟨W.heap.size, 3, none⟩ = some (.int .i64 0) ∧ W'.cell? ⟨W.heap.size, 4, none⟩ = some (.int .i64 0) ∧ W'.cell? ⟨W.heap.size, 5, none⟩ = some (.int .i64 0)) ∧ W'.cell? ⟨W.heap.size + 1, 0, none⟩ = some (.int .i64 x) ∧ W'.cell? ⟨W.heap.size + 1, 1, none⟩ = some (.int .i64 y) ∧ W'.cell? ⟨W.heap.size + 1, 2, none⟩ = some (.int .i64 z) := by
  have h1 : DBox (nbox W vr vs x y z) W.heap.size vr vs := DBox.below (dbox_is W vr vs) (cbox_below _ _)
  have h2 : CBox (nbox W vr vs x y z) (W.heap.size + 1) (x, y, z) := by
    have := cbox_is (dbox W vr vs) (x, y, z)
    rwa [dbox_size] at this
  exact ⟨(h1.below h).cells, (h2.below h).cells⟩
theorem nbox_flat {W W' : World} {vr vs : Value} {x y z : Int} (h : Below (nbox W vr vs x y z).heap.size (nbox W vr vs x y z) W') : W'.cell? ⟨W.heap.size, 0, none⟩ = some (.int .i64 0) ∧ W'.cell? ⟨W.heap.size, 1, none⟩ = some vr ∧ W'.cell? ⟨W.heap.size, 2, none⟩ = some vs ∧ W'.cell? ⟨W.heap.size, 3, none⟩ = some (.int .i64 0) ∧ W'.cell? ⟨W.heap.size, 4, none⟩ = some (.int .i64 0) ∧ W'.cell? ⟨W.heap.size, 5, none⟩ = some (.int .i64 0) ∧ W'.cell? ⟨W.heap.size + 1, 0, none⟩ = some (.int .i64 x) ∧ W'.cell? ⟨W.heap.size + 1, 1, none⟩ = some (.int .i64 y) ∧ W'.cell? ⟨W.heap.size + 1, 2, none⟩ = some (.int .i64 z) := by
  obtain ⟨⟨a, b, c, d, e, f⟩, g⟩ := nbox_cells h
  exact ⟨a, b, c, d, e, f, g⟩
theorem nbox_up {W W' : World} {vr vs : Value} {x y z : Int} (h : Below (nbox W vr vs x y z).heap.size (nbox W vr vs x y z) W') : Below W.heap.size W W' := (nbox_below W vr vs x y z).trans (h.mono (by simp; omega))

set_option maxRecDepth 10000 in
set_option maxHeartbeats 4000000 in
theorem next_no {W : World} {ar az aw : Option Addr} {nr cr ns cs nw cw : Nat} {r s row : List Int} (hr : Ix W (.slice ar nr cr) r) (hs : Ix W (.slice az ns cs) s) (hw : Ix W (.slice aw nw cw) row) (lr : r.length ≤ 8) (ls : s.length ≤ 8) (lw : row.length ≤ 8) {x y z : Int} (hc : ¬ (x, y, z) ∈ chV r s row) :
    Calls Try.prog 18 #[.agg #[.int .i64 0, .slice ar nr cr, .slice az ns cs, .int .i64 0, .int .i64 0, .int .i64 0], .slice aw nw cw, .agg #[.int .i64 x, .int .i64 y, .int .i64 z]] W fun e w' => e = .returned (.tuple #[.slice none 0 0, .bool false]) ∧ Below W.heap.size W w' := by
  have HB := Lib.hid (Below.refl (nbox W (.slice ar nr cr) (.slice az ns cs) x y z).heap.size (nbox W (.slice ar nr cr) (.slice az ns cs) x y z))
  have HCH := Lib.hid (fun W' (hb : Below (nbox W (.slice ar nr cr) (.slice az ns cs) x y z).heap.size (nbox W (.slice ar nr cr) (.slice az ns cs) x y z) W') => choices_any (hr.below (nbox_up hb)) (hs.below (nbox_up hb)) (hw.below (nbox_up hb)) lr ls lw)
  have HCO := Lib.hid (fun W' v (B n : Nat) (h : OwC W' B v n (chV r s row)) => contains_any (h.chx lr ls lw) x y z)
  rw [decide_eq_false hc] at HCO
  have HKP := Lib.hid (fun W' (hb : Below (nbox W (.slice ar nr cr) (.slice az ns cs) x y z).heap.size (nbox W (.slice ar nr cr) (.slice az ns cs) x y z) W') => nbox_flat hb)
  obtain ⟨k0, k1, k2, k3, k4, k5, k6, k7, k8⟩ := HKP.out _ HB.out
  clear hr hs hw hc lr ls lw
  go_enter Try.func18, Try.ntmps18
  go_wp2
  go_region_held3 (fun W' => W'.cell? ⟨W.heap.size, 0, none⟩ = some (.int .i64 0) ∧ W'.cell? ⟨W.heap.size, 1, none⟩ = some (.slice ar nr cr) ∧ W'.cell? ⟨W.heap.size, 2, none⟩ = some (.slice az ns cs) ∧ W'.cell? ⟨W.heap.size, 3, none⟩ = some (.int .i64 0) ∧ W'.cell? ⟨W.heap.size, 4, none⟩ = some (.int .i64 0) ∧ W'.cell? ⟨W.heap.size, 5, none⟩ = some (.int .i64 0) ∧ W'.cell? ⟨W.heap.size + 1, 0, none⟩ = some (.int .i64 x) ∧ W'.cell? ⟨W.heap.size + 1, 1, none⟩ = some (.int .i64 y) ∧ W'.cell? ⟨W.heap.size + 1, 2, none⟩ = some (.int .i64 z))
    (first | (with_reducible exact HKP.out _ HB.out) | (exact HKP.out _ HB.out.drew) | (with_reducible exact HKP.out _ HB2.out) | (with_reducible exact HKP.out _ HB3.out))
    ((first
    | (go_at_call 14; (refine (HCH.out _ HB.out.drew).mono ?_); rintro e w1 ⟨ao1, n1, cap1, rfl, ho, hb⟩; have HO := Lib.hid ho; have HB2 := Lib.hid (HB.out.drew.trans (hb.mono HB.out.drew.size)); clear ho hb)
    | (go_at_call 34; (with_reducible refine (HCO.out _ _ _ _ HO.out).mono ?_); rintro e w2 ⟨rfl, hb2⟩; have HB3 := Lib.hid (HB2.out.trans (hb2.mono HB2.out.size)); clear hb2)))
  go_wp2
  go_ret2
  exact ⟨rfl, nbox_up HB3.out⟩

theorem OwI.set_left {W : World} {B n g cap : Nat} {b : List Int} {k : Nat} (h : OwI W B (.slice (some ⟨g, 0, none⟩) n cap) n (b.set k (b.getD k 0 - 1))) (hin : inB 0 1048576 b = true) (hk : k < b.length) (h1 : 1 ≤ b.getD k 0) (hl : n ≤ 8) :
    Calls Try.prog 15 #[.slice (some ⟨g, 0, none⟩) n cap] W fun e w' => e = .returned (.int .i64 (leftV (lessV b (k : Int)))) ∧ Below W.heap.size W w' := by
  have hI : inB 0 1048576 (b.set k (b.getD k 0 - 1)) = true := less_in hin hk h1
  have hn := owI_len h
  rw [List.length_set] at hn
  exact left_any (h.ix (by omega) (fit_in hI)) (by show (b.set k (b.getD k 0 - 1)).length ≤ 1000; rw [List.length_set]; omega)

set_option maxRecDepth 10000 in
set_option maxHeartbeats 4000000 in
theorem next_yes {W : World} {ar az aw : Option Addr} {nr cr ns cs nw cw : Nat} {r s row : List Int} (hr : Ix W (.slice ar nr cr) r) (hs : Ix W (.slice az ns cs) s) (hw : Ix W (.slice aw nw cw) row) (lr : r.length ≤ 8) (ls : s.length ≤ 8) (lw : row.length ≤ 8) {x y z : Int} (hc : (x, y, z) ∈ chV r s row) :
    Calls Try.prog 18 #[.agg #[.int .i64 0, .slice ar nr cr, .slice az ns cs, .int .i64 0, .int .i64 0, .int .i64 0], .slice aw nw cw, .agg #[.int .i64 x, .int .i64 y, .int .i64 z]] W fun e w' => ∃ ao n cap, e = .returned (.tuple #[.slice ao n cap, .bool true]) ∧ OwI w' W.heap.size (.slice ao n cap) n (if leftV (lessV (blockV r row y) z) = 0 then [] else lessV (blockV r row y) z) ∧ Below W.heap.size W w' := by
  obtain ⟨hB, hy, hin, hlen, k, hk, hz, h1, h2⟩ := ch_facts hc
  subst hz
  have HBF := Lib.hid (fun W' (hb : Below W.heap.size W W') => before_any (az := az) (ns := ns) (cs := cs) (hr.below hb) (hw.below hb) lr hc)
  have HB := Lib.hid (Below.refl (nbox W (.slice ar nr cr) (.slice az ns cs) x y k).heap.size (nbox W (.slice ar nr cr) (.slice az ns cs) x y k))
  have HCH := Lib.hid (fun W' (hb : Below (nbox W (.slice ar nr cr) (.slice az ns cs) x y k).heap.size (nbox W (.slice ar nr cr) (.slice az ns cs) x y k) W') => choices_any (hr.below (nbox_up hb)) (hs.below (nbox_up hb)) (hw.below (nbox_up hb)) lr ls lw)
  have HCO := Lib.hid (fun W' v (B n : Nat) (h : OwC W' B v n (chV r s row)) => contains_any (h.chx lr ls lw) x y k)
  rw [decide_eq_true hc] at HCO
  have HKP := Lib.hid (fun W' (hb : Below (nbox W (.slice ar nr cr) (.slice az ns cs) x y k).heap.size (nbox W (.slice ar nr cr) (.slice az ns cs) x y k) W') => nbox_flat hb)
  obtain ⟨k0, k1, k2, k3, k4, k5, k6, k7, k8⟩ := HKP.out _ HB.out
  have hnr := hr.size
  have hk8 : k < nr := by omega
  have hnr8 : nr ≤ 8 := by omega
  have HLT := Lib.hid (fun (W' : World) (B g cap : Nat) h => OwI.set_left (W := W') (B := B) (n := nr) (g := g) (cap := cap) (b := blockV r row y) (k := k) h hin (by omega) h1 hnr8)
  have HLEN := Lib.hid hlen
  obtain ⟨b, hb⟩ : ∃ b, b = blockV r row y := ⟨_, rfl⟩
  rw [← hb] at HBF HLT h1 h2 HLEN ⊢
  have HV : Hid (lessV b (k : Int) = b.set k (b.getD k 0 - 1)) := Lib.hid rfl
  obtain ⟨T, hT⟩ : ∃ T, T = leftV (lessV b (k : Int)) := ⟨_, rfl⟩
  rw [← hT] at HLT ⊢
  obtain ⟨q, hq⟩ : ∃ q, q = b.getD k 0 := ⟨_, rfl⟩
  have HQ := Lib.hid hq
  rw [← hq] at HLT h1 h2 HV
  clear hr hs hw hc lr ls lw hB hy hin hlen hnr hk hb hT hq
  by_cases hT0 : T = 0
  · subst hT0
    rw [if_pos rfl]
    go_enter Try.func18, Try.ntmps18
    go_wp2
    go_region_held3 (fun W' => W'.cell? ⟨W.heap.size, 0, none⟩ = some (.int .i64 0) ∧ W'.cell? ⟨W.heap.size, 1, none⟩ = some (.slice ar nr cr) ∧ W'.cell? ⟨W.heap.size, 2, none⟩ = some (.slice az ns cs) ∧ W'.cell? ⟨W.heap.size, 3, none⟩ = some (.int .i64 0) ∧ W'.cell? ⟨W.heap.size, 4, none⟩ = some (.int .i64 0) ∧ W'.cell? ⟨W.heap.size, 5, none⟩ = some (.int .i64 0) ∧ W'.cell? ⟨W.heap.size + 1, 0, none⟩ = some (.int .i64 x) ∧ W'.cell? ⟨W.heap.size + 1, 1, none⟩ = some (.int .i64 y) ∧ W'.cell? ⟨W.heap.size + 1, 2, none⟩ = some (.int .i64 k))
    (first | (with_reducible exact HKP.out _ HB.out) | (exact HKP.out _ HB.out.drew) | (with_reducible exact HKP.out _ HB2.out) | (with_reducible exact HKP.out _ HB3.out))
    ((first
    | (go_at_call 14; (refine (HCH.out _ HB.out.drew).mono ?_); rintro e w1 ⟨ao1, n1, cap1, rfl, ho, hb⟩; have HO := Lib.hid ho; have HB2 := Lib.hid (HB.out.drew.trans (hb.mono HB.out.drew.size)); clear ho hb)
    | (go_at_call 34; (with_reducible refine (HCO.out _ _ _ _ HO.out).mono ?_); rintro e w2 ⟨rfl, hb2⟩; have HB3 := Lib.hid (HB2.out.trans (hb2.mono HB2.out.size)); clear hb2)))
    clear k0 k1 k2 k3 k4 k5 k6 k7 k8
    obtain ⟨k0, k1, k2, k3, k4, k5, k6, k7, k8⟩ := HKP.out _ HB3.out
    go_wp2_with (first
      | (go_at_call 35; (with_reducible refine (HBF.out _ (nbox_up HB3.out)).mono ?_); rintro e w3 ⟨ao3, cap3, rfl, ho3, hb3⟩; obtain ⟨g, cap4, e4, hcap, hg, hgl, hgc, hfr, hset⟩ := ho3.parts (by omega); injection e4 with e4 _ e5; subst e4 e5; have c9 := hgc k hk8; have f9 := hfr k; have hst := hset k (q - 1) hk8; rw [← HQ.out] at c9; have HST := Lib.hid hst; have HB4 := Lib.hid (HB3.out.trans (hb3.mono HB3.out.size)); have HB5 := Lib.hid ((nbox_up HB4.out).setCell (p := ⟨g, k, none⟩) (by have := (nbox_up HB3.out).size; simp only; omega) (.int .i64 (q - 1))); clear k0 k1 k2 k3 k4 k5 k6 k7 k8; obtain ⟨-, -, -, -, -, -, k6, k7, k8⟩ := HKP.out _ HB4.out; clear hgc hfr hset hst ho3 hb3 hg hgl)
      | (go_at_call 15; (with_reducible refine (HLT.out _ _ _ _ HST.out).mono ?_); rintro e w5 ⟨rfl, hb5⟩; have HB6 := Lib.hid (HB5.out.trans (hb5.mono HB5.out.size)); clear hb5))
    all_goals (go_ret2; exact ⟨none, 0, 0, rfl, World.ownsRow_nil _ _ _ _, HB6.out⟩)
  · rw [if_neg hT0]
    go_enter Try.func18, Try.ntmps18
    go_wp2
    go_region_held3 (fun W' => W'.cell? ⟨W.heap.size, 0, none⟩ = some (.int .i64 0) ∧ W'.cell? ⟨W.heap.size, 1, none⟩ = some (.slice ar nr cr) ∧ W'.cell? ⟨W.heap.size, 2, none⟩ = some (.slice az ns cs) ∧ W'.cell? ⟨W.heap.size, 3, none⟩ = some (.int .i64 0) ∧ W'.cell? ⟨W.heap.size, 4, none⟩ = some (.int .i64 0) ∧ W'.cell? ⟨W.heap.size, 5, none⟩ = some (.int .i64 0) ∧ W'.cell? ⟨W.heap.size + 1, 0, none⟩ = some (.int .i64 x) ∧ W'.cell? ⟨W.heap.size + 1, 1, none⟩ = some (.int .i64 y) ∧ W'.cell? ⟨W.heap.size + 1, 2, none⟩ = some (.int .i64 k))
    (first | (with_reducible exact HKP.out _ HB.out) | (exact HKP.out _ HB.out.drew) | (with_reducible exact HKP.out _ HB2.out) | (with_reducible exact HKP.out _ HB3.out))
    ((first
    | (go_at_call 14; (refine (HCH.out _ HB.out.drew).mono ?_); rintro e w1 ⟨ao1, n1, cap1, rfl, ho, hb⟩; have HO := Lib.hid ho; have HB2 := Lib.hid (HB.out.drew.trans (hb.mono HB.out.drew.size)); clear ho hb)
    | (go_at_call 34; (with_reducible refine (HCO.out _ _ _ _ HO.out).mono ?_); rintro e w2 ⟨rfl, hb2⟩; have HB3 := Lib.hid (HB2.out.trans (hb2.mono HB2.out.size)); clear hb2)))
    clear k0 k1 k2 k3 k4 k5 k6 k7 k8
    obtain ⟨k0, k1, k2, k3, k4, k5, k6, k7, k8⟩ := HKP.out _ HB3.out
    go_wp2_with (first
      | (go_at_call 35; (with_reducible refine (HBF.out _ (nbox_up HB3.out)).mono ?_); rintro e w3 ⟨ao3, cap3, rfl, ho3, hb3⟩; obtain ⟨g, cap4, e4, hcap, hg, hgl, hgc, hfr, hset⟩ := ho3.parts (by omega); injection e4 with e4 _ e5; subst e4 e5; have c9 := hgc k hk8; have f9 := hfr k; have hst := hset k (q - 1) hk8; rw [← HQ.out] at c9; have HST := Lib.hid hst; have HB4 := Lib.hid (HB3.out.trans (hb3.mono HB3.out.size)); have HB5 := Lib.hid ((nbox_up HB4.out).setCell (p := ⟨g, k, none⟩) (by have := (nbox_up HB3.out).size; simp only; omega) (.int .i64 (q - 1))); clear k0 k1 k2 k3 k4 k5 k6 k7 k8; obtain ⟨-, -, -, -, -, -, k6, k7, k8⟩ := HKP.out _ HB4.out; clear hgc hfr hset hst ho3 hb3 hg hgl)
      | (go_at_call 15; (with_reducible refine (HLT.out _ _ _ _ HST.out).mono ?_); rintro e w5 ⟨rfl, hb5⟩; have HB6 := Lib.hid (HB5.out.trans (hb5.mono HB5.out.size)); have HST2 := Lib.hid (owns_mono (owns_later HST.out hb5) (nbox_up HB3.out).size); clear hb5))
    all_goals (go_ret2; exact ⟨_, _, _, rfl, by rw [HV.out]; exact HST2.out, HB6.out⟩)

theorem next_any {W : World} {ar az aw : Option Addr} {nr cr ns cs nw cw : Nat} {r s row : List Int} (hr : Ix W (.slice ar nr cr) r) (hs : Ix W (.slice az ns cs) s) (hw : Ix W (.slice aw nw cw) row) (lr : r.length ≤ 8) (ls : s.length ≤ 8) (lw : row.length ≤ 8) (x y z : Int) :
    Calls Try.prog 18 #[.agg #[.int .i64 0, .slice ar nr cr, .slice az ns cs, .int .i64 0, .int .i64 0, .int .i64 0], .slice aw nw cw, .agg #[.int .i64 x, .int .i64 y, .int .i64 z]] W fun e w' => ∃ ao n cap, e = .returned (.tuple #[.slice ao n cap, .bool (nextOk r s row (x, y, z))]) ∧ OwI w' W.heap.size (.slice ao n cap) n (nextV r s row (x, y, z)) ∧ Below W.heap.size W w' := by
  unfold nextV nextOk
  by_cases hc : (x, y, z) ∈ chV r s row
  · rw [decide_eq_true hc, if_pos rfl]
    exact next_yes hr hs hw lr ls lw hc
  · rw [decide_eq_false hc, if_neg (by decide)]
    exact (next_no hr hs hw lr ls lw hc).mono fun e w' h => ⟨none, 0, 0, h.1, World.ownsRow_nil _ _ _ _, h.2⟩

end Go.Proofs.Ytjlneggfkpjnpaa

namespace Go.Proofs.Ytjlneggfkpjnpaa
open Go.RowKit

theorem inB_no {lo hi : Int} {l : List Int} {k : Nat} (hk : k < l.length) (h : ¬ (lo ≤ l.getD k 0 ∧ l.getD k 0 ≤ hi)) : inB lo hi l = false := by
  cases hb : inB lo hi l with
  | false => rfl
  | true => exact absurd ((inB_iff.1 hb) k hk) h

set_option maxRecDepth 10000 in
set_option maxHeartbeats 1000000 in
theorem ranged_any {W : World} {v : Value} {l : List Int} (hX : Ix W v l) :
    Calls Try.prog 29 #[v] W fun e w' => e = .returned (.bool (inB 0 1048576 l)) ∧ w' = W := by
  obtain ⟨ao, cap, rfl⟩ := hX.mk'
  have hlen := hX.len
  unfold maxLen at hlen
  obtain ⟨n, hn⟩ : ∃ n, n = l.length := ⟨_, rfl⟩
  have HN := Lib.hid hn
  have HX := Lib.hid hX
  rw [← hn] at hlen HX ⊢
  clear hX hn
  go_enter Try.func29, Try.ntmps29
  go_wp2
  go_loop [3] (fun kv => ∃ k : Nat, k ≤ n ∧ kv = .int .i64 (k : Nat) ∧ Hid (∀ j, j < k → 0 ≤ l.getD j 0 ∧ l.getD j 0 ≤ 1048576)) (fun kv => n - (intOf kv).toNat)
  case atStart => exact ⟨0, by omega, rfl, Lib.hid (fun j h => by omega)⟩
  case round =>
    obtain ⟨k, hk, rfl, hJ⟩ := hrel
    by_cases hkn : k = n
    · have E : Hid (inB 0 1048576 l = true) := Lib.hid (inB_iff.2 fun j hj => hJ.out j (by rw [hkn, HN.out]; exact hj))
      subst hkn
      clear hJ
      go_wp2
      go_ret
      exact ⟨by rw [E.out] <;> rfl, rfl⟩
    · have hlt : k < n := by omega
      obtain ⟨b, off, rfl, hq, hcap, hbl, hcl⟩ := HX.out.at (by omega)
      have hc := hcl k hlt
      by_cases hin : 0 ≤ l.getD k 0 ∧ l.getD k 0 ≤ 1048576
      · have HJ2 : Hid (∀ j, j < k + 1 → 0 ≤ l.getD j 0 ∧ l.getD j 0 ≤ 1048576) := Lib.hid fun j hj => by
          rcases Nat.lt_or_ge j k with h | h
          · exact hJ.out j h
          · rw [show j = k by omega]; exact hin
        obtain ⟨x, hx⟩ : ∃ x, x = l.getD k 0 := ⟨_, rfl⟩
        rw [← hx] at hc hin
        obtain ⟨h1, h2⟩ := hin
        have h3 : ¬ x < 0 := by omega
        have h4 : ¬ 1048576 < x := by omega
        clear hx hcl hq hJ
        go_wp2
        go_round
        case rel => exact ⟨k + 1, by omega, by go_num, HJ2⟩
        case measure => simp [intOf]; omega
      · have E : Hid (inB 0 1048576 l = false) := Lib.hid (inB_no (by rw [← HN.out]; exact hlt) hin)
        obtain ⟨x, hx⟩ : ∃ x, x = l.getD k 0 := ⟨_, rfl⟩
        rw [← hx] at hc hin
        clear hx hcl hq hJ
        by_cases h3 : x < 0
        · clear hin
          go_wp2
          go_ret
          exact ⟨by rw [E.out] <;> rfl, rfl⟩
        · have h4 : 1048576 < x := by omega
          clear hin
          go_wp2
          go_ret
          exact ⟨by rw [E.out] <;> rfl, rfl⟩

set_option maxRecDepth 10000 in
set_option maxHeartbeats 1000000 in
theorem rLeft_any {W : World} {v : Value} {l : List Int} (hX : Ix W v l) (hl : l.length ≤ 1000) :
    Calls Try.prog 16 #[v] W fun e w' => e = .returned (.int .i64 (leftV l)) ∧ w' = W := by
  obtain ⟨ao, cap, rfl⟩ := hX.mk'
  have HW := Lib.hid (ranged_any hX)
  have HX := Lib.hid hX
  obtain ⟨n, hn⟩ : ∃ n, n = l.length := ⟨_, rfl⟩
  have HN := Lib.hid hn
  rw [← hn] at hl HX HW ⊢
  unfold leftV
  by_cases hin : inB 0 1048576 l = true
  · have HS := Lib.hid (sum_in hin)
    rw [if_pos hin]
    rw [hin] at HW
    obtain ⟨R, hR⟩ : ∃ R, R = l.sum := ⟨_, rfl⟩
    have HR := Lib.hid hR
    rw [← hR]
    clear hX hn hin hR
    go_enter Try.func16, Try.ntmps16
    go_wp2_with (go_at_call 29; refine HW.out.mono ?_; rintro e w1 ⟨rfl, rfl⟩)
    go_loop [3, 4] (fun sv kv => ∃ (k : Nat) (S : Int), k ≤ n ∧ 0 ≤ S ∧ S ≤ 1048576 * 1000 ∧ kv = .int .i64 (k : Nat) ∧ sv = .int .i64 S ∧ Hid (S = (l.take k).sum)) (fun _ kv => n - (intOf kv).toNat)
    case atStart => exact ⟨0, 0, by omega, by omega, by omega, rfl, rfl, Lib.hid (by simp)⟩
    case round =>
      obtain ⟨k, S, hk, hS0, hS1, rfl, rfl, hJ⟩ := hrel
      by_cases hkn : k = n
      · have e1 : S = R := by rw [hJ.out, HR.out, hkn, HN.out, List.take_length]
        subst hkn e1
        go_wp2
        go_ret
        exact ⟨rfl, rfl⟩
      · have hlt : k < n := by omega
        obtain ⟨b, off, rfl, hq, hcap, hbl, hcl⟩ := HX.out.at (by omega)
        have hc := hcl k hlt
        have hs := HS.out (k + 1) (by rw [← HN.out]; omega)
        have e := sum_take (l := l) (k := k) (by rw [← HN.out]; omega)
        rw [e, ← hJ.out] at hs
        rw [← hJ.out] at e
        obtain ⟨x, hx⟩ : ∃ x, x = l.getD k 0 := ⟨_, rfl⟩
        rw [← hx] at hc hs e
        obtain ⟨hs1, hs2⟩ := hs
        have hs3 : S + x ≤ 1048576 * 1000 := by omega
        have E := Lib.hid e
        clear hx hcl hq e hs2
        go_wp2
        go_round
        case rel => exact ⟨k + 1, S + x, by omega, hs1, hs3, by go_num, rfl, Lib.hid E.out.symm⟩
        case measure => simp [intOf]; omega
  · have hf : inB 0 1048576 l = false := by simpa using hin
    rw [if_neg hin]
    rw [hf] at HW
    clear hX hn hin hf
    go_enter Try.func16, Try.ntmps16
    go_wp2_with (go_at_call 29; refine HW.out.mono ?_; rintro e w1 ⟨rfl, rfl⟩)
    go_ret
    exact ⟨rfl, rfl⟩

attribute [local go_sem ↓] equal28

set_option maxRecDepth 10000 in
set_option maxHeartbeats 2000000 in
theorem has_any {W : World} {v : Value} {l : List Ch} (hX : Cx W v l) (x y z : Int) :
    Calls Try.prog 36 #[v, .agg #[.int .i64 x, .int .i64 y, .int .i64 z]] W fun e w' => e = .returned (.bool (decide ((x, y, z) ∈ l))) ∧ Below W.heap.size W w' := by
  obtain ⟨ao, cap, rfl⟩ := hX.mk'
  have hlen := hX.len
  unfold maxLen at hlen
  have HB0 := Lib.hid (cbox_below W (x, y, z))
  have HC0 := Lib.hid (cbox_is W (x, y, z))
  obtain ⟨n, hn⟩ : ∃ n, n = l.length := ⟨_, rfl⟩
  have HN := Lib.hid hn
  have HX := Lib.hid hX
  rw [← hn] at hlen HX ⊢
  clear hX hn
  go_enter Try.func36, Try.ntmps36
  go_wp2
  go_loopw [5] (fun kv wr => ∃ k : Nat, k ≤ n ∧ kv = .int .i64 (k : Nat) ∧ Hid (∀ j, j < k → l.getD j (0, 0, 0) ≠ (x, y, z)) ∧ Hid (Below (cbox W (x, y, z)).heap.size (cbox W (x, y, z)) wr)) (fun kv _ => n - (intOf kv).toNat)
  case atStart => exact ⟨0, by omega, rfl, Lib.hid (fun j h => by omega), Lib.hid (Below.refl _ _)⟩
  case round =>
    obtain ⟨k, hk, rfl, hJ, hB⟩ := hrel
    have HBW : Hid (Below W.heap.size W wr) := Lib.hid (HB0.out.trans (hB.out.mono (by simp)))
    by_cases hkn : k = n
    · have E : Hid (decide ((x, y, z) ∈ l) = false) := Lib.hid (decide_eq_false fun h => by
        obtain ⟨j, h1, h2⟩ := mem_getD h
        exact absurd h2 (hJ.out j (by rw [hkn, HN.out]; exact h1)))
      subst hkn
      clear hJ
      go_wp2
      go_ret
      exact ⟨by rw [E.out] <;> rfl, HBW.out⟩
    · have hlt : k < n := by omega
      obtain ⟨b, off, rfl, hcap, hbl, hcl⟩ := HX.out.at (by omega)
      obtain ⟨c0, c1, c2⟩ := hcl k hlt
      have c0 := cell_later HBW.out c0
      have c1 := cell_later HBW.out c1
      have c2 := cell_later HBW.out c2
      obtain ⟨d0, d1, d2⟩ := (HC0.out.below hB.out).cells
      have hq := eqC_iff (l.getD k (0, 0, 0)) (x, y, z)
      have hmem := getD_mem (l := l) (k := k) (by rw [← HN.out]; exact hlt)
      have HBD := Lib.hid hB.out.drew
      by_cases he : l.getD k (0, 0, 0) = (x, y, z)
      · rw [he] at c0 c1 c2 hq hmem
        simp only [decide_true] at hq
        have E : Hid (decide ((x, y, z) ∈ l) = true) := Lib.hid (decide_eq_true hmem)
        have HBD2 := Lib.hid HBW.out.drew
        clear hcl hJ hmem he
        go_wp2
        go_region
        go_wp2
        go_ret
        exact ⟨by rw [E.out] <;> rfl, HBD2.out⟩
      · have HJ2 : Hid (∀ j, j < k + 1 → l.getD j (0, 0, 0) ≠ (x, y, z)) := Lib.hid fun j hj => by
          rcases Nat.lt_or_ge j k with h | h
          · exact hJ.out j h
          · rw [show j = k by omega]; exact he
        rw [decide_eq_false he] at hq
        revert c0 c1 c2 hq
        generalize l.getD k (0, 0, 0) = q
        obtain ⟨p0, p1, p2⟩ := q
        intro c0 c1 c2 hq
        simp only at c0 c1 c2 hq
        clear hcl hJ hmem he
        go_wp2
        go_region
        go_wp2
        go_roundw
        case rel => exact ⟨k + 1, by omega, by go_num, HJ2, HBD⟩
        case measure => simp [intOf]; omega

theorem getD_ne {α : Type} {d : α} {a b : List α} (h : a.length = b.length) (he : a ≠ b) : ∃ k, k < a.length ∧ a.getD k d ≠ b.getD k d := by
  apply Classical.byContradiction
  intro hc
  apply he
  apply List.ext_getElem h
  intro k h1 h2
  apply Classical.byContradiction
  intro h3
  exact hc ⟨k, h1, by simpa [List.getD, h1, h2] using h3⟩

set_option maxRecDepth 10000 in
set_option maxHeartbeats 2000000 in
theorem same_any {w : World} {va vb : Value} {a b : List Ch} (ha : Cx w va a) (hb : Cx w vb b) : Calls Try.prog 13 #[va, vb] w fun e w' => e = .returned (.bool (decide (a = b))) ∧ Below w.heap.size w w' := by
  obtain ⟨aa, ca, rfl⟩ := ha.mk'
  obtain ⟨ab, cb, rfl⟩ := hb.mk'
  have hla := ha.len
  have hlb := hb.len
  unfold maxLen at hla hlb
  by_cases hlen : a.length = b.length
  · obtain ⟨n, hn⟩ : ∃ n, n = a.length := ⟨_, rfl⟩
    have hnb : n = b.length := by omega
    have HA := Lib.hid ha
    have HB := Lib.hid hb
    have HN := Lib.hid hn
    have HNB := Lib.hid hnb
    rw [← hn] at hla HA ⊢
    rw [← hnb] at HB ⊢
    clear hlen hlb hn hnb ha hb
    go_enter Try.func13, Try.ntmps13
    go_wp2
    go_loopw [5] (fun kv wr => ∃ k : Nat, k ≤ n ∧ kv = .int .i64 (k : Nat) ∧ Hid (∀ j, j < k → a.getD j (0, 0, 0) = b.getD j (0, 0, 0)) ∧ Hid (Below w.heap.size w wr)) (fun kv _ => n - (intOf kv).toNat)
    case atStart => exact ⟨0, by omega, rfl, Lib.hid (fun j h => by omega), Lib.hid (Below.refl _ _)⟩
    case round =>
      obtain ⟨k, hk, rfl, hJ, hBl⟩ := hrel
      by_cases hkn : k = n
      · have e1 : Hid (decide (a = b) = true) := Lib.hid (by
          rw [decide_eq_true_eq]
          apply Classical.byContradiction
          intro he
          obtain ⟨j, h1, h2⟩ := getD_ne (d := (0, 0, 0)) (by rw [← HN.out, ← HNB.out]) he
          exact h2 (hJ.out j (by rw [hkn, HN.out]; exact h1)))
        subst hkn
        clear hJ
        go_wp2
        go_ret
        exact ⟨by rw [e1.out] <;> rfl, hBl.out⟩
      · have hlt : k < n := by omega
        obtain ⟨b1, o1, rfl, hcap1, hbl1, hcl1⟩ := HA.out.at (by omega)
        obtain ⟨b2, o2, rfl, hcap2, hbl2, hcl2⟩ := HB.out.at (by omega)
        obtain ⟨c0, c1, c2⟩ := hcl1 k hlt
        obtain ⟨d0, d1, d2⟩ := hcl2 k hlt
        have c0 := cell_later hBl.out c0
        have c1 := cell_later hBl.out c1
        have c2 := cell_later hBl.out c2
        have d0 := cell_later hBl.out d0
        have d1 := cell_later hBl.out d1
        have d2 := cell_later hBl.out d2
        have hq := eqC_iff (a.getD k (0, 0, 0)) (b.getD k (0, 0, 0))
        have HBD := Lib.hid hBl.out.drew
        by_cases he : a.getD k (0, 0, 0) = b.getD k (0, 0, 0)
        · have HJ2 : Hid (∀ j, j < k + 1 → a.getD j (0, 0, 0) = b.getD j (0, 0, 0)) := Lib.hid fun j hj => by
            rcases Nat.lt_or_ge j k with h | h
            · exact hJ.out j h
            · rw [show j = k by omega]; exact he
          rw [he] at c0 c1 c2 hq
          simp only [decide_true] at hq
          revert c0 c1 c2 d0 d1 d2 hq
          generalize b.getD k (0, 0, 0) = q
          obtain ⟨p0, p1, p2⟩ := q
          intro c0 c1 c2 d0 d1 d2 hq
          simp only at c0 c1 c2 d0 d1 d2 hq
          clear he hcl1 hcl2 hJ
          go_wp2
          go_region
          go_wp2
          go_roundw
          case rel => exact ⟨k + 1, by omega, by go_num, HJ2, HBD⟩
          case measure => simp [intOf]; omega
        · have e1 : Hid (decide (a = b) = false) := Lib.hid (by
            rw [decide_eq_false_iff_not]
            intro h; rw [h] at he; exact he rfl)
          rw [decide_eq_false he] at hq
          revert c0 c1 c2 d0 d1 d2 hq
          generalize b.getD k (0, 0, 0) = q
          generalize a.getD k (0, 0, 0) = q'
          obtain ⟨p0, p1, p2⟩ := q
          obtain ⟨r0, r1, r2⟩ := q'
          intro c0 c1 c2 d0 d1 d2 hq
          simp only at c0 c1 c2 d0 d1 d2 hq
          clear hcl1 hcl2 hJ
          go_wp2
          go_region
          go_wp2
          go_ret
          exact ⟨by rw [e1.out] <;> rfl, HBD.out⟩
  · have e1 : decide (a = b) = false := by
      rw [decide_eq_false_iff_not]
      intro h; rw [h] at hlen; exact hlen rfl
    rw [e1]
    obtain ⟨n, hn⟩ : ∃ n, n = a.length := ⟨_, rfl⟩
    obtain ⟨m, hm⟩ : ∃ m, m = b.length := ⟨_, rfl⟩
    rw [← hn] at hla hlen ⊢
    rw [← hm] at hlb hlen ⊢
    have hne : ¬ (n : Int) = (m : Int) := by omega
    clear hn hm ha hb e1
    go_enter Try.func13, Try.ntmps13
    go_wp2
    go_ret
    exact ⟨rfl, Below.refl _ _⟩

set_option maxRecDepth 10000 in
set_option maxHeartbeats 2000000 in
theorem sameInts_any {w : World} {va vb : Value} {a b : List Int} (ha : Ix w va a) (hb : Ix w vb b) : Calls Try.prog 20 #[va, vb] w fun e w' => e = .returned (.bool (decide (a = b))) ∧ Below w.heap.size w w' := by
  obtain ⟨aa, ca, rfl⟩ := ha.mk'
  obtain ⟨ab, cb, rfl⟩ := hb.mk'
  have hla := ha.len
  have hlb := hb.len
  unfold maxLen at hla hlb
  by_cases hlen : a.length = b.length
  · obtain ⟨n, hn⟩ : ∃ n, n = a.length := ⟨_, rfl⟩
    have hnb : n = b.length := by omega
    have HA := Lib.hid ha
    have HB := Lib.hid hb
    have HN := Lib.hid hn
    have HNB := Lib.hid hnb
    rw [← hn] at hla HA ⊢
    rw [← hnb] at HB ⊢
    clear hlen hlb hn hnb ha hb
    go_enter Try.func20, Try.ntmps20
    go_wp2
    go_loopw [5] (fun kv wr => ∃ k : Nat, k ≤ n ∧ kv = .int .i64 (k : Nat) ∧ Hid (∀ j, j < k → a.getD j 0 = b.getD j 0) ∧ Hid (Below w.heap.size w wr)) (fun kv _ => n - (intOf kv).toNat)
    case atStart => exact ⟨0, by omega, rfl, Lib.hid (fun j h => by omega), Lib.hid (Below.refl _ _)⟩
    case round =>
      obtain ⟨k, hk, rfl, hJ, hBl⟩ := hrel
      by_cases hkn : k = n
      · have e1 : Hid (decide (a = b) = true) := Lib.hid (by
          rw [decide_eq_true_eq]
          apply Classical.byContradiction
          intro he
          obtain ⟨j, h1, h2⟩ := getD_ne (d := 0) (by rw [← HN.out, ← HNB.out]) he
          exact h2 (hJ.out j (by rw [hkn, HN.out]; exact h1)))
        subst hkn
        go_wp2
        go_ret
        exact ⟨by rw [e1.out] <;> rfl, hBl.out⟩
      · have hlt : k < n := by omega
        obtain ⟨b1, o1, rfl, hq1, hcap1, hbl1, hcl1⟩ := HA.out.at (by omega)
        obtain ⟨b2, o2, rfl, hq2, hcap2, hbl2, hcl2⟩ := HB.out.at (by omega)
        have c1 := cell_later hBl.out (hcl1 k hlt)
        have c2 := cell_later hBl.out (hcl2 k hlt)
        by_cases he : a.getD k 0 = b.getD k 0
        · have HJ2 : Hid (∀ j, j < k + 1 → a.getD j 0 = b.getD j 0) := Lib.hid fun j hj => by
            rcases Nat.lt_or_ge j k with h | h
            · exact hJ.out j h
            · rw [show j = k by omega]; exact he
          rw [← he] at c2
          obtain ⟨x, hx⟩ : ∃ x, x = a.getD k 0 := ⟨_, rfl⟩
          rw [← hx] at c1 c2
          have HBD := Lib.hid hBl.out.drew
          clear hx he hcl1 hcl2 hq1 hq2 hJ
          go_wp2
          go_region
          go_wp2
          go_roundw
          case rel => exact ⟨k + 1, by omega, by go_num, HJ2, HBD⟩
          case measure => simp [intOf]; omega
        · have e1 : Hid (decide (a = b) = false) := Lib.hid (by
            rw [decide_eq_false_iff_not]
            intro h; rw [h] at he; exact he rfl)
          obtain ⟨x, hx⟩ : ∃ x, x = a.getD k 0 := ⟨_, rfl⟩
          obtain ⟨y, hy⟩ : ∃ y, y = b.getD k 0 := ⟨_, rfl⟩
          rw [← hx] at c1 he
          rw [← hy] at c2 he
          have HBD := Lib.hid hBl.out.drew
          clear hx hy hcl1 hcl2 hq1 hq2 hJ
          go_wp2
          go_region
          go_wp2
          go_ret
          exact ⟨by rw [e1.out] <;> rfl, HBD.out⟩
  · have e1 : decide (a = b) = false := by
      rw [decide_eq_false_iff_not]
      intro h; rw [h] at hlen; exact hlen rfl
    rw [e1]
    obtain ⟨n, hn⟩ : ∃ n, n = a.length := ⟨_, rfl⟩
    obtain ⟨m, hm⟩ : ∃ m, m = b.length := ⟨_, rfl⟩
    rw [← hn] at hla hlen ⊢
    rw [← hm] at hlb hlen ⊢
    have hne : ¬ (n : Int) = (m : Int) := by omega
    clear hn hm ha hb e1
    go_enter Try.func20, Try.ntmps20
    go_wp2
    go_ret
    exact ⟨rfl, Below.refl _ _⟩

end Go.Proofs.Ytjlneggfkpjnpaa

namespace Go.Proofs.Ytjlneggfkpjnpaa
open Go.RowKit

/-- Is one of the first numbers greater than 0? -/
def posB (l : List Int) : Nat → Bool
  | 0 => false
  | k + 1 => posB l k || decide (0 < l.getD k 0)
theorem posB_any (l : List Int) : posB l l.length = l.any fun x => decide (0 < x) := by
  have h : ∀ k, k ≤ l.length → posB l k = (l.take k).any fun x => decide (0 < x) := fun k => by
    induction k with
    | zero => intro _; simp [posB]
    | succ k ih =>
      intro hk
      rw [posB, ih (by omega), List.take_add_one, List.getElem?_eq_getElem (by omega), List.any_append]
      have : k < l.length := by omega
      simp [List.getD, this]
  rw [h _ (Nat.le_refl _), List.take_length]

theorem hasB_no {r s : List Int} (h : r.length < 1 ∨ 6 < r.length ∨ s.length < 1 ∨ 3 < s.length) : hasB r s = false := by
  cases hb : hasB r s with
  | false => rfl
  | true => have := hasB_iff.1 hb; omega

set_option maxRecDepth 10000 in
set_option maxHeartbeats 2000000 in
theorem blocks_any {W : World} {ar az : Option Addr} {nr cr ns cs : Nat} {r s : List Int} (hr : Ix W (.slice ar nr cr) r) (hs : Ix W (.slice az ns cs) s) :
    Calls Try.prog 28 #[.agg #[.int .i64 0, .slice ar nr cr, .slice az ns cs, .int .i64 0, .int .i64 0, .int .i64 0]] W fun e w' => e = .returned (.bool (hasB r s)) ∧ Below W.heap.size W w' := by
  have hnr := hr.size
  have hns := hs.size
  have HB0 := Lib.hid (dbox_below W (.slice ar nr cr) (.slice az ns cs))
  by_cases hno : nr < 1 ∨ 6 < nr ∨ ns < 1 ∨ 3 < ns
  · rw [hasB_no (by rw [← hnr, ← hns]; exact hno)]
    clear hr hs hnr hns
    rcases Nat.lt_or_ge nr 1 with h1 | h1
    · clear hno
      go_enter Try.func28, Try.ntmps28
      go_wp2
      go_ret
      exact ⟨rfl, HB0.out⟩
    · rcases Nat.lt_or_ge 6 nr with h2 | h2
      · clear hno
        go_enter Try.func28, Try.ntmps28
        go_wp2
        go_ret
        exact ⟨rfl, HB0.out⟩
      · rcases Nat.lt_or_ge ns 1 with h3 | h3
        · clear hno
          go_enter Try.func28, Try.ntmps28
          go_wp2
          go_ret
          exact ⟨rfl, HB0.out⟩
        · have h4 : 3 < ns := by omega
          clear hno
          go_enter Try.func28, Try.ntmps28
          go_wp2
          go_ret
          exact ⟨rfl, HB0.out⟩
  · have h1 : 1 ≤ nr := by omega
    have h2 : nr ≤ 6 := by omega
    have h3 : 1 ≤ ns := by omega
    have h4 : ns ≤ 3 := by omega
    have HE : Hid (hasB r s = (inB 0 8 r && posB r nr && inB 1 4 s)) := Lib.hid (by
      unfold hasB hasR hasS
      rw [hnr, posB_any, decide_eq_true (show 1 ≤ r.length by omega), decide_eq_true (show r.length ≤ 6 by omega), decide_eq_true (show 1 ≤ s.length by omega), decide_eq_true (show s.length ≤ 3 by omega)]
      simp)
    have HR := Lib.hid (hr.below HB0.out)
    have HS := Lib.hid (hs.below HB0.out)
    have HNR := Lib.hid hnr
    have HNS := Lib.hid hns
    obtain ⟨R, hR⟩ : ∃ R, R = hasB r s := ⟨_, rfl⟩
    rw [← hR] at HE ⊢
    obtain ⟨k0, k1, k2, -, -, -⟩ := (dbox_is W (.slice ar nr cr) (.slice az ns cs)).cells
    clear hr hs hnr hns hno hR
    go_enter Try.func28, Try.ntmps28
    go_wp2
    go_loop [3, 4] (fun bv kv => ∃ k : Nat, k ≤ nr ∧ kv = .int .i64 (k : Nat) ∧ bv = .bool (posB r k) ∧ Hid (∀ j, j < k → 0 ≤ r.getD j 0 ∧ r.getD j 0 ≤ 8)) (fun _ kv => nr - (intOf kv).toNat)
    case atStart => exact ⟨0, by omega, rfl, rfl, Lib.hid (fun j h => by omega)⟩
    case round =>
      obtain ⟨k, hk, rfl, rfl, hJ⟩ := hrel
      by_cases hkn : k = nr
      · have E : Hid (R = (posB r nr && inB 1 4 s)) := Lib.hid (by
          rw [HE.out, inB_iff.2 fun j hj => hJ.out j (by rw [hkn, HNR.out]; exact hj)]; rfl)
        subst hkn
        obtain ⟨q, hq⟩ : ∃ q, q = posB r k := ⟨_, rfl⟩
        rw [← hq] at E ⊢
        clear hJ hq
        go_wp2
        go_loop [5] (fun kv => ∃ i : Nat, i ≤ ns ∧ kv = .int .i64 (i : Nat) ∧ Hid (∀ j, j < i → 1 ≤ s.getD j 0 ∧ s.getD j 0 ≤ 4)) (fun kv => ns - (intOf kv).toNat)
        case atStart => exact ⟨0, by omega, rfl, Lib.hid (fun j h => by omega)⟩
        case round =>
          obtain ⟨i, hi, rfl, hJ⟩ := hrel
          by_cases hin : i = ns
          · have E2 : Hid (R = q) := Lib.hid (by
              rw [E.out, inB_iff.2 fun j hj => hJ.out j (by rw [hin, HNS.out]; exact hj), Bool.and_true])
            subst hin
            clear hJ
            go_wp2
            go_ret
            exact ⟨by rw [E2.out] <;> rfl, HB0.out⟩
          · have hlt : i < ns := by omega
            obtain ⟨b, off, rfl, hq, hcap, hbl, hcl⟩ := HS.out.at (by omega)
            have hc := hcl i hlt
            by_cases hin : 1 ≤ s.getD i 0 ∧ s.getD i 0 ≤ 4
            · have HJ2 : Hid (∀ j, j < i + 1 → 1 ≤ s.getD j 0 ∧ s.getD j 0 ≤ 4) := Lib.hid fun j hj => by
                rcases Nat.lt_or_ge j i with h | h
                · exact hJ.out j h
                · rw [show j = i by omega]; exact hin
              obtain ⟨x, hx⟩ : ∃ x, x = s.getD i 0 := ⟨_, rfl⟩
              rw [← hx] at hc hin
              obtain ⟨h1, h2⟩ := hin
              clear hx hcl hq hJ
              go_wp2
              go_round
              case rel => exact ⟨i + 1, by omega, by go_num, HJ2⟩
              case measure => simp [intOf]; omega
            · have E2 : Hid (R = false) := Lib.hid (by rw [E.out, inB_no (by rw [← HNS.out]; exact hlt) hin, Bool.and_false])
              obtain ⟨x, hx⟩ : ∃ x, x = s.getD i 0 := ⟨_, rfl⟩
              rw [← hx] at hc hin
              clear hx hcl hq hJ
              by_cases h3 : x < 1
              · clear hin
                go_wp2
                go_ret
                exact ⟨by rw [E2.out] <;> rfl, HB0.out⟩
              · have h4 : 4 < x := by omega
                clear hin
                go_wp2
                go_ret
                exact ⟨by rw [E2.out] <;> rfl, HB0.out⟩
      · have hlt : k < nr := by omega
        obtain ⟨b, off, rfl, hq, hcap, hbl, hcl⟩ := HR.out.at (by omega)
        have hc := hcl k hlt
        by_cases hin : 0 ≤ r.getD k 0 ∧ r.getD k 0 ≤ 8
        · have HJ2 : Hid (∀ j, j < k + 1 → 0 ≤ r.getD j 0 ∧ r.getD j 0 ≤ 8) := Lib.hid fun j hj => by
            rcases Nat.lt_or_ge j k with h | h
            · exact hJ.out j h
            · rw [show j = k by omega]; exact hin
          have e : posB r (k + 1) = (posB r k || decide (0 < r.getD k 0)) := rfl
          have EP := Lib.hid e
          obtain ⟨x, hx⟩ : ∃ x, x = r.getD k 0 := ⟨_, rfl⟩
          rw [← hx] at hc hin EP
          obtain ⟨q, hqq⟩ : ∃ q, q = posB r k := ⟨_, rfl⟩
          rw [← hqq] at EP ⊢
          obtain ⟨h1, h2⟩ := hin
          clear hx hcl hq hJ e hqq
          cases q with
          | true =>
            go_wp2
            go_round
            case rel => exact ⟨k + 1, by omega, by go_num, by rw [EP.out] <;> rfl, HJ2⟩
            case measure => simp [intOf]; omega
          | false =>
            go_wp2
            go_round
            case rel => exact ⟨k + 1, by omega, by go_num, by rw [EP.out] <;> first | rfl | simp, HJ2⟩
            case measure => simp [intOf]; omega
        · have E2 : Hid (R = false) := Lib.hid (by rw [HE.out, inB_no (by rw [← HNR.out]; exact hlt) hin]; rfl)
          obtain ⟨x, hx⟩ : ∃ x, x = r.getD k 0 := ⟨_, rfl⟩
          rw [← hx] at hc hin
          obtain ⟨q, hqq⟩ : ∃ q, q = posB r k := ⟨_, rfl⟩
          rw [← hqq]
          clear hx hcl hq hJ hqq
          by_cases h3 : x < 0
          · clear hin
            go_wp2
            go_ret
            exact ⟨by rw [E2.out] <;> rfl, HB0.out⟩
          · have h4 : 8 < x := by omega
            clear hin
            go_wp2
            go_ret
            exact ⟨by rw [E2.out] <;> rfl, HB0.out⟩

end Go.Proofs.Ytjlneggfkpjnpaa
