/- Contract: Next. Condition: the slices read as ints, at most eight each. -/
import Derived.Test.YtjlneggfkpjnpaaF
import Derived.Deep.RegionHeld3
import Derived.Deep.RegionLaw
namespace Go.Proofs.Ytjlneggfkpjnpaa
open Go.RowKit

theorem fit_in {l : List Int} (h : inB 0 1048576 l = true) (k : Nat) : I64 (l.getD k 0) := by
  by_cases hk : k < l.length
  · have := (inB_iff.1 h) k hk
    constructor <;> omega
  · rw [show l.getD k 0 = 0 by simp [List.getD, List.getElem?_eq_none (Nat.le_of_not_lt hk)]]; decide

theorem getD_set {l : List Int} {k j : Nat} {x : Int} (hk : k < l.length) : (l.set k x).getD j 0 = if j = k then x else l.getD j 0 := by
  simp only [List.getD, List.getElem?_set]
  by_cases h : k = j
  · subst h; simp [hk]
  · rw [if_neg h, if_neg (fun e => h e.symm)]

theorem less_in {l : List Int} {k : Nat} (h : inB 0 1048576 l = true) (hk : k < l.length) (h1 : 1 ≤ l.getD k 0) : inB 0 1048576 (lessV l (k : Int)) = true := by
  rw [inB_iff]
  unfold lessV
  intro j hj
  rw [List.length_set] at hj
  rw [Int.toNat_natCast, getD_set hk]
  have := (inB_iff.1 h) j hj
  have := (inB_iff.1 h) k hk
  split <;> omega

theorem before_any {W : World} {ar az aw : Option Addr} {nr cr ns cs nw cw : Nat} {r s row : List Int} (hr : Ix W (.slice ar nr cr) r) (hw : Ix W (.slice aw nw cw) row) (lr : r.length ≤ 8) {x y z : Int} (hc : (x, y, z) ∈ chV r s row) :
    Calls Try.prog 35 #[.agg #[.int .i64 0, .slice ar nr cr, .slice az ns cs, .int .i64 0, .int .i64 0, .int .i64 0], .slice aw nw cw, .int .i64 y] W fun e w' => ∃ ao cap, e = .returned (.slice ao nr cap) ∧ OwI w' W.heap.size (.slice ao nr cap) nr (blockV r row y) ∧ Below W.heap.size W w' := by
  obtain ⟨hB, hy, hin, hlen, k, hk, -⟩ := ch_facts hc
  have hnr := hr.size
  rcases hy with ⟨h0, hl⟩ | ⟨h1, h4⟩
  · subst h0
    have := before_old (ar := ar) (az := az) (nr := nr) (cr := cr) (ns := ns) (cs := cs) hw (by omega) (by omega)
    rw [hl, ← hnr] at this
    exact this
  · have := before_new (az := az) (aw := aw) (ns := ns) (cs := cs) (nw := nw) (cw := cw) hr (hasB_iff.1 hB).1.2.2.1 lr h1 h4
    rw [← hnr] at this
    have e : blockV r row y = r.map fun x => y * x := by unfold blockV; rw [if_neg (by omega)]
    rw [e]
    exact this

theorem chV_len {r s row : List Int} (lr : r.length ≤ 8) (ls : s.length ≤ 8) (lw : row.length ≤ 8) : (chV r s row).length ≤ 64 := by
  unfold chV
  split
  · split
    · have := coll_len 0 row row.length; omega
    · exact Nat.le_trans (blks_len r s _) (Nat.le_trans (Nat.mul_le_mul ls lr) (by decide))
  · simp

theorem chV_fit {r s row : List Int} {c : Ch} (h : c ∈ chV r s row) (lr : r.length ≤ 8) : (1 ≤ c.1 ∧ c.1 ≤ 1048576) ∧ (0 ≤ c.2.1 ∧ c.2.1 ≤ 4) ∧ (0 ≤ c.2.2 ∧ c.2.2 < r.length) := by
  obtain ⟨x, y, z⟩ := c
  obtain ⟨hB, hy, hin, hlen, k, hk, hz, h1, h2⟩ := ch_facts h
  refine ⟨?_, by simp only; omega, by simp only; omega⟩
  unfold chV at h
  split at h
  · split at h
    · obtain ⟨j, hj, h0, he⟩ := mem_coll.1 h
      rename_i hl
      have hin : inB 0 1048576 row = true := by
        unfold leftV at hl
        split at hl
        · assumption
        · omega
      injection he with e1 e2
      have := (inB_iff.1 hin) j hj
      simp only; omega
    · obtain ⟨i, hi, hc⟩ := mem_blks.1 h
      obtain ⟨j, hj, h0, he⟩ := mem_coll.1 hc
      injection he with e1 e2
      have := (inB_iff.1 (hasB_iff.1 hB).1.2.2.1) j hj
      simp only; omega
  · simp at h

theorem fit_of {l : List Ch} (h : ∀ c ∈ l, I64 c.1 ∧ I64 c.2.1 ∧ I64 c.2.2) : ∀ k, I64 (l.getD k (0, 0, 0)).1 ∧ I64 (l.getD k (0, 0, 0)).2.1 ∧ I64 (l.getD k (0, 0, 0)).2.2 := fun k => by
  by_cases hk : k < l.length
  · exact h _ (getD_mem hk)
  · have : l.getD k (0, 0, 0) = (0, 0, 0) := by simp [List.getD, List.getElem?_eq_none (Nat.le_of_not_lt hk)]
    rw [this]; exact ⟨by decide, by decide, by decide⟩

theorem OwC.chx {W : World} {B n : Nat} {v : Value} {r s row : List Int} (h : OwC W B v n (chV r s row)) (lr : r.length ≤ 8) (ls : s.length ≤ 8) (lw : row.length ≤ 8) : Cx W v (chV r s row) :=
  h.cx (by have := owC_len h; have := chV_len lr ls lw; omega) (fit_of fun c hc => by
    obtain ⟨a, b, c⟩ := chV_fit hc lr
    exact ⟨⟨by omega, by omega⟩, ⟨by omega, by omega⟩, ⟨by omega, by omega⟩⟩)

/-- The two boxes of Next. -/
abbrev nbox (W : World) (vr vs : Value) (x y z : Int) : World := cbox (dbox W vr vs) (x, y, z)
theorem nbox_below (W : World) (vr vs : Value) (x y z : Int) : Below W.heap.size W (nbox W vr vs x y z) := (dbox_below W vr vs).trans ((cbox_below _ _).mono (by simp))
theorem nbox_cells {W W' : World} {vr vs : Value} {x y z : Int} (h : Below (nbox W vr vs x y z).heap.size (nbox W vr vs x y z) W') : (W'.cell? ⟨W.heap.size, 0, none⟩ = some (.int .i64 0) ∧ W'.cell? ⟨W.heap.size, 1, none⟩ = some vr ∧ W'.cell? ⟨W.heap.size, 2, none⟩ = some vs ∧ W'.cell? ⟨W.heap.size, 3, none⟩ = some (.int .i64 0) ∧ W'.cell? ⟨W.heap.size, 4, none⟩ = some (.int .i64 0) ∧ W'.cell? ⟨W.heap.size, 5, none⟩ = some (.int .i64 0)) ∧ W'.cell? ⟨W.heap.size + 1, 0, none⟩ = some (.int .i64 x) ∧ W'.cell? ⟨W.heap.size + 1, 1, none⟩ = some (.int .i64 y) ∧ W'.cell? ⟨W.heap.size + 1, 2, none⟩ = some (.int .i64 z) := by
  have h1 : DBox (nbox W vr vs x y z) W.heap.size vr vs := DBox.below (dbox_is W vr vs) (cbox_below _ _)
  have h2 : CBox (nbox W vr vs x y z) (W.heap.size + 1) (x, y, z) := by
    have := cbox_is (dbox W vr vs) (x, y, z)
    rwa [dbox_size] at this
  exact ⟨(h1.below h).cells, (h2.below h).cells⟩
theorem nbox_flat {W W' : World} {vr vs : Value} {x y z : Int} (h : Below (nbox W vr vs x y z).heap.size (nbox W vr vs x y z) W') : W'.cell? ⟨W.heap.size, 0, none⟩ = some (.int .i64 0) ∧ W'.cell? ⟨W.heap.size, 1, none⟩ = some vr ∧ W'.cell? ⟨W.heap.size, 2, none⟩ = some vs ∧ W'.cell? ⟨W.heap.size, 3, none⟩ = some (.int .i64 0) ∧ W'.cell? ⟨W.heap.size, 4, none⟩ = some (.int .i64 0) ∧ W'.cell? ⟨W.heap.size, 5, none⟩ = some (.int .i64 0) ∧ W'.cell? ⟨W.heap.size + 1, 0, none⟩ = some (.int .i64 x) ∧ W'.cell? ⟨W.heap.size + 1, 1, none⟩ = some (.int .i64 y) ∧ W'.cell? ⟨W.heap.size + 1, 2, none⟩ = some (.int .i64 z) := by
  obtain ⟨⟨a, b, c, d, e, f⟩, g⟩ := nbox_cells h
  exact ⟨a, b, c, d, e, f, g⟩
theorem nbox_up {W W' : World} {vr vs : Value} {x y z : Int} (h : Below (nbox W vr vs x y z).heap.size (nbox W vr vs x y z) W') : Below W.heap.size W W' := (nbox_below W vr vs x y z).trans (h.mono (by simp; omega))

set_option maxRecDepth 10000 in
set_option maxHeartbeats 4000000 in
theorem next_no {W : World} {ar az aw : Option Addr} {nr cr ns cs nw cw : Nat} {r s row : List Int} (hr : Ix W (.slice ar nr cr) r) (hs : Ix W (.slice az ns cs) s) (hw : Ix W (.slice aw nw cw) row) (lr : r.length ≤ 8) (ls : s.length ≤ 8) (lw : row.length ≤ 8) {x y z : Int} (hc : ¬ (x, y, z) ∈ chV r s row) :
    Calls Try.prog 18 #[.agg #[.int .i64 0, .slice ar nr cr, .slice az ns cs, .int .i64 0, .int .i64 0, .int .i64 0], .slice aw nw cw, .agg #[.int .i64 x, .int .i64 y, .int .i64 z]] W fun e w' => e = .returned (.tuple #[.slice none 0 0, .bool false]) ∧ Below W.heap.size W w' := by
  have HB := Lib.hid (Below.refl (nbox W (.slice ar nr cr) (.slice az ns cs) x y z).heap.size (nbox W (.slice ar nr cr) (.slice az ns cs) x y z))
  have HCH := Lib.hid (fun W' (hb : Below (nbox W (.slice ar nr cr) (.slice az ns cs) x y z).heap.size (nbox W (.slice ar nr cr) (.slice az ns cs) x y z) W') => choices_any (hr.below (nbox_up hb)) (hs.below (nbox_up hb)) (hw.below (nbox_up hb)) lr ls lw)
  have HCO := Lib.hid (fun W' v (B n : Nat) (h : OwC W' B v n (chV r s row)) => contains_any (h.chx lr ls lw) x y z)
  rw [decide_eq_false hc] at HCO
  have HKP := Lib.hid (fun W' (hb : Below (nbox W (.slice ar nr cr) (.slice az ns cs) x y z).heap.size (nbox W (.slice ar nr cr) (.slice az ns cs) x y z) W') => nbox_flat hb)
  obtain ⟨k0, k1, k2, k3, k4, k5, k6, k7, k8⟩ := HKP.out _ HB.out
  clear hr hs hw hc lr ls lw
  go_enter Try.func18, Try.ntmps18
  go_wp2
  go_region_held3 (fun W' => W'.cell? ⟨W.heap.size, 0, none⟩ = some (.int .i64 0) ∧ W'.cell? ⟨W.heap.size, 1, none⟩ = some (.slice ar nr cr) ∧ W'.cell? ⟨W.heap.size, 2, none⟩ = some (.slice az ns cs) ∧ W'.cell? ⟨W.heap.size, 3, none⟩ = some (.int .i64 0) ∧ W'.cell? ⟨W.heap.size, 4, none⟩ = some (.int .i64 0) ∧ W'.cell? ⟨W.heap.size, 5, none⟩ = some (.int .i64 0) ∧ W'.cell? ⟨W.heap.size + 1, 0, none⟩ = some (.int .i64 x) ∧ W'.cell? ⟨W.heap.size + 1, 1, none⟩ = some (.int .i64 y) ∧ W'.cell? ⟨W.heap.size + 1, 2, none⟩ = some (.int .i64 z))
    (first | (with_reducible exact HKP.out _ HB.out) | (exact HKP.out _ HB.out.drew) | (with_reducible exact HKP.out _ HB2.out) | (with_reducible exact HKP.out _ HB3.out))
    ((first
    | (go_at_call 14; (refine (HCH.out _ HB.out.drew).mono ?_); rintro e w1 ⟨ao1, n1, cap1, rfl, ho, hb⟩; have HO := Lib.hid ho; have HB2 := Lib.hid (HB.out.drew.trans (hb.mono HB.out.drew.size)); clear ho hb)
    | (go_at_call 34; (with_reducible refine (HCO.out _ _ _ _ HO.out).mono ?_); rintro e w2 ⟨rfl, hb2⟩; have HB3 := Lib.hid (HB2.out.trans (hb2.mono HB2.out.size)); clear hb2)))
  go_wp2
  go_ret2
  exact ⟨rfl, nbox_up HB3.out⟩

theorem OwI.set_left {W : World} {B n g cap : Nat} {b : List Int} {k : Nat} (h : OwI W B (.slice (some ⟨g, 0, none⟩) n cap) n (b.set k (b.getD k 0 - 1))) (hin : inB 0 1048576 b = true) (hk : k < b.length) (h1 : 1 ≤ b.getD k 0) (hl : n ≤ 8) :
    Calls Try.prog 15 #[.slice (some ⟨g, 0, none⟩) n cap] W fun e w' => e = .returned (.int .i64 (leftV (lessV b (k : Int)))) ∧ Below W.heap.size W w' := by
  have hI : inB 0 1048576 (b.set k (b.getD k 0 - 1)) = true := less_in hin hk h1
  have hn := owI_len h
  rw [List.length_set] at hn
  exact left_any (h.ix (by omega) (fit_in hI)) (by show (b.set k (b.getD k 0 - 1)).length ≤ 1000; rw [List.length_set]; omega)

set_option maxRecDepth 10000 in
set_option maxHeartbeats 4000000 in
theorem next_yes {W : World} {ar az aw : Option Addr} {nr cr ns cs nw cw : Nat} {r s row : List Int} (hr : Ix W (.slice ar nr cr) r) (hs : Ix W (.slice az ns cs) s) (hw : Ix W (.slice aw nw cw) row) (lr : r.length ≤ 8) (ls : s.length ≤ 8) (lw : row.length ≤ 8) {x y z : Int} (hc : (x, y, z) ∈ chV r s row) :
    Calls Try.prog 18 #[.agg #[.int .i64 0, .slice ar nr cr, .slice az ns cs, .int .i64 0, .int .i64 0, .int .i64 0], .slice aw nw cw, .agg #[.int .i64 x, .int .i64 y, .int .i64 z]] W fun e w' => ∃ ao n cap, e = .returned (.tuple #[.slice ao n cap, .bool true]) ∧ OwI w' W.heap.size (.slice ao n cap) n (if leftV (lessV (blockV r row y) z) = 0 then [] else lessV (blockV r row y) z) ∧ Below W.heap.size W w' := by
  obtain ⟨hB, hy, hin, hlen, k, hk, hz, h1, h2⟩ := ch_facts hc
  subst hz
  have HBF := Lib.hid (fun W' (hb : Below W.heap.size W W') => before_any (az := az) (ns := ns) (cs := cs) (hr.below hb) (hw.below hb) lr hc)
  have HB := Lib.hid (Below.refl (nbox W (.slice ar nr cr) (.slice az ns cs) x y k).heap.size (nbox W (.slice ar nr cr) (.slice az ns cs) x y k))
  have HCH := Lib.hid (fun W' (hb : Below (nbox W (.slice ar nr cr) (.slice az ns cs) x y k).heap.size (nbox W (.slice ar nr cr) (.slice az ns cs) x y k) W') => choices_any (hr.below (nbox_up hb)) (hs.below (nbox_up hb)) (hw.below (nbox_up hb)) lr ls lw)
  have HCO := Lib.hid (fun W' v (B n : Nat) (h : OwC W' B v n (chV r s row)) => contains_any (h.chx lr ls lw) x y k)
  rw [decide_eq_true hc] at HCO
  have HKP := Lib.hid (fun W' (hb : Below (nbox W (.slice ar nr cr) (.slice az ns cs) x y k).heap.size (nbox W (.slice ar nr cr) (.slice az ns cs) x y k) W') => nbox_flat hb)
  obtain ⟨k0, k1, k2, k3, k4, k5, k6, k7, k8⟩ := HKP.out _ HB.out
  have hnr := hr.size
  have hk8 : k < nr := by omega
  have hnr8 : nr ≤ 8 := by omega
  have HLT := Lib.hid (fun (W' : World) (B g cap : Nat) h => OwI.set_left (W := W') (B := B) (n := nr) (g := g) (cap := cap) (b := blockV r row y) (k := k) h hin (by omega) h1 hnr8)
  have HLEN := Lib.hid hlen
  obtain ⟨b, hb⟩ : ∃ b, b = blockV r row y := ⟨_, rfl⟩
  rw [← hb] at HBF HLT h1 h2 HLEN ⊢
  have HV : Hid (lessV b (k : Int) = b.set k (b.getD k 0 - 1)) := Lib.hid rfl
  obtain ⟨T, hT⟩ : ∃ T, T = leftV (lessV b (k : Int)) := ⟨_, rfl⟩
  rw [← hT] at HLT ⊢
  obtain ⟨q, hq⟩ : ∃ q, q = b.getD k 0 := ⟨_, rfl⟩
  have HQ := Lib.hid hq
  rw [← hq] at HLT h1 h2 HV
  clear hr hs hw hc lr ls lw hB hy hin hlen hnr hk hb hT hq
  by_cases hT0 : T = 0
  · subst hT0
    rw [if_pos rfl]
    go_enter Try.func18, Try.ntmps18
    go_wp2
    go_region_held3 (fun W' => W'.cell? ⟨W.heap.size, 0, none⟩ = some (.int .i64 0) ∧ W'.cell? ⟨W.heap.size, 1, none⟩ = some (.slice ar nr cr) ∧ W'.cell? ⟨W.heap.size, 2, none⟩ = some (.slice az ns cs) ∧ W'.cell? ⟨W.heap.size, 3, none⟩ = some (.int .i64 0) ∧ W'.cell? ⟨W.heap.size, 4, none⟩ = some (.int .i64 0) ∧ W'.cell? ⟨W.heap.size, 5, none⟩ = some (.int .i64 0) ∧ W'.cell? ⟨W.heap.size + 1, 0, none⟩ = some (.int .i64 x) ∧ W'.cell? ⟨W.heap.size + 1, 1, none⟩ = some (.int .i64 y) ∧ W'.cell? ⟨W.heap.size + 1, 2, none⟩ = some (.int .i64 k))
    (first | (with_reducible exact HKP.out _ HB.out) | (exact HKP.out _ HB.out.drew) | (with_reducible exact HKP.out _ HB2.out) | (with_reducible exact HKP.out _ HB3.out))
    ((first
    | (go_at_call 14; (refine (HCH.out _ HB.out.drew).mono ?_); rintro e w1 ⟨ao1, n1, cap1, rfl, ho, hb⟩; have HO := Lib.hid ho; have HB2 := Lib.hid (HB.out.drew.trans (hb.mono HB.out.drew.size)); clear ho hb)
    | (go_at_call 34; (with_reducible refine (HCO.out _ _ _ _ HO.out).mono ?_); rintro e w2 ⟨rfl, hb2⟩; have HB3 := Lib.hid (HB2.out.trans (hb2.mono HB2.out.size)); clear hb2)))
    clear k0 k1 k2 k3 k4 k5 k6 k7 k8
    obtain ⟨k0, k1, k2, k3, k4, k5, k6, k7, k8⟩ := HKP.out _ HB3.out
    go_wp2_with (first
      | (go_at_call 35; (with_reducible refine (HBF.out _ (nbox_up HB3.out)).mono ?_); rintro e w3 ⟨ao3, cap3, rfl, ho3, hb3⟩; obtain ⟨g, cap4, e4, hcap, hg, hgl, hgc, hfr, hset⟩ := ho3.parts (by omega); injection e4 with e4 _ e5; subst e4 e5; have c9 := hgc k hk8; have f9 := hfr k; have hst := hset k (q - 1) hk8; rw [← HQ.out] at c9; have HST := Lib.hid hst; have HB4 := Lib.hid (HB3.out.trans (hb3.mono HB3.out.size)); have HB5 := Lib.hid ((nbox_up HB4.out).setCell (p := ⟨g, k, none⟩) (by have := (nbox_up HB3.out).size; simp only; omega) (.int .i64 (q - 1))); clear k0 k1 k2 k3 k4 k5 k6 k7 k8; obtain ⟨-, -, -, -, -, -, k6, k7, k8⟩ := HKP.out _ HB4.out; clear hgc hfr hset hst ho3 hb3 hg hgl)
      | (go_at_call 15; (with_reducible refine (HLT.out _ _ _ _ HST.out).mono ?_); rintro e w5 ⟨rfl, hb5⟩; have HB6 := Lib.hid (HB5.out.trans (hb5.mono HB5.out.size)); clear hb5))
    all_goals (go_ret2; exact ⟨none, 0, 0, rfl, World.ownsRow_nil _ _ _ _, HB6.out⟩)
  · rw [if_neg hT0]
    go_enter Try.func18, Try.ntmps18
    go_wp2
    go_region_held3 (fun W' => W'.cell? ⟨W.heap.size, 0, none⟩ = some (.int .i64 0) ∧ W'.cell? ⟨W.heap.size, 1, none⟩ = some (.slice ar nr cr) ∧ W'.cell? ⟨W.heap.size, 2, none⟩ = some (.slice az ns cs) ∧ W'.cell? ⟨W.heap.size, 3, none⟩ = some (.int .i64 0) ∧ W'.cell? ⟨W.heap.size, 4, none⟩ = some (.int .i64 0) ∧ W'.cell? ⟨W.heap.size, 5, none⟩ = some (.int .i64 0) ∧ W'.cell? ⟨W.heap.size + 1, 0, none⟩ = some (.int .i64 x) ∧ W'.cell? ⟨W.heap.size + 1, 1, none⟩ = some (.int .i64 y) ∧ W'.cell? ⟨W.heap.size + 1, 2, none⟩ = some (.int .i64 k))
    (first | (with_reducible exact HKP.out _ HB.out) | (exact HKP.out _ HB.out.drew) | (with_reducible exact HKP.out _ HB2.out) | (with_reducible exact HKP.out _ HB3.out))
    ((first
    | (go_at_call 14; (refine (HCH.out _ HB.out.drew).mono ?_); rintro e w1 ⟨ao1, n1, cap1, rfl, ho, hb⟩; have HO := Lib.hid ho; have HB2 := Lib.hid (HB.out.drew.trans (hb.mono HB.out.drew.size)); clear ho hb)
    | (go_at_call 34; (with_reducible refine (HCO.out _ _ _ _ HO.out).mono ?_); rintro e w2 ⟨rfl, hb2⟩; have HB3 := Lib.hid (HB2.out.trans (hb2.mono HB2.out.size)); clear hb2)))
    clear k0 k1 k2 k3 k4 k5 k6 k7 k8
    obtain ⟨k0, k1, k2, k3, k4, k5, k6, k7, k8⟩ := HKP.out _ HB3.out
    go_wp2_with (first
      | (go_at_call 35; (with_reducible refine (HBF.out _ (nbox_up HB3.out)).mono ?_); rintro e w3 ⟨ao3, cap3, rfl, ho3, hb3⟩; obtain ⟨g, cap4, e4, hcap, hg, hgl, hgc, hfr, hset⟩ := ho3.parts (by omega); injection e4 with e4 _ e5; subst e4 e5; have c9 := hgc k hk8; have f9 := hfr k; have hst := hset k (q - 1) hk8; rw [← HQ.out] at c9; have HST := Lib.hid hst; have HB4 := Lib.hid (HB3.out.trans (hb3.mono HB3.out.size)); have HB5 := Lib.hid ((nbox_up HB4.out).setCell (p := ⟨g, k, none⟩) (by have := (nbox_up HB3.out).size; simp only; omega) (.int .i64 (q - 1))); clear k0 k1 k2 k3 k4 k5 k6 k7 k8; obtain ⟨-, -, -, -, -, -, k6, k7, k8⟩ := HKP.out _ HB4.out; clear hgc hfr hset hst ho3 hb3 hg hgl)
      | (go_at_call 15; (with_reducible refine (HLT.out _ _ _ _ HST.out).mono ?_); rintro e w5 ⟨rfl, hb5⟩; have HB6 := Lib.hid (HB5.out.trans (hb5.mono HB5.out.size)); have HST2 := Lib.hid (owns_mono (owns_later HST.out hb5) (nbox_up HB3.out).size); clear hb5))
    all_goals (go_ret2; exact ⟨_, _, _, rfl, by rw [HV.out]; exact HST2.out, HB6.out⟩)

theorem next_any {W : World} {ar az aw : Option Addr} {nr cr ns cs nw cw : Nat} {r s row : List Int} (hr : Ix W (.slice ar nr cr) r) (hs : Ix W (.slice az ns cs) s) (hw : Ix W (.slice aw nw cw) row) (lr : r.length ≤ 8) (ls : s.length ≤ 8) (lw : row.length ≤ 8) (x y z : Int) :
    Calls Try.prog 18 #[.agg #[.int .i64 0, .slice ar nr cr, .slice az ns cs, .int .i64 0, .int .i64 0, .int .i64 0], .slice aw nw cw, .agg #[.int .i64 x, .int .i64 y, .int .i64 z]] W fun e w' => ∃ ao n cap, e = .returned (.tuple #[.slice ao n cap, .bool (nextOk r s row (x, y, z))]) ∧ OwI w' W.heap.size (.slice ao n cap) n (nextV r s row (x, y, z)) ∧ Below W.heap.size W w' := by
  unfold nextV nextOk
  by_cases hc : (x, y, z) ∈ chV r s row
  · rw [decide_eq_true hc, if_pos rfl]
    exact next_yes hr hs hw lr ls lw hc
  · rw [decide_eq_false hc, if_neg (by decide)]
    exact (next_no hr hs hw lr ls lw hc).mono fun e w' h => ⟨none, 0, 0, h.1, World.ownsRow_nil _ _ _ _, h.2⟩

end Go.Proofs.Ytjlneggfkpjnpaa
