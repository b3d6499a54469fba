/- The law BlockOnly, walked. Condition: the arguments fit their types. -/
import Derived.Test.YtjlneggfkpjnpaaR1
import Derived.Test.YtjlneggfkpjnpaaN
import Derived.Deep.RegionHeld3
import Derived.BigQuiet
namespace Go.Proofs.Ytjlneggfkpjnpaa
open Go.RowKit

/-- The two boxes. -/
abbrev oW (W : World) (va vb : Value) (x y z : Int) : World := (W.alloc (.cells #[va, vb] 24)).alloc (.cells #[.int .i64 x, .int .i64 y, .int .i64 z] 28)
theorem o_box {W W' : World} {va vb : Value} {x y z : Int} (h : ∀ j, j < W.heap.size + 1 → W'.heap[j]? = (oW W va vb x y z).heap[j]?) : W'.cell? ⟨W.heap.size, 0, none⟩ = some va ∧ W'.cell? ⟨W.heap.size, 1, none⟩ = some vb := by
  have h1 : W'.heap[W.heap.size]? = some (.cells #[va, vb] 24 (0, 0)) := (h W.heap.size (by omega)).trans ((Below.heap_alloc _ _ _ (by simp)).trans (heap_alloc_new _ _))
  exact ⟨cell_of_row _ _ _ _ _ _ h1, cell_of_row _ _ _ _ _ _ h1⟩
theorem o_box2 {W W' : World} {va vb : Value} {x y z : Int} (h : Below (oW W va vb x y z).heap.size (oW W va vb x y z) W') : W'.cell? ⟨W.heap.size, 0, none⟩ = some va ∧ W'.cell? ⟨W.heap.size, 1, none⟩ = some vb := o_box fun j hj => h.block j (by simp; omega)
theorem o_up (W : World) (va vb : Value) (x y z : Int) : Below W.heap.size W (oW W va vb x y z) := ((Below.refl _ W).alloc (Nat.le_refl _) _).alloc (by simp) _
theorem o_ch (W : World) (va vb : Value) (x y z : Int) : CBox (oW W va vb x y z) (W.heap.size + 1) (x, y, z) := by
  have := heap_alloc_new (W.alloc (.cells #[va, vb] 24)) (.cells #[.int .i64 x, .int .i64 y, .int .i64 z] 28)
  rwa [World.size_alloc] at this

/-- All but one block is as it was. -/
structure Apart (b : Nat) (w w' : World) : Prop where
  size : w.heap.size ≤ w'.heap.size
  same : ∀ j, j < w.heap.size → j ≠ b → w'.heap[j]? = w.heap[j]?
theorem Apart.owns {b : Nat} {W W' : World} {B n : Nat} {v : Value} {l : List Int} (h : OwI W B v n l) (ha : Apart b W W') (hB : b < B) : OwI W' B v n l := by
  refine owns_same h fun g hg => ha.same g (own_lt h hg) ?_
  have := (h.lt g hg).1
  omega
theorem Apart.dbox {b g : Nat} {W W' : World} {vr vs : Value} (h : DBox W g vr vs) (ha : Apart b W W') (hB : b ≠ g) : DBox W' g vr vs := by
  have hl : g < W.heap.size := (Array.getElem?_eq_some_iff.1 h).1
  exact (ha.same g hl (Ne.symm hB)).trans h
theorem Apart.of_below {b B : Nat} {W W' : World} (h : Below W.heap.size W W') : Apart b W W' := ⟨h.size, fun j hj _ => h.block j hj⟩

theorem rwV_zero (l : List Int) : rwV l 0 = [] := by unfold rwV; simp
theorem OwC.row {W : World} {B n : Nat} {v : Value} {l : List Ch} (h : OwC W B v n l) (hn : n ≠ 0) : ∃ g cap cur, v = .slice (some ⟨g, 0, none⟩) n cap ∧ n ≤ cap ∧ B ≤ g ∧ W.heap[g]? = some (.cells cur 28 (0, 0)) ∧ cur.size = cap * 3 := by
  rcases h.2 with ⟨hv, h0⟩ | ⟨g, cap, cur, hv, hB, hg, hc, hm, hs, ht⟩
  · exact absurd h0 hn
  · exact ⟨g, cap, cur, hv, hc, hB, hg, hs⟩
theorem chV_some {la s row : List Int} (hH : hasB (ratV la 4) s = true) (hF : fitB (ratV la 4) row = true) : (chV (ratV la 4) s row).length ≠ 0 := by
  intro hn
  by_cases hl : 0 < leftV row
  · rw [chV_row hH hF hl] at hn
    unfold leftV at hl
    split at hl
    · rename_i hi
      have := (coll_nil hi row.length (Nat.le_refl _)).1 hn
      rw [List.take_length] at this
      omega
    · omega
  · rw [chV_new hH hF hl] at hn
    obtain ⟨m, hm⟩ : ∃ m, s.length = m + 1 := ⟨s.length - 1, by have := (hasB_iff.1 hH).2.1; omega⟩
    rw [hm, blks, List.length_append] at hn
    have h0 : ((ratV la 4).getD 0 0, s.getD m 0, ((0 : Nat) : Int)) ∈ coll (s.getD m 0) (ratV la 4) (ratV la 4).length := mem_coll.2 ⟨0, by have := ratV_len la; omega, by show 0 < (1 : Int); decide, rfl⟩
    have := List.length_pos_of_mem h0
    omega
/-- The choice's box, to be written. -/
abbrev ChB (W : World) (g : Nat) (x y z : Int) : Prop := W.cell? ⟨g, 0, none⟩ = some (.int .i64 x) ∧ W.cell? ⟨g, 1, none⟩ = some (.int .i64 y) ∧ W.cell? ⟨g, 2, none⟩ = some (.int .i64 z) ∧ W.frozen? ⟨g, 0, none⟩ = false ∧ W.frozen? ⟨g, 1, none⟩ = false ∧ W.frozen? ⟨g, 2, none⟩ = false
theorem chB_of {W W' : World} {g : Nat} {c : Ch} (h : CBox W g c) (hb : Below W.heap.size W W') : ChB W' g c.1 c.2.1 c.2.2 := by
  have h2 := h.below hb
  obtain ⟨f0, f1, f2⟩ := h2.cells
  exact ⟨f0, f1, f2, frozen_of_row _ _ _ _ _ h2, frozen_of_row _ _ _ _ _ h2, frozen_of_row _ _ _ _ _ h2⟩
theorem ch_set {W W' : World} {g : Nat} {c d : Ch} (h : CBox W g c) (hb : Below W.heap.size W W') {B : Nat} (hB : B ≤ g) {Wf : World} (hf : Wf = ((W'.setCell ⟨g, 0, none⟩ (.int .i64 d.1)).setCell ⟨g, 1, none⟩ (.int .i64 d.2.1)).setCell ⟨g, 2, none⟩ (.int .i64 d.2.2)) :
    CBox Wf g d ∧ Apart g W Wf ∧ Below B W Wf := by
  have h2 : W'.heap[g]? = some (.cells #[.int .i64 c.1, .int .i64 c.2.1, .int .i64 c.2.2] 28 (0, 0)) := h.below hb
  have hlt : g < W.heap.size := (Array.getElem?_eq_some_iff.1 h).1
  have k1 := heap_setCell_same _ g 0 _ 28 (.int .i64 d.1) h2
  have k2 := heap_setCell_same _ g 1 _ 28 (.int .i64 d.2.1) k1
  have k3 := heap_setCell_same _ g 2 _ 28 (.int .i64 d.2.2) k2
  subst hf
  refine ⟨k3, ⟨by simp only [World.setCell, Array.size_modify]; exact hb.size, fun j hj hne => ?_⟩, ?_⟩
  · repeat rw [Below.heap_setCell _ _ _ _ (by simpa using hne)]
    exact hb.block j hj
  · exact (((hb.mono (by omega)).setCell hB _).setCell hB _).setCell hB _

/-- What the walk asks of the choices. -/
theorem only_pack {W : World} {ar az aw : Option Addr} {nr cr ns cs nw cw : Nat} {r s row : List Int} (hr : Ix W (.slice ar nr cr) r) (hs : Ix W (.slice az ns cs) s) (hw : Ix W (.slice aw nw cw) row) (lr : r.length ≤ 8) (ls : s.length ≤ 8) (lw : row.length ≤ 8) (hne : (chV r s row).length ≠ 0) :
    ∃ L : List Ch, L.length ≤ 64 ∧ L.length ≠ 0 ∧ (∀ k, k < L.length → ∃ (x y : Int) (a : Nat), L.getD k (0, 0, 0) = (x, y, (a : Int)) ∧ 1 ≤ x ∧ a < nr) ∧ (ns = 1 → ∀ k, k + 1 < L.length → (L.getD k (0, 0, 0)).2.2 < (L.getD (k + 1) (0, 0, 0)).2.2) ∧
      (∀ W', Below W.heap.size W W' → Calls Try.prog 14 #[.agg #[.int .i64 0, .slice ar nr cr, .slice az ns cs, .int .i64 0, .int .i64 0, .int .i64 0], .slice aw nw cw] W' fun e w' => ∃ g cap cur, e = .returned (.slice (some ⟨g, 0, none⟩) L.length cap) ∧ L.length ≤ cap ∧ W'.heap.size ≤ g ∧ w'.heap[g]? = some (.cells cur 28 (0, 0)) ∧ cur.size = cap * 3 ∧ (∀ j, j < L.length → w'.cell? ⟨g, j * 3, none⟩ = some (.int .i64 (L.getD j (0, 0, 0)).1) ∧ w'.cell? ⟨g, j * 3 + 1, none⟩ = some (.int .i64 (L.getD j (0, 0, 0)).2.1) ∧ w'.cell? ⟨g, j * 3 + 2, none⟩ = some (.int .i64 (L.getD j (0, 0, 0)).2.2)) ∧ Below W'.heap.size W' w') ∧
      (∀ W', Below W.heap.size W W' → ∀ c : Ch, Calls Try.prog 18 #[.agg #[.int .i64 0, .slice ar nr cr, .slice az ns cs, .int .i64 0, .int .i64 0, .int .i64 0], .slice aw nw cw, .agg #[.int .i64 c.1, .int .i64 c.2.1, .int .i64 c.2.2]] W' fun e w' => ∃ ao n cap l, e = .returned (.tuple #[.slice ao n cap, .bool (decide (c ∈ L))]) ∧ OwI w' W'.heap.size (.slice ao n cap) n l ∧ l.length ≤ 8 ∧ Below W'.heap.size W' w') := by
  refine ⟨chV r s row, chV_len lr ls lw, hne, fun k hk => ?_, fun h1 k hk => ch_incr (by rw [← hs.size]; exact h1) hk, fun W' hb => ?_, fun W' hb c => ?_⟩
  · have hm := getD_mem hk
    have hf := chV_fit hm lr
    revert hf
    generalize (chV r s row).getD k (0, 0, 0) = c
    obtain ⟨x, y, z⟩ := c
    intro hf
    simp only at hf
    exact ⟨x, y, z.toNat, by rw [Int.toNat_of_nonneg hf.2.2.1], hf.1.1, by have := hr.size; omega⟩
  · refine (choices_any (hr.below hb) (hs.below hb) (hw.below hb) lr ls lw).mono fun e w' h => ?_
    obtain ⟨ao, n, cap, rfl, ho, hb2⟩ := h
    have hn := owC_len ho
    have hX := ho.chx lr ls lw
    obtain ⟨g, cap2, cur, e2, h1, h2, h3, h4⟩ := ho.row (by omega)
    injection e2 with e3 _ e4
    subst e3 e4
    subst hn
    obtain ⟨b, off, e5, _, _, hcl⟩ := hX.at hne
    injection e5 with e5
    injection e5 with e6 e7
    subst e6 e7
    exact ⟨g, cap, cur, rfl, h1, h2, h3, h4, fun j hj => by have := hcl j hj; simpa only [Nat.zero_add] using this, hb2⟩
  · refine (next_any (hr.below hb) (hs.below hb) (hw.below hb) lr ls lw c.1 c.2.1 c.2.2).mono fun e w' h => ?_
    obtain ⟨ao, n, cap, h1, h2, h3⟩ := h
    exact ⟨ao, n, cap, _, h1, h2, nextV_len lr, h3⟩

attribute [local go_sem ↓] appI_rw
attribute [local go_sem ↓] equal28
theorem field33_1 (a b c d e f : Value) (w : World) : (Instr.field 33 (.agg #[a, b, c, d, e, f]) 1).run Try.prog w = .ok b w := by kernel_rfl
theorem field33_2 (a b c d e f : Value) (w : World) : (Instr.field 33 (.agg #[a, b, c, d, e, f]) 2).run Try.prog w = .ok c w := by kernel_rfl
attribute [local go_sem ↓] field33_1 field33_2

set_option maxRecDepth 100000 in
set_option maxHeartbeats 8000000 in
theorem blockOnly_any {W : World} {va vb v1 : Value} {la lb l1 : List Int} (ha : Ux W va la) (hb : Ux W vb lb) (h1 : Ux W v1 l1) {x y z : Int} (hx : I64 x) (hy : I64 y) (hz : I64 z) :
    Calls Try.prog 7 #[.agg #[va, vb], v1, .agg #[.int .i64 x, .int .i64 y, .int .i64 z]] W fun e w' => e = .returned (.bool true) ∧ Below W.heap.size W w' := by
  have HSA := Lib.hid (fun W' => sanity_any W')
  have HB := Lib.hid (Below.refl (oW W va vb x y z).heap.size (oW W va vb x y z))
  have HPB := Lib.hid (fun W' (h : Below (oW W va vb x y z).heap.size (oW W va vb x y z) W') => o_box2 h)
  have HUP := Lib.hid (fun W' (h : Below (oW W va vb x y z).heap.size (oW W va vb x y z) W') => (o_up W va vb x y z).trans (h.mono (o_up W va vb x y z).size))
  have HMA := Lib.hid (fun W' (h : Below W.heap.size W W') => made_any (ha.below h) (hb.below h))
  have HMX := Lib.hid (fun W' (h : Below W.heap.size W W') => made_ix (ha.below h) (hb.below h))
  have HSZ : (oW W va vb x y z).heap.size = W.heap.size + 1 + 1 := by simp
  have hl1 := h1.len
  unfold maxLen at hl1
  obtain ⟨a1, c1, rfl⟩ := h1.mk'
  obtain ⟨n1, hn1⟩ : ∃ n1, n1 = l1.length := ⟨_, rfl⟩
  have HN1 := Lib.hid hn1
  have H1 := Lib.hid h1
  rw [← hn1] at H1 hl1 ⊢
  have HSZ2 := Lib.hid HSZ
  clear ha hb h1 hn1 HSZ
  go_enter Try.func7, Try.ntmps7
  go_upto_region 3 with (first
    | (go_at_call 8; (with_reducible refine (HSA.out _).mono ?_); rintro e w1 ⟨rfl, hb⟩; have HB := Lib.hid (HB.out.trans (hb.mono HB.out.size)); obtain ⟨b0, b1⟩ := HPB.out _ HB.out; clear hb)
    | (go_at_call 9; (with_reducible refine (HMA.out _ (HUP.out _ HB.out)).mono ?_); rintro e w2 ⟨ar, nr, cr, az, ns, cs, rfl, hr, hs, hb⟩; have HR := Lib.hid hr; have HS := Lib.hid hs; have HB2 := Lib.hid (HB.out.trans (hb.mono HB.out.size)); clear hb hr hs))
  change Code.wp _ _ _ _ (dbox w2 (.slice ar nr cr) (.slice az ns cs))
  have hD := dbox_is w2 (.slice ar nr cr) (.slice az ns cs)
  have hR := owns_later HR.out (dbox_below w2 (.slice ar nr cr) (.slice az ns cs))
  have hS := owns_later HS.out (dbox_below w2 (.slice ar nr cr) (.slice az ns cs))
  have hB3 := HB2.out.trans ((dbox_below w2 (.slice ar nr cr) (.slice az ns cs)).mono HB2.out.size)
  have hH10 : W.heap.size + 1 < w2.heap.size := by have := HB2.out.size; rw [HSZ2.out] at this; omega
  have hBB : W.heap.size + 1 < w1.heap.size := by have := HB.out.size; rw [HSZ2.out] at this; omega
  generalize dbox w2 (.slice ar nr cr) (.slice az ns cs) = W3 at hD hR hS hB3 ⊢
  generalize w2.heap.size = g8 at hD hH10 ⊢
  generalize w1.heap.size = B1 at hR hS hBB
  have HD := Lib.hid hD
  have HR3 := Lib.hid hR
  have HS3 := Lib.hid hS
  have HB3 := Lib.hid hB3
  have HH10 := Lib.hid hH10
  have HBB := Lib.hid hBB
  have hnrl := owI_len hR
  have hnr : nr ≤ 5 := by have := ratV_len la; omega
  have hnr1 : 1 ≤ nr := by have := ratV_len la; omega
  have HNRL := Lib.hid hnrl
  obtain ⟨k0, k1, k2, k3, k4, k5⟩ := hD.cells
  clear hD hR hS hB3 HB2 HR HS HB HSA HMA b0 b1 hH10 hBB hnrl
  go_upto_region 5 with fail
  go_loopw [9, 27] (fun sv kv wr => ∃ (k n : Nat) (ao2 : Option Addr) (cap2 : Nat), k ≤ nr ∧ kv = .int .i64 (k : Nat) ∧ sv = .slice ao2 n cap2 ∧ Hid (OwI wr W3.heap.size (.slice ao2 n cap2) n (rwV l1 k)) ∧ Hid (Below W3.heap.size W3 wr)) (fun _ kv _ => nr - (intOf kv).toNat)
  case atStart => exact ⟨0, 0, none, 0, by omega, rfl, rfl, Lib.hid (by rw [rwV_zero]; exact World.ownsRow_nil _ _ _ _), Lib.hid (Below.refl _ _)⟩
  case round =>
    obtain ⟨k, n, ao2, cap2, hk, rfl, rfl, hO, hB⟩ := hrel
    by_cases hkn : k = nr
    · subst hkn
      have hnk : n ≤ k := by
        have e1 := owI_len hO.out
        have e2 := rwV_len (l := l1) k
        split at e2 <;> omega
      obtain ⟨ao3, cap3, w5, hrun, hown, hb5⟩ := copy_own hO.out (by omega)
      have HX := Lib.hid (owns_later hO.out hb5)
      have HCP := Lib.hid hown
      have hB5 := hB.out.trans (hb5.mono hB.out.size)
      have HD5 := Lib.hid (HD.out.below hB5)
      have HR5 := Lib.hid (owns_later HR3.out hB5)
      have HS5 := Lib.hid (owns_later HS3.out hB5)
      have hB6 := HB3.out.trans (hB5.mono HB3.out.size)
      have HB6 := Lib.hid hB6
      have hCB : CBox w5 (W.heap.size + 1) (x, y, z) := (o_ch W va vb x y z).below hB6
      have hB24 := HPB.out _ hB6
      have HB24 := Lib.hid hB24
      have hUP6 := HUP.out _ hB6
      have HUP6 := Lib.hid hUP6
      have HCB := Lib.hid hCB
      have HWR : Hid (W.heap.size + 1 < wr.heap.size) := Lib.hid (by have := HB3.out.size; rw [HSZ2.out] at this; have := hB.out.size; omega)
      clear hO hown hb5 hB5 hB6 hB hCB hB24 hUP6 k0 k1 k2 k3 k4 k5
      go_upto_region 13 with fail
      go_cut [11] from 53 to 62 (fun sv wx => sv = .slice ao3 n cap3 ∧ ∃ c : Ch, Hid (CBox wx (W.heap.size + 1) c) ∧ Hid (Apart (W.heap.size + 1) w5 wx) ∧ Hid (Below W.heap.size w5 wx))
      case first =>
        have HCH := Lib.hid (fun W' (h : Below w5.heap.size w5 W') => chB_of HCB.out h)
        have HSET := Lib.hid (fun (d : Ch) W' (h : Below w5.heap.size w5 W') Wf hf => ch_set (d := d) HCB.out h (B := W.heap.size) (by omega) (Wf := Wf) hf)
        have HB0 := Lib.hid (Below.refl w5.heap.size w5)
        have HPK := Lib.hid pick_any
        have HM1 : Hid (∀ W', Calls Try.prog 11 #[.int .i64 x, .int .i64 5] W' fun e w' => e = .returned (.int .i64 (x % 5)) ∧ w' = W') := Lib.hid (fun W' => mod_any x hx 5 (by decide) (by decide) W')
        have HM2 : Hid (∀ W', Calls Try.prog 11 #[.int .i64 y, .int .i64 5] W' fun e w' => e = .returned (.int .i64 (y % 5)) ∧ w' = W') := Lib.hid (fun W' => mod_any y hy 5 (by decide) (by decide) W')
        have HM3 : Hid (∀ W', Calls Try.prog 11 #[.int .i64 z, .int .i64 6] W' fun e w' => e = .returned (.int .i64 (z % 6)) ∧ w' = W') := Lib.hid (fun W' => mod_any z hz 6 (by decide) (by decide) W')
        generalize hg : W.heap.size + 1 = g5 at *
        obtain ⟨q0, q1, q2, r0, r1, r2⟩ := HCH.out _ HB0.out
        have hlt5 : g5 < w5.heap.size := (Array.getElem?_eq_some_iff.1 HCB.out).1
        go_region_law (go_simp; (first
            | (go_at_call 11; (with_reducible refine (HM1.out _).mono ?_); rintro e wm1 ⟨rfl, rfl⟩)
            | (go_at_call 11; (with_reducible refine (HM2.out _).mono ?_); rintro e wm2 ⟨rfl, rfl⟩)
            | (go_at_call 11; (with_reducible refine (HM3.out _).mono ?_); rintro e wm3 ⟨rfl, rfl⟩)
            | (go_at_call 17; (refine (HPK.out _ _ _ _).mono ?_); rintro e wp ⟨rfl, hb⟩; (first | (have HB1 := Lib.hid (HB0.out.trans (hb.mono HB0.out.size))) | (have HB1 := Lib.hid (HB0.out.drew.trans (hb.mono HB0.out.drew.size)))); clear hb; obtain ⟨q0, q1, q2, r0, r1, r2⟩ := HCH.out _ HB1.out)))
        all_goals (go_wp2_with fail; go_meet; exact ⟨rfl, (x % 5, y % 5, z % 6), Lib.hid (HSET.out (x % 5, y % 5, z % 6) _ HB1.out _ rfl).1, Lib.hid (HSET.out (x % 5, y % 5, z % 6) _ HB1.out _ rfl).2.1, Lib.hid (HSET.out (x % 5, y % 5, z % 6) _ HB1.out _ rfl).2.2⟩)
      case' rest =>
        obtain ⟨rfl, c, hC, hAP, hBL⟩ := hcut
        have hlt5 : W.heap.size + 1 < w5.heap.size := (Array.getElem?_eq_some_iff.1 HCB.out).1
        have hUP7 := HUP6.out.trans hBL.out
        have hD7 := Apart.dbox HD5.out hAP.out (by have := HH10.out; omega)
        have hX7 := (Apart.owns HX.out hAP.out (by have := HB3.out.size; rw [HSZ2.out] at this; omega)).ix (by omega) (fit_small (rwV_in _ _) (by decide) (by decide))
        have hCP7 := (Apart.owns HCP.out hAP.out HWR.out).ix (by omega) (fit_small (rwV_in _ _) (by decide) (by decide))
        have hR7 := (Apart.owns HR5.out hAP.out HBB.out).ix (by omega) (fit_small (ratV_in la) (by decide) (by decide))
        have hS7 : Ix wc (.slice az ns cs) (sizD lb) := (show OwI wc B1 (.slice az ns cs) ns (sizD lb) from Apart.owns HS5.out hAP.out HBB.out).ix (by have := owI_len HS5.out; have := sizD_len lb; unfold sizD at this; omega) (fit_small (sizD_in lb) (by decide) (by decide))
        have hbx0 : wc.cell? ⟨W.heap.size, 0, none⟩ = some va := (World.cell?_of_block (hAP.out.same W.heap.size (by omega) (by omega))).trans HB24.out.1
        have hbx1 : wc.cell? ⟨W.heap.size, 1, none⟩ = some vb := (World.cell?_of_block (hAP.out.same W.heap.size (by omega) (by omega))).trans HB24.out.2
        have hlr : (ratV la 4).length ≤ 8 := by have := ratV_len la; omega
        have hls : (sizD lb).length ≤ 8 := by have := sizD_len lb; omega
        have hlw : (rwV l1 k).length ≤ 8 := by have := hX7.size; omega
        have hfitB : fitB (ratV la 4) (rwV l1 k) = true := by have := hR7.size; rw [show k = (ratV la 4).length from this]; exact rwV_fit _ _
        obtain ⟨L, hL64, hL0, hLF, hLI, hLC, hLN⟩ := only_pack hR7 hS7 hX7 hlr hls hlw (chV_some (has_made la lb) hfitB)
        obtain ⟨px, py, pz⟩ := c
        have HLB : Hid (W.heap.size + 1 < wc.heap.size) := Lib.hid (Nat.lt_of_lt_of_le hlt5 hAP.out.size)
        obtain ⟨wb, hwb⟩ : ∃ wb, wb = wc := ⟨_, rfl⟩
        subst hwb
        obtain ⟨k0, k1, k2, k3, k4, k5⟩ := hD7.cells
        obtain ⟨m, hm⟩ : ∃ m, m = L.length := ⟨_, rfl⟩
        simp only [← hm] at hL64 hL0 hLF hLI hLC
        have HM := Lib.hid hm
        have HLF := Lib.hid hLF
        have HLI := Lib.hid hLI
        have HLC := Lib.hid hLC
        have HLN := Lib.hid hLN
        have HDC := Lib.hid (fun W' (h : Below wb.heap.size wb W') => DBox.cells (hD7.below h))
        have HBX := Lib.hid (fun W' (h : Below wb.heap.size wb W') => And.intro (cell_later h hbx0) (cell_later h hbx1))
        have HCC := Lib.hid (fun W' (h : Below wb.heap.size wb W') => CBox.cells (hC.out.below h))
        have HSX := Lib.hid (fun W' (h : Below wb.heap.size wb W') => sameInts_yes (hX7.below h) (hCP7.below h))
        have HSR := Lib.hid (fun W' v (h : Below wb.heap.size wb W') (h2 : Ix W' v (ratV la 4)) => sameInts_yes (hR7.below h) h2)
        have HSS := Lib.hid (fun W' v (h : Below wb.heap.size wb W') (h2 : Ix W' v (sizD lb)) => sameInts_yes (hS7.below h) h2)
        have HMY := Lib.hid (fun W' (h : Below wb.heap.size wb W') => HMX.out W' (hUP7.trans (h.mono hUP7.size)))
        have HUP7 := Lib.hid hUP7
        clear hm hLF hLI hLC hLN hD7 hX7 hCP7 hR7 hS7 hbx0 hbx1 hC hAP hBL hUP7 HMX hlr hls hlw hfitB hlt5 HX HCP HD5 HR5 HS5 HB6 HB24 HUP6 HCB HWR HUP HPB HB3 HD HR3 HS3 HH10 HBB HNRL HSZ2 H1 HN1
        go_upto_region 17 with (go_at_call 14; (with_reducible refine (HLC.out _ (Below.refl _ _)).mono ?_); rintro e wA ⟨gA, capA, curA, rfl, hcapA, hgA, hrow, hszA, hcl, hbA⟩; have HROW := Lib.hid hrow; have HCL := Lib.hid hcl; have HBA := Lib.hid hbA; clear hrow hcl hbA k0 k1 k2 k3 k4 k5)
        have hgA2 : gA < wA.heap.size := (Array.getElem?_eq_some_iff.1 HROW.out).1
        go_loopw [13, 68] (fun tv kv wr => ∃ j : Nat, j ≤ m ∧ kv = .int .i64 (j : Nat) ∧ tv = .bool (thV L (px, py, pz) j) ∧ Hid (Below wA.heap.size wA wr)) (fun _ kv _ => m - (intOf kv).toNat)
        case atStart => exact ⟨0, by omega, rfl, rfl, Lib.hid (Below.refl _ _)⟩
        case round =>
          obtain ⟨j, hj, rfl, rfl, hB⟩ := hrel
          by_cases hjm : j = m
          · subst hjm
            have hbw := HBA.out.trans (hB.out.mono HBA.out.size)
            obtain ⟨k0, k1, k2, k3, k4, k5⟩ := HDC.out _ hbw
            obtain ⟨c0, c1, c2⟩ := HCC.out _ hbw
            have hg8 : g8 < wr.heap.size := World.block_lt_of_cell? _ _ k0
            have hbx : W.heap.size + 1 < wr.heap.size := World.block_lt_of_cell? _ _ c0
            have hTH : thV L (px, py, pz) j = decide ((px, py, pz) ∈ L) := by rw [show j = L.length from HM.out]; exact thV_iff _ _
            have hnp := fun W' h => HLN.out W' h (px, py, pz)
            simp only at hnp
            have HS8 := Lib.hid (fun W' (h : Below wb.heap.size wb W') => And.intro (HBX.out W' h).1 (And.intro (HBX.out W' h).2 (HDC.out W' h)))
            have HBW := Lib.hid hbw
            have hszB := hB.out.size
            rw [hTH]
            clear HLF HLI HLN HM HCL HCC HBX hTH hbw
            revert hnp
            generalize decide ((px, py, pz) ∈ L) = BB
            intro hnp
            have HNP := Lib.hid hnp
            clear hnp
            go_upto_region 28 with (go_at_call 18; (with_reducible refine (HNP.out _ HBW.out).mono ?_); rintro e wN ⟨aN, nN, cN, lN, rfl, hoN, hlN, hb⟩; have HON := Lib.hid hoN; have HBN := Lib.hid (hB.out.trans (hb.mono hB.out.size)); clear hoN hb)
            have hnN : nN ≤ 8 := by have := owI_len HON.out; omega
            clear k0 k1 k2 k3 k4 k5 c0 c1 c2 hbx hlN hB HBW HNP
            revert HON hszB
            generalize wr.heap.size = BN
            intro hszB HON
            go_loopw [165] (fun kv wr => ∃ (i : Nat) (l : List Int), i ≤ nN ∧ kv = .int .i64 (i : Nat) ∧ Hid (OwI wr BN (.slice aN nN cN) nN l) ∧ Hid (Below wA.heap.size wA wr)) (fun kv _ => nN - (intOf kv).toNat)
            case atStart => exact ⟨0, _, by omega, rfl, HON, HBN⟩
            case round =>
              obtain ⟨i, l, hi, rfl, hO, hB⟩ := hrel
              by_cases hin : i = nN
              · subst hin
                have HROW2 : Hid (wr.heap[gA]? = some (.cells curA 28 (0, 0))) := Lib.hid ((hB.out.block gA hgA2).trans HROW.out)
                have HB5 : Hid (Below wb.heap.size wb wr) := Lib.hid (HBA.out.trans (hB.out.mono HBA.out.size))
                clear hO hB HROW HBN HON
                go_upto_region 33 with fail
                go_loopw [174] (fun kv wr => ∃ (i : Nat) (cur : Array Value), i ≤ j ∧ kv = .int .i64 (i : Nat) ∧ Hid (wr.heap[gA]? = some (.cells cur 28 (0, 0))) ∧ cur.size = capA * 3 ∧ Hid (Below wb.heap.size wb wr)) (fun kv _ => j - (intOf kv).toNat)
                case atStart => exact ⟨0, _, by omega, rfl, HROW2, hszA, HB5⟩
                case round =>
                  obtain ⟨i, cur, hi, rfl, hR, hsz, hB⟩ := hrel
                  by_cases hin : i = j
                  · subst hin
                    have HBN := Lib.hid hB.out.drew
                    have hp1 : 0 < i := by omega
                    have hp2 : (0 : Int) < (i : Int) := by omega
                    have hp3 : decide ((0 : Int) < (i : Int)) = true := decide_eq_true hp2
                    clear hR hB hsz HROW2 HB5
                    cases BB
                    all_goals
                      go_upto_region 37 with fail
                      go_region_held3 (fun W' => W'.cell? ⟨W.heap.size, 0, none⟩ = some va ∧ W'.cell? ⟨W.heap.size, 1, none⟩ = some vb ∧ W'.cell? ⟨g8, 0, none⟩ = some (.int .i64 0) ∧ W'.cell? ⟨g8, 1, none⟩ = some (.slice ar k cr) ∧ W'.cell? ⟨g8, 2, none⟩ = some (.slice az ns cs) ∧ W'.cell? ⟨g8, 3, none⟩ = some (.int .i64 0) ∧ W'.cell? ⟨g8, 4, none⟩ = some (.int .i64 0) ∧ W'.cell? ⟨g8, 5, none⟩ = some (.int .i64 0))
                        (with_reducible exact HS8.out _ HBN.out)
                        ((first
                          | (go_at_call 20; (with_reducible refine (HSX.out _ HBN.out).mono ?_); rintro e w1 ⟨rfl, hb⟩; have HBN := Lib.hid (HBN.out.trans (hb.mono HBN.out.size)); clear hb)
                          | (go_at_call 9; (with_reducible refine (HMY.out _ HBN.out).mono ?_); rintro e w2 ⟨ar2, nr2, cr2, az2, ns2, cs2, rfl, hr2, hs2, hb⟩; have HR2 := Lib.hid hr2; have HS2 := Lib.hid hs2; have HBN := Lib.hid (HBN.out.trans (hb.mono HBN.out.size)); clear hb hr2 hs2)
                          | (go_at_call 20; (with_reducible refine (HSR.out _ _ HBN.out HR2.out).mono ?_); rintro e w3 ⟨rfl, hb⟩; have HBN := Lib.hid (HBN.out.trans (hb.mono HBN.out.size)); clear hb)
                          | (go_at_call 20; (with_reducible refine (HSS.out _ _ HBN.out HS2.out).mono ?_); rintro e w4 ⟨rfl, hb⟩; have HBN := Lib.hid (HBN.out.trans (hb.mono HBN.out.size)); clear hb)
                          | (go_at_call 14; (with_reducible refine (HLC.out _ HBN.out).mono ?_); rintro e w5 ⟨gC, capC, curC, rfl, -, -, -, -, -, hb⟩; have HBN := Lib.hid (HBN.out.trans (hb.mono HBN.out.size)); clear hb)))
                      (go_wp2; go_ret; exact ⟨rfl, HUP7.out.trans (HBN.out.mono HUP7.out.size)⟩)
                  · have hlt : i < j := by omega
                    have hlt3 : i * 3 < cur.size := by omega
                    have c9 : wr.cell? ⟨gA, i * 3, none⟩ = some cur[i * 3] := (cell_of_row _ _ _ _ _ _ hR.out).trans (Array.getElem?_eq_getElem hlt3)
                    have f9 : wr.frozen? ⟨gA, i * 3, none⟩ = false := frozen_of_row _ _ _ _ _ hR.out
                    have hR2 := heap_setCell_same _ gA (i * 3) _ 28 (.int .i64 (-1)) hR.out
                    have hb := hB.out.setCell (p := ⟨gA, i * 3, none⟩) hgA (.int .i64 (-1))
                    have HR2 := Lib.hid hR2
                    have HB6 := Lib.hid hb
                    have hsz2 : (cur.setIfInBounds (i * 3) (.int .i64 (-1))).size = capA * 3 := by simp [hsz]
                    clear hR hB hR2 hb
                    go_wp2
                    go_roundw
                    case rel => exact ⟨i + 1, _, by omega, by go_num, HR2, hsz2, HB6⟩
                    case measure => simp [intOf]; omega
              · have hlt : i < nN := by omega
                obtain ⟨gN, cN2, e, hcap, hgB, hgl, hgc, hfr, hset⟩ := hO.out.parts (by omega)
                injection e with e1 _ e2
                subst e1 e2
                have c9 := hgc i hlt
                have f9 := hfr i
                have HST := Lib.hid (hset i (-1) hlt)
                have HB6 := Lib.hid (hB.out.setCell (p := ⟨gN, i, none⟩) (Nat.le_trans hszB hgB) (.int .i64 (-1)))
                clear hgc hfr hset hO hB HON HBN
                go_wp2
                go_roundw
                case rel => exact ⟨i + 1, _, by omega, by go_num, HST, HB6⟩
                case measure => simp [intOf]; omega
          · have hlt : j < m := by omega
            obtain ⟨cx, cy, a, hc, hcx, hca⟩ := HLF.out j hlt
            obtain ⟨f0, f1, f2⟩ := HCL.out j hlt
            rw [hc] at f0 f1 f2
            simp only at f0 f1 f2
            have F0 := Lib.hid f0
            have F1 := Lib.hid f1
            have F2 := Lib.hid f2
            have f0 := cell_later hB.out f0
            have f1 := cell_later hB.out f1
            have f2 := cell_later hB.out f2
            have hgw : gA < wr.heap.size := Nat.lt_of_lt_of_le hgA2 hB.out.size
            have hx1 : decide (cx < 1) = false := decide_eq_false (by omega)
            have ha0 : decide ((a : Int) < 0) = false := decide_eq_false (by omega)
            have han : decide ((k : Int) ≤ (a : Int)) = false := decide_eq_false (by omega)
            have han2 : decide (k ≤ a) = false := decide_eq_false (by omega)
            have han3 : decide ((a : Int) ≥ (k : Int)) = false := decide_eq_false (by omega)
            have hbw := HBA.out.trans (hB.out.mono HBA.out.size)
            obtain ⟨k0, k1, k2, k3, k4, k5⟩ := HDC.out _ hbw
            go_upto_if 133 with fail
            go_cut [133] from 71 to 133 (fun sv wx => sv = .bool false ∧ Hid (Below wr.heap.size wr wx))
            case first =>
              by_cases hj0 : j = 0
              · subst hj0
                have f0 : wr.cell? ⟨gA, 0, none⟩ = some (.int .i64 cx) := f0
                have f1 : wr.cell? ⟨gA, 1, none⟩ = some (.int .i64 cy) := f1
                have f2 : wr.cell? ⟨gA, 2, none⟩ = some (.int .i64 (a : Int)) := f2
                clear hj hjm
                go_quiet (fail)
                go_wp2_with fail
                go_meet
                exact ⟨rfl, Lib.hid ⟨rfl, rfl, rfl, Nat.le_refl _, fun _ _ => rfl⟩⟩
              · obtain ⟨i, rfl⟩ : ∃ i, j = i + 1 := ⟨j - 1, by omega⟩
                obtain ⟨qx, qy, b, hq, -, -⟩ := HLF.out i (by omega)
                obtain ⟨g0, g1, g2⟩ := HCL.out i (by omega)
                rw [hq] at g0 g1 g2
                simp only at g0 g1 g2
                have g1 := cell_later hB.out g1
                have g2 := cell_later hB.out g2
                have hpos : decide ((0 : Int) < ((i + 1 : Nat) : Int)) = true := decide_eq_true (by omega)
                have hinc := HLI.out
                have hinc := fun h => hinc h i (by omega)
                rw [hq, hc] at hinc
                simp only at hinc
                clear g0 hj0 hjm hc hq
                by_cases hy : cy = qy
                · have e1 : (cy == qy) = true := by simp [hy]
                  have e2 : decide (cy = qy) = true := decide_eq_true hy
                  by_cases ha : (a : Int) ≤ (b : Int)
                  · have hns : ¬ ns = 1 := fun h => by have := hinc h; omega
                    have hns1 : decide (ns = 1) = false := decide_eq_false hns
                    have hns2 : ((ns : Int) == 1) = false := by simp; omega
                    have hns3 : decide ((ns : Int) = 1) = false := decide_eq_false (by omega)
                    have e3 : decide ((a : Int) ≤ (b : Int)) = true := decide_eq_true ha
                    have e4 : decide (a ≤ b) = true := decide_eq_true (by omega)
                    clear hinc hy ha
                    go_quiet (fail)
                    go_wp2_with fail
                    go_meet
                    exact ⟨rfl, Lib.hid ⟨rfl, rfl, rfl, Nat.le_refl _, fun _ _ => rfl⟩⟩
                  · have e3 : decide ((a : Int) ≤ (b : Int)) = false := decide_eq_false ha
                    have e4 : decide (a ≤ b) = false := decide_eq_false (by omega)
                    clear hinc hy ha
                    go_quiet (fail)
                    go_wp2_with fail
                    go_meet
                    exact ⟨rfl, Lib.hid ⟨rfl, rfl, rfl, Nat.le_refl _, fun _ _ => rfl⟩⟩
                · have e1 : (cy == qy) = false := by simp [hy]
                  have e2 : decide (cy = qy) = false := decide_eq_false hy
                  clear hinc hy
                  go_quiet (fail)
                  go_wp2_with fail
                  go_meet
                  exact ⟨rfl, Lib.hid ⟨rfl, rfl, rfl, Nat.le_refl _, fun _ _ => rfl⟩⟩
            case' rest =>
              obtain ⟨rfl, hBq⟩ := hcut
              have hb2 := hB.out.trans (hBq.out.mono hB.out.size)
              have hbw2 := HBA.out.trans (hb2.mono HBA.out.size)
              have f0 := cell_later hb2 F0.out
              have f1 := cell_later hb2 F1.out
              have f2 := cell_later hb2 F2.out
              have hgw : gA < wc.heap.size := Nat.lt_of_lt_of_le hgA2 hb2.size
              have hbx : W.heap.size + 1 < wc.heap.size := Nat.lt_of_lt_of_le HLB.out hbw2.size
              obtain ⟨c0, c1, c2⟩ := HCC.out _ hbw2
              obtain ⟨k0, k1, k2, k3, k4, k5⟩ := HDC.out _ hbw2
              have hth : thV L (px, py, pz) (j + 1) = (thV L (px, py, pz) j || decide (L.getD j (0, 0, 0) = (px, py, pz))) := rfl
              have hqq := eqC_iff (cx, cy, (a : Int)) (px, py, pz)
              rw [hc, ← hqq] at hth
              have hmem : decide ((cx, cy, (a : Int)) ∈ L) = true := decide_eq_true (by rw [← hc]; exact getD_mem (by have := HM.out; omega))
              have hnj := fun W' h => HLN.out W' h (cx, cy, (a : Int))
              simp only [hmem] at hnj
              have HNJ := Lib.hid hnj
              have HTH := Lib.hid hth
              have HB2 := Lib.hid hb2
              have HBW2 := Lib.hid hbw2
              clear hB hBq hb2 hbw2 hqq hth hc hmem hnj hx1 ha0 han han2 han3 hcx hca
              go_upto_region 21 with fail
              go_cut [13] from 134 to 142 (fun tv wx => tv = .bool (thV L (px, py, pz) (j + 1)) ∧ Hid (Below wc.heap.size wc wx))
              case first =>
                revert HTH
                generalize thV L (px, py, pz) j = T
                intro HTH
                cases T
                · go_quiet (fail)
                  go_wp2_with fail
                  go_meet
                  exact ⟨by rw [HTH.out]; rfl, Lib.hid ⟨rfl, rfl, rfl, Nat.le_refl _, fun _ _ => rfl⟩⟩
                · go_quiet (fail)
                  go_wp2_with fail
                  go_meet
                  exact ⟨by rw [HTH.out]; rfl, Lib.hid ⟨rfl, rfl, rfl, Nat.le_refl _, fun _ _ => rfl⟩⟩
              case' rest =>
                obtain ⟨rfl, hBq⟩ := hcut
                have hb3 := HB2.out.trans (hBq.out.mono HB2.out.size)
                have hbw3 := HBW2.out.trans (hBq.out.mono HBW2.out.size)
                have HKF := Lib.hid (fun W' (h : Below wA.heap.size wA W') => And.intro (cell_later h F0.out) (And.intro (cell_later h F1.out) (And.intro (cell_later h F2.out) (HDC.out _ (HBA.out.trans (h.mono HBA.out.size))))))
                have hgw : gA < wc.heap.size := Nat.lt_of_lt_of_le hgA2 hb3.size
                have HNK := Lib.hid (fun W' (h : Below wA.heap.size wA W') => HNJ.out W' (HBA.out.trans (h.mono HBA.out.size)))
                have HBN := Lib.hid hb3.drew
                clear c0 c1 c2 hbx hb3 hbw3 hBq HNJ F0 F1 F2 HTH HB2 HBW2 k0 k1 k2 k3 k4 k5 f0 f1 f2
                go_upto_region 22 with fail
                go_region_held3 (fun W' => W'.cell? ⟨gA, j * 3, none⟩ = some (.int .i64 cx) ∧ W'.cell? ⟨gA, j * 3 + 1, none⟩ = some (.int .i64 cy) ∧ W'.cell? ⟨gA, j * 3 + 2, none⟩ = some (.int .i64 (a : Int)) ∧ W'.cell? ⟨g8, 0, none⟩ = some (.int .i64 0) ∧ W'.cell? ⟨g8, 1, none⟩ = some (.slice ar k cr) ∧ W'.cell? ⟨g8, 2, none⟩ = some (.slice az ns cs) ∧ W'.cell? ⟨g8, 3, none⟩ = some (.int .i64 0) ∧ W'.cell? ⟨g8, 4, none⟩ = some (.int .i64 0) ∧ W'.cell? ⟨g8, 5, none⟩ = some (.int .i64 0))
                  (with_reducible exact HKF.out _ HBN.out)
                  ((go_at_call 18; (with_reducible refine (HNK.out _ HBN.out).mono ?_); rintro e wN ⟨aN, nN, cN, lN, rfl, -, -, hb⟩; have HBN := Lib.hid (HBN.out.trans (hb.mono HBN.out.size)); clear hb))
                all_goals go_wp2_with fail
                all_goals go_roundw
                case rel => exact ⟨j + 1, by omega, by go_num, rfl, HBN⟩
                case measure => simp [intOf]; omega
    · have hlt : k < nr := by omega
      have hnk : n ≤ k := by
        have e1 := owI_len hO.out
        have e2 := rwV_len (l := l1) k
        split at e2 <;> omega
      by_cases hl0 : n1 = 0
      · have e : rwV l1 (k + 1) = rwV l1 k := by rw [rwV_nil (by have := HN1.out; omega), rwV_nil (by have := HN1.out; omega)]
        have HO2 : Hid (OwI wr W3.heap.size (.slice ao2 n cap2) n (rwV l1 (k + 1))) := Lib.hid (by rw [e]; exact hO.out)
        have HB4 := hB
        subst hl0
        clear hO hB e
        go_wp2
        go_roundw
        case rel => exact ⟨k + 1, n, ao2, cap2, by omega, by go_num, rfl, HO2, HB4⟩
        case measure => simp [intOf]; omega
      · have hl00 : 0 < n1 := by omega
        have hsz := HB3.out.size
        by_cases hkw : k < n1
        · obtain ⟨b, off, rfl, hcap, hbl, hcl⟩ := H1.out.at (by omega)
          have hc := cell_later hB.out (cell_later (HUP.out _ HB3.out) (hcl k hkw))
          have hfit := H1.out.fit k
          obtain ⟨g, cap3, w5, hrun, hown, hb3, -, -, -⟩ := push_int hO.out (by omega) hB.out.size (l1.getD k 0 % 4)
          have e : rwV l1 (k + 1) = rwV l1 k ++ [l1.getD k 0 % 4] := by rw [rwV_succ (by have := HN1.out; omega), if_pos (by have := HN1.out; omega)]
          rw [← e] at hown
          have HO2 := Lib.hid hown
          have HB4 := Lib.hid (hB.out.trans hb3)
          obtain ⟨q, hqq⟩ : ∃ q, q = l1.getD k 0 := ⟨_, rfl⟩
          rw [← hqq] at hc hfit hrun
          have hw : IntKind.i64.wrap q = q := IntWalk.i64_in _ (by omega)
          have hm3 : q.tmod 4 = q % 4 := Int.tmod_eq_emod_of_nonneg hfit.1
          clear hqq hcl hO hown hb3 e hsz hbl
          go_wp2
          go_roundw
          case rel => exact ⟨k + 1, n + 1, some ⟨g, 0, none⟩, cap3, by omega, by go_num, rfl, HO2, HB4⟩
          case measure => simp [intOf]; omega
        · obtain ⟨g, cap3, w5, hrun, hown, hb3, -, -, -⟩ := push_int hO.out (by omega) hB.out.size 0
          have e : rwV l1 (k + 1) = rwV l1 k ++ [0] := by rw [rwV_succ (by have := HN1.out; omega), if_neg (by have := HN1.out; omega)]
          rw [← e] at hown
          have HO2 := Lib.hid hown
          have HB4 := Lib.hid (hB.out.trans hb3)
          clear hO hown hb3 e hsz
          go_wp2
          go_roundw
          case rel => exact ⟨k + 1, n + 1, some ⟨g, 0, none⟩, cap3, by omega, by go_num, rfl, HO2, HB4⟩
          case measure => simp [intOf]; omega

end Go.Proofs.Ytjlneggfkpjnpaa
