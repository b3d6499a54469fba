/- Contracts of the reference: Next. Condition: the slices read as ints, at most eight each. -/
import Derived.Test.YtmpopbkhmkkhgaaK
import Derived.Deep.CutRange
import Derived.BigQuiet
namespace Go.Proofs.Ytmpopbkhmkkhgaa
open Go.RowKit

/-- Is the choice one of the first? -/
def knB (l : List Ch) (c : Ch) : Nat → Bool
  | 0 => false
  | k + 1 => knB l c k || decide (l.getD k (0, 0, 0) = c)
theorem knB_mem (l : List Ch) (c : Ch) : knB l c l.length = decide (c ∈ l) := by
  have h : ∀ k, k ≤ l.length → (knB l c k = true ↔ ∃ j, j < k ∧ l.getD j (0, 0, 0) = c) := fun k => by
    induction k with
    | zero => intro _; simp [knB]
    | succ k ih =>
      intro hk
      rw [knB, Bool.or_eq_true, ih (by omega), decide_eq_true_eq]
      constructor
      · rintro (⟨j, h1, h2⟩ | h)
        · exact ⟨j, by omega, h2⟩
        · exact ⟨k, by omega, h⟩
      · rintro ⟨j, h1, h2⟩
        by_cases hj : j = k
        · subst hj; exact .inr h2
        · exact .inl ⟨j, by omega, h2⟩
  rw [Bool.eq_iff_iff, h _ (Nat.le_refl _), decide_eq_true_eq]
  constructor
  · rintro ⟨j, h1, h2⟩
    rw [← h2]; exact getD_mem h1
  · intro hm
    obtain ⟨j, h1, h2⟩ := mem_getD hm
    exact ⟨j, h1, h2⟩

/-- What holds in the second loop when the first k arms have got what is added. -/
structure RnI (Wb wr : World) (g n cap : Nat) (r : List Int) (a z : Int) (b : List Int) (k : Nat) : Prop where
  bl : Below Wb.heap.size Wb wr
  o : OwI wr Wb.heap.size (.slice (some ⟨g, 0, none⟩) n cap) n (addV r a z b k)
  i : ∀ j, j < k → addN r a z b n j ≤ 1048576

theorem RnI.drewN {Wb wr : World} {g n cap : Nat} {r : List Int} {a z : Int} {b : List Int} {k q : Nat} (h : RnI Wb wr g n cap r a z b k) : RnI Wb (wr.drewN q) g n cap r a z b k := ⟨h.bl.trans ⟨rfl, rfl, rfl, Nat.le_refl _, fun _ _ => rfl⟩, h.o, h.i⟩

theorem RnI.cells {Wb wr : World} {g n cap : Nat} {r : List Int} {a z : Int} {b : List Int} {k : Nat} (h : RnI Wb wr g n cap r a z b k) (hk : k < n) : b.length = n ∧ Wb.heap.size ≤ g ∧ g < wr.heap.size ∧ wr.cell? ⟨g, k, none⟩ = some (.int .i64 (b.getD k 0)) ∧ wr.frozen? ⟨g, k, none⟩ = false := by
  have hl := owI_len h.o
  rw [addV_len] at hl
  obtain ⟨g', cap', e, -, h1, h2, hgc, hfr, -⟩ := h.o.parts (by omega)
  injection e with e _ _; injection e with e; injection e with e _; subst e
  have hc := hgc k hk
  rw [addV_get (by omega)] at hc
  have e0 : addN r a z b k k = b.getD k 0 := by unfold addN; rw [if_neg (by omega)]
  rw [e0] at hc
  exact ⟨hl.symm, h1, h2, hc, hfr k⟩

theorem addN_end {r : List Int} {a z : Int} {b : List Int} {n k : Nat} (hk : k < n) : addN r a z b n k = if 0 < r.getD k 0 ∧ ¬ (k : Int) = z then b.getD k 0 + a else b.getD k 0 := by
  unfold addN
  by_cases h : 0 < r.getD k 0 ∧ ¬ (k : Int) = z
  · rw [if_pos h, if_pos ⟨hk, h⟩]
  · rw [if_neg h, if_neg (fun h' => h h'.2)]

/-- An arm that gets more. -/
theorem RnI.store {Wb wr : World} {g n cap : Nat} {r : List Int} {a z : Int} {b : List Int} {k : Nat} (h : RnI Wb wr g n cap r a z b k) (hk : k < n) (hu : 0 < r.getD k 0 ∧ ¬ (k : Int) = z) : Below Wb.heap.size Wb (wr.setCell ⟨g, k, none⟩ (.int .i64 (b.getD k 0 + a))) ∧ (wr.setCell ⟨g, k, none⟩ (.int .i64 (b.getD k 0 + a))).cell? ⟨g, k, none⟩ = some (.int .i64 (b.getD k 0 + a)) ∧ (b.getD k 0 + a ≤ 1048576 → RnI Wb (wr.setCell ⟨g, k, none⟩ (.int .i64 (b.getD k 0 + a))) g n cap r a z b (k + 1)) := by
  obtain ⟨hl, h1, h2, hc, hf⟩ := h.cells hk
  obtain ⟨g', cap', e, -, -, -, hgc, hfr, hset⟩ := h.o.parts (by omega)
  injection e with e _ _; injection e with e; injection e with e _; subst e
  have e1 : b.getD k 0 + a = addN r a z b (k + 1) k := by
    unfold addN; rw [if_pos ⟨by omega, hu⟩]
  have hs := hset k (b.getD k 0 + a) hk
  rw [addV_set (by omega) e1] at hs
  have hbl := h.bl.setCell (p := ⟨g, k, none⟩) h1 (.int .i64 (b.getD k 0 + a))
  refine ⟨hbl, ?_, fun hle => ⟨hbl, hs, fun j hj => ?_⟩⟩
  · obtain ⟨g', cap', e, -, -, -, hgc, -, -⟩ := hs.parts (by omega)
    injection e with e _ _; injection e with e; injection e with e _; subst e
    rw [hgc k hk, addV_get (by omega), ← e1]
  · by_cases hj2 : j = k
    · subst hj2
      rw [addN_end hk, if_pos hu]; exact hle
    · exact h.i j (by omega)
/-- An arm that stays. -/
theorem RnI.stay {Wb wr : World} {g n cap : Nat} {r : List Int} {a z : Int} {b : List Int} {k : Nat} (h : RnI Wb wr g n cap r a z b k) (hk : k < n) (hu : ¬ (0 < r.getD k 0 ∧ ¬ (k : Int) = z)) (hle : b.getD k 0 ≤ 1048576) : RnI Wb wr g n cap r a z b (k + 1) :=
  ⟨h.bl, by rw [addV_same hu]; exact h.o, fun j hj => by
    by_cases hj2 : j = k
    · subst hj2
      rw [addN_end hk, if_neg hu]; exact hle
    · exact h.i j (by omega)⟩

attribute [local go_sem ↓] equal29

set_option maxRecDepth 10000 in
set_option maxHeartbeats 8000000 in
theorem rNext_any {W : World} {ar aw : Option Addr} {nr cr nw cw : Nat} {r row : List Int} (hr : Ix W (.slice ar nr cr) r) (hw : Ix W (.slice aw nw cw) row) (lr : r.length ≤ 8) (lw : row.length ≤ 8) (kd a x y z : Int) :
    Calls Try.prog 19 #[DV kd (.slice ar nr cr) a, .slice aw nw cw, .agg #[.int .i64 x, .int .i64 y, .int .i64 z]] W fun e w' => ∃ ao n cap, e = .returned (.tuple #[.slice ao n cap, .bool (nxB r a row (x, y, z))]) ∧ OwI w' W.heap.size (.slice ao n cap) n (nxV r a row (x, y, z)) ∧ Below W.heap.size W w' := by
  have HB := Lib.hid (Below.refl (nbox W kd (.slice ar nr cr) a x y z).heap.size (nbox W kd (.slice ar nr cr) a x y z))
  have HCH := Lib.hid (rChoices_any (hr.below (nbox_up HB.out)) (hw.below (nbox_up HB.out)) lr lw kd a)
  have HBA := Lib.hid (fun W' (hb : Below (nbox W kd (.slice ar nr cr) a x y z).heap.size (nbox W kd (.slice ar nr cr) a x y z) W') => rBalls_any (hr.below (nbox_up hb)) (hw.below (nbox_up hb)) lr lw kd a)
  have HCX := Lib.hid (fun W' v (B n : Nat) (h : OwC W' B v n (chV r a row)) => h.chx lr)
  have HCF := Lib.hid (fun hc => ch_facts (r := r) (row := row) (a := a) (x := x) (y := y) (z := z) hc)
  have HIN := Lib.hid (balV_in (r := r) (row := row) (a := a))
  have HKP := Lib.hid (fun W' (hb : Below (nbox W kd (.slice ar nr cr) a x y z).heap.size (nbox W kd (.slice ar nr cr) a x y z) W') => nbox_flat hb)
  have HUP := Lib.hid (fun W' (hb : Below (nbox W kd (.slice ar nr cr) a x y z).heap.size (nbox W kd (.slice ar nr cr) a x y z) W') => nbox_up hb)
  have HNS : Hid (W.heap.size + 1 < (nbox W kd (.slice ar nr cr) a x y z).heap.size ∧ W.heap.size < (nbox W kd (.slice ar nr cr) a x y z).heap.size) := Lib.hid (by rw [nbox_size]; omega)
  obtain ⟨k0, k1, k2, k3, k4, k5, k6, k7, k8⟩ := HKP.out _ HB.out
  have HX := Lib.hid hr
  have HNR := Lib.hid hr.size
  have HLR := Lib.hid lr
  obtain ⟨p, hp⟩ : ∃ p, p = nxB r a row (x, y, z) := ⟨_, rfl⟩
  obtain ⟨F, hF⟩ : ∃ F, F = nxV r a row (x, y, z) := ⟨_, rfl⟩
  rw [← hp, ← hF]
  have HP := Lib.hid hp
  have HF := Lib.hid hF
  clear hr hw lr lw hp hF
  go_enter Try.func19, Try.ntmps19
  go_wp2_with (go_at_call 15; (with_reducible refine HCH.out.mono ?_); rintro e w1 ⟨ac, nc, cc, rfl, ho, hb⟩; have HC := Lib.hid (HCX.out _ _ _ _ ho); have HNC := Lib.hid (owC_len ho); have HB1 := Lib.hid hb; clear ho hb k0 k1 k2 k3 k4 k5 k6 k7 k8)
  have hncl := HC.out.len
  rw [← HNC.out] at hncl
  unfold maxLen at hncl
  go_loopw [9, 10] (fun bv kv wr => ∃ (k : Nat), k ≤ nc ∧ kv = .int .i64 (k : Nat) ∧ bv = .bool (knB (chV r a row) (x, y, z) k) ∧ Hid (Below w1.heap.size w1 wr)) (fun _ kv _ => nc - (intOf kv).toNat)
  case atStart => exact ⟨0, by omega, rfl, rfl, Lib.hid (Below.refl _ _)⟩
  case round =>
    obtain ⟨k, hk, rfl, rfl, hB⟩ := hrel
    have hN := HB1.out.trans (hB.out.mono HB1.out.size)
    have HN := Lib.hid hN
    obtain ⟨k0, k1, k2, k3, k4, k5, k6, k7, k8⟩ := HKP.out _ hN
    have hl1 := Nat.lt_of_lt_of_le HNS.out.1 hN.size
    have hl2 := Nat.lt_of_lt_of_le HNS.out.2 hN.size
    by_cases hkn : k = nc
    · have hmem := knB_mem (chV r a row) (x, y, z)
      rw [← HNC.out, ← hkn] at hmem
      rw [hmem]
      by_cases hc : (x, y, z) ∈ chV r a row
      · rw [decide_eq_true hc]
        have HCF2 := Lib.hid (HCF.out hc)
        have HBA2 := Lib.hid (HBA.out wr hN)
        have HPE : Hid (p = inB 0 1048576 (allV r a row z)) := Lib.hid (by rw [HP.out, nxB, decide_eq_true hc]; rfl)
        have HFE : Hid (F = if inB 0 1048576 (allV r a row z) = true then allV r a row z else []) := Lib.hid (by rw [HF.out, nxV, nxB, decide_eq_true hc, Bool.true_and])
        unfold allV at HPE HFE
        revert HCF2 HBA2 HPE HFE HIN
        generalize balV r a row = b
        intro HIN HCF2 HBA2 HPE HFE
        subst hkn
        clear hmem hN hc HBA HCF
        go_wp2_with (go_at_call 14; (with_reducible refine HBA2.out.mono ?_); rintro e w2 ⟨ab, nb, cb, rfl, ho, hb⟩; have HO := Lib.hid ho; have HB2 := Lib.hid hb; clear ho hb k0 k1 k2 k3 k4 k5 k6 k7 k8)
        have hnb : Hid (nb = b.length) := Lib.hid (owI_len HO.out)
        obtain ⟨j0, hj1, hj2, hj3, hj4, hj5, hj6, hj7, hj8, hj9⟩ := HCF2.out
        obtain ⟨g, cap2, eg, -, hg1, hg2, -, -, -⟩ := HO.out.parts (by have := hnb.out; omega)
        injection eg with eg1 _ eg3
        subst eg1 eg3
        have ha8 := (usB_iff.1 hj8).2.2
        have hnb8 : nb ≤ 8 ∧ nb = nr := by have := hnb.out; have := HNR.out; have := HLR.out; omega
        obtain ⟨hnb8, hnbr⟩ := hnb8
        subst hnbr
        have HUW := Lib.hid (HUP.out _ HN.out)
        have hsz := HUW.out.size
        obtain ⟨wb, hwb⟩ : ∃ wb, wb = wr := ⟨_, rfl⟩
        have HI0 : Hid (RnI wb w2 g nb cb r a z b 0) := Lib.hid (by rw [hwb]; exact ⟨HB2.out, by rw [addV_zero]; exact HO.out, fun j hj => by omega⟩)
        rw [← hwb] at HN hsz
        clear hwb
        clear hj1 hj2 hj3 hj4 hj5 hj6 hj7 hj8 hj9 hg1 hg2 j0
        go_loopw [12] (fun kv wq => ∃ i : Nat, i ≤ nb ∧ kv = .int .i64 (i : Nat) ∧ Hid (RnI wb wq g nb cb r a z b i)) (fun kv _ => nb - (intOf kv).toNat)
        case atStart => exact ⟨0, by omega, rfl, HI0⟩
        case round =>
          obtain ⟨i, hi, rfl, hI⟩ := hrel
          have hNq := HN.out.trans (hI.out.bl.mono HN.out.size)
          have HNQ := Lib.hid hNq
          by_cases hin : i = nb
          · have HE : Hid (inB 0 1048576 (addV r a z b b.length) = true) := Lib.hid (inB_iff.2 fun j hj => by
              rw [addV_len] at hj
              rw [addV_get hj]
              have h1 := hI.out.i j (by rw [hin, hnb.out]; exact hj)
              rw [hnb.out] at h1
              have h2 := (inB_iff.1 HIN.out) j hj
              have h3 := addN_end (r := r) (a := a) (z := z) (b := b) hj
              refine ⟨?_, h1⟩
              rw [h3]
              split <;> omega)
            have HO9 := Lib.hid hI.out.o
            rw [hin] at HO9
            subst hin
            clear hNq
            go_wp2
            go_ret2
            exact ⟨some ⟨g, 0, none⟩, i, cb, by rw [HPE.out, HE.out] <;> rfl, by rw [HFE.out, if_pos HE.out, ← hnb.out]; exact owns_mono HO9.out hsz, HUP.out _ HNQ.out⟩
          · have hlt : i < nb := by omega
            have hii : (i : Int) < (nb : Int) := by omega
            have hi0 : (0 : Int) ≤ (i : Int) := by omega
            obtain ⟨hbl, hg1, hg2, cg, fg⟩ := hI.out.cells hlt
            obtain ⟨br, ofr, rfl, hqr, hcapr, hblr, hclr⟩ := HX.out.at (by omega)
            have cr0 := cell_later (HUP.out _ hNq) (hclr i (by omega))
            obtain ⟨k0, k1, k2, k3, k4, k5, k6, k7, k8⟩ := HKP.out _ hNq
            have hbi := (inB_iff.1 HIN.out) i (by rw [hbl]; exact hlt)
            have hstay := hI.out.stay hlt
            have hstore := fun q => hI.out.drewN (q := q) |>.store hlt
            have hend := addN_end (r := r) (a := a) (z := z) (b := b) hlt
            have hno := inB_no (lo := 0) (hi := 1048576) (l := addV r a z b b.length) (k := i) (by rw [addV_len, hbl]; exact hlt)
            rw [addV_get (by rw [hbl]; exact hlt), hbl, hend] at hno
            obtain ⟨s, hs⟩ : ∃ s, s = r.getD i 0 := ⟨_, rfl⟩
            obtain ⟨u, hu⟩ : ∃ u, u = b.getD i 0 := ⟨_, rfl⟩
            rw [← hs] at cr0 hstay hstore hno
            rw [← hu] at cg hbi hstay hstore hno
            by_cases hus : 0 < s ∧ ¬ (i : Int) = z
            · have HST := Lib.hid (fun q => hstore q hus)
              rw [if_pos hus] at hno
              obtain ⟨hs0, hz0⟩ := hus
              have hz1 : ((i : Int) == z) = false := by simp [hz0]
              have hw1 : IntKind.i64.wrap (u + a) = u + a := IntWalk.i64_in _ (by omega)
              have HB14 := Lib.hid HUP.out
              clear hstay hstore hend hs hu hclr hqr hNq
              go_upto_region 14 with fail
              go_cut [] from 36 to 68 (fun wx => Hid (Below (nbox W kd (.slice (some ⟨br, ofr, none⟩) nb cr) a x y z).heap.size (nbox W kd (.slice (some ⟨br, ofr, none⟩) nb cr) a x y z) wx) ∧ wx.cell? ⟨g, i, none⟩ = some (.int .i64 (u + a)) ∧ Hid (u + a ≤ 1048576 → RnI wb wx g nb cb r a z b (i + 1)))
              case first =>
                go_region
                all_goals (go_wp2_with fail; go_meet; exact ⟨Lib.hid (HN.out.trans ((HST.out _).1.mono HN.out.size)), (HST.out _).2.1, Lib.hid (HST.out _).2.2⟩)
              case' rest =>
                obtain ⟨HBX, cgx, HRX⟩ := hcut
                clear k0 k1 k2 k3 k4 k5 k6 k7 k8 cg fg cr0
                by_cases hle : u + a ≤ 1048576
                · have HR2 := Lib.hid (HRX.out hle)
                  have hle2 : ¬ 1048576 < u + a := by omega
                  clear hno
                  go_wp2
                  go_roundw
                  case rel => exact ⟨i + 1, by omega, by go_num, HR2⟩
                  case measure => simp [intOf]; omega
                · have HNO : Hid (inB 0 1048576 (addV r a z b b.length) = false) := Lib.hid (by rw [hbl]; exact hno (fun h => hle h.2))
                  have hle2 : 1048576 < u + a := by omega
                  clear hno
                  go_wp2
                  go_ret2
                  exact ⟨none, 0, 0, by rw [HPE.out, HNO.out] <;> rfl, by rw [HFE.out, HNO.out, if_neg (by decide)]; exact World.ownsRow_nil _ _ _ _, HUP.out _ HBX.out⟩
            · have HR2 := Lib.hid (hstay hus (by omega))
              have hle : ¬ 1048576 < u := by omega
              clear hstay hstore hend hno hs hu hclr hqr hNq
              by_cases hs0 : 0 < s
              · have hz0 : (i : Int) = z := Classical.byContradiction fun h => hus ⟨hs0, h⟩
                subst hz0
                go_wp2
                go_roundw
                case rel => exact ⟨i + 1, by omega, by go_num, HR2⟩
                case measure => simp [intOf]; omega
              · by_cases hz0 : (i : Int) = z
                · subst hz0
                  go_wp2
                  go_roundw
                  case rel => exact ⟨i + 1, by omega, by go_num, HR2⟩
                  case measure => simp [intOf]; omega
                · have hz1 : ((i : Int) == z) = false := by simp [hz0]
                  go_wp2
                  go_roundw
                  case rel => exact ⟨i + 1, by omega, by go_num, HR2⟩
                  case measure => simp [intOf]; omega
      · rw [decide_eq_false hc]
        have HPE : Hid (p = false) := Lib.hid (by rw [HP.out, nxB, decide_eq_false hc]; rfl)
        have HFE : Hid (F = []) := Lib.hid (by rw [HF.out, nxV, nxB, decide_eq_false hc]; rfl)
        subst hkn
        clear hmem hN
        go_wp2
        go_ret2
        exact ⟨none, 0, 0, by rw [HPE.out] <;> rfl, by rw [HFE.out]; exact World.ownsRow_nil _ _ _ _, HUP.out _ HN.out⟩
    · have hlt : k < nc := by omega
      have HBQ : Hid (∀ n, Hid (Below w1.heap.size w1 (wr.drewN n))) := Lib.hid (fun n => Lib.hid (hB.out.trans ⟨rfl, rfl, rfl, Nat.le_refl _, fun _ _ => rfl⟩))
      have HSU : Hid (knB (chV r a row) (x, y, z) (k + 1) = (knB (chV r a row) (x, y, z) k || decide ((chV r a row).getD k (0, 0, 0) = (x, y, z)))) := Lib.hid rfl
      obtain ⟨q, hq⟩ : ∃ q, q = knB (chV r a row) (x, y, z) k := ⟨_, rfl⟩
      rw [← hq] at HSU ⊢
      have hki : (k : Int) < (nc : Int) := by omega
      have hki0 : (0 : Int) ≤ (k : Int) := by omega
      cases q with
      | true =>
        clear hq hN
        go_wp2
        go_quiet (fail)
        go_wp2
        go_roundw
        case rel => exact ⟨k + 1, by omega, by go_num, by rw [HSU.out] <;> rfl, by first | exact HBQ.out _ | exact HBQ.out 1⟩
        case measure => simp [intOf]; omega
      | false =>
        obtain ⟨bc, ofc, rfl, hcapc, hblc, hclc⟩ := HC.out.at (by omega)
        obtain ⟨d0, d1, d2⟩ := hclc k hlt
        have d0 := cell_later hB.out d0
        have d1 := cell_later hB.out d1
        have d2 := cell_later hB.out d2
        have hqe := eqC_iff ((chV r a row).getD k (0, 0, 0)) (x, y, z)
        obtain ⟨e, he⟩ : ∃ e, e = decide ((chV r a row).getD k (0, 0, 0) = (x, y, z)) := ⟨_, rfl⟩
        rw [← he] at HSU hqe
        revert d0 d1 d2 hqe
        generalize (chV r a row).getD k (0, 0, 0) = c
        obtain ⟨c0, c1, c2⟩ := c
        intro d0 d1 d2 hqe
        simp only at d0 d1 d2 hqe
        clear hq hN hclc he
        go_wp2
        go_quiet (fail)
        go_wp2
        go_roundw
        case rel => exact ⟨k + 1, by omega, by go_num, by rw [HSU.out] <;> first | rfl | simp, by first | exact HBQ.out _ | exact HBQ.out 1⟩
        case measure => simp [intOf]; omega

end Go.Proofs.Ytmpopbkhmkkhgaa
