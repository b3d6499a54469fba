/- Contract of the reference: Choices. Condition: the slices read as ints, at most eight arms, a coin whose numbers are from 0 to 1000. -/
import Derived.Test.YtcpgoaombabfjaaMh18
import Derived.Test.YtcpgoaombabfjaaMh19
namespace Go.Proofs.Ytcpgoaombabfjaa
set_option linter.unusedSimpArgs false
set_option linter.unusedVariables false
open Go Go.RowKit Go.Shelf
attribute [local go_sem ↓] appC_rw

/-- Choices of one's own while they are made. -/
structure OwK (W wr : World) (B : Nat) (v : Value) (n : Nat) (L : List Ch) : Prop where
  o : OwC wr B v n L
  bl : Below B W wr
  lt : B ≤ wr.heap.size
theorem OwK.step {W wr : World} {B : Nat} {v : Value} {n : Nat} {L : List Ch} (h : OwK W wr B v n L) (hn : n ≤ 100) (x y z : Int) :
    ∃ g cap w2, Sem.run Try.prog (appC 46 #[v, .slice (some ⟨wr.heap.size, 0, none⟩) 1 1]) (wr.alloc (.cells #[.int .i64 x, .int .i64 y, .int .i64 z] 51)) = .ok (.slice (some ⟨g, 0, none⟩) (n + 1) cap) w2 ∧ OwK W w2 B (.slice (some ⟨g, 0, none⟩) (n + 1) cap) (n + 1) (L ++ [(x, y, z)]) := by
  obtain ⟨g, cap, w2, hrun, hown, hb, hgr, hg, hgl⟩ := push_choice h.o (by omega) h.lt x y z
  exact ⟨g, cap, w2, hrun, ⟨hown, h.bl.trans hb, Nat.le_trans h.lt hb.size⟩⟩
theorem OwK.later {W wr w' : World} {B : Nat} {v : Value} {n : Nat} {L : List Ch} (h : OwK W wr B v n L) (hb : Below wr.heap.size wr w') : OwK W w' B v n L := ⟨owns_later h.o hb, h.bl.trans (hb.mono h.lt), Nat.le_trans h.lt hb.size⟩

theorem sumF_add {r p : List Int} {k : Nat} (h : 0 ≤ r.getD k 0) : sumF r p (k + 1) = sumF r p k + if (k : Int) ∈ p then r.getD k 0 else 0 := by
  rw [sumF]
  generalize r.getD k 0 = x at *
  by_cases h0 : 0 < x
  · simp [h0]
  · have : x = 0 := by omega
    simp [this]
theorem sumG_add {r p : List Int} {k : Nat} (h : 0 ≤ r.getD k 0) : sumG r p (k + 1) = sumG r p k + if (k : Int) ∈ p then 0 else r.getD k 0 := by
  rw [sumG]
  generalize r.getD k 0 = x at *
  by_cases h0 : 0 < x
  · by_cases hm : (k : Int) ∈ p <;> simp [h0, hm]
  · have : x = 0 := by omega
    simp [this]
theorem chN_add {r p : List Int} {cn cd f g : Int} {k : Nat} (h : 0 ≤ r.getD k 0) : chN r p cn cd f g (k + 1) = chN r p cn cd f g k ++ if 0 < wgt r p cn cd f g k then [(wgt r p cn cd f g k, 0, (k : Int))] else [] := by
  rw [chN_step]
  by_cases h0 : 0 < r.getD k 0
  · generalize wgt r p cn cd f g k = y
    generalize r.getD k 0 = x at *
    simp [h0]
  · have e : r.getD k 0 = 0 := by omega
    rw [wgt_zero e, e]
    simp

set_option maxRecDepth 100000 in
set_option maxHeartbeats 8000000 in
theorem rChoices_any {W : World} {ar aw bw : Option Addr} {nr cr nw cw mw dw : Nat} {r s t : List Int} (hr : Ix W (.slice ar nr cr) r) (hs : Ix W (.slice aw nw cw) s) (ht : Ix W (.slice bw mw dw) t) (lr : r.length ≤ 8) (kd : Int) (cn cd : Nat) (h1 : cn ≤ 1000) (h2 : cd ≤ 1000) :
    Calls Try.prog 22 #[DV kd (.slice ar nr cr) (cn : Int) (cd : Int), .slice aw nw cw, .slice bw mw dw] W fun e w' => ∃ ao m cap, e = .returned (.slice ao m cap) ∧ OwC w' W.heap.size (.slice ao m cap) m (chV r s t (cn : Int) (cd : Int)) ∧ Below W.heap.size W w' := by
  have hB0 := dbox_below W kd (.slice ar nr cr) (cn : Int) (cd : Int)
  have HBB : Hid (∀ w', Below (W.alloc (.cells #[.int .i64 kd, .slice ar nr cr, .slice none 0 0, .int .i64 0, .int .i64 (cn : Int), .int .i64 (cd : Int)] 30)).heap.size (W.alloc (.cells #[.int .i64 kd, .slice ar nr cr, .slice none 0 0, .int .i64 0, .int .i64 (cn : Int), .int .i64 (cd : Int)] 30)) w' → Below W.heap.size W w') := Lib.hid (fun w' hb => hB0.trans (hb.mono hB0.size))
  have HS : Hid (∀ w', Below (W.alloc (.cells #[.int .i64 kd, .slice ar nr cr, .slice none 0 0, .int .i64 0, .int .i64 (cn : Int), .int .i64 (cd : Int)] 30)).heap.size (W.alloc (.cells #[.int .i64 kd, .slice ar nr cr, .slice none 0 0, .int .i64 0, .int .i64 (cn : Int), .int .i64 (cd : Int)] 30)) w' → w'.cell? ⟨W.heap.size, 0, none⟩ = some (.int .i64 kd) ∧ w'.cell? ⟨W.heap.size, 1, none⟩ = some (.slice ar nr cr) ∧ w'.cell? ⟨W.heap.size, 2, none⟩ = some (.slice none 0 0) ∧ w'.cell? ⟨W.heap.size, 3, none⟩ = some (.int .i64 0) ∧ w'.cell? ⟨W.heap.size, 4, none⟩ = some (.int .i64 (cn : Int)) ∧ w'.cell? ⟨W.heap.size, 5, none⟩ = some (.int .i64 (cd : Int))) := Lib.hid (fun w' hb => ((dbox_is W kd (.slice ar nr cr) (cn : Int) (cd : Int)).below hb).cells)
  obtain ⟨P, hP⟩ : ∃ P, P = prfV r s t := ⟨_, rfl⟩
  have hlen := prf_len r s t
  have hfit : ∀ j, I64 (P.getD j 0) := fun j => by
    by_cases hj : j < P.length
    · rw [hP] at hj ⊢
      unfold prfV at hj ⊢
      split
      · rename_i hb
        rw [if_pos hb] at hj
        obtain ⟨i, h1, h2, h3⟩ := best_mem (getI_mem hj)
        rw [h3]; exact ⟨by omega, by omega⟩
      · rename_i hb
        rw [if_neg hb] at hj; simp at hj
    · rw [out_zero (by omega)]; decide
  have HPF : Hid (∀ w', Below (W.alloc (.cells #[.int .i64 kd, .slice ar nr cr, .slice none 0 0, .int .i64 0, .int .i64 (cn : Int), .int .i64 (cd : Int)] 30)).heap.size (W.alloc (.cells #[.int .i64 kd, .slice ar nr cr, .slice none 0 0, .int .i64 0, .int .i64 (cn : Int), .int .i64 (cd : Int)] 30)) w' → Calls Try.prog 19 #[DV kd (.slice ar nr cr) (cn : Int) (cd : Int), .slice aw nw cw, .slice bw mw dw] w' fun e w2 => ∃ ao n cap, e = .returned (.slice ao n cap) ∧ Ix w2 (.slice ao n cap) P ∧ Below w'.heap.size w' w2) := Lib.hid (fun w' hb => by
    have hb2 := HBB.out _ hb
    refine (rPreferred_any (hr.below hb2) (hs.below hb2) (ht.below hb2) lr kd (cn : Int) (cd : Int)).mono fun e w2 h => ?_
    obtain ⟨ao, n, cap, h1, h2, h3⟩ := h
    rw [← hP] at h2
    exact ⟨ao, n, cap, h1, h2.ix (by have := owI_len h2; rw [← hP] at hlen; omega) hfit, h3⟩)
  have HFT : Hid (∀ w', Calls Try.prog 37 #[.agg #[.int .i64 (cn : Int), .int .i64 (cd : Int)]] w' fun e w2 => e = .returned (.bool (fitF (cn : Int) (cd : Int))) ∧ Below w'.heap.size w' w2) := Lib.hid (fun w' => rFit_any cn cd h1 h2)
  have hC : chV r s t (cn : Int) (cd : Int) = if P ≠ [] ∧ tosB (cn : Int) (cd : Int) = true then chN r P (cn : Int) (cd : Int) (sumF r P r.length) (sumG r P r.length) r.length else [] := by unfold chV; rw [hP]
  have hT : tosB (cn : Int) (cd : Int) = (fitF (cn : Int) (cd : Int) && decide ((cd : Int) ≤ 100) && decide (2 * (cn : Int) ≥ (cd : Int)) && decide ((cn : Int) ≤ (cd : Int))) := rfl
  have w2n : IntKind.i64.wrap (2 * (cn : Int)) = 2 * (cn : Int) := IntWalk.i64_in _ (by omega)
  obtain ⟨c0, c1, c2, c3, c4, c5⟩ := (dbox_is W kd (.slice ar nr cr) (cn : Int) (cd : Int)).cells
  rw [hC]
  by_cases hne : P = []
  · rw [if_neg (fun h => h.1 hne)]
    have HE := Lib.hid hne
    clear hr hs ht lr hB0 hP hlen hfit h1 h2 hC hT hne
    go_enter Try.func22, Try.ntmps22
    go_wp2_with (first
      | (go_at_call 19; (with_reducible refine (HPF.out _ (Below.refl _ _)).mono ?_); rintro e w1 ⟨aP, nP, cP, rfl, hi, hb1⟩; have HXP := Lib.hid hi; have HB := Lib.hid hb1; have HNP := Lib.hid hi.size; clear c0 c1 c2 c3 c4 c5; obtain ⟨c0, c1, c2, c3, c4, c5⟩ := HS.out _ hb1; have hn0 : nP = 0 := (by rw [HNP.out, HE.out]; rfl); subst hn0; have hx0 := heap_alloc_new w1 (.cells #[.int .i64 (cn : Int), .int .i64 (cd : Int)] 28); have HCB : Hid (∀ w', Below (w1.alloc (.cells #[.int .i64 (cn : Int), .int .i64 (cd : Int)] 28)).heap.size (w1.alloc (.cells #[.int .i64 (cn : Int), .int .i64 (cd : Int)] 28)) w' → w'.cell? ⟨w1.heap.size, 0, none⟩ = some (.int .i64 (cn : Int)) ∧ w'.cell? ⟨w1.heap.size, 1, none⟩ = some (.int .i64 (cd : Int))) := Lib.hid (fun w' hb => by have h := (hb.block w1.heap.size (by simp)).trans hx0; exact ⟨cell_of_row _ _ _ _ _ _ h, cell_of_row _ _ _ _ _ _ h⟩); obtain ⟨v0, v1⟩ := HCB.out _ (Below.refl _ _); have HBA := Lib.hid (hb1.alloc hb1.size (.cells #[.int .i64 (cn : Int), .int .i64 (cd : Int)] 28)); clear hb1 hi hx0)
      | (go_at_call 37; (with_reducible refine (HFT.out (w1.alloc (.cells #[.int .i64 (cn : Int), .int .i64 (cd : Int)] 28))).mono ?_); rintro e w2 ⟨rfl, hb1⟩; have HB := Lib.hid (HBA.out.trans (hb1.mono HBA.out.size)); have HB37 := Lib.hid hb1; clear v0 v1; obtain ⟨v0, v1⟩ := HCB.out _ hb1; clear hb1))
    go_ret
    exact ⟨_, _, _, rfl, World.ownsRow_nil _ _ _ _, HBB.out _ HBA.out⟩
  · have HE : Hid (0 < P.length) := Lib.hid (List.length_pos_iff.2 hne)
    cases hfb : fitF (cn : Int) (cd : Int) with
    | false =>
      rw [if_neg (by rw [hT, hfb]; simp)]
      rw [hfb] at HFT
      clear hr hs ht lr hB0 hP hlen hfit h1 h2 hC hT hne hfb
      go_enter Try.func22, Try.ntmps22
      go_wp2_with (first
        | (go_at_call 19; (with_reducible refine (HPF.out _ (Below.refl _ _)).mono ?_); rintro e w1 ⟨aP, nP, cP, rfl, hi, hb1⟩; have HXP := Lib.hid hi; have HB := Lib.hid hb1; have HNP := Lib.hid hi.size; clear c0 c1 c2 c3 c4 c5; obtain ⟨c0, c1, c2, c3, c4, c5⟩ := HS.out _ hb1; have hn0 : ¬ (nP : Int) = 0 := (by have := HNP.out; have := HE.out; omega); have hx0 := heap_alloc_new w1 (.cells #[.int .i64 (cn : Int), .int .i64 (cd : Int)] 28); have HCB : Hid (∀ w', Below (w1.alloc (.cells #[.int .i64 (cn : Int), .int .i64 (cd : Int)] 28)).heap.size (w1.alloc (.cells #[.int .i64 (cn : Int), .int .i64 (cd : Int)] 28)) w' → w'.cell? ⟨w1.heap.size, 0, none⟩ = some (.int .i64 (cn : Int)) ∧ w'.cell? ⟨w1.heap.size, 1, none⟩ = some (.int .i64 (cd : Int))) := Lib.hid (fun w' hb => by have h := (hb.block w1.heap.size (by simp)).trans hx0; exact ⟨cell_of_row _ _ _ _ _ _ h, cell_of_row _ _ _ _ _ _ h⟩); obtain ⟨v0, v1⟩ := HCB.out _ (Below.refl _ _); have HBA := Lib.hid (hb1.alloc hb1.size (.cells #[.int .i64 (cn : Int), .int .i64 (cd : Int)] 28)); clear hb1 hi hx0)
        | (go_at_call 37; (with_reducible refine (HFT.out (w1.alloc (.cells #[.int .i64 (cn : Int), .int .i64 (cd : Int)] 28))).mono ?_); rintro e w2 ⟨rfl, hb1⟩; have HB := Lib.hid (HBA.out.trans (hb1.mono HBA.out.size)); have HB37 := Lib.hid hb1; clear v0 v1; obtain ⟨v0, v1⟩ := HCB.out _ hb1; clear hb1))
      go_ret
      exact ⟨_, _, _, rfl, World.ownsRow_nil _ _ _ _, HBB.out _ HB.out⟩
    | true =>
      rw [hfb] at HFT
      by_cases h3 : 2 * (cn : Int) < (cd : Int)
      · rw [if_neg (by rw [hT, decide_eq_false (show ¬ 2 * (cn : Int) ≥ (cd : Int) by omega)]; simp)]
        clear hr hs ht lr hB0 hP hlen hfit h1 h2 hC hT hne hfb
        go_enter Try.func22, Try.ntmps22
        go_wp2_with (first
          | (go_at_call 19; (with_reducible refine (HPF.out _ (Below.refl _ _)).mono ?_); rintro e w1 ⟨aP, nP, cP, rfl, hi, hb1⟩; have HXP := Lib.hid hi; have HB := Lib.hid hb1; have HNP := Lib.hid hi.size; clear c0 c1 c2 c3 c4 c5; obtain ⟨c0, c1, c2, c3, c4, c5⟩ := HS.out _ hb1; have hn0 : ¬ (nP : Int) = 0 := (by have := HNP.out; have := HE.out; omega); have hx0 := heap_alloc_new w1 (.cells #[.int .i64 (cn : Int), .int .i64 (cd : Int)] 28); have HCB : Hid (∀ w', Below (w1.alloc (.cells #[.int .i64 (cn : Int), .int .i64 (cd : Int)] 28)).heap.size (w1.alloc (.cells #[.int .i64 (cn : Int), .int .i64 (cd : Int)] 28)) w' → w'.cell? ⟨w1.heap.size, 0, none⟩ = some (.int .i64 (cn : Int)) ∧ w'.cell? ⟨w1.heap.size, 1, none⟩ = some (.int .i64 (cd : Int))) := Lib.hid (fun w' hb => by have h := (hb.block w1.heap.size (by simp)).trans hx0; exact ⟨cell_of_row _ _ _ _ _ _ h, cell_of_row _ _ _ _ _ _ h⟩); obtain ⟨v0, v1⟩ := HCB.out _ (Below.refl _ _); have HBA := Lib.hid (hb1.alloc hb1.size (.cells #[.int .i64 (cn : Int), .int .i64 (cd : Int)] 28)); clear hb1 hi hx0)
          | (go_at_call 37; (with_reducible refine (HFT.out (w1.alloc (.cells #[.int .i64 (cn : Int), .int .i64 (cd : Int)] 28))).mono ?_); rintro e w2 ⟨rfl, hb1⟩; have HB := Lib.hid (HBA.out.trans (hb1.mono HBA.out.size)); have HB37 := Lib.hid hb1; clear v0 v1; obtain ⟨v0, v1⟩ := HCB.out _ hb1; clear hb1))
        go_ret
        exact ⟨_, _, _, rfl, World.ownsRow_nil _ _ _ _, HBB.out _ HB.out⟩
      · by_cases h4 : (cd : Int) < (cn : Int)
        · rw [if_neg (by rw [hT, decide_eq_false (show ¬ (cn : Int) ≤ (cd : Int) by omega)]; simp)]
          clear hr hs ht lr hB0 hP hlen hfit h1 h2 hC hT hne hfb
          go_enter Try.func22, Try.ntmps22
          go_wp2_with (first
            | (go_at_call 19; (with_reducible refine (HPF.out _ (Below.refl _ _)).mono ?_); rintro e w1 ⟨aP, nP, cP, rfl, hi, hb1⟩; have HXP := Lib.hid hi; have HB := Lib.hid hb1; have HNP := Lib.hid hi.size; clear c0 c1 c2 c3 c4 c5; obtain ⟨c0, c1, c2, c3, c4, c5⟩ := HS.out _ hb1; have hn0 : ¬ (nP : Int) = 0 := (by have := HNP.out; have := HE.out; omega); have hx0 := heap_alloc_new w1 (.cells #[.int .i64 (cn : Int), .int .i64 (cd : Int)] 28); have HCB : Hid (∀ w', Below (w1.alloc (.cells #[.int .i64 (cn : Int), .int .i64 (cd : Int)] 28)).heap.size (w1.alloc (.cells #[.int .i64 (cn : Int), .int .i64 (cd : Int)] 28)) w' → w'.cell? ⟨w1.heap.size, 0, none⟩ = some (.int .i64 (cn : Int)) ∧ w'.cell? ⟨w1.heap.size, 1, none⟩ = some (.int .i64 (cd : Int))) := Lib.hid (fun w' hb => by have h := (hb.block w1.heap.size (by simp)).trans hx0; exact ⟨cell_of_row _ _ _ _ _ _ h, cell_of_row _ _ _ _ _ _ h⟩); obtain ⟨v0, v1⟩ := HCB.out _ (Below.refl _ _); have HBA := Lib.hid (hb1.alloc hb1.size (.cells #[.int .i64 (cn : Int), .int .i64 (cd : Int)] 28)); clear hb1 hi hx0)
            | (go_at_call 37; (with_reducible refine (HFT.out (w1.alloc (.cells #[.int .i64 (cn : Int), .int .i64 (cd : Int)] 28))).mono ?_); rintro e w2 ⟨rfl, hb1⟩; have HB := Lib.hid (HBA.out.trans (hb1.mono HBA.out.size)); have HB37 := Lib.hid hb1; clear v0 v1; obtain ⟨v0, v1⟩ := HCB.out _ hb1; clear hb1))
          go_ret
          exact ⟨_, _, _, rfl, World.ownsRow_nil _ _ _ _, HBB.out _ HB.out⟩
        · by_cases h5 : (100 : Int) < (cd : Int)
          · rw [if_neg (by rw [hT, decide_eq_false (show ¬ (cd : Int) ≤ 100 by omega)]; simp)]
            clear hr hs ht lr hB0 hP hlen hfit h1 h2 hC hT hne hfb
            go_enter Try.func22, Try.ntmps22
            go_wp2_with (first
              | (go_at_call 19; (with_reducible refine (HPF.out _ (Below.refl _ _)).mono ?_); rintro e w1 ⟨aP, nP, cP, rfl, hi, hb1⟩; have HXP := Lib.hid hi; have HB := Lib.hid hb1; have HNP := Lib.hid hi.size; clear c0 c1 c2 c3 c4 c5; obtain ⟨c0, c1, c2, c3, c4, c5⟩ := HS.out _ hb1; have hn0 : ¬ (nP : Int) = 0 := (by have := HNP.out; have := HE.out; omega); have hx0 := heap_alloc_new w1 (.cells #[.int .i64 (cn : Int), .int .i64 (cd : Int)] 28); have HCB : Hid (∀ w', Below (w1.alloc (.cells #[.int .i64 (cn : Int), .int .i64 (cd : Int)] 28)).heap.size (w1.alloc (.cells #[.int .i64 (cn : Int), .int .i64 (cd : Int)] 28)) w' → w'.cell? ⟨w1.heap.size, 0, none⟩ = some (.int .i64 (cn : Int)) ∧ w'.cell? ⟨w1.heap.size, 1, none⟩ = some (.int .i64 (cd : Int))) := Lib.hid (fun w' hb => by have h := (hb.block w1.heap.size (by simp)).trans hx0; exact ⟨cell_of_row _ _ _ _ _ _ h, cell_of_row _ _ _ _ _ _ h⟩); obtain ⟨v0, v1⟩ := HCB.out _ (Below.refl _ _); have HBA := Lib.hid (hb1.alloc hb1.size (.cells #[.int .i64 (cn : Int), .int .i64 (cd : Int)] 28)); clear hb1 hi hx0)
              | (go_at_call 37; (with_reducible refine (HFT.out (w1.alloc (.cells #[.int .i64 (cn : Int), .int .i64 (cd : Int)] 28))).mono ?_); rintro e w2 ⟨rfl, hb1⟩; have HB := Lib.hid (HBA.out.trans (hb1.mono HBA.out.size)); have HB37 := Lib.hid hb1; clear v0 v1; obtain ⟨v0, v1⟩ := HCB.out _ hb1; clear hb1))
            go_ret
            exact ⟨_, _, _, rfl, World.ownsRow_nil _ _ _ _, HBB.out _ HB.out⟩
          · rw [if_pos ⟨hne, by rw [hT, hfb, decide_eq_true (show (cd : Int) ≤ 100 by omega), decide_eq_true (show 2 * (cn : Int) ≥ (cd : Int) by omega), decide_eq_true (show (cn : Int) ≤ (cd : Int) by omega)]; rfl⟩]
            have hp : prB r = true := by
              cases hp : prB r with
              | true => rfl
              | false =>
                rw [hP] at hne
                unfold prfV prfB at hne
                rw [hp] at hne
                exact absurd rfl hne
            have HR8 := Lib.hid (fun k => prB_all hp k)
            have h6 := (prB_iff.1 hp).1
            have hnr := hr.size
            have HFb := Lib.hid (fun k => sumF_in (p := P) (prB_all hp) k)
            have HGb := Lib.hid (fun k => sumG_in (p := P) (prB_all hp) k)
            have HRX : Hid (∀ w', Below (W.alloc (.cells #[.int .i64 kd, .slice ar nr cr, .slice none 0 0, .int .i64 0, .int .i64 (cn : Int), .int .i64 (cd : Int)] 30)).heap.size (W.alloc (.cells #[.int .i64 kd, .slice ar nr cr, .slice none 0 0, .int .i64 0, .int .i64 (cn : Int), .int .i64 (cd : Int)] 30)) w' → Ix w' (.slice ar nr cr) r) := Lib.hid (fun w' hb => hr.below (HBB.out _ hb))
            rw [← hnr]
            have hn6 : nr ≤ 6 := by omega
            have b2 : decide (2 * (cn : Int) < (cd : Int)) = false := decide_eq_false h3
            have b3 : decide (cd < cn) = false := decide_eq_false (by omega)
            have b4 : decide ((100 : Int) < (cd : Int)) = false := decide_eq_false h5
            have hb3 : cn ≤ cd ∧ cd ≤ 100 := by omega
            clear hr hs ht lr hB0 hP hlen hfit h1 h2 hC hT hne hfb hp h6 hnr h3 h4 h5
            go_enter Try.func22, Try.ntmps22
            go_wp2_with (first
              | (go_at_call 19; (with_reducible refine (HPF.out _ (Below.refl _ _)).mono ?_); rintro e w1 ⟨aP, nP, cP, rfl, hi, hb1⟩; have HXP := Lib.hid hi; have HB := Lib.hid hb1; have HNP := Lib.hid hi.size; clear c0 c1 c2 c3 c4 c5; obtain ⟨c0, c1, c2, c3, c4, c5⟩ := HS.out _ hb1; have hn0 : ¬ (nP : Int) = 0 := (by have := HNP.out; have := HE.out; omega); have b1 : ((nP : Int) == 0) = false := (by simpa using hn0); have hx0 := heap_alloc_new w1 (.cells #[.int .i64 (cn : Int), .int .i64 (cd : Int)] 28); have HCB : Hid (∀ w', Below (w1.alloc (.cells #[.int .i64 (cn : Int), .int .i64 (cd : Int)] 28)).heap.size (w1.alloc (.cells #[.int .i64 (cn : Int), .int .i64 (cd : Int)] 28)) w' → w'.cell? ⟨w1.heap.size, 0, none⟩ = some (.int .i64 (cn : Int)) ∧ w'.cell? ⟨w1.heap.size, 1, none⟩ = some (.int .i64 (cd : Int))) := Lib.hid (fun w' hb => by have h := (hb.block w1.heap.size (by simp)).trans hx0; exact ⟨cell_of_row _ _ _ _ _ _ h, cell_of_row _ _ _ _ _ _ h⟩); obtain ⟨v0, v1⟩ := HCB.out _ (Below.refl _ _); have HBA := Lib.hid (hb1.alloc hb1.size (.cells #[.int .i64 (cn : Int), .int .i64 (cd : Int)] 28)); clear hb1 hi hx0)
              | (go_at_call 37; (with_reducible refine (HFT.out (w1.alloc (.cells #[.int .i64 (cn : Int), .int .i64 (cd : Int)] 28))).mono ?_); rintro e w2 ⟨rfl, hb1⟩; have HB := Lib.hid (HBA.out.trans (hb1.mono HBA.out.size)); have HB37 := Lib.hid hb1; clear v0 v1; obtain ⟨v0, v1⟩ := HCB.out _ hb1; clear hb1))
            have HBW := Lib.hid (HBB.out _ HB.out)
            have hA1 : Below w1.heap.size w1 w2 := ((Below.refl _ _).alloc (Nat.le_refl _) _).trans (HB37.out.mono (by simp))
            have HW2 : Hid (∀ w', Below w2.heap.size w2 w' → (w'.cell? ⟨W.heap.size, 0, none⟩ = some (.int .i64 kd) ∧ w'.cell? ⟨W.heap.size, 1, none⟩ = some (.slice ar nr cr) ∧ w'.cell? ⟨W.heap.size, 2, none⟩ = some (.slice none 0 0) ∧ w'.cell? ⟨W.heap.size, 3, none⟩ = some (.int .i64 0) ∧ w'.cell? ⟨W.heap.size, 4, none⟩ = some (.int .i64 (cn : Int)) ∧ w'.cell? ⟨W.heap.size, 5, none⟩ = some (.int .i64 (cd : Int))) ∧ (w'.cell? ⟨w1.heap.size, 0, none⟩ = some (.int .i64 (cn : Int)) ∧ w'.cell? ⟨w1.heap.size, 1, none⟩ = some (.int .i64 (cd : Int))) ∧ Ix w' (.slice ar nr cr) r ∧ Ix w' (.slice aP nP cP) P ∧ Below W.heap.size W w') := Lib.hid (fun w' hb => ⟨HS.out w' (HB.out.trans (hb.mono HB.out.size)), HCB.out w' (HB37.out.trans (hb.mono HB37.out.size)), HRX.out w' (HB.out.trans (hb.mono HB.out.size)), HXP.out.below (hA1.trans (hb.mono hA1.size)), HBW.out.trans (hb.mono HBW.out.size)⟩)
            have HIN : Hid (∀ w' (k : Nat), Below w2.heap.size w2 w' → Calls Try.prog 38 #[.slice aP nP cP, .int .i64 (k : Int)] w' fun e w2 => e = .returned (.bool (decide ((k : Int) ∈ P))) ∧ Below w'.heap.size w' w2) := Lib.hid (fun w' k hb => rIn_any (HW2.out w' hb).2.2.2.1 (k : Int))
            clear hA1 HB37 HBW HB HCB HXP HRX HS HBA HBB HPF HFT c0 c1 c2 c3 c4 c5 v0 v1 b1 b2 b3 b4 w2n
            go_loopw [9, 10, 11] (fun fv gv kv wr => ∃ (k : Nat) (f g : Int), k ≤ nr ∧ kv = .int .i64 (k : Nat) ∧ fv = .int .i64 f ∧ gv = .int .i64 g ∧ Hid (f = sumF r P k ∧ g = sumG r P k) ∧ Hid (Below w2.heap.size w2 wr)) (fun _ _ kv _ => nr - (intOf kv).toNat)
            case atStart => exact ⟨0, 0, 0, by omega, rfl, rfl, rfl, Lib.hid ⟨rfl, rfl⟩, Lib.hid (Below.refl _ _)⟩
            case round =>
              obtain ⟨w, hw⟩ : ∃ w, w = wr := ⟨_, rfl⟩
              subst hw
              obtain ⟨k, f, g, hk, rfl, rfl, rfl, HFG, HBL⟩ := hrel
              obtain ⟨c0, c1, c2, c3, c4, c5⟩ := (HW2.out _ HBL.out).1
              by_cases hkn : k = nr
              · subst hkn
                have hfb := HFb.out k
                have hgb := HGb.out k
                rw [← HFG.out.1] at hfb
                rw [← HFG.out.2] at hgb
                have HFB : Hid ((0 ≤ f ∧ f ≤ 48) ∧ (0 ≤ g ∧ g ≤ 48)) := Lib.hid (by omega)
                clear hfb hgb
                go_wp2
                clear c0 c1 c2 c3 c4 c5
                obtain ⟨w3, hw3⟩ : ∃ w3, w3 = w := ⟨_, rfl⟩
                rw [← hw3]
                rw [← hw3] at HBL
                clear hw3
                have HBU : Hid (∀ w', Below w3.heap.size w3 w' → Below w2.heap.size w2 w') := Lib.hid (fun w' hb => HBL.out.trans (hb.mono HBL.out.size))
                go_loopw [12, 13, 14] (fun ov kv _ wr => ∃ (j : Nat) (vO : Value) (m : Nat), j ≤ k ∧ kv = .int .i64 (j : Nat) ∧ ov = vO ∧ m ≤ j ∧ Hid (OwK w3 wr w3.heap.size vO m (chN r P (cn : Int) (cd : Int) f g j))) (fun _ kv _ _ => k - (intOf kv).toNat)
                case atStart => exact ⟨0, _, 0, by omega, rfl, rfl, by omega, Lib.hid ⟨World.ownsRow_nil _ _ _ _, Below.refl _ _, Nat.le_refl _⟩⟩
                case round =>
                  obtain ⟨w4, hw⟩ : ∃ w, w = wr := ⟨_, rfl⟩
                  subst hw
                  obtain ⟨j, vO, m, hj, rfl, rfl, hmj, HO⟩ := hrel
                  obtain ⟨aO, cO, rfl⟩ := slice_of_owns HO.out.o
                  obtain ⟨c0, c1, c2, c3, c4, c5⟩ := (HW2.out _ (HBU.out _ HO.out.bl)).1
                  obtain ⟨v0, v1⟩ := (HW2.out _ (HBU.out _ HO.out.bl)).2.1
                  by_cases hjn : j = k
                  · subst hjn
                    have HBF := Lib.hid (HW2.out _ (HBU.out _ HO.out.bl)).2.2.2.2
                    have HBG := Lib.hid (HW2.out _ (HBU.out _ (Below.refl _ _))).2.2.2.2
                    go_wp2
                    go_ret
                    exact ⟨_, _, _, rfl, by have h := owns_mono HO.out.o HBG.out.size; rw [HFG.out.1, HFG.out.2] at h; exact h, HBF.out⟩
                  · have hlt : j < k := by omega
                    have hltI : (j : Int) < (k : Int) := by omega
                    obtain ⟨b, off, rfl, -, -, -, -⟩ := (HW2.out _ (HBU.out _ HO.out.bl)).2.2.1.at (by omega)
                    obtain ⟨x, hx⟩ : ∃ x, x = r.getD j 0 := ⟨_, rfl⟩
                    have HCK : Hid (∀ w', Below w2.heap.size w2 w' → w'.cell? ⟨b, off + j, none⟩ = some (.int .i64 x)) := Lib.hid (fun w' hb => by
                      obtain ⟨b', off', he, -, -, -, hcl⟩ := (HW2.out w' hb).2.2.1.at (by omega)
                      cases he
                      rw [hx]; exact hcl j hlt)
                    have hck := HCK.out _ (HBU.out _ HO.out.bl)
                    have hx8 := HR8.out j
                    obtain ⟨wv, hwv⟩ : ∃ wv, wv = wgt r P (cn : Int) (cd : Int) f g j := ⟨_, rfl⟩
                    have HCH : Hid (chN r P (cn : Int) (cd : Int) f g (j + 1) = chN r P (cn : Int) (cd : Int) f g j ++ if 0 < wv then [(wv, 0, (j : Int))] else []) := Lib.hid (by rw [chN_add hx8.1, hwv])
                    unfold wgt at hwv
                    rw [← hx] at hwv hx8
                    have hfg := HFB.out
                    obtain ⟨z0, hz0⟩ : ∃ z, z = (cd : Int) - (cn : Int) := ⟨_, rfl⟩
                    have bz0 : 0 ≤ z0 ∧ z0 ≤ 100 := by omega
                    obtain ⟨z1, hz1⟩ : ∃ z, z = z0 * f := ⟨_, rfl⟩
                    have bz1 : 0 ≤ z1 ∧ z1 ≤ 100 * 48 := by rw [hz1]; exact mul_le_of bz0 hfg.1
                    obtain ⟨z2, hz2⟩ : ∃ z, z = z1 * x := ⟨_, rfl⟩
                    have bz2 : 0 ≤ z2 ∧ z2 ≤ 100 * 48 * 8 := by rw [hz2]; exact mul_le_of bz1 hx8
                    obtain ⟨y1, hy1⟩ : ∃ y, y = (cn : Int) * g := ⟨_, rfl⟩
                    have by1 : 0 ≤ y1 ∧ y1 ≤ 100 * 48 := by rw [hy1]; exact mul_le_of (by omega) hfg.2
                    obtain ⟨y2, hy2⟩ : ∃ y, y = y1 * x := ⟨_, rfl⟩
                    have by2 : 0 ≤ y2 ∧ y2 ≤ 100 * 48 * 8 := by rw [hy2]; exact mul_le_of by1 hx8
                    have wz0 : IntKind.i64.wrap ((cd : Int) - (cn : Int)) = z0 := by rw [hz0]; exact IntWalk.i64_in _ (by omega)
                    have wz1 : IntKind.i64.wrap (z0 * f) = z1 := by rw [hz1]; exact IntWalk.i64_in _ (by omega)
                    have wz2 : IntKind.i64.wrap (z1 * x) = z2 := by rw [hz2]; exact IntWalk.i64_in _ (by omega)
                    have wy1 : IntKind.i64.wrap ((cn : Int) * g) = y1 := by rw [hy1]; exact IntWalk.i64_in _ (by omega)
                    have wy2 : IntKind.i64.wrap (y1 * x) = y2 := by rw [hy2]; exact IntWalk.i64_in _ (by omega)
                    have HWV : Hid (wv = if g = 0 then x else if (j : Int) ∈ P then y2 else z2) := Lib.hid (by rw [hwv, hy2, hy1, hz2, hz1, hz0, Int.mul_comm x, Int.mul_comm x])
                    have HIJ := Lib.hid (HIN.out)
                    clear hwv hx hz0 hz1 hz2 hy1 hy2
                    by_cases hg0 : g = 0
                    · by_cases hm : (j : Int) ∈ P
                      · by_cases hv : 0 < x
                        · have HV : Hid (wv = x) := Lib.hid (by rw [HWV.out, if_pos hg0])
                          have HCN : Hid (chN r P (cn : Int) (cd : Int) f g (j + 1) = chN r P (cn : Int) (cd : Int) f g j ++ [(x, 0, (j : Int))]) := Lib.hid (by rw [HCH.out, HV.out, if_pos hv])
                          have HI : Hid (∀ w', Below w2.heap.size w2 w' → Calls Try.prog 38 #[.slice aP nP cP, .int .i64 (j : Int)] w' fun e w2 => e = .returned (.bool true) ∧ Below w'.heap.size w' w2) := Lib.hid (fun w' hb => by have h := HIJ.out w' j hb; rwa [decide_eq_true hm] at h)
                          clear HCH HV HWV HIJ hm
                          have hgq : (g == 0) = true := by simpa using hg0
                          clear hg0
                          go_upto_region 17 with fail
                          go_quiet (fail)
                          have HB4 : Hid (Below w4.heap.size w4 (w4.drewN nq)) := Lib.hid ⟨rfl, rfl, rfl, Nat.le_refl _, fun _ _ => rfl⟩
                          clear c0 c1 c2 c3 c4 c5 v0 v1 hck
                          generalize w4.drewN nq = w6 at HB4 ⊢
                          have HO6 := Lib.hid (HO.out.later HB4.out)
                          obtain ⟨c0, c1, c2, c3, c4, c5⟩ := (HW2.out _ (HBU.out _ HO6.out.bl)).1
                          obtain ⟨v0, v1⟩ := (HW2.out _ (HBU.out _ HO6.out.bl)).2.1
                          have hck := HCK.out _ (HBU.out _ HO6.out.bl)
                          go_upto_region 19 with (go_at_call 38; (with_reducible refine (HI.out _ (HBU.out _ HO6.out.bl)).mono ?_); rintro e w5 ⟨rfl, hb1⟩; have HO5 := Lib.hid (HO6.out.later hb1); clear c0 c1 c2 c3 c4 c5 v0 v1 hck; obtain ⟨c0, c1, c2, c3, c4, c5⟩ := (HW2.out _ (HBU.out _ HO5.out.bl)).1; obtain ⟨v0, v1⟩ := (HW2.out _ (HBU.out _ HO5.out.bl)).2.1; have hck := HCK.out _ (HBU.out _ HO5.out.bl); clear hb1)
                          go_quiet (fail)
                          have HB5 : Hid (Below w5.heap.size w5 (w5.drewN nq)) := Lib.hid ⟨rfl, rfl, rfl, Nat.le_refl _, fun _ _ => rfl⟩
                          clear c0 c1 c2 c3 c4 c5 v0 v1 hck
                          generalize w5.drewN nq = w7 at HB5 ⊢
                          have HO7 := Lib.hid (HO5.out.later HB5.out)
                          obtain ⟨c0, c1, c2, c3, c4, c5⟩ := (HW2.out _ (HBU.out _ HO7.out.bl)).1
                          have hck := HCK.out _ (HBU.out _ HO7.out.bl)
                          obtain ⟨gA, capA, wA, hrunA, hMA⟩ := HO7.out.step (by omega) x 0 (j : Int)
                          have HMA := Lib.hid hMA
                          clear hMA
                          go_wp2
                          go_roundw
                          case rel => exact ⟨j + 1, _, m + 1, by omega, by go_num, rfl, by omega, by rw [HCN.out]; exact HMA⟩
                          case measure => simp [intOf]; omega
                        · have HV : Hid (wv = x) := Lib.hid (by rw [HWV.out, if_pos hg0])
                          have HCN : Hid (chN r P (cn : Int) (cd : Int) f g (j + 1) = chN r P (cn : Int) (cd : Int) f g j) := Lib.hid (by rw [HCH.out, HV.out, if_neg hv, List.append_nil])
                          have HI : Hid (∀ w', Below w2.heap.size w2 w' → Calls Try.prog 38 #[.slice aP nP cP, .int .i64 (j : Int)] w' fun e w2 => e = .returned (.bool true) ∧ Below w'.heap.size w' w2) := Lib.hid (fun w' hb => by have h := HIJ.out w' j hb; rwa [decide_eq_true hm] at h)
                          clear HCH HV HWV HIJ hm
                          have hgq : (g == 0) = true := by simpa using hg0
                          clear hg0
                          go_upto_region 17 with fail
                          go_quiet (fail)
                          have HB4 : Hid (Below w4.heap.size w4 (w4.drewN nq)) := Lib.hid ⟨rfl, rfl, rfl, Nat.le_refl _, fun _ _ => rfl⟩
                          clear c0 c1 c2 c3 c4 c5 v0 v1 hck
                          generalize w4.drewN nq = w6 at HB4 ⊢
                          have HO6 := Lib.hid (HO.out.later HB4.out)
                          obtain ⟨c0, c1, c2, c3, c4, c5⟩ := (HW2.out _ (HBU.out _ HO6.out.bl)).1
                          obtain ⟨v0, v1⟩ := (HW2.out _ (HBU.out _ HO6.out.bl)).2.1
                          have hck := HCK.out _ (HBU.out _ HO6.out.bl)
                          go_upto_region 19 with (go_at_call 38; (with_reducible refine (HI.out _ (HBU.out _ HO6.out.bl)).mono ?_); rintro e w5 ⟨rfl, hb1⟩; have HO5 := Lib.hid (HO6.out.later hb1); clear c0 c1 c2 c3 c4 c5 v0 v1 hck; obtain ⟨c0, c1, c2, c3, c4, c5⟩ := (HW2.out _ (HBU.out _ HO5.out.bl)).1; obtain ⟨v0, v1⟩ := (HW2.out _ (HBU.out _ HO5.out.bl)).2.1; have hck := HCK.out _ (HBU.out _ HO5.out.bl); clear hb1)
                          go_quiet (fail)
                          have HB5 : Hid (Below w5.heap.size w5 (w5.drewN nq)) := Lib.hid ⟨rfl, rfl, rfl, Nat.le_refl _, fun _ _ => rfl⟩
                          clear c0 c1 c2 c3 c4 c5 v0 v1 hck
                          generalize w5.drewN nq = w7 at HB5 ⊢
                          have HO7 := Lib.hid (HO5.out.later HB5.out)
                          obtain ⟨c0, c1, c2, c3, c4, c5⟩ := (HW2.out _ (HBU.out _ HO7.out.bl)).1
                          have hck := HCK.out _ (HBU.out _ HO7.out.bl)
                          go_wp2
                          go_roundw
                          case rel => exact ⟨j + 1, _, m, by omega, by go_num, rfl, by omega, by rw [HCN.out]; exact HO7⟩
                          case measure => simp [intOf]; omega
                      · by_cases hv : 0 < x
                        · have HV : Hid (wv = x) := Lib.hid (by rw [HWV.out, if_pos hg0])
                          have HCN : Hid (chN r P (cn : Int) (cd : Int) f g (j + 1) = chN r P (cn : Int) (cd : Int) f g j ++ [(x, 0, (j : Int))]) := Lib.hid (by rw [HCH.out, HV.out, if_pos hv])
                          have HI : Hid (∀ w', Below w2.heap.size w2 w' → Calls Try.prog 38 #[.slice aP nP cP, .int .i64 (j : Int)] w' fun e w2 => e = .returned (.bool false) ∧ Below w'.heap.size w' w2) := Lib.hid (fun w' hb => by have h := HIJ.out w' j hb; rwa [decide_eq_false hm] at h)
                          clear HCH HV HWV HIJ hm
                          have hgq : (g == 0) = true := by simpa using hg0
                          clear hg0
                          go_upto_region 17 with fail
                          go_quiet (fail)
                          have HB4 : Hid (Below w4.heap.size w4 (w4.drewN nq)) := Lib.hid ⟨rfl, rfl, rfl, Nat.le_refl _, fun _ _ => rfl⟩
                          clear c0 c1 c2 c3 c4 c5 v0 v1 hck
                          generalize w4.drewN nq = w6 at HB4 ⊢
                          have HO6 := Lib.hid (HO.out.later HB4.out)
                          obtain ⟨c0, c1, c2, c3, c4, c5⟩ := (HW2.out _ (HBU.out _ HO6.out.bl)).1
                          obtain ⟨v0, v1⟩ := (HW2.out _ (HBU.out _ HO6.out.bl)).2.1
                          have hck := HCK.out _ (HBU.out _ HO6.out.bl)
                          go_upto_region 20 with (go_at_call 38; (with_reducible refine (HI.out _ (HBU.out _ HO6.out.bl)).mono ?_); rintro e w5 ⟨rfl, hb1⟩; have HO5 := Lib.hid (HO6.out.later hb1); clear c0 c1 c2 c3 c4 c5 v0 v1 hck; obtain ⟨c0, c1, c2, c3, c4, c5⟩ := (HW2.out _ (HBU.out _ HO5.out.bl)).1; obtain ⟨v0, v1⟩ := (HW2.out _ (HBU.out _ HO5.out.bl)).2.1; have hck := HCK.out _ (HBU.out _ HO5.out.bl); clear hb1)
                          have HO7 := HO5
                          obtain ⟨gA, capA, wA, hrunA, hMA⟩ := HO7.out.step (by omega) x 0 (j : Int)
                          have HMA := Lib.hid hMA
                          clear hMA
                          go_wp2
                          go_roundw
                          case rel => exact ⟨j + 1, _, m + 1, by omega, by go_num, rfl, by omega, by rw [HCN.out]; exact HMA⟩
                          case measure => simp [intOf]; omega
                        · have HV : Hid (wv = x) := Lib.hid (by rw [HWV.out, if_pos hg0])
                          have HCN : Hid (chN r P (cn : Int) (cd : Int) f g (j + 1) = chN r P (cn : Int) (cd : Int) f g j) := Lib.hid (by rw [HCH.out, HV.out, if_neg hv, List.append_nil])
                          have HI : Hid (∀ w', Below w2.heap.size w2 w' → Calls Try.prog 38 #[.slice aP nP cP, .int .i64 (j : Int)] w' fun e w2 => e = .returned (.bool false) ∧ Below w'.heap.size w' w2) := Lib.hid (fun w' hb => by have h := HIJ.out w' j hb; rwa [decide_eq_false hm] at h)
                          clear HCH HV HWV HIJ hm
                          have hgq : (g == 0) = true := by simpa using hg0
                          clear hg0
                          go_upto_region 17 with fail
                          go_quiet (fail)
                          have HB4 : Hid (Below w4.heap.size w4 (w4.drewN nq)) := Lib.hid ⟨rfl, rfl, rfl, Nat.le_refl _, fun _ _ => rfl⟩
                          clear c0 c1 c2 c3 c4 c5 v0 v1 hck
                          generalize w4.drewN nq = w6 at HB4 ⊢
                          have HO6 := Lib.hid (HO.out.later HB4.out)
                          obtain ⟨c0, c1, c2, c3, c4, c5⟩ := (HW2.out _ (HBU.out _ HO6.out.bl)).1
                          obtain ⟨v0, v1⟩ := (HW2.out _ (HBU.out _ HO6.out.bl)).2.1
                          have hck := HCK.out _ (HBU.out _ HO6.out.bl)
                          go_upto_region 20 with (go_at_call 38; (with_reducible refine (HI.out _ (HBU.out _ HO6.out.bl)).mono ?_); rintro e w5 ⟨rfl, hb1⟩; have HO5 := Lib.hid (HO6.out.later hb1); clear c0 c1 c2 c3 c4 c5 v0 v1 hck; obtain ⟨c0, c1, c2, c3, c4, c5⟩ := (HW2.out _ (HBU.out _ HO5.out.bl)).1; obtain ⟨v0, v1⟩ := (HW2.out _ (HBU.out _ HO5.out.bl)).2.1; have hck := HCK.out _ (HBU.out _ HO5.out.bl); clear hb1)
                          have HO7 := HO5
                          go_wp2
                          go_roundw
                          case rel => exact ⟨j + 1, _, m, by omega, by go_num, rfl, by omega, by rw [HCN.out]; exact HO7⟩
                          case measure => simp [intOf]; omega
                    · by_cases hm : (j : Int) ∈ P
                      · by_cases hv : 0 < y2
                        · have HV : Hid (wv = y2) := Lib.hid (by rw [HWV.out, if_neg hg0, if_pos hm])
                          have HCN : Hid (chN r P (cn : Int) (cd : Int) f g (j + 1) = chN r P (cn : Int) (cd : Int) f g j ++ [(y2, 0, (j : Int))]) := Lib.hid (by rw [HCH.out, HV.out, if_pos hv])
                          have HI : Hid (∀ w', Below w2.heap.size w2 w' → Calls Try.prog 38 #[.slice aP nP cP, .int .i64 (j : Int)] w' fun e w2 => e = .returned (.bool true) ∧ Below w'.heap.size w' w2) := Lib.hid (fun w' hb => by have h := HIJ.out w' j hb; rwa [decide_eq_true hm] at h)
                          clear HCH HV HWV HIJ hm
                          have hgq : (g == 0) = false := by simpa using hg0
                          go_upto_region 17 with fail
                          go_quiet (fail)
                          have HB4 : Hid (Below w4.heap.size w4 (w4.drewN nq)) := Lib.hid ⟨rfl, rfl, rfl, Nat.le_refl _, fun _ _ => rfl⟩
                          clear c0 c1 c2 c3 c4 c5 v0 v1 hck
                          generalize w4.drewN nq = w6 at HB4 ⊢
                          have HO6 := Lib.hid (HO.out.later HB4.out)
                          obtain ⟨c0, c1, c2, c3, c4, c5⟩ := (HW2.out _ (HBU.out _ HO6.out.bl)).1
                          obtain ⟨v0, v1⟩ := (HW2.out _ (HBU.out _ HO6.out.bl)).2.1
                          have hck := HCK.out _ (HBU.out _ HO6.out.bl)
                          go_upto_region 19 with (go_at_call 38; (with_reducible refine (HI.out _ (HBU.out _ HO6.out.bl)).mono ?_); rintro e w5 ⟨rfl, hb1⟩; have HO5 := Lib.hid (HO6.out.later hb1); clear c0 c1 c2 c3 c4 c5 v0 v1 hck; obtain ⟨c0, c1, c2, c3, c4, c5⟩ := (HW2.out _ (HBU.out _ HO5.out.bl)).1; obtain ⟨v0, v1⟩ := (HW2.out _ (HBU.out _ HO5.out.bl)).2.1; have hck := HCK.out _ (HBU.out _ HO5.out.bl); clear hb1)
                          go_quiet (fail)
                          have HB5 : Hid (Below w5.heap.size w5 (w5.drewN nq)) := Lib.hid ⟨rfl, rfl, rfl, Nat.le_refl _, fun _ _ => rfl⟩
                          clear c0 c1 c2 c3 c4 c5 v0 v1 hck
                          generalize w5.drewN nq = w7 at HB5 ⊢
                          have HO7 := Lib.hid (HO5.out.later HB5.out)
                          obtain ⟨c0, c1, c2, c3, c4, c5⟩ := (HW2.out _ (HBU.out _ HO7.out.bl)).1
                          have hck := HCK.out _ (HBU.out _ HO7.out.bl)
                          obtain ⟨gA, capA, wA, hrunA, hMA⟩ := HO7.out.step (by omega) y2 0 (j : Int)
                          have HMA := Lib.hid hMA
                          clear hMA
                          go_wp2
                          go_roundw
                          case rel => exact ⟨j + 1, _, m + 1, by omega, by go_num, rfl, by omega, by rw [HCN.out]; exact HMA⟩
                          case measure => simp [intOf]; omega
                        · have HV : Hid (wv = y2) := Lib.hid (by rw [HWV.out, if_neg hg0, if_pos hm])
                          have HCN : Hid (chN r P (cn : Int) (cd : Int) f g (j + 1) = chN r P (cn : Int) (cd : Int) f g j) := Lib.hid (by rw [HCH.out, HV.out, if_neg hv, List.append_nil])
                          have HI : Hid (∀ w', Below w2.heap.size w2 w' → Calls Try.prog 38 #[.slice aP nP cP, .int .i64 (j : Int)] w' fun e w2 => e = .returned (.bool true) ∧ Below w'.heap.size w' w2) := Lib.hid (fun w' hb => by have h := HIJ.out w' j hb; rwa [decide_eq_true hm] at h)
                          clear HCH HV HWV HIJ hm
                          have hgq : (g == 0) = false := by simpa using hg0
                          go_upto_region 17 with fail
                          go_quiet (fail)
                          have HB4 : Hid (Below w4.heap.size w4 (w4.drewN nq)) := Lib.hid ⟨rfl, rfl, rfl, Nat.le_refl _, fun _ _ => rfl⟩
                          clear c0 c1 c2 c3 c4 c5 v0 v1 hck
                          generalize w4.drewN nq = w6 at HB4 ⊢
                          have HO6 := Lib.hid (HO.out.later HB4.out)
                          obtain ⟨c0, c1, c2, c3, c4, c5⟩ := (HW2.out _ (HBU.out _ HO6.out.bl)).1
                          obtain ⟨v0, v1⟩ := (HW2.out _ (HBU.out _ HO6.out.bl)).2.1
                          have hck := HCK.out _ (HBU.out _ HO6.out.bl)
                          go_upto_region 19 with (go_at_call 38; (with_reducible refine (HI.out _ (HBU.out _ HO6.out.bl)).mono ?_); rintro e w5 ⟨rfl, hb1⟩; have HO5 := Lib.hid (HO6.out.later hb1); clear c0 c1 c2 c3 c4 c5 v0 v1 hck; obtain ⟨c0, c1, c2, c3, c4, c5⟩ := (HW2.out _ (HBU.out _ HO5.out.bl)).1; obtain ⟨v0, v1⟩ := (HW2.out _ (HBU.out _ HO5.out.bl)).2.1; have hck := HCK.out _ (HBU.out _ HO5.out.bl); clear hb1)
                          go_quiet (fail)
                          have HB5 : Hid (Below w5.heap.size w5 (w5.drewN nq)) := Lib.hid ⟨rfl, rfl, rfl, Nat.le_refl _, fun _ _ => rfl⟩
                          clear c0 c1 c2 c3 c4 c5 v0 v1 hck
                          generalize w5.drewN nq = w7 at HB5 ⊢
                          have HO7 := Lib.hid (HO5.out.later HB5.out)
                          obtain ⟨c0, c1, c2, c3, c4, c5⟩ := (HW2.out _ (HBU.out _ HO7.out.bl)).1
                          have hck := HCK.out _ (HBU.out _ HO7.out.bl)
                          go_wp2
                          go_roundw
                          case rel => exact ⟨j + 1, _, m, by omega, by go_num, rfl, by omega, by rw [HCN.out]; exact HO7⟩
                          case measure => simp [intOf]; omega
                      · by_cases hv : 0 < z2
                        · have HV : Hid (wv = z2) := Lib.hid (by rw [HWV.out, if_neg hg0, if_neg hm])
                          have HCN : Hid (chN r P (cn : Int) (cd : Int) f g (j + 1) = chN r P (cn : Int) (cd : Int) f g j ++ [(z2, 0, (j : Int))]) := Lib.hid (by rw [HCH.out, HV.out, if_pos hv])
                          have HI : Hid (∀ w', Below w2.heap.size w2 w' → Calls Try.prog 38 #[.slice aP nP cP, .int .i64 (j : Int)] w' fun e w2 => e = .returned (.bool false) ∧ Below w'.heap.size w' w2) := Lib.hid (fun w' hb => by have h := HIJ.out w' j hb; rwa [decide_eq_false hm] at h)
                          clear HCH HV HWV HIJ hm
                          have hgq : (g == 0) = false := by simpa using hg0
                          go_upto_region 17 with fail
                          go_quiet (fail)
                          have HB4 : Hid (Below w4.heap.size w4 (w4.drewN nq)) := Lib.hid ⟨rfl, rfl, rfl, Nat.le_refl _, fun _ _ => rfl⟩
                          clear c0 c1 c2 c3 c4 c5 v0 v1 hck
                          generalize w4.drewN nq = w6 at HB4 ⊢
                          have HO6 := Lib.hid (HO.out.later HB4.out)
                          obtain ⟨c0, c1, c2, c3, c4, c5⟩ := (HW2.out _ (HBU.out _ HO6.out.bl)).1
                          obtain ⟨v0, v1⟩ := (HW2.out _ (HBU.out _ HO6.out.bl)).2.1
                          have hck := HCK.out _ (HBU.out _ HO6.out.bl)
                          go_upto_region 20 with (go_at_call 38; (with_reducible refine (HI.out _ (HBU.out _ HO6.out.bl)).mono ?_); rintro e w5 ⟨rfl, hb1⟩; have HO5 := Lib.hid (HO6.out.later hb1); clear c0 c1 c2 c3 c4 c5 v0 v1 hck; obtain ⟨c0, c1, c2, c3, c4, c5⟩ := (HW2.out _ (HBU.out _ HO5.out.bl)).1; obtain ⟨v0, v1⟩ := (HW2.out _ (HBU.out _ HO5.out.bl)).2.1; have hck := HCK.out _ (HBU.out _ HO5.out.bl); clear hb1)
                          have HO7 := HO5
                          obtain ⟨gA, capA, wA, hrunA, hMA⟩ := HO7.out.step (by omega) z2 0 (j : Int)
                          have HMA := Lib.hid hMA
                          clear hMA
                          go_wp2
                          go_roundw
                          case rel => exact ⟨j + 1, _, m + 1, by omega, by go_num, rfl, by omega, by rw [HCN.out]; exact HMA⟩
                          case measure => simp [intOf]; omega
                        · have HV : Hid (wv = z2) := Lib.hid (by rw [HWV.out, if_neg hg0, if_neg hm])
                          have HCN : Hid (chN r P (cn : Int) (cd : Int) f g (j + 1) = chN r P (cn : Int) (cd : Int) f g j) := Lib.hid (by rw [HCH.out, HV.out, if_neg hv, List.append_nil])
                          have HI : Hid (∀ w', Below w2.heap.size w2 w' → Calls Try.prog 38 #[.slice aP nP cP, .int .i64 (j : Int)] w' fun e w2 => e = .returned (.bool false) ∧ Below w'.heap.size w' w2) := Lib.hid (fun w' hb => by have h := HIJ.out w' j hb; rwa [decide_eq_false hm] at h)
                          clear HCH HV HWV HIJ hm
                          have hgq : (g == 0) = false := by simpa using hg0
                          go_upto_region 17 with fail
                          go_quiet (fail)
                          have HB4 : Hid (Below w4.heap.size w4 (w4.drewN nq)) := Lib.hid ⟨rfl, rfl, rfl, Nat.le_refl _, fun _ _ => rfl⟩
                          clear c0 c1 c2 c3 c4 c5 v0 v1 hck
                          generalize w4.drewN nq = w6 at HB4 ⊢
                          have HO6 := Lib.hid (HO.out.later HB4.out)
                          obtain ⟨c0, c1, c2, c3, c4, c5⟩ := (HW2.out _ (HBU.out _ HO6.out.bl)).1
                          obtain ⟨v0, v1⟩ := (HW2.out _ (HBU.out _ HO6.out.bl)).2.1
                          have hck := HCK.out _ (HBU.out _ HO6.out.bl)
                          go_upto_region 20 with (go_at_call 38; (with_reducible refine (HI.out _ (HBU.out _ HO6.out.bl)).mono ?_); rintro e w5 ⟨rfl, hb1⟩; have HO5 := Lib.hid (HO6.out.later hb1); clear c0 c1 c2 c3 c4 c5 v0 v1 hck; obtain ⟨c0, c1, c2, c3, c4, c5⟩ := (HW2.out _ (HBU.out _ HO5.out.bl)).1; obtain ⟨v0, v1⟩ := (HW2.out _ (HBU.out _ HO5.out.bl)).2.1; have hck := HCK.out _ (HBU.out _ HO5.out.bl); clear hb1)
                          have HO7 := HO5
                          go_wp2
                          go_roundw
                          case rel => exact ⟨j + 1, _, m, by omega, by go_num, rfl, by omega, by rw [HCN.out]; exact HO7⟩
                          case measure => simp [intOf]; omega
              · have hlt : k < nr := by omega
                have hltI : (k : Int) < (nr : Int) := by omega
                obtain ⟨b, off, rfl, -, -, -, -⟩ := (HW2.out w HBL.out).2.2.1.at (by omega)
                obtain ⟨x, hx⟩ : ∃ x, x = r.getD k 0 := ⟨_, rfl⟩
                have HCK : Hid (∀ w', Below w2.heap.size w2 w' → w'.cell? ⟨b, off + k, none⟩ = some (.int .i64 x)) := Lib.hid (fun w' hb => by
                  obtain ⟨b', off', he, -, -, -, hcl⟩ := (HW2.out w' hb).2.2.1.at (by omega)
                  cases he
                  rw [hx]; exact hcl k hlt)
                have hfb := HFb.out (k + 1)
                have hgb := HGb.out (k + 1)
                have h8 := HR8.out k
                have e1 := sumF_add (p := P) h8.1
                have e2 := sumG_add (p := P) h8.1
                rw [e1, ← HFG.out.1, ← hx] at hfb
                rw [e2, ← HFG.out.2, ← hx] at hgb
                rw [← HFG.out.1, ← hx] at e1
                rw [← HFG.out.2, ← hx] at e2
                have HI := Lib.hid (HIN.out w k HBL.out)
                clear h8 hx
                by_cases hm : (k : Int) ∈ P
                · rw [if_pos hm] at hfb hgb e1 e2
                  rw [decide_eq_true hm] at HI
                  have HFN : Hid (f + x = sumF r P (k + 1) ∧ g = sumG r P (k + 1)) := Lib.hid ⟨e1.symm, by rw [e2, Int.add_zero]⟩
                  have wf : IntKind.i64.wrap (f + x) = f + x := IntWalk.i64_in _ (by omega)
                  clear e1 e2 hm
                  go_wp2_with (go_at_call 38; (with_reducible refine HI.out.mono ?_); rintro e w5 ⟨rfl, hb1⟩; have HBR := Lib.hid (HBL.out.trans (hb1.mono HBL.out.size)); clear c0 c1 c2 c3 c4 c5; obtain ⟨c0, c1, c2, c3, c4, c5⟩ := (HW2.out _ HBR.out).1; have hck := HCK.out _ HBR.out; clear hb1)
                  go_roundw
                  case rel => exact ⟨k + 1, _, _, by omega, by go_num, rfl, rfl, HFN, HBR⟩
                  case measure => simp [intOf]; omega
                · rw [if_neg hm] at hfb hgb e1 e2
                  rw [decide_eq_false hm] at HI
                  have HFN : Hid (f = sumF r P (k + 1) ∧ g + x = sumG r P (k + 1)) := Lib.hid ⟨by rw [e1, Int.add_zero], e2.symm⟩
                  have wf : IntKind.i64.wrap (g + x) = g + x := IntWalk.i64_in _ (by omega)
                  clear e1 e2 hm
                  go_wp2_with (go_at_call 38; (with_reducible refine HI.out.mono ?_); rintro e w5 ⟨rfl, hb1⟩; have HBR := Lib.hid (HBL.out.trans (hb1.mono HBL.out.size)); clear c0 c1 c2 c3 c4 c5; obtain ⟨c0, c1, c2, c3, c4, c5⟩ := (HW2.out _ HBR.out).1; have hck := HCK.out _ HBR.out; clear hb1)
                  go_roundw
                  case rel => exact ⟨k + 1, _, _, by omega, by go_num, rfl, rfl, HFN, HBR⟩
                  case measure => simp [intOf]; omega

end Go.Proofs.Ytcpgoaombabfjaa
