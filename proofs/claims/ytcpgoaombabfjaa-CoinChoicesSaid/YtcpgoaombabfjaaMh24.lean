/- The law CoinChoices, walked. Condition: the slices read as ints; any numbers. -/
import Derived.Test.YtcpgoaombabfjaaMh23
namespace Go.Proofs.Ytcpgoaombabfjaa
set_option linter.unusedSimpArgs false
set_option linter.unusedVariables false
open Go Go.RowKit
attribute [local go_sem ↓] appI_rw

/-- What the operations of the law's last region return. -/
def CPV (D s t : Value) (b : Nat) (P : List Int) (C : List Ch) : Nat → Value → World → Prop
  | 0, u, _ => u = D
  | 1, u, _ => u = .pointer (some ⟨b, 0, none⟩)
  | 2, u, _ => u = s
  | 3, u, _ => u = .pointer (some ⟨b, 1, none⟩)
  | 4, u, _ => u = t
  | 5, u, w => ∃ ao n cap, u = .slice ao n cap ∧ Ix w (.slice ao n cap) P
  | 6, u, _ => u = D
  | 7, u, _ => u = .pointer (some ⟨b, 0, none⟩)
  | 8, u, _ => u = s
  | 9, u, _ => u = .pointer (some ⟨b, 1, none⟩)
  | 10, u, _ => u = t
  | 11, u, w => ∃ ao n cap, u = .slice ao n cap ∧ Ix w (.slice ao n cap) P
  | 12, u, _ => u = .bool true
  | 13, u, _ => u = .bool false
  | 14, u, _ => u = .bool false
  | 15, u, _ => u = D
  | 16, u, _ => u = .pointer (some ⟨b, 0, none⟩)
  | 17, u, _ => u = s
  | 18, u, _ => u = .pointer (some ⟨b, 1, none⟩)
  | 19, u, _ => u = t
  | 20, u, w => ∃ ao n cap, u = .slice ao n cap ∧ Cx w (.slice ao n cap) C
  | 21, u, _ => u = D
  | 22, u, _ => u = .pointer (some ⟨b, 0, none⟩)
  | 23, u, _ => u = s
  | 24, u, _ => u = .pointer (some ⟨b, 1, none⟩)
  | 25, u, _ => u = t
  | 26, u, w => ∃ ao n cap, u = .slice ao n cap ∧ Cx w (.slice ao n cap) C
  | 27, u, _ => u = .bool true
  | 28, u, _ => u = .bool false
  | 29, u, _ => u = .bool false
  | _, _, _ => True
theorem CPV.below {D s t : Value} {b : Nat} {P : List Int} {C : List Ch} {w w' : World} (hb : Below w.heap.size w w') : ∀ i x, CPV D s t b P C i x w → CPV D s t b P C i x w'
  | 0, _, h => h
  | 1, _, h => h
  | 2, _, h => h
  | 3, _, h => h
  | 4, _, h => h
  | 5, _, ⟨a, n, c, e, h⟩ => ⟨a, n, c, e, h.below hb⟩
  | 6, _, h => h
  | 7, _, h => h
  | 8, _, h => h
  | 9, _, h => h
  | 10, _, h => h
  | 11, _, ⟨a, n, c, e, h⟩ => ⟨a, n, c, e, h.below hb⟩
  | 12, _, h => h
  | 13, _, h => h
  | 14, _, h => h
  | 15, _, h => h
  | 16, _, h => h
  | 17, _, h => h
  | 18, _, h => h
  | 19, _, h => h
  | 20, _, ⟨a, n, c, e, h⟩ => ⟨a, n, c, e, h.below hb⟩
  | 21, _, h => h
  | 22, _, h => h
  | 23, _, h => h
  | 24, _, h => h
  | 25, _, h => h
  | 26, _, ⟨a, n, c, e, h⟩ => ⟨a, n, c, e, h.below hb⟩
  | 27, _, h => h
  | 28, _, h => h
  | 29, _, h => h
  | _ + 30, _, h => h
def cpCh : List (Nat × Nat) := [(2, 1), (4, 3), (5, 0), (5, 2), (5, 4), (8, 7), (10, 9), (11, 6), (11, 8), (11, 10), (12, 5), (12, 11), (13, 12), (14, 13), (15, 14), (16, 14), (17, 16), (17, 14), (18, 14), (19, 18), (19, 14), (20, 15), (20, 17), (20, 19), (20, 14), (21, 14), (22, 14), (23, 22), (23, 14), (24, 14), (25, 24), (25, 14), (26, 21), (26, 23), (26, 25), (26, 14), (27, 20), (27, 26), (27, 14), (28, 27), (28, 14), (29, 14), (29, 28)]

theorem prf_fit2 (r s t : List Int) (j : Nat) : I64 ((prfV r s t).getD j 0) := by
  by_cases hj : j < (prfV r s t).length
  · unfold prfV at hj ⊢
    split
    · rename_i hb
      rw [if_pos hb] at hj
      obtain ⟨i, h1, h2, h3⟩ := best_mem (getI_mem hj)
      have := hb
      unfold prfB at this
      simp only [Bool.and_eq_true] at this
      have h6 := (prB_iff.1 this.1.1).1
      rw [h3]; exact ⟨by omega, by omega⟩
    · rename_i hb
      rw [if_neg hb] at hj; simp at hj
  · rw [out_zero (by omega)]; decide
theorem prf_len8 {r s t : List Int} (h : r.length ≤ 8) : (prfV r s t).length ≤ 8 := Nat.le_trans (prf_len r s t) h
theorem wgt_in2 {r p : List Int} {cn cd f g : Int} (hr : ∀ k, 0 ≤ r.getD k 0 ∧ r.getD k 0 ≤ 8) (hf : 0 ≤ f ∧ f ≤ 64) (hg : 0 ≤ g ∧ g ≤ 64) (hc : 0 ≤ cn ∧ cn ≤ cd ∧ cd ≤ 100) (k : Nat) : 0 ≤ wgt r p cn cd f g k ∧ wgt r p cn cd f g k ≤ 51200 := by
  have h := hr k
  have h1 := mul_le_of (show 0 ≤ cn ∧ cn ≤ 100 by omega) hg
  have h2 := mul_le_of (show 0 ≤ cd - cn ∧ cd - cn ≤ 100 by omega) hf
  have h3 := mul_le_of h h1
  have h4 := mul_le_of h h2
  unfold wgt
  split
  · omega
  · split <;> omega
theorem chN_in2 {r p : List Int} {cn cd f g : Int} (hr : ∀ k, 0 ≤ r.getD k 0 ∧ r.getD k 0 ≤ 8) (hf : 0 ≤ f ∧ f ≤ 64) (hg : 0 ≤ g ∧ g ≤ 64) (hc : 0 ≤ cn ∧ cn ≤ cd ∧ cd ≤ 100) : ∀ (k : Nat) (x : Ch), x ∈ chN r p cn cd f g k → (0 ≤ x.1 ∧ x.1 ≤ 51200) ∧ x.2.1 = 0 ∧ 0 ≤ x.2.2 ∧ x.2.2 ≤ (k : Int)
  | 0, x, h => by simp [chN] at h
  | k + 1, x, h => by
    rw [chN_step] at h
    rcases List.mem_append.1 h with h | h
    · have := chN_in2 hr hf hg hc k x h
      exact ⟨this.1, this.2.1, this.2.2.1, by omega⟩
    · split at h
      · have e : x = (wgt r p cn cd f g k, 0, (k : Int)) := by simpa using h
        subst e
        exact ⟨wgt_in2 hr hf hg hc k, rfl, by simp, by simp; omega⟩
      · simp at h
theorem chV_len8 {r s t : List Int} {cn cd : Int} (h : r.length ≤ 8) : (chV r s t cn cd).length ≤ 8 := by
  unfold chV
  split
  · have := chN_len r (prfV r s t) cn cd (sumF r (prfV r s t) r.length) (sumG r (prfV r s t) r.length) r.length
    omega
  · simp
theorem chV_fit2 (r s t : List Int) (cn cd : Nat) (k : Nat) : I64 ((chV r s t (cn : Int) (cd : Int)).getD k (0, 0, 0)).1 ∧ I64 ((chV r s t (cn : Int) (cd : Int)).getD k (0, 0, 0)).2.1 ∧ I64 ((chV r s t (cn : Int) (cd : Int)).getD k (0, 0, 0)).2.2 := by
  by_cases hk : k < (chV r s t (cn : Int) (cd : Int)).length
  · have hm : (chV r s t (cn : Int) (cd : Int)).getD k (0, 0, 0) ∈ chV r s t (cn : Int) (cd : Int) := by simp [List.getD, hk]
    generalize (chV r s t (cn : Int) (cd : Int)).getD k (0, 0, 0) = X at hm
    unfold chV at hm
    split at hm
    · rename_i hb
      have hp : prB r = true := by
        cases hp : prB r with
        | true => rfl
        | false =>
          have h1 := hb.1
          unfold prfV prfB at h1
          rw [hp] at h1
          exact absurd rfl h1
      have ht := hb.2
      unfold tosB at ht
      simp only [Bool.and_eq_true, decide_eq_true_eq] at ht
      have h6 := (prB_iff.1 hp).1
      have hr := fun k => prB_all hp k
      have h1 := sumF_in (p := prfV r s t) hr r.length
      have h2 := sumG_in (p := prfV r s t) hr r.length
      obtain ⟨⟨a1, a2⟩, a3, a4, a5⟩ := chN_in2 hr (by omega) (by omega) (by omega) r.length X hm
      exact ⟨⟨by omega, by omega⟩, ⟨by omega, by omega⟩, ⟨by omega, by omega⟩⟩
    · simp at hm
  · rw [show (chV r s t (cn : Int) (cd : Int)).getD k (0, 0, 0) = (0, 0, 0) by simp [List.getD, List.getElem?_eq_none (Nat.le_of_not_lt hk)]]; decide

/-- Two slices of ints in a row of cells. -/
def PairAt (W : World) (h j : Nat) (L1 L2 : List Int) : Prop := ∃ a1 n1 c1 a2 n2 c2, W.cell? ⟨h, j * 2, none⟩ = some (.slice a1 n1 c1) ∧ W.cell? ⟨h, j * 2 + 1, none⟩ = some (.slice a2 n2 c2) ∧ Ix W (.slice a1 n1 c1) L1 ∧ Ix W (.slice a2 n2 c2) L2
theorem PairAt.below {w w' : World} {h j : Nat} {L1 L2 : List Int} (a : PairAt w h j L1 L2) (hb : Below w.heap.size w w') : PairAt w' h j L1 L2 := by
  obtain ⟨a1, n1, c1, a2, n2, c2, h1, h2, h3, h4⟩ := a
  exact ⟨a1, n1, c1, a2, n2, c2, cell_later hb h1, cell_later hb h2, h3.below hb, h4.below hb⟩
theorem got_false {T : Array Value} {j : Nat} (h : T.getD j undef = .bool false) : T[j]? = some (.bool false) := by
  rw [Array.getD_eq_getD_getElem?] at h
  cases hj : T[j]? with
  | none => rw [hj] at h; cases h
  | some v => rw [hj] at h; simp at h; rw [h]

set_option linter.unusedSimpArgs false in
set_option maxRecDepth 100000 in
set_option maxHeartbeats 8000000 in
theorem coinChoices_any {W : World} {ao bo co qo : Option Addr} {n m k cap dap eap nq cq : Nat} {l s t z : List Int} (hl : Ix W (.slice ao n cap) l) (hs : Ix W (.slice bo m dap) s) (ht : Ix W (.slice co k eap) t) (hz : Ix W (.slice qo nq cq) z) (q0 q1 : Int) :
    Calls Try.prog 4 #[.agg #[.slice ao n cap, .slice bo m dap, .slice co k eap], .agg #[.int .i64 q0, .int .i64 q1], .slice qo nq cq] W fun e w' => e = .returned (.bool true) ∧ Below W.heap.size W w' := by
  have hb : Below W.heap.size W ((W.alloc (.cells #[.slice ao n cap, .slice bo m dap, .slice co k eap] 24)).alloc (.cells #[.int .i64 q0, .int .i64 q1] 25)) := ((Below.refl _ _).alloc (Nat.le_refl _) _).alloc (by simp) _
  have x0 : CsBox ((W.alloc (.cells #[.slice ao n cap, .slice bo m dap, .slice co k eap] 24)).alloc (.cells #[.int .i64 q0, .int .i64 q1] 25)) W.heap.size (.slice ao n cap) (.slice bo m dap) (.slice co k eap) := ((Below.refl _ _).alloc (Nat.le_refl _) _ |>.block W.heap.size (by simp)).trans (heap_alloc_new _ _)
  have x1 : ((W.alloc (.cells #[.slice ao n cap, .slice bo m dap, .slice co k eap] 24)).alloc (.cells #[.int .i64 q0, .int .i64 q1] 25)).heap[W.heap.size + 1]? = some (.cells #[.int .i64 q0, .int .i64 q1] 25 (0, 0)) := by
    have h := heap_alloc_new (W.alloc (.cells #[.slice ao n cap, .slice bo m dap, .slice co k eap] 24)) (.cells #[.int .i64 q0, .int .i64 q1] 25)
    rw [World.size_alloc] at h
    exact h
  have HBX := Lib.hid hb
  have HS := Lib.hid (sanity_any (W := ((W.alloc (.cells #[.slice ao n cap, .slice bo m dap, .slice co k eap] 24)).alloc (.cells #[.int .i64 q0, .int .i64 q1] 25))))
  have HCC : Hid (∀ w, Below ((W.alloc (.cells #[.slice ao n cap, .slice bo m dap, .slice co k eap] 24)).alloc (.cells #[.int .i64 q0, .int .i64 q1] 25)).heap.size ((W.alloc (.cells #[.slice ao n cap, .slice bo m dap, .slice co k eap] 24)).alloc (.cells #[.int .i64 q0, .int .i64 q1] 25)) w → (w.cell? ⟨W.heap.size, 0, none⟩ = some (.slice ao n cap) ∧ w.cell? ⟨W.heap.size, 1, none⟩ = some (.slice bo m dap) ∧ w.cell? ⟨W.heap.size, 2, none⟩ = some (.slice co k eap)) ∧ w.cell? ⟨W.heap.size + 1, 0, none⟩ = some (.int .i64 q0) ∧ w.cell? ⟨W.heap.size + 1, 1, none⟩ = some (.int .i64 q1)) := Lib.hid (fun w hb => by
    have h : CsBox w W.heap.size (.slice ao n cap) (.slice bo m dap) (.slice co k eap) := (hb.block _ (Array.getElem?_eq_some_iff.1 x0).1).trans x0
    have h2 := (hb.block _ (Array.getElem?_eq_some_iff.1 x1).1).trans x1
    exact ⟨⟨cell_of_row _ _ _ _ _ _ h, cell_of_row _ _ _ _ _ _ h, cell_of_row _ _ _ _ _ _ h⟩, cell_of_row _ _ _ _ _ _ h2, cell_of_row _ _ _ _ _ _ h2⟩)
  have HCA := Lib.hid (fun w (hbw : Below ((W.alloc (.cells #[.slice ao n cap, .slice bo m dap, .slice co k eap] 24)).alloc (.cells #[.int .i64 q0, .int .i64 q1] 25)).heap.size ((W.alloc (.cells #[.slice ao n cap, .slice bo m dap, .slice co k eap] 24)).alloc (.cells #[.int .i64 q0, .int .i64 q1] 25)) w) => case_any (W := w) (hl.below (hb.trans (hbw.mono hb.size))) (hs.below (hb.trans (hbw.mono hb.size))) (ht.below (hb.trans (hbw.mono hb.size))))
  have hzl : nq = z.length := hz.size
  obtain ⟨p, hp⟩ : ∃ p, p = min nq 8 := ⟨_, rfl⟩
  have hpm : min (nq : Int) 8 = (p : Int) := by omega
  have hpn : p ≤ nq := by omega
  have hp8 : p ≤ 8 := by omega
  have hpc : p ≤ cq := by
    by_cases h0 : nq = 0
    · omega
    · obtain ⟨b, off, -, -, h9, -, -⟩ := hz.at h0; omega
  have HZ := Lib.hid (fun w (hbw : Below W.heap.size W w) => (hz.below hbw).take hpn)
  have HLZ : Hid ((z.take p).length = p) := Lib.hid (by rw [List.length_take]; omega)
  clear hl hs ht hb x0 x1 hz hzl hp
  go_enter Try.func4, Try.ntmps4
  go_upto_region 4 with (first
    | (go_at_call 9; (with_reducible refine HS.out.mono ?_); rintro e w1 ⟨rfl, hb1⟩; have HB1 := Lib.hid hb1; obtain ⟨⟨c0, c1', c2'⟩, -, -⟩ := HCC.out _ hb1; clear hb1)
    | (go_at_call 10; (with_reducible refine (HCA.out _ HB1.out).mono ?_); rintro e w2 ⟨ar, nr, cr, r, cn, cd, so, ns, cs, row, tt, nt, ct, row2, rfl, hix, hok, hrw, hb2⟩; have HIX := Lib.hid hix; have HOK := Lib.hid hok; have HRW := Lib.hid hrw; have HBY := Lib.hid (HB1.out.trans (hb2.mono HB1.out.size)); have HB2 := Lib.hid (HBX.out.trans ((HB1.out.trans (hb2.mono HB1.out.size)).mono HBX.out.size)); clear hix hok hrw hb2 c0 c1' c2'))
  clear hpm hpc
  have HD0 : Hid (DBox (w2.alloc (.cells #[.int .i64 4, .slice ar nr cr, .slice none 0 0, .int .i64 0, .int .i64 (cn : Int), .int .i64 (cd : Int)] 30)) w2.heap.size 4 (.slice ar nr cr) (cn : Int) (cd : Int)) := Lib.hid (dbox_is w2 4 (.slice ar nr cr) cn cd)
  have HB0 : Hid (Below W.heap.size W (w2.alloc (.cells #[.int .i64 4, .slice ar nr cr, .slice none 0 0, .int .i64 0, .int .i64 (cn : Int), .int .i64 (cd : Int)] 30))) := Lib.hid (HB2.out.alloc HB2.out.size _)
  have hbd := dbox_below w2 4 (.slice ar nr cr) cn cd
  have HI0 : Hid (Ix (w2.alloc (.cells #[.int .i64 4, .slice ar nr cr, .slice none 0 0, .int .i64 0, .int .i64 (cn : Int), .int .i64 (cd : Int)] 30)) (.slice ar nr cr) r ∧ Ix (w2.alloc (.cells #[.int .i64 4, .slice ar nr cr, .slice none 0 0, .int .i64 0, .int .i64 (cn : Int), .int .i64 (cd : Int)] 30)) (.slice so ns cs) row ∧ Ix (w2.alloc (.cells #[.int .i64 4, .slice ar nr cr, .slice none 0 0, .int .i64 0, .int .i64 (cn : Int), .int .i64 (cd : Int)] 30)) (.slice tt nt ct) row2) := Lib.hid ⟨HIX.out.1.below hbd, HIX.out.2.1.below hbd, HIX.out.2.2.below hbd⟩
  clear hbd
  have HCX : Hid (∀ w, Below (w2.alloc (.cells #[.int .i64 4, .slice ar nr cr, .slice none 0 0, .int .i64 0, .int .i64 (cn : Int), .int .i64 (cd : Int)] 30)).heap.size (w2.alloc (.cells #[.int .i64 4, .slice ar nr cr, .slice none 0 0, .int .i64 0, .int .i64 (cn : Int), .int .i64 (cd : Int)] 30)) w → w.cell? ⟨W.heap.size + 1, 0, none⟩ = some (.int .i64 q0) ∧ w.cell? ⟨W.heap.size + 1, 1, none⟩ = some (.int .i64 q1)) := Lib.hid (fun w hb => (HCC.out w (HBY.out.trans (((dbox_below w2 4 (.slice ar nr cr) cn cd).trans (hb.mono (by simp))).mono HBY.out.size))).2)
  generalize (w2.alloc (.cells #[.int .i64 4, .slice ar nr cr, .slice none 0 0, .int .i64 0, .int .i64 (cn : Int), .int .i64 (cd : Int)] 30)) = W0 at HD0 HB0 HI0 HCX ⊢
  generalize w2.heap.size = Bd at HD0 ⊢
  have HCL : Hid (∀ w', Below W0.drew.heap.size W0.drew w' → w'.cell? ⟨Bd, 0, none⟩ = some (.int .i64 4) ∧ w'.cell? ⟨Bd, 1, none⟩ = some (.slice ar nr cr) ∧ w'.cell? ⟨Bd, 2, none⟩ = some (.slice none 0 0) ∧ w'.cell? ⟨Bd, 3, none⟩ = some (.int .i64 0) ∧ w'.cell? ⟨Bd, 4, none⟩ = some (.int .i64 (cn : Int)) ∧ w'.cell? ⟨Bd, 5, none⟩ = some (.int .i64 (cd : Int))) := Lib.hid (fun w' hb => (HD0.out.below ((Below.refl _ _).drew.trans hb)).cells)
  have HCQ : Hid (∀ w', Below W0.drew.heap.size W0.drew w' → w'.cell? ⟨W.heap.size + 1, 0, none⟩ = some (.int .i64 q0) ∧ w'.cell? ⟨W.heap.size + 1, 1, none⟩ = some (.int .i64 q1)) := Lib.hid (fun w' hb => HCX.out w' ((Below.refl _ _).drew.trans hb))
  have HOD : Hid (∀ w', Below W0.drew.heap.size W0.drew w' → Calls Try.prog 11 #[DV 4 (.slice ar nr cr) (cn : Int) (cd : Int), .agg #[.int .i64 q0, .int .i64 q1]] w' fun e w2 => ∃ ao n cap R, ∃ x y : Nat, e = .returned (DV 4 (.slice ao n cap) (x : Int) (y : Int)) ∧ Ix w2 (.slice ao n cap) R ∧ OddOk R x y ∧ Below w'.heap.size w' w2) := Lib.hid (fun w' hb => odd_any (HI0.out.1.below ((Below.refl _ _).drew.trans hb)) (by have := HOK.out.l2; omega) (by have := HOK.out.l4; omega) 4 cn cd (made_oddok HOK.out).n (made_oddok HOK.out).d q0 q1)
  have HRX : Hid (∀ w', Below W0.drew.heap.size W0.drew w' → Ix w' (.slice ar nr cr) r) := Lib.hid (fun w' hb => HI0.out.1.below ((Below.refl _ _).drew.trans hb))
  have HOKD := Lib.hid (made_oddok HOK.out)
  clear HIX HB2 HB1 HS HCA HCC HBX HBY HCX HD0
  refine (wpIn_wide (n := 6)).1 ?_
  refine frame_namedIn ?_
  intro T hT
  obtain ⟨R, hRd⟩ : ∃ R : Array Bool → Act → World → Prop, R = (fun l a w' => ∃ vals, RH dpCh T [some 27, some 28, some 29, some 30, some 31, some 32, some 33] (fun _ _ w' => Below W0.drew.heap.size W0.drew w') (DPV W0.drew (DV 4 (.slice ar nr cr) (cn : Int) (cd : Int)) (.agg #[.int .i64 q0, .int .i64 q1])) vals l a w') := ⟨_, rfl⟩
  refine region_inv (by kernel_rfl) R ?h0r2 ?stepr2 ?finr2
  case h0r2 => rw [hRd]; exact RH.start rfl (fun i j h => by simp [dpCh] at h; simp only [List.length_cons, List.length_nil]; omega) (by exact (Below.refl _ _))
  case stepr2 =>
    rintro l a w' i' hR0 hi'
    have hR1 := hR0
    rw [hRd] at hR1
    obtain ⟨vals, hR⟩ := hR1
    obtain ⟨hl0, o, ho, hdep⟩ := mem_ready.1 hi'
    have h15 : i' < 7 := by
      have := (Array.getElem?_eq_some_iff.1 ho).1
      simpa using this
    rcases (show i' = 0 ∨ i' = 1 ∨ i' = 2 ∨ i' = 3 ∨ i' = 4 ∨ i' = 5 ∨ i' = 6 by omega) with rfl | rfl | rfl | rfl | rfl | rfl | rfl
    · simp at ho
      subst ho
      simp [Region.binds] at hdep
      have k0 : a.tmps.getD 8 undef = .pointer (some ⟨Bd, 0, none⟩) := (hR.fr.kept rfl (by simp [hT])).trans (by rw [hT]; try rfl)
      have hc : ∀ j, (0, j) ∈ dpCh → l.getD j true = true := by intro j hj; simp [dpCh] at hj
      clear hi' hdep
      obtain ⟨d0, d1, d2, d3, d4, d5⟩ := HCL.out _ hR.wd
      have k0g := k0
      rw [Array.getD_eq_getD_getElem?] at k0g
      unfold wpOpIn
      simp [Region.wanted]
      unfold Oper.wpIn
      simp [Oper.about, execOp, go_sem, Act.eval, k0, k0g, d0, d1, d2, d3, d4, d5]
      rw [hRd]
      exact hR.op 0 27 _ rfl (by decide) hl0 hc (hR.wd) (fun _ _ h => h) (rfl)
    · simp at ho
      subst ho
      simp [Region.binds] at hdep
      have k0 : a.tmps.getD 8 undef = .pointer (some ⟨Bd, 0, none⟩) := (hR.fr.kept rfl (by simp [hT])).trans (by rw [hT]; try rfl)
      have hc : ∀ j, (1, j) ∈ dpCh → l.getD j true = true := by intro j hj; simp [dpCh] at hj
      clear hi' hdep
      obtain ⟨d0, d1, d2, d3, d4, d5⟩ := HCL.out _ hR.wd
      have k0g := k0
      rw [Array.getD_eq_getD_getElem?] at k0g
      unfold wpOpIn
      simp [Region.wanted]
      unfold Oper.wpIn
      simp [Oper.about, execOp, go_sem, Act.eval, k0, k0g, d0, d1, d2, d3, d4, d5]
      rw [hRd]
      exact hR.op 1 28 _ rfl (by decide) hl0 hc (hR.wd) (fun _ _ h => h) (rfl)
    · simp at ho
      subst ho
      simp [Region.binds] at hdep
      have k0 : a.tmps.getD 4 undef = .pointer (some ⟨W.heap.size + 1, 0, none⟩) := (hR.fr.kept rfl (by simp [hT])).trans (by rw [hT]; try rfl)
      have hc : ∀ j, (2, j) ∈ dpCh → l.getD j true = true := by intro j hj; simp [dpCh] at hj
      clear hi' hdep
      obtain ⟨z0, z1⟩ := HCQ.out _ hR.wd
      have k0g := k0
      rw [Array.getD_eq_getD_getElem?] at k0g
      unfold wpOpIn
      simp [Region.wanted]
      unfold Oper.wpIn
      simp [Oper.about, execOp, go_sem, Act.eval, k0, k0g, z0, z1]
      rw [hRd]
      exact hR.op 2 29 _ rfl (by decide) hl0 hc (hR.wd) (fun _ _ h => h) (rfl)
    · simp at ho
      subst ho
      simp [Region.binds] at hdep
      have d0 : l.getD 1 true = true := getD_true (by simp_all)
      have k0 : a.tmps.getD 28 undef = vals 1 := hR.get rfl (by simp_all) (by simp [hT])
      have e0 : vals 1 = DV 4 (.slice ar nr cr) (cn : Int) (cd : Int) := hR.vl 1 (by decide) d0
      rw [e0] at k0
      have d1 : l.getD 2 true = true := getD_true (by simp_all)
      have k1 : a.tmps.getD 29 undef = vals 2 := hR.get rfl (by simp_all) (by simp [hT])
      have e1 : vals 2 = .agg #[.int .i64 q0, .int .i64 q1] := hR.vl 2 (by decide) d1
      rw [e1] at k1
      have hc : ∀ j, (3, j) ∈ dpCh → l.getD j true = true := by intro j hj; simp [dpCh] at hj; rcases hj with rfl | rfl <;> exact getD_true (by simp_all)
      clear hi' hdep
      have k0g := k0
      rw [Array.getD_eq_getD_getElem?] at k0g
      have k1g := k1
      rw [Array.getD_eq_getD_getElem?] at k1g
      unfold wpOpIn
      simp [Region.wanted]
      unfold Oper.wpIn
      simp [Oper.about, execOp, go_sem, Act.eval, k0, k1, k0g, k1g]
      refine ⟨trivial, (callsIn_wide.2 (HOD.out _ hR.wd)).mono ?_⟩
      rintro e w'' ⟨ao9, n9, c9, R9, x9, y9, rfl, hi, ho, hb⟩
      rw [hRd]
      exact hR.op 3 30 _ rfl (by decide) hl0 hc (hR.wd.trans (hb.mono hR.wd.size)) (DPV.below hb) (⟨_, _, _, _, _, _, rfl, hi, ho⟩)
    · simp at ho
      subst ho
      simp [Region.binds] at hdep
      have d0 : l.getD 0 true = true := getD_true (by simp_all)
      have k0 : a.tmps.getD 27 undef = vals 0 := hR.get rfl (by simp_all) (by simp [hT])
      have e0 : vals 0 = DV 4 (.slice ar nr cr) (cn : Int) (cd : Int) := hR.vl 0 (by decide) d0
      rw [e0] at k0
      have d1 : l.getD 3 true = true := getD_true (by simp_all)
      have k1 : a.tmps.getD 30 undef = vals 3 := hR.get rfl (by simp_all) (by simp [hT])
      obtain ⟨ao9, n9, c9, R9, x9, y9, e1, hi1, ho1⟩ := (show ∃ ao n cap R, ∃ x y : Nat, vals 3 = DV 4 (.slice ao n cap) (x : Int) (y : Int) ∧ Ix w' (.slice ao n cap) R ∧ OddOk R x y from hR.vl 3 (by decide) d1)
      rw [e1] at k1
      have hc : ∀ j, (4, j) ∈ dpCh → l.getD j true = true := by intro j hj; simp [dpCh] at hj; rcases hj with rfl | rfl <;> exact getD_true (by simp_all)
      clear hi' hdep
      have k0g := k0
      rw [Array.getD_eq_getD_getElem?] at k0g
      have k1g := k1
      rw [Array.getD_eq_getD_getElem?] at k1g
      unfold wpOpIn
      simp [Region.wanted]
      unfold Oper.wpIn
      simp [Oper.about, execOp, go_sem, Act.eval, k0, k1, k0g, k1g]
      rw [hRd]
      exact hR.op 4 31 _ rfl (by decide) hl0 hc (hR.wd.alloc hR.wd.size _) (DPV.below ((Below.refl _ _).alloc (Nat.le_refl _) _)) (DesV.made hR.wd.size (HRX.out _ hR.wd) HOKD.out hi1 ho1)
    · simp at ho
      subst ho
      simp [Region.binds] at hdep
      have d0 : l.getD 4 true = true := getD_true (by simp_all)
      have k0 : a.tmps.getD 31 undef = vals 4 := hR.get rfl (by simp_all) (by simp [hT])
      obtain ⟨g0, e0, hgs0, hg0⟩ : DesV W0.drew w' (vals 4) := hR.vl 4 (by decide) d0
      rw [e0] at k0
      have hc : ∀ j, (5, j) ∈ dpCh → l.getD j true = true := by intro j hj; simp [dpCh] at hj; rcases hj with rfl <;> exact getD_true (by simp_all)
      clear hi' hdep
      have k0g := k0
      rw [Array.getD_eq_getD_getElem?] at k0g
      unfold wpOpIn
      simp [Region.wanted]
      unfold Oper.wpIn
      simp [Oper.about, execOp, go_sem, Act.eval, k0, k0g]
      rw [hRd]
      exact hR.op 5 32 _ rfl (by decide) hl0 hc (hR.wd) (fun _ _ h => h) (rfl)
    · simp at ho
      subst ho
      simp [Region.binds] at hdep
      have hc : ∀ j, (6, j) ∈ dpCh → l.getD j true = true := by intro j hj; simp [dpCh] at hj
      clear hi' hdep
      unfold wpOpIn
      simp [Region.wanted]
      unfold Oper.wpIn
      simp [Oper.about, execOp, go_sem, Act.eval, ]
      rw [hRd]
      exact hR.op 6 33 _ rfl (by decide) hl0 hc (hR.wd) (fun _ _ h => h) (rfl)
  case' finr2 =>
    rintro l a w' hR0 hz
    rw [hRd] at hR0
    obtain ⟨vals, hR⟩ := hR0
    clear hRd R
    have hnot := List.eq_nil_iff_forall_not_mem.1 hz
    have hk : ∀ k, k < 7 → (l.getD k true = false → False) → l.getD k false = true := fun k h12 h => by
      have hs := hR.size
      cases h' : l.getD k true with
      | false => exact (h h').elim
      | true => simp at hs; simp [Array.getD, hs, h12] at h' ⊢; exact h'
    have st0 := hk 0 (by omega) (fun h => hnot 0 (mem_ready.2 ⟨h, _, rfl, by simp [Region.binds]⟩))
    have st1 := hk 1 (by omega) (fun h => hnot 1 (mem_ready.2 ⟨h, _, rfl, by simp [Region.binds]⟩))
    have st2 := hk 2 (by omega) (fun h => hnot 2 (mem_ready.2 ⟨h, _, rfl, by simp [Region.binds]⟩))
    have st3 := hk 3 (by omega) (fun h => hnot 3 (mem_ready.2 ⟨h, _, rfl, by simp [Region.binds] <;> simp_all⟩))
    have st4 := hk 4 (by omega) (fun h => hnot 4 (mem_ready.2 ⟨h, _, rfl, by simp [Region.binds] <;> simp_all⟩))
    have st5 := hk 5 (by omega) (fun h => hnot 5 (mem_ready.2 ⟨h, _, rfl, by simp [Region.binds] <;> simp_all⟩))
    have st6 := hk 6 (by omega) (fun h => hnot 6 (mem_ready.2 ⟨h, _, rfl, by simp [Region.binds]⟩))
    have hall : ∀ i, i < 7 → l.getD i true = true := fun i hi => by
      rcases (show i = 0 ∨ i = 1 ∨ i = 2 ∨ i = 3 ∨ i = 4 ∨ i = 5 ∨ i = 6 by omega) with rfl | rfl | rfl | rfl | rfl | rfl | rfl
      · exact getD_true st0
      · exact getD_true st1
      · exact getD_true st2
      · exact getD_true st3
      · exact getD_true st4
      · exact getD_true st5
      · exact getD_true st6
    clear st0 st1 st2 st3 st4 st5 st6 hk hnot hz
    have hTs : T.size = 90 := by rw [hT]; rfl
    have ha := hR.all (T' := (((((((T.setIfInBounds 27 (vals 0)).setIfInBounds 28 (vals 1)).setIfInBounds 29 (vals 2)).setIfInBounds 30 (vals 3)).setIfInBounds 31 (vals 4)).setIfInBounds 32 (vals 5)).setIfInBounds 33 (vals 6))) (fun i hi => hall i (by simpa using hi)) (by simp) (fun j hj => by
      by_cases h1 : j = 27 ∨ j = 28 ∨ j = 29 ∨ j = 30 ∨ j = 31 ∨ j = 32 ∨ j = 33
      · rcases h1 with rfl | rfl | rfl | rfl | rfl | rfl | rfl <;> simp [rv_sets, tOwn, List.findIdx?, List.findIdx?.go, hTs]
      · simp only [not_or] at h1
        obtain ⟨m27, m28, m29, m30, m31, m32, m33⟩ := h1
        have e : tOwn [some 27, some 28, some 29, some 30, some 31, some 32, some 33] vals j = none := by
          unfold tOwn
          simp [List.findIdx?, List.findIdx?.go, Ne.symm m27, Ne.symm m28, Ne.symm m29, Ne.symm m30, Ne.symm m31, Ne.symm m32, Ne.symm m33]
        rw [e]
        simp only [rv_sets]
        repeat rw [if_neg (by omega)])
    have v0 : vals 0 = DV 4 (.slice ar nr cr) (cn : Int) (cd : Int) := hR.vl 0 (by decide) (hall 0 (by decide))
    have v1 : vals 1 = DV 4 (.slice ar nr cr) (cn : Int) (cd : Int) := hR.vl 1 (by decide) (hall 1 (by decide))
    have v2 : vals 2 = .agg #[.int .i64 q0, .int .i64 q1] := hR.vl 2 (by decide) (hall 2 (by decide))
    have v5 : vals 5 = .int .i64 2 := hR.vl 5 (by decide) (hall 5 (by decide))
    have v6 : vals 6 = .int .i64 0 := hR.vl 6 (by decide) (hall 6 (by decide))
    have HWD : Hid (Below W0.drew.heap.size W0.drew w') := Lib.hid hR.wd
    obtain ⟨gD, eD, hgs, hgd⟩ : DesV W0.drew w' (vals 4) := hR.vl 4 (by decide) (hall 4 (by decide))
    have HGD := Lib.hid (And.intro hgs hgd)
    clear hgs hgd
    subst ha
    clear hR hall hTs
    rw [v0, v1, v2, v5, v6, hT]
    simp only [List.setIfInBounds_toArray, List.set_cons_succ, List.set_cons_zero]
    clear v0 v1 v2 v5 v6 hT T
  have HBW : Hid (Below W0.heap.size W0 w') := Lib.hid ((Below.refl W0.heap.size W0).drew.trans HWD.out)
  clear HCL HCQ HOD HRX HWD
  rw [eD]
  generalize vals 3 = y3
  clear eD
  obtain ⟨Wa, hWa⟩ : ∃ Wa, Wa = w' := ⟨_, rfl⟩
  rw [← hWa]
  rw [← hWa] at HBW HGD
  clear hWa
  have HGA : Hid (∀ i, i < 2 → ∃ ao n cap, ∃ r : List Int, ∃ x y : Nat, OddOk r x y ∧ DesAt Wa gD i (.slice ao n cap) r x y) := Lib.hid HGD.out.2
  have HRO : Hid (∀ w', Below Wa.heap.size Wa w' → Ix w' (.slice so ns cs) row ∧ Ix w' (.slice tt nt ct) row2 ∧ Ix w' (.slice qo p cq) (z.take p) ∧ Below W.heap.size W w') := Lib.hid (fun w' hb => by
    have h := HBW.out.trans (hb.mono HBW.out.size)
    have h2 := HB0.out.trans (h.mono HB0.out.size)
    exact ⟨HI0.out.2.1.below h, HI0.out.2.2.below h, HZ.out w' h2, h2⟩)
  clear HGD HBW HB0 HI0 HZ
  go_wp2
  go_loopw [12, 14, 33, 53] (fun _ _ iv _ wr => ∃ i : Nat, i ≤ 2 ∧ iv = .int .i64 (i : Nat) ∧ Hid (Below Wa.heap.size Wa wr)) (fun _ _ iv _ _ => 2 - (intOf iv).toNat)
  case atStart => exact ⟨0, by omega, rfl, Lib.hid (Below.refl _ _)⟩
  case round =>
    obtain ⟨w, hw⟩ : ∃ w, w = wr := ⟨_, rfl⟩
    subst hw
    obtain ⟨i, hi, rfl, HBL⟩ := hrel
    by_cases hi2 : i = 2
    · subst hi2
      have HF := Lib.hid (HRO.out _ HBL.out).2.2.2
      go_wp2
      go_ret
      exact ⟨rfl, HF.out⟩
    · have hlt : i < 2 := by omega
      have hltI : (i : Int) < 2 := by omega
      obtain ⟨ad, nd, cdp, rd, x, y, ok, hd⟩ := HGA.out i hlt
      have hd := hd.below HBL.out
      have HOKR := Lib.hid ok
      have HDA := Lib.hid hd.ix
      obtain ⟨-, c0, c1, c2, c3, c4, c5⟩ := hd
      obtain ⟨bD, hbD⟩ : ∃ b, b = w.heap.size := ⟨_, rfl⟩
      obtain ⟨X1, hX1⟩ : ∃ X, X = w.alloc (.cells #[.int .i64 4, .slice ad nd cdp, .slice none 0 0, .int .i64 0, .int .i64 (x : Int), .int .i64 (y : Int)] 30) := ⟨_, rfl⟩
      obtain ⟨X2, hX2⟩ : ∃ X, X = X1.alloc (.cells #[.slice so ns cs, .slice tt nt ct, .slice tt nt ct, .slice so ns cs, .slice so ns cs, .slice qo p cq, .slice qo p cq, .slice tt nt ct, .slice none 0 0, .slice so ns cs] 42) := ⟨_, rfl⟩
      have hb1 : Below w.heap.size w X1 := by rw [hX1]; exact (Below.refl _ _).alloc (Nat.le_refl _) _
      have hb2 : Below X1.heap.size X1 X2 := by rw [hX2]; exact (Below.refl _ _).alloc (Nat.le_refl _) _
      have hd1 : DBox X1 bD 4 (.slice ad nd cdp) (x : Int) (y : Int) := by rw [hX1, hbD]; exact dbox_is w 4 (.slice ad nd cdp) (x : Int) (y : Int)
      have hbB : Below w.heap.size w X2 := hb1.trans (hb2.mono hb1.size)
      have hs2 := heap_alloc_new X1 (.cells #[.slice so ns cs, .slice tt nt ct, .slice tt nt ct, .slice so ns cs, .slice so ns cs, .slice qo p cq, .slice qo p cq, .slice tt nt ct, .slice none 0 0, .slice so ns cs] 42)
      rw [← hX2] at hs2
      have HSL : Hid (∀ j, j < 5 → ∃ L1 L2, PairAt X2 X1.heap.size j L1 L2) := Lib.hid (fun j hj => by
        have hro := HRO.out X2 (HBL.out.trans (hbB.mono HBL.out.size))
        rcases (show j = 0 ∨ j = 1 ∨ j = 2 ∨ j = 3 ∨ j = 4 by omega) with rfl | rfl | rfl | rfl | rfl
        · exact ⟨_, _, _, _, _, _, _, _, cell_of_row _ _ _ _ _ _ hs2, cell_of_row _ _ _ _ _ _ hs2, hro.1, hro.2.1⟩
        · exact ⟨_, _, _, _, _, _, _, _, cell_of_row _ _ _ _ _ _ hs2, cell_of_row _ _ _ _ _ _ hs2, hro.2.1, hro.1⟩
        · exact ⟨_, _, _, _, _, _, _, _, cell_of_row _ _ _ _ _ _ hs2, cell_of_row _ _ _ _ _ _ hs2, hro.1, hro.2.2.1⟩
        · exact ⟨_, _, _, _, _, _, _, _, cell_of_row _ _ _ _ _ _ hs2, cell_of_row _ _ _ _ _ _ hs2, hro.2.2.1, hro.2.1⟩
        · exact ⟨_, _, _, _, _, _, _, _, cell_of_row _ _ _ _ _ _ hs2, cell_of_row _ _ _ _ _ _ hs2, Ix.nil _, hro.1⟩)
      have HXB : Hid (∀ w', Below X2.heap.size X2 w' → (w'.cell? ⟨bD, 0, none⟩ = some (.int .i64 4) ∧ w'.cell? ⟨bD, 1, none⟩ = some (.slice ad nd cdp) ∧ w'.cell? ⟨bD, 2, none⟩ = some (.slice none 0 0) ∧ w'.cell? ⟨bD, 3, none⟩ = some (.int .i64 0) ∧ w'.cell? ⟨bD, 4, none⟩ = some (.int .i64 (x : Int)) ∧ w'.cell? ⟨bD, 5, none⟩ = some (.int .i64 (y : Int))) ∧ Ix w' (.slice ad nd cdp) rd ∧ Below Wa.heap.size Wa w') := Lib.hid (fun w' hb => ⟨((hd1.below hb2).below hb).cells, (HDA.out.below hbB).below hb, HBL.out.trans ((hbB.trans (hb.mono hbB.size)).mono HBL.out.size)⟩)
      have HEQ : Hid (w.heap.size = bD ∧ X1 = w.alloc (.cells #[.int .i64 4, .slice ad nd cdp, .slice none 0 0, .int .i64 0, .int .i64 (x : Int), .int .i64 (y : Int)] 30) ∧ X2 = X1.alloc (.cells #[.slice so ns cs, .slice tt nt ct, .slice tt nt ct, .slice so ns cs, .slice so ns cs, .slice qo p cq, .slice qo p cq, .slice tt nt ct, .slice none 0 0, .slice so ns cs] 42)) := Lib.hid ⟨hbD.symm, hX1, hX2⟩
      clear hbD hX1 hX2 hb1 hb2 hd1 hbB hs2 ok HDA
      go_upto_region 7 with fail
      rw [← HEQ.out.2.1, HEQ.out.1]
      clear c0 c1 c2 c3 c4 c5
      go_wp2
      rw [← HEQ.out.2.2]
      generalize X1.heap.size = hB at HSL ⊢
      clear HEQ
      go_loopw [14, 53] (fun _ jv wr => ∃ j : Nat, j ≤ 5 ∧ jv = .int .i64 (j : Nat) ∧ Hid (Below X2.heap.size X2 wr)) (fun _ jv _ => 5 - (intOf jv).toNat)
      case atStart => exact ⟨0, by omega, rfl, Lib.hid (Below.refl _ _)⟩
      case round =>
        obtain ⟨w2, hw⟩ : ∃ w, w = wr := ⟨_, rfl⟩
        subst hw
        obtain ⟨j, hj, rfl, HBM⟩ := hrel
        by_cases hj4 : j = 5
        · subst hj4
          have HF := Lib.hid (HXB.out _ HBM.out).2.2
          go_wp2
          go_roundw
          case rel => exact ⟨i + 1, by omega, by go_num, HF⟩
          case measure => simp [intOf]; omega
        · have hjlt : j < 5 := by omega
          have hjltI : (j : Int) < 5 := by omega
          obtain ⟨L1, L2, hpa⟩ := HSL.out j hjlt
          obtain ⟨a1, m1, b1, a2, m2, b2, q1', q2', i1, i2⟩ := hpa.below HBM.out
          obtain ⟨bP, hbP⟩ : ∃ b, b = w2.heap.size := ⟨_, rfl⟩
          obtain ⟨w4, hw4⟩ : ∃ X, X = w2.alloc (.cells #[.slice a1 m1 b1, .slice a2 m2 b2] 42) := ⟨_, rfl⟩
          have hb4 : Below w2.heap.size w2 w4 := by rw [hw4]; exact (Below.refl _ _).alloc (Nat.le_refl _) _
          have hp4 : w4.heap[bP]? = some (.cells #[.slice a1 m1 b1, .slice a2 m2 b2] 42 (0, 0)) := by rw [hw4, hbP]; exact heap_alloc_new _ _
          have HTO : Hid (∀ w', Below w4.drew.heap.size w4.drew w' → Below w2.heap.size w2 w') := Lib.hid (fun w' hb => hb4.drew.trans (hb.mono hb4.drew.size))
          have HPC : Hid (∀ w', Below w4.drew.heap.size w4.drew w' → w'.cell? ⟨bP, 0, none⟩ = some (.slice a1 m1 b1) ∧ w'.cell? ⟨bP, 1, none⟩ = some (.slice a2 m2 b2)) := Lib.hid (fun w' hb => by
            have h := (((Below.refl w4.heap.size w4).drew.trans hb).block bP (Array.getElem?_eq_some_iff.1 hp4).1).trans hp4
            exact ⟨cell_of_row _ _ _ _ _ _ h, cell_of_row _ _ _ _ _ _ h⟩)
          have HX2 : Hid (∀ w', Below w4.drew.heap.size w4.drew w' → (w'.cell? ⟨bD, 0, none⟩ = some (.int .i64 4) ∧ w'.cell? ⟨bD, 1, none⟩ = some (.slice ad nd cdp) ∧ w'.cell? ⟨bD, 2, none⟩ = some (.slice none 0 0) ∧ w'.cell? ⟨bD, 3, none⟩ = some (.int .i64 0) ∧ w'.cell? ⟨bD, 4, none⟩ = some (.int .i64 (x : Int)) ∧ w'.cell? ⟨bD, 5, none⟩ = some (.int .i64 (y : Int))) ∧ Ix w' (.slice ad nd cdp) rd ∧ Ix w' (.slice a1 m1 b1) L1 ∧ Ix w' (.slice a2 m2 b2) L2 ∧ Below X2.heap.size X2 w') := Lib.hid (fun w' hb => by
            have h2 := HTO.out w' hb
            have h3 := HBM.out.trans (h2.mono HBM.out.size)
            exact ⟨(HXB.out w' h3).1, (HXB.out w' h3).2.1, i1.below h2, i2.below h2, h3⟩)
          have HDC : Hid (∀ w', Below w4.drew.heap.size w4.drew w' → w'.cell? ⟨bD, 0, none⟩ = some (.int .i64 4) ∧ w'.cell? ⟨bD, 1, none⟩ = some (.slice ad nd cdp) ∧ w'.cell? ⟨bD, 2, none⟩ = some (.slice none 0 0) ∧ w'.cell? ⟨bD, 3, none⟩ = some (.int .i64 0) ∧ w'.cell? ⟨bD, 4, none⟩ = some (.int .i64 (x : Int)) ∧ w'.cell? ⟨bD, 5, none⟩ = some (.int .i64 (y : Int))) := Lib.hid (fun w' hb => (HX2.out w' hb).1)
          obtain ⟨P, hP⟩ : ∃ P, P = prfV rd L1 L2 := ⟨_, rfl⟩
          obtain ⟨C, hC⟩ : ∃ C, C = chV rd L1 L2 (x : Int) (y : Int) := ⟨_, rfl⟩
          have hpl := prf_len8 (s := L1) (t := L2) HOKR.out.l8
          have hcl := chV_len8 (s := L1) (t := L2) (cn := (x : Int)) (cd := (y : Int)) HOKR.out.l8
          have H18 : Hid (∀ w', Below w4.drew.heap.size w4.drew w' → Calls Try.prog 18 #[DV 4 (.slice ad nd cdp) (x : Int) (y : Int), .slice a1 m1 b1, .slice a2 m2 b2] w' fun e w'' => ∃ ao n cap, e = .returned (.slice ao n cap) ∧ Ix w'' (.slice ao n cap) P ∧ Below w'.heap.size w' w'') := Lib.hid (fun w' hb => by
            obtain ⟨-, g1, g2, g3, -⟩ := HX2.out w' hb
            refine (preferred_any g1 g2 g3 HOKR.out.l8 4 (x : Int) (y : Int)).mono fun e w'' h => ?_
            obtain ⟨ao, n, cap, h1, h2, h3⟩ := h
            exact ⟨ao, n, cap, h1, by rw [hP]; exact h2.ix (by have := owI_len h2; omega) (prf_fit2 rd L1 L2), h3⟩)
          have H19 : Hid (∀ w', Below w4.drew.heap.size w4.drew w' → Calls Try.prog 19 #[DV 4 (.slice ad nd cdp) (x : Int) (y : Int), .slice a1 m1 b1, .slice a2 m2 b2] w' fun e w'' => ∃ ao n cap, e = .returned (.slice ao n cap) ∧ Ix w'' (.slice ao n cap) P ∧ Below w'.heap.size w' w'') := Lib.hid (fun w' hb => by
            obtain ⟨-, g1, g2, g3, -⟩ := HX2.out w' hb
            refine (rPreferred_any g1 g2 g3 HOKR.out.l8 4 (x : Int) (y : Int)).mono fun e w'' h => ?_
            obtain ⟨ao, n, cap, h1, h2, h3⟩ := h
            exact ⟨ao, n, cap, h1, by rw [hP]; exact h2.ix (by have := owI_len h2; omega) (prf_fit2 rd L1 L2), h3⟩)
          have H21 : Hid (∀ w', Below w4.drew.heap.size w4.drew w' → Calls Try.prog 21 #[DV 4 (.slice ad nd cdp) (x : Int) (y : Int), .slice a1 m1 b1, .slice a2 m2 b2] w' fun e w'' => ∃ ao n cap, e = .returned (.slice ao n cap) ∧ Cx w'' (.slice ao n cap) C ∧ Below w'.heap.size w' w'') := Lib.hid (fun w' hb => by
            obtain ⟨-, g1, g2, g3, -⟩ := HX2.out w' hb
            refine (choices_any g1 g2 g3 HOKR.out.l8 4 x y HOKR.out.n HOKR.out.d).mono fun e w'' h => ?_
            obtain ⟨ao, n, cap, h1, h2, h3⟩ := h
            exact ⟨ao, n, cap, h1, by rw [hC]; exact h2.cx (by have := owC_len h2; omega) (chV_fit2 rd L1 L2 x y), h3⟩)
          have H22 : Hid (∀ w', Below w4.drew.heap.size w4.drew w' → Calls Try.prog 22 #[DV 4 (.slice ad nd cdp) (x : Int) (y : Int), .slice a1 m1 b1, .slice a2 m2 b2] w' fun e w'' => ∃ ao n cap, e = .returned (.slice ao n cap) ∧ Cx w'' (.slice ao n cap) C ∧ Below w'.heap.size w' w'') := Lib.hid (fun w' hb => by
            obtain ⟨-, g1, g2, g3, -⟩ := HX2.out w' hb
            refine (rChoices_any g1 g2 g3 HOKR.out.l8 4 x y HOKR.out.n HOKR.out.d).mono fun e w'' h => ?_
            obtain ⟨ao, n, cap, h1, h2, h3⟩ := h
            exact ⟨ao, n, cap, h1, by rw [hC]; exact h2.cx (by have := owC_len h2; omega) (chV_fit2 rd L1 L2 x y), h3⟩)
          have H17 : Hid (∀ w' (u v : Option Addr) (n m c d : Nat), Below w4.drew.heap.size w4.drew w' → Ix w' (.slice u n c) P → Ix w' (.slice v m d) P → Calls Try.prog 17 #[.slice u n c, .slice v m d] w' fun e w'' => e = .returned (.bool true) ∧ Below w'.heap.size w' w'') := Lib.hid (fun w' u v n m c d hb h1 h2 => by
            have h := sameInts_any h1 h2
            rwa [decide_eq_true rfl] at h)
          have H20 : Hid (∀ w' (u v : Option Addr) (n m c d : Nat), Below w4.drew.heap.size w4.drew w' → Cx w' (.slice u n c) C → Cx w' (.slice v m d) C → Calls Try.prog 20 #[.slice u n c, .slice v m d] w' fun e w'' => e = .returned (.bool true) ∧ Below w'.heap.size w' w'') := Lib.hid (fun w' u v n m c d hb h1 h2 => by
            have h := same_any h1 h2
            rwa [decide_eq_true rfl] at h)
          have HEP : Hid (w2.heap.size = bP ∧ w4 = w2.alloc (.cells #[.slice a1 m1 b1, .slice a2 m2 b2] 42)) := Lib.hid ⟨hbP.symm, hw4⟩
          clear hpl hcl hP hC hpa i1 i2 hb4 hp4 hbP hw4
          go_upto_region 10 with fail
          rw [← HEP.out.2, HEP.out.1]
          clear q1' q2' HEP
          refine (wpIn_wide (n := 6)).1 ?_
          refine frame_namedIn ?_
          intro T hT
          obtain ⟨R, hRd⟩ : ∃ R : Array Bool → Act → World → Prop, R = (fun l a w' => ∃ vals, RH cpCh T [some 57, some 58, some 59, some 60, some 61, some 62, some 63, some 64, some 65, some 66, some 67, some 68, some 69, some 70, some 71, some 72, some 73, some 74, some 75, some 76, some 77, some 78, some 79, some 80, some 81, some 82, some 83, some 84, some 85, some 86] (fun _ _ w' => Below w4.drew.heap.size w4.drew w') (CPV (DV 4 (.slice ad nd cdp) (x : Int) (y : Int)) (.slice a1 m1 b1) (.slice a2 m2 b2) bP P C) vals l a w') := ⟨_, rfl⟩
          refine region_inv (by kernel_rfl) R ?h0r1 ?stepr1 ?finr1
          case h0r1 => rw [hRd]; exact RH.start rfl (fun i j h => by simp [cpCh] at h; simp only [List.length_cons, List.length_nil]; omega) (by exact (Below.refl _ _))
          case stepr1 =>
            rintro l a w' i' hR0 hi'
            have hR1 := hR0
            rw [hRd] at hR1
            obtain ⟨vals, hR⟩ := hR1
            obtain ⟨hl0, o, ho, hdep⟩ := mem_ready.1 hi'
            have h15 : i' < 30 := by
              have := (Array.getElem?_eq_some_iff.1 ho).1
              simpa using this
            rcases (show i' = 0 ∨ i' = 1 ∨ i' = 2 ∨ i' = 3 ∨ i' = 4 ∨ i' = 5 ∨ i' = 6 ∨ i' = 7 ∨ i' = 8 ∨ i' = 9 ∨ i' = 10 ∨ i' = 11 ∨ i' = 12 ∨ i' = 13 ∨ i' = 14 ∨ i' = 15 ∨ i' = 16 ∨ i' = 17 ∨ i' = 18 ∨ i' = 19 ∨ i' = 20 ∨ i' = 21 ∨ i' = 22 ∨ i' = 23 ∨ i' = 24 ∨ i' = 25 ∨ i' = 26 ∨ i' = 27 ∨ i' = 28 ∨ i' = 29 by omega) with rfl | rfl | rfl | rfl | rfl | rfl | rfl | rfl | rfl | rfl | rfl | rfl | rfl | rfl | rfl | rfl | rfl | rfl | rfl | rfl | rfl | rfl | rfl | rfl | rfl | rfl | rfl | rfl | rfl | rfl
            · simp at ho
              subst ho
              simp [Region.binds] at hdep
              have k0 : a.tmps.getD 12 undef = .pointer (some ⟨bD, 0, none⟩) := (hR.fr.kept rfl (by simp [hT])).trans (by rw [hT]; try rfl)
              have hc : ∀ j, (0, j) ∈ cpCh → l.getD j true = true := by intro j hj; simp [cpCh] at hj
              clear hi' hdep
              obtain ⟨d0, d1, d2, d3, d4, d5⟩ := HDC.out _ hR.wd
              have k0g := k0
              rw [Array.getD_eq_getD_getElem?] at k0g
              unfold wpOpIn
              simp [Region.wanted]
              unfold Oper.wpIn
              simp [Oper.about, execOp, go_sem, Act.eval, k0, k0g, d0, d1, d2, d3, d4, d5]
              rw [hRd]
              exact hR.op 0 57 _ rfl (by decide) hl0 hc (hR.wd) (fun _ _ h => h) (rfl)
            · simp at ho
              subst ho
              simp [Region.binds] at hdep
              have k0 : a.tmps.getD 14 undef = .pointer (some ⟨bP, 0, none⟩) := (hR.fr.kept rfl (by simp [hT])).trans (by rw [hT]; try rfl)
              have hc : ∀ j, (1, j) ∈ cpCh → l.getD j true = true := by intro j hj; simp [cpCh] at hj
              clear hi' hdep
              have k0g := k0
              rw [Array.getD_eq_getD_getElem?] at k0g
              unfold wpOpIn
              simp [Region.wanted]
              unfold Oper.wpIn
              simp [Oper.about, execOp, go_sem, Act.eval, k0, k0g]
              rw [hRd]
              exact hR.op 1 58 _ rfl (by decide) hl0 hc (hR.wd) (fun _ _ h => h) (rfl)
            · simp at ho
              subst ho
              simp [Region.binds] at hdep
              have d0 : l.getD 1 true = true := getD_true (by simp_all)
              have k0 : a.tmps.getD 58 undef = vals 1 := hR.get rfl (by simp_all) (by simp [hT])
              have e0 : vals 1 = .pointer (some ⟨bP, 0, none⟩) := hR.vl 1 (by decide) d0
              rw [e0] at k0
              have hc : ∀ j, (2, j) ∈ cpCh → l.getD j true = true := by intro j hj; simp [cpCh] at hj; rcases hj with rfl <;> exact getD_true (by simp_all)
              clear hi' hdep
              obtain ⟨p0, p1⟩ := HPC.out _ hR.wd
              have k0g := k0
              rw [Array.getD_eq_getD_getElem?] at k0g
              unfold wpOpIn
              simp [Region.wanted]
              unfold Oper.wpIn
              simp [Oper.about, execOp, go_sem, Act.eval, k0, k0g, p0]
              rw [hRd]
              exact hR.op 2 59 _ rfl (by decide) hl0 hc (hR.wd) (fun _ _ h => h) (rfl)
            · simp at ho
              subst ho
              simp [Region.binds] at hdep
              have k0 : a.tmps.getD 14 undef = .pointer (some ⟨bP, 0, none⟩) := (hR.fr.kept rfl (by simp [hT])).trans (by rw [hT]; try rfl)
              have hc : ∀ j, (3, j) ∈ cpCh → l.getD j true = true := by intro j hj; simp [cpCh] at hj
              clear hi' hdep
              have k0g := k0
              rw [Array.getD_eq_getD_getElem?] at k0g
              unfold wpOpIn
              simp [Region.wanted]
              unfold Oper.wpIn
              simp [Oper.about, execOp, go_sem, Act.eval, k0, k0g]
              rw [hRd]
              exact hR.op 3 60 _ rfl (by decide) hl0 hc (hR.wd) (fun _ _ h => h) (rfl)
            · simp at ho
              subst ho
              simp [Region.binds] at hdep
              have d0 : l.getD 3 true = true := getD_true (by simp_all)
              have k0 : a.tmps.getD 60 undef = vals 3 := hR.get rfl (by simp_all) (by simp [hT])
              have e0 : vals 3 = .pointer (some ⟨bP, 1, none⟩) := hR.vl 3 (by decide) d0
              rw [e0] at k0
              have hc : ∀ j, (4, j) ∈ cpCh → l.getD j true = true := by intro j hj; simp [cpCh] at hj; rcases hj with rfl <;> exact getD_true (by simp_all)
              clear hi' hdep
              obtain ⟨p0, p1⟩ := HPC.out _ hR.wd
              have k0g := k0
              rw [Array.getD_eq_getD_getElem?] at k0g
              unfold wpOpIn
              simp [Region.wanted]
              unfold Oper.wpIn
              simp [Oper.about, execOp, go_sem, Act.eval, k0, k0g, p1]
              rw [hRd]
              exact hR.op 4 61 _ rfl (by decide) hl0 hc (hR.wd) (fun _ _ h => h) (rfl)
            · simp at ho
              subst ho
              simp [Region.binds] at hdep
              have d0 : l.getD 0 true = true := getD_true (by simp_all)
              have k0 : a.tmps.getD 57 undef = vals 0 := hR.get rfl (by simp_all) (by simp [hT])
              have e0 : vals 0 = DV 4 (.slice ad nd cdp) (x : Int) (y : Int) := hR.vl 0 (by decide) d0
              rw [e0] at k0
              have d1 : l.getD 2 true = true := getD_true (by simp_all)
              have k1 : a.tmps.getD 59 undef = vals 2 := hR.get rfl (by simp_all) (by simp [hT])
              have e1 : vals 2 = .slice a1 m1 b1 := hR.vl 2 (by decide) d1
              rw [e1] at k1
              have d2 : l.getD 4 true = true := getD_true (by simp_all)
              have k2 : a.tmps.getD 61 undef = vals 4 := hR.get rfl (by simp_all) (by simp [hT])
              have e2 : vals 4 = .slice a2 m2 b2 := hR.vl 4 (by decide) d2
              rw [e2] at k2
              have hc : ∀ j, (5, j) ∈ cpCh → l.getD j true = true := by intro j hj; simp [cpCh] at hj; rcases hj with rfl | rfl | rfl <;> exact getD_true (by simp_all)
              clear hi' hdep
              have k0g := k0
              rw [Array.getD_eq_getD_getElem?] at k0g
              have k1g := k1
              rw [Array.getD_eq_getD_getElem?] at k1g
              have k2g := k2
              rw [Array.getD_eq_getD_getElem?] at k2g
              unfold wpOpIn
              simp [Region.wanted]
              unfold Oper.wpIn
              simp [Oper.about, execOp, go_sem, Act.eval, k0, k1, k2, k0g, k1g, k2g]
              refine ⟨trivial, (callsIn_wide.2 (H18.out _ hR.wd)).mono ?_⟩
              rintro e w'' ⟨ao, n, cap, rfl, hi, hb⟩
              rw [hRd]
              exact hR.op 5 62 _ rfl (by decide) hl0 hc (hR.wd.trans (hb.mono hR.wd.size)) (CPV.below hb) (⟨_, _, _, rfl, hi⟩)
            · simp at ho
              subst ho
              simp [Region.binds] at hdep
              have k0 : a.tmps.getD 12 undef = .pointer (some ⟨bD, 0, none⟩) := (hR.fr.kept rfl (by simp [hT])).trans (by rw [hT]; try rfl)
              have hc : ∀ j, (6, j) ∈ cpCh → l.getD j true = true := by intro j hj; simp [cpCh] at hj
              clear hi' hdep
              obtain ⟨d0, d1, d2, d3, d4, d5⟩ := HDC.out _ hR.wd
              have k0g := k0
              rw [Array.getD_eq_getD_getElem?] at k0g
              unfold wpOpIn
              simp [Region.wanted]
              unfold Oper.wpIn
              simp [Oper.about, execOp, go_sem, Act.eval, k0, k0g, d0, d1, d2, d3, d4, d5]
              rw [hRd]
              exact hR.op 6 63 _ rfl (by decide) hl0 hc (hR.wd) (fun _ _ h => h) (rfl)
            · simp at ho
              subst ho
              simp [Region.binds] at hdep
              have k0 : a.tmps.getD 14 undef = .pointer (some ⟨bP, 0, none⟩) := (hR.fr.kept rfl (by simp [hT])).trans (by rw [hT]; try rfl)
              have hc : ∀ j, (7, j) ∈ cpCh → l.getD j true = true := by intro j hj; simp [cpCh] at hj
              clear hi' hdep
              have k0g := k0
              rw [Array.getD_eq_getD_getElem?] at k0g
              unfold wpOpIn
              simp [Region.wanted]
              unfold Oper.wpIn
              simp [Oper.about, execOp, go_sem, Act.eval, k0, k0g]
              rw [hRd]
              exact hR.op 7 64 _ rfl (by decide) hl0 hc (hR.wd) (fun _ _ h => h) (rfl)
            · simp at ho
              subst ho
              simp [Region.binds] at hdep
              have d0 : l.getD 7 true = true := getD_true (by simp_all)
              have k0 : a.tmps.getD 64 undef = vals 7 := hR.get rfl (by simp_all) (by simp [hT])
              have e0 : vals 7 = .pointer (some ⟨bP, 0, none⟩) := hR.vl 7 (by decide) d0
              rw [e0] at k0
              have hc : ∀ j, (8, j) ∈ cpCh → l.getD j true = true := by intro j hj; simp [cpCh] at hj; rcases hj with rfl <;> exact getD_true (by simp_all)
              clear hi' hdep
              obtain ⟨p0, p1⟩ := HPC.out _ hR.wd
              have k0g := k0
              rw [Array.getD_eq_getD_getElem?] at k0g
              unfold wpOpIn
              simp [Region.wanted]
              unfold Oper.wpIn
              simp [Oper.about, execOp, go_sem, Act.eval, k0, k0g, p0]
              rw [hRd]
              exact hR.op 8 65 _ rfl (by decide) hl0 hc (hR.wd) (fun _ _ h => h) (rfl)
            · simp at ho
              subst ho
              simp [Region.binds] at hdep
              have k0 : a.tmps.getD 14 undef = .pointer (some ⟨bP, 0, none⟩) := (hR.fr.kept rfl (by simp [hT])).trans (by rw [hT]; try rfl)
              have hc : ∀ j, (9, j) ∈ cpCh → l.getD j true = true := by intro j hj; simp [cpCh] at hj
              clear hi' hdep
              have k0g := k0
              rw [Array.getD_eq_getD_getElem?] at k0g
              unfold wpOpIn
              simp [Region.wanted]
              unfold Oper.wpIn
              simp [Oper.about, execOp, go_sem, Act.eval, k0, k0g]
              rw [hRd]
              exact hR.op 9 66 _ rfl (by decide) hl0 hc (hR.wd) (fun _ _ h => h) (rfl)
            · simp at ho
              subst ho
              simp [Region.binds] at hdep
              have d0 : l.getD 9 true = true := getD_true (by simp_all)
              have k0 : a.tmps.getD 66 undef = vals 9 := hR.get rfl (by simp_all) (by simp [hT])
              have e0 : vals 9 = .pointer (some ⟨bP, 1, none⟩) := hR.vl 9 (by decide) d0
              rw [e0] at k0
              have hc : ∀ j, (10, j) ∈ cpCh → l.getD j true = true := by intro j hj; simp [cpCh] at hj; rcases hj with rfl <;> exact getD_true (by simp_all)
              clear hi' hdep
              obtain ⟨p0, p1⟩ := HPC.out _ hR.wd
              have k0g := k0
              rw [Array.getD_eq_getD_getElem?] at k0g
              unfold wpOpIn
              simp [Region.wanted]
              unfold Oper.wpIn
              simp [Oper.about, execOp, go_sem, Act.eval, k0, k0g, p1]
              rw [hRd]
              exact hR.op 10 67 _ rfl (by decide) hl0 hc (hR.wd) (fun _ _ h => h) (rfl)
            · simp at ho
              subst ho
              simp [Region.binds] at hdep
              have d0 : l.getD 6 true = true := getD_true (by simp_all)
              have k0 : a.tmps.getD 63 undef = vals 6 := hR.get rfl (by simp_all) (by simp [hT])
              have e0 : vals 6 = DV 4 (.slice ad nd cdp) (x : Int) (y : Int) := hR.vl 6 (by decide) d0
              rw [e0] at k0
              have d1 : l.getD 8 true = true := getD_true (by simp_all)
              have k1 : a.tmps.getD 65 undef = vals 8 := hR.get rfl (by simp_all) (by simp [hT])
              have e1 : vals 8 = .slice a1 m1 b1 := hR.vl 8 (by decide) d1
              rw [e1] at k1
              have d2 : l.getD 10 true = true := getD_true (by simp_all)
              have k2 : a.tmps.getD 67 undef = vals 10 := hR.get rfl (by simp_all) (by simp [hT])
              have e2 : vals 10 = .slice a2 m2 b2 := hR.vl 10 (by decide) d2
              rw [e2] at k2
              have hc : ∀ j, (11, j) ∈ cpCh → l.getD j true = true := by intro j hj; simp [cpCh] at hj; rcases hj with rfl | rfl | rfl <;> exact getD_true (by simp_all)
              clear hi' hdep
              have k0g := k0
              rw [Array.getD_eq_getD_getElem?] at k0g
              have k1g := k1
              rw [Array.getD_eq_getD_getElem?] at k1g
              have k2g := k2
              rw [Array.getD_eq_getD_getElem?] at k2g
              unfold wpOpIn
              simp [Region.wanted]
              unfold Oper.wpIn
              simp [Oper.about, execOp, go_sem, Act.eval, k0, k1, k2, k0g, k1g, k2g]
              refine ⟨trivial, (callsIn_wide.2 (H19.out _ hR.wd)).mono ?_⟩
              rintro e w'' ⟨ao, n, cap, rfl, hi, hb⟩
              rw [hRd]
              exact hR.op 11 68 _ rfl (by decide) hl0 hc (hR.wd.trans (hb.mono hR.wd.size)) (CPV.below hb) (⟨_, _, _, rfl, hi⟩)
            · simp at ho
              subst ho
              simp [Region.binds] at hdep
              have d0 : l.getD 5 true = true := getD_true (by simp_all)
              have k0 : a.tmps.getD 62 undef = vals 5 := hR.get rfl (by simp_all) (by simp [hT])
              obtain ⟨ao0, n0, cap0, e0, hi0⟩ : ∃ ao n cap, vals 5 = .slice ao n cap ∧ Ix w' (.slice ao n cap) P := hR.vl 5 (by decide) d0
              rw [e0] at k0
              have d1 : l.getD 11 true = true := getD_true (by simp_all)
              have k1 : a.tmps.getD 68 undef = vals 11 := hR.get rfl (by simp_all) (by simp [hT])
              obtain ⟨ao1, n1, cap1, e1, hi1⟩ : ∃ ao n cap, vals 11 = .slice ao n cap ∧ Ix w' (.slice ao n cap) P := hR.vl 11 (by decide) d1
              rw [e1] at k1
              have hc : ∀ j, (12, j) ∈ cpCh → l.getD j true = true := by intro j hj; simp [cpCh] at hj; rcases hj with rfl | rfl <;> exact getD_true (by simp_all)
              clear hi' hdep
              have k0g := k0
              rw [Array.getD_eq_getD_getElem?] at k0g
              have k1g := k1
              rw [Array.getD_eq_getD_getElem?] at k1g
              unfold wpOpIn
              simp [Region.wanted]
              unfold Oper.wpIn
              simp [Oper.about, execOp, go_sem, Act.eval, k0, k1, k0g, k1g]
              refine ⟨trivial, (callsIn_wide.2 (H17.out _ _ _ _ _ _ _ hR.wd hi0 hi1)).mono ?_⟩
              rintro e w'' ⟨rfl, hb⟩
              rw [hRd]
              exact hR.op 12 69 _ rfl (by decide) hl0 hc (hR.wd.trans (hb.mono hR.wd.size)) (CPV.below hb) (rfl)
            · simp at ho
              subst ho
              simp [Region.binds] at hdep
              have d0 : l.getD 12 true = true := getD_true (by simp_all)
              have k0 : a.tmps.getD 69 undef = vals 12 := hR.get rfl (by simp_all) (by simp [hT])
              have e0 : vals 12 = .bool true := hR.vl 12 (by decide) d0
              rw [e0] at k0
              have hc : ∀ j, (13, j) ∈ cpCh → l.getD j true = true := by intro j hj; simp [cpCh] at hj; rcases hj with rfl <;> exact getD_true (by simp_all)
              clear hi' hdep
              have k0g := k0
              rw [Array.getD_eq_getD_getElem?] at k0g
              unfold wpOpIn
              simp [Region.wanted]
              unfold Oper.wpIn
              simp [Oper.about, execOp, go_sem, Act.eval, k0, k0g]
              rw [hRd]
              exact hR.op 13 70 _ rfl (by decide) hl0 hc (hR.wd) (fun _ _ h => h) (rfl)
            · simp at ho
              subst ho
              simp [Region.binds] at hdep
              have d0 : l.getD 13 true = true := getD_true (by simp_all)
              have k0 : a.tmps.getD 70 undef = vals 13 := hR.get rfl (by simp_all) (by simp [hT])
              have e0 : vals 13 = .bool false := hR.vl 13 (by decide) d0
              rw [e0] at k0
              have hc : ∀ j, (14, j) ∈ cpCh → l.getD j true = true := by intro j hj; simp [cpCh] at hj; rcases hj with rfl <;> exact getD_true (by simp_all)
              clear hi' hdep
              have k0g := k0
              rw [Array.getD_eq_getD_getElem?] at k0g
              unfold wpOpIn
              simp [Region.wanted]
              unfold Oper.wpIn
              simp [Oper.about, execOp, go_sem, Act.eval, k0, k0g]
              rw [hRd]
              exact hR.op 14 71 _ rfl (by decide) hl0 hc (hR.wd) (fun _ _ h => h) (rfl)
            · simp at ho
              subst ho
              simp [Region.binds] at hdep
              have k0 : a.tmps.getD 12 undef = .pointer (some ⟨bD, 0, none⟩) := (hR.fr.kept rfl (by simp [hT])).trans (by rw [hT]; try rfl)
              have d1 : l.getD 14 true = true := getD_true (by simp_all)
              have k1 : a.tmps.getD 71 undef = vals 14 := hR.get rfl (by simp_all) (by simp [hT])
              have e1 : vals 14 = .bool false := hR.vl 14 (by decide) d1
              rw [e1] at k1
              have hc : ∀ j, (15, j) ∈ cpCh → l.getD j true = true := by intro j hj; simp [cpCh] at hj; rcases hj with rfl <;> exact getD_true (by simp_all)
              clear hi' hdep
              obtain ⟨d0, d1, d2, d3, d4, d5⟩ := HDC.out _ hR.wd
              have k0g := k0
              rw [Array.getD_eq_getD_getElem?] at k0g
              have k1g := k1
              rw [Array.getD_eq_getD_getElem?] at k1g
              have gt := got_false k1
              unfold wpOpIn
              simp [Region.wanted, yielded, gt]
              unfold Oper.wpIn
              simp [Oper.about, execOp, go_sem, Act.eval, k0, k1, k0g, k1g, d0, d1, d2, d3, d4, d5]
              rw [hRd]
              exact hR.op 15 72 _ rfl (by decide) hl0 hc (hR.wd) (fun _ _ h => h) (rfl)
            · simp at ho
              subst ho
              simp [Region.binds] at hdep
              have k0 : a.tmps.getD 14 undef = .pointer (some ⟨bP, 0, none⟩) := (hR.fr.kept rfl (by simp [hT])).trans (by rw [hT]; try rfl)
              have d1 : l.getD 14 true = true := getD_true (by simp_all)
              have k1 : a.tmps.getD 71 undef = vals 14 := hR.get rfl (by simp_all) (by simp [hT])
              have e1 : vals 14 = .bool false := hR.vl 14 (by decide) d1
              rw [e1] at k1
              have hc : ∀ j, (16, j) ∈ cpCh → l.getD j true = true := by intro j hj; simp [cpCh] at hj; rcases hj with rfl <;> exact getD_true (by simp_all)
              clear hi' hdep
              have k0g := k0
              rw [Array.getD_eq_getD_getElem?] at k0g
              have k1g := k1
              rw [Array.getD_eq_getD_getElem?] at k1g
              have gt := got_false k1
              unfold wpOpIn
              simp [Region.wanted, yielded, gt]
              unfold Oper.wpIn
              simp [Oper.about, execOp, go_sem, Act.eval, k0, k1, k0g, k1g]
              rw [hRd]
              exact hR.op 16 73 _ rfl (by decide) hl0 hc (hR.wd) (fun _ _ h => h) (rfl)
            · simp at ho
              subst ho
              simp [Region.binds] at hdep
              have d0 : l.getD 16 true = true := getD_true (by simp_all)
              have k0 : a.tmps.getD 73 undef = vals 16 := hR.get rfl (by simp_all) (by simp [hT])
              have e0 : vals 16 = .pointer (some ⟨bP, 0, none⟩) := hR.vl 16 (by decide) d0
              rw [e0] at k0
              have d1 : l.getD 14 true = true := getD_true (by simp_all)
              have k1 : a.tmps.getD 71 undef = vals 14 := hR.get rfl (by simp_all) (by simp [hT])
              have e1 : vals 14 = .bool false := hR.vl 14 (by decide) d1
              rw [e1] at k1
              have hc : ∀ j, (17, j) ∈ cpCh → l.getD j true = true := by intro j hj; simp [cpCh] at hj; rcases hj with rfl | rfl <;> exact getD_true (by simp_all)
              clear hi' hdep
              obtain ⟨p0, p1⟩ := HPC.out _ hR.wd
              have k0g := k0
              rw [Array.getD_eq_getD_getElem?] at k0g
              have k1g := k1
              rw [Array.getD_eq_getD_getElem?] at k1g
              have gt := got_false k1
              unfold wpOpIn
              simp [Region.wanted, yielded, gt]
              unfold Oper.wpIn
              simp [Oper.about, execOp, go_sem, Act.eval, k0, k1, k0g, k1g, p0]
              rw [hRd]
              exact hR.op 17 74 _ rfl (by decide) hl0 hc (hR.wd) (fun _ _ h => h) (rfl)
            · simp at ho
              subst ho
              simp [Region.binds] at hdep
              have k0 : a.tmps.getD 14 undef = .pointer (some ⟨bP, 0, none⟩) := (hR.fr.kept rfl (by simp [hT])).trans (by rw [hT]; try rfl)
              have d1 : l.getD 14 true = true := getD_true (by simp_all)
              have k1 : a.tmps.getD 71 undef = vals 14 := hR.get rfl (by simp_all) (by simp [hT])
              have e1 : vals 14 = .bool false := hR.vl 14 (by decide) d1
              rw [e1] at k1
              have hc : ∀ j, (18, j) ∈ cpCh → l.getD j true = true := by intro j hj; simp [cpCh] at hj; rcases hj with rfl <;> exact getD_true (by simp_all)
              clear hi' hdep
              have k0g := k0
              rw [Array.getD_eq_getD_getElem?] at k0g
              have k1g := k1
              rw [Array.getD_eq_getD_getElem?] at k1g
              have gt := got_false k1
              unfold wpOpIn
              simp [Region.wanted, yielded, gt]
              unfold Oper.wpIn
              simp [Oper.about, execOp, go_sem, Act.eval, k0, k1, k0g, k1g]
              rw [hRd]
              exact hR.op 18 75 _ rfl (by decide) hl0 hc (hR.wd) (fun _ _ h => h) (rfl)
            · simp at ho
              subst ho
              simp [Region.binds] at hdep
              have d0 : l.getD 18 true = true := getD_true (by simp_all)
              have k0 : a.tmps.getD 75 undef = vals 18 := hR.get rfl (by simp_all) (by simp [hT])
              have e0 : vals 18 = .pointer (some ⟨bP, 1, none⟩) := hR.vl 18 (by decide) d0
              rw [e0] at k0
              have d1 : l.getD 14 true = true := getD_true (by simp_all)
              have k1 : a.tmps.getD 71 undef = vals 14 := hR.get rfl (by simp_all) (by simp [hT])
              have e1 : vals 14 = .bool false := hR.vl 14 (by decide) d1
              rw [e1] at k1
              have hc : ∀ j, (19, j) ∈ cpCh → l.getD j true = true := by intro j hj; simp [cpCh] at hj; rcases hj with rfl | rfl <;> exact getD_true (by simp_all)
              clear hi' hdep
              obtain ⟨p0, p1⟩ := HPC.out _ hR.wd
              have k0g := k0
              rw [Array.getD_eq_getD_getElem?] at k0g
              have k1g := k1
              rw [Array.getD_eq_getD_getElem?] at k1g
              have gt := got_false k1
              unfold wpOpIn
              simp [Region.wanted, yielded, gt]
              unfold Oper.wpIn
              simp [Oper.about, execOp, go_sem, Act.eval, k0, k1, k0g, k1g, p1]
              rw [hRd]
              exact hR.op 19 76 _ rfl (by decide) hl0 hc (hR.wd) (fun _ _ h => h) (rfl)
            · simp at ho
              subst ho
              simp [Region.binds] at hdep
              have d0 : l.getD 15 true = true := getD_true (by simp_all)
              have k0 : a.tmps.getD 72 undef = vals 15 := hR.get rfl (by simp_all) (by simp [hT])
              have e0 : vals 15 = DV 4 (.slice ad nd cdp) (x : Int) (y : Int) := hR.vl 15 (by decide) d0
              rw [e0] at k0
              have d1 : l.getD 17 true = true := getD_true (by simp_all)
              have k1 : a.tmps.getD 74 undef = vals 17 := hR.get rfl (by simp_all) (by simp [hT])
              have e1 : vals 17 = .slice a1 m1 b1 := hR.vl 17 (by decide) d1
              rw [e1] at k1
              have d2 : l.getD 19 true = true := getD_true (by simp_all)
              have k2 : a.tmps.getD 76 undef = vals 19 := hR.get rfl (by simp_all) (by simp [hT])
              have e2 : vals 19 = .slice a2 m2 b2 := hR.vl 19 (by decide) d2
              rw [e2] at k2
              have d3 : l.getD 14 true = true := getD_true (by simp_all)
              have k3 : a.tmps.getD 71 undef = vals 14 := hR.get rfl (by simp_all) (by simp [hT])
              have e3 : vals 14 = .bool false := hR.vl 14 (by decide) d3
              rw [e3] at k3
              have hc : ∀ j, (20, j) ∈ cpCh → l.getD j true = true := by intro j hj; simp [cpCh] at hj; rcases hj with rfl | rfl | rfl | rfl <;> exact getD_true (by simp_all)
              clear hi' hdep
              have k0g := k0
              rw [Array.getD_eq_getD_getElem?] at k0g
              have k1g := k1
              rw [Array.getD_eq_getD_getElem?] at k1g
              have k2g := k2
              rw [Array.getD_eq_getD_getElem?] at k2g
              have k3g := k3
              rw [Array.getD_eq_getD_getElem?] at k3g
              have gt := got_false k3
              unfold wpOpIn
              simp [Region.wanted, yielded, gt]
              unfold Oper.wpIn
              simp [Oper.about, execOp, go_sem, Act.eval, k0, k1, k2, k3, k0g, k1g, k2g, k3g]
              refine ⟨trivial, (callsIn_wide.2 (H21.out _ hR.wd)).mono ?_⟩
              rintro e w'' ⟨ao, n, cap, rfl, hi, hb⟩
              rw [hRd]
              exact hR.op 20 77 _ rfl (by decide) hl0 hc (hR.wd.trans (hb.mono hR.wd.size)) (CPV.below hb) (⟨_, _, _, rfl, hi⟩)
            · simp at ho
              subst ho
              simp [Region.binds] at hdep
              have k0 : a.tmps.getD 12 undef = .pointer (some ⟨bD, 0, none⟩) := (hR.fr.kept rfl (by simp [hT])).trans (by rw [hT]; try rfl)
              have d1 : l.getD 14 true = true := getD_true (by simp_all)
              have k1 : a.tmps.getD 71 undef = vals 14 := hR.get rfl (by simp_all) (by simp [hT])
              have e1 : vals 14 = .bool false := hR.vl 14 (by decide) d1
              rw [e1] at k1
              have hc : ∀ j, (21, j) ∈ cpCh → l.getD j true = true := by intro j hj; simp [cpCh] at hj; rcases hj with rfl <;> exact getD_true (by simp_all)
              clear hi' hdep
              obtain ⟨d0, d1, d2, d3, d4, d5⟩ := HDC.out _ hR.wd
              have k0g := k0
              rw [Array.getD_eq_getD_getElem?] at k0g
              have k1g := k1
              rw [Array.getD_eq_getD_getElem?] at k1g
              have gt := got_false k1
              unfold wpOpIn
              simp [Region.wanted, yielded, gt]
              unfold Oper.wpIn
              simp [Oper.about, execOp, go_sem, Act.eval, k0, k1, k0g, k1g, d0, d1, d2, d3, d4, d5]
              rw [hRd]
              exact hR.op 21 78 _ rfl (by decide) hl0 hc (hR.wd) (fun _ _ h => h) (rfl)
            · simp at ho
              subst ho
              simp [Region.binds] at hdep
              have k0 : a.tmps.getD 14 undef = .pointer (some ⟨bP, 0, none⟩) := (hR.fr.kept rfl (by simp [hT])).trans (by rw [hT]; try rfl)
              have d1 : l.getD 14 true = true := getD_true (by simp_all)
              have k1 : a.tmps.getD 71 undef = vals 14 := hR.get rfl (by simp_all) (by simp [hT])
              have e1 : vals 14 = .bool false := hR.vl 14 (by decide) d1
              rw [e1] at k1
              have hc : ∀ j, (22, j) ∈ cpCh → l.getD j true = true := by intro j hj; simp [cpCh] at hj; rcases hj with rfl <;> exact getD_true (by simp_all)
              clear hi' hdep
              have k0g := k0
              rw [Array.getD_eq_getD_getElem?] at k0g
              have k1g := k1
              rw [Array.getD_eq_getD_getElem?] at k1g
              have gt := got_false k1
              unfold wpOpIn
              simp [Region.wanted, yielded, gt]
              unfold Oper.wpIn
              simp [Oper.about, execOp, go_sem, Act.eval, k0, k1, k0g, k1g]
              rw [hRd]
              exact hR.op 22 79 _ rfl (by decide) hl0 hc (hR.wd) (fun _ _ h => h) (rfl)
            · simp at ho
              subst ho
              simp [Region.binds] at hdep
              have d0 : l.getD 22 true = true := getD_true (by simp_all)
              have k0 : a.tmps.getD 79 undef = vals 22 := hR.get rfl (by simp_all) (by simp [hT])
              have e0 : vals 22 = .pointer (some ⟨bP, 0, none⟩) := hR.vl 22 (by decide) d0
              rw [e0] at k0
              have d1 : l.getD 14 true = true := getD_true (by simp_all)
              have k1 : a.tmps.getD 71 undef = vals 14 := hR.get rfl (by simp_all) (by simp [hT])
              have e1 : vals 14 = .bool false := hR.vl 14 (by decide) d1
              rw [e1] at k1
              have hc : ∀ j, (23, j) ∈ cpCh → l.getD j true = true := by intro j hj; simp [cpCh] at hj; rcases hj with rfl | rfl <;> exact getD_true (by simp_all)
              clear hi' hdep
              obtain ⟨p0, p1⟩ := HPC.out _ hR.wd
              have k0g := k0
              rw [Array.getD_eq_getD_getElem?] at k0g
              have k1g := k1
              rw [Array.getD_eq_getD_getElem?] at k1g
              have gt := got_false k1
              unfold wpOpIn
              simp [Region.wanted, yielded, gt]
              unfold Oper.wpIn
              simp [Oper.about, execOp, go_sem, Act.eval, k0, k1, k0g, k1g, p0]
              rw [hRd]
              exact hR.op 23 80 _ rfl (by decide) hl0 hc (hR.wd) (fun _ _ h => h) (rfl)
            · simp at ho
              subst ho
              simp [Region.binds] at hdep
              have k0 : a.tmps.getD 14 undef = .pointer (some ⟨bP, 0, none⟩) := (hR.fr.kept rfl (by simp [hT])).trans (by rw [hT]; try rfl)
              have d1 : l.getD 14 true = true := getD_true (by simp_all)
              have k1 : a.tmps.getD 71 undef = vals 14 := hR.get rfl (by simp_all) (by simp [hT])
              have e1 : vals 14 = .bool false := hR.vl 14 (by decide) d1
              rw [e1] at k1
              have hc : ∀ j, (24, j) ∈ cpCh → l.getD j true = true := by intro j hj; simp [cpCh] at hj; rcases hj with rfl <;> exact getD_true (by simp_all)
              clear hi' hdep
              have k0g := k0
              rw [Array.getD_eq_getD_getElem?] at k0g
              have k1g := k1
              rw [Array.getD_eq_getD_getElem?] at k1g
              have gt := got_false k1
              unfold wpOpIn
              simp [Region.wanted, yielded, gt]
              unfold Oper.wpIn
              simp [Oper.about, execOp, go_sem, Act.eval, k0, k1, k0g, k1g]
              rw [hRd]
              exact hR.op 24 81 _ rfl (by decide) hl0 hc (hR.wd) (fun _ _ h => h) (rfl)
            · simp at ho
              subst ho
              simp [Region.binds] at hdep
              have d0 : l.getD 24 true = true := getD_true (by simp_all)
              have k0 : a.tmps.getD 81 undef = vals 24 := hR.get rfl (by simp_all) (by simp [hT])
              have e0 : vals 24 = .pointer (some ⟨bP, 1, none⟩) := hR.vl 24 (by decide) d0
              rw [e0] at k0
              have d1 : l.getD 14 true = true := getD_true (by simp_all)
              have k1 : a.tmps.getD 71 undef = vals 14 := hR.get rfl (by simp_all) (by simp [hT])
              have e1 : vals 14 = .bool false := hR.vl 14 (by decide) d1
              rw [e1] at k1
              have hc : ∀ j, (25, j) ∈ cpCh → l.getD j true = true := by intro j hj; simp [cpCh] at hj; rcases hj with rfl | rfl <;> exact getD_true (by simp_all)
              clear hi' hdep
              obtain ⟨p0, p1⟩ := HPC.out _ hR.wd
              have k0g := k0
              rw [Array.getD_eq_getD_getElem?] at k0g
              have k1g := k1
              rw [Array.getD_eq_getD_getElem?] at k1g
              have gt := got_false k1
              unfold wpOpIn
              simp [Region.wanted, yielded, gt]
              unfold Oper.wpIn
              simp [Oper.about, execOp, go_sem, Act.eval, k0, k1, k0g, k1g, p1]
              rw [hRd]
              exact hR.op 25 82 _ rfl (by decide) hl0 hc (hR.wd) (fun _ _ h => h) (rfl)
            · simp at ho
              subst ho
              simp [Region.binds] at hdep
              have d0 : l.getD 21 true = true := getD_true (by simp_all)
              have k0 : a.tmps.getD 78 undef = vals 21 := hR.get rfl (by simp_all) (by simp [hT])
              have e0 : vals 21 = DV 4 (.slice ad nd cdp) (x : Int) (y : Int) := hR.vl 21 (by decide) d0
              rw [e0] at k0
              have d1 : l.getD 23 true = true := getD_true (by simp_all)
              have k1 : a.tmps.getD 80 undef = vals 23 := hR.get rfl (by simp_all) (by simp [hT])
              have e1 : vals 23 = .slice a1 m1 b1 := hR.vl 23 (by decide) d1
              rw [e1] at k1
              have d2 : l.getD 25 true = true := getD_true (by simp_all)
              have k2 : a.tmps.getD 82 undef = vals 25 := hR.get rfl (by simp_all) (by simp [hT])
              have e2 : vals 25 = .slice a2 m2 b2 := hR.vl 25 (by decide) d2
              rw [e2] at k2
              have d3 : l.getD 14 true = true := getD_true (by simp_all)
              have k3 : a.tmps.getD 71 undef = vals 14 := hR.get rfl (by simp_all) (by simp [hT])
              have e3 : vals 14 = .bool false := hR.vl 14 (by decide) d3
              rw [e3] at k3
              have hc : ∀ j, (26, j) ∈ cpCh → l.getD j true = true := by intro j hj; simp [cpCh] at hj; rcases hj with rfl | rfl | rfl | rfl <;> exact getD_true (by simp_all)
              clear hi' hdep
              have k0g := k0
              rw [Array.getD_eq_getD_getElem?] at k0g
              have k1g := k1
              rw [Array.getD_eq_getD_getElem?] at k1g
              have k2g := k2
              rw [Array.getD_eq_getD_getElem?] at k2g
              have k3g := k3
              rw [Array.getD_eq_getD_getElem?] at k3g
              have gt := got_false k3
              unfold wpOpIn
              simp [Region.wanted, yielded, gt]
              unfold Oper.wpIn
              simp [Oper.about, execOp, go_sem, Act.eval, k0, k1, k2, k3, k0g, k1g, k2g, k3g]
              refine ⟨trivial, (callsIn_wide.2 (H22.out _ hR.wd)).mono ?_⟩
              rintro e w'' ⟨ao, n, cap, rfl, hi, hb⟩
              rw [hRd]
              exact hR.op 26 83 _ rfl (by decide) hl0 hc (hR.wd.trans (hb.mono hR.wd.size)) (CPV.below hb) (⟨_, _, _, rfl, hi⟩)
            · simp at ho
              subst ho
              simp [Region.binds] at hdep
              have d0 : l.getD 20 true = true := getD_true (by simp_all)
              have k0 : a.tmps.getD 77 undef = vals 20 := hR.get rfl (by simp_all) (by simp [hT])
              obtain ⟨ao0, n0, cap0, e0, hi0⟩ : ∃ ao n cap, vals 20 = .slice ao n cap ∧ Cx w' (.slice ao n cap) C := hR.vl 20 (by decide) d0
              rw [e0] at k0
              have d1 : l.getD 26 true = true := getD_true (by simp_all)
              have k1 : a.tmps.getD 83 undef = vals 26 := hR.get rfl (by simp_all) (by simp [hT])
              obtain ⟨ao1, n1, cap1, e1, hi1⟩ : ∃ ao n cap, vals 26 = .slice ao n cap ∧ Cx w' (.slice ao n cap) C := hR.vl 26 (by decide) d1
              rw [e1] at k1
              have d2 : l.getD 14 true = true := getD_true (by simp_all)
              have k2 : a.tmps.getD 71 undef = vals 14 := hR.get rfl (by simp_all) (by simp [hT])
              have e2 : vals 14 = .bool false := hR.vl 14 (by decide) d2
              rw [e2] at k2
              have hc : ∀ j, (27, j) ∈ cpCh → l.getD j true = true := by intro j hj; simp [cpCh] at hj; rcases hj with rfl | rfl | rfl <;> exact getD_true (by simp_all)
              clear hi' hdep
              have k0g := k0
              rw [Array.getD_eq_getD_getElem?] at k0g
              have k1g := k1
              rw [Array.getD_eq_getD_getElem?] at k1g
              have k2g := k2
              rw [Array.getD_eq_getD_getElem?] at k2g
              have gt := got_false k2
              unfold wpOpIn
              simp [Region.wanted, yielded, gt]
              unfold Oper.wpIn
              simp [Oper.about, execOp, go_sem, Act.eval, k0, k1, k2, k0g, k1g, k2g]
              refine ⟨trivial, (callsIn_wide.2 (H20.out _ _ _ _ _ _ _ hR.wd hi0 hi1)).mono ?_⟩
              rintro e w'' ⟨rfl, hb⟩
              rw [hRd]
              exact hR.op 27 84 _ rfl (by decide) hl0 hc (hR.wd.trans (hb.mono hR.wd.size)) (CPV.below hb) (rfl)
            · simp at ho
              subst ho
              simp [Region.binds] at hdep
              have d0 : l.getD 27 true = true := getD_true (by simp_all)
              have k0 : a.tmps.getD 84 undef = vals 27 := hR.get rfl (by simp_all) (by simp [hT])
              have e0 : vals 27 = .bool true := hR.vl 27 (by decide) d0
              rw [e0] at k0
              have d1 : l.getD 14 true = true := getD_true (by simp_all)
              have k1 : a.tmps.getD 71 undef = vals 14 := hR.get rfl (by simp_all) (by simp [hT])
              have e1 : vals 14 = .bool false := hR.vl 14 (by decide) d1
              rw [e1] at k1
              have hc : ∀ j, (28, j) ∈ cpCh → l.getD j true = true := by intro j hj; simp [cpCh] at hj; rcases hj with rfl | rfl <;> exact getD_true (by simp_all)
              clear hi' hdep
              have k0g := k0
              rw [Array.getD_eq_getD_getElem?] at k0g
              have k1g := k1
              rw [Array.getD_eq_getD_getElem?] at k1g
              have gt := got_false k1
              unfold wpOpIn
              simp [Region.wanted, yielded, gt]
              unfold Oper.wpIn
              simp [Oper.about, execOp, go_sem, Act.eval, k0, k1, k0g, k1g]
              rw [hRd]
              exact hR.op 28 85 _ rfl (by decide) hl0 hc (hR.wd) (fun _ _ h => h) (rfl)
            · simp at ho
              subst ho
              simp [Region.binds] at hdep
              have d0 : l.getD 14 true = true := getD_true (by simp_all)
              have k0 : a.tmps.getD 71 undef = vals 14 := hR.get rfl (by simp_all) (by simp [hT])
              have e0 : vals 14 = .bool false := hR.vl 14 (by decide) d0
              rw [e0] at k0
              have d1 : l.getD 28 true = true := getD_true (by simp_all)
              have k1 : a.tmps.getD 85 undef = vals 28 := hR.get rfl (by simp_all) (by simp [hT])
              have e1 : vals 28 = .bool false := hR.vl 28 (by decide) d1
              rw [e1] at k1
              have hc : ∀ j, (29, j) ∈ cpCh → l.getD j true = true := by intro j hj; simp [cpCh] at hj; rcases hj with rfl | rfl <;> exact getD_true (by simp_all)
              clear hi' hdep
              have k0g := k0
              rw [Array.getD_eq_getD_getElem?] at k0g
              have k1g := k1
              rw [Array.getD_eq_getD_getElem?] at k1g
              unfold wpOpIn
              simp [Region.wanted]
              unfold Oper.wpIn
              simp [Oper.about, execOp, go_sem, Act.eval, k0, k1, k0g, k1g]
              rw [hRd]
              exact hR.op 29 86 _ rfl (by decide) hl0 hc (hR.wd) (fun _ _ h => h) (rfl)
          case' finr1 =>
            rintro l a w' hR0 hz
            rw [hRd] at hR0
            obtain ⟨vals, hR⟩ := hR0
            clear hRd R
            have hnot := List.eq_nil_iff_forall_not_mem.1 hz
            have hk : ∀ k, k < 30 → (l.getD k true = false → False) → l.getD k false = true := fun k h12 h => by
              have hs := hR.size
              cases h' : l.getD k true with
              | false => exact (h h').elim
              | true => simp at hs; simp [Array.getD, hs, h12] at h' ⊢; exact h'
            have st0 := hk 0 (by omega) (fun h => hnot 0 (mem_ready.2 ⟨h, _, rfl, by simp [Region.binds]⟩))
            have st1 := hk 1 (by omega) (fun h => hnot 1 (mem_ready.2 ⟨h, _, rfl, by simp [Region.binds]⟩))
            have st2 := hk 2 (by omega) (fun h => hnot 2 (mem_ready.2 ⟨h, _, rfl, by simp [Region.binds] <;> simp_all⟩))
            have st3 := hk 3 (by omega) (fun h => hnot 3 (mem_ready.2 ⟨h, _, rfl, by simp [Region.binds]⟩))
            have st4 := hk 4 (by omega) (fun h => hnot 4 (mem_ready.2 ⟨h, _, rfl, by simp [Region.binds] <;> simp_all⟩))
            have st5 := hk 5 (by omega) (fun h => hnot 5 (mem_ready.2 ⟨h, _, rfl, by simp [Region.binds] <;> simp_all⟩))
            have st6 := hk 6 (by omega) (fun h => hnot 6 (mem_ready.2 ⟨h, _, rfl, by simp [Region.binds]⟩))
            have st7 := hk 7 (by omega) (fun h => hnot 7 (mem_ready.2 ⟨h, _, rfl, by simp [Region.binds]⟩))
            have st8 := hk 8 (by omega) (fun h => hnot 8 (mem_ready.2 ⟨h, _, rfl, by simp [Region.binds] <;> simp_all⟩))
            have st9 := hk 9 (by omega) (fun h => hnot 9 (mem_ready.2 ⟨h, _, rfl, by simp [Region.binds]⟩))
            have st10 := hk 10 (by omega) (fun h => hnot 10 (mem_ready.2 ⟨h, _, rfl, by simp [Region.binds] <;> simp_all⟩))
            have st11 := hk 11 (by omega) (fun h => hnot 11 (mem_ready.2 ⟨h, _, rfl, by simp [Region.binds] <;> simp_all⟩))
            have st12 := hk 12 (by omega) (fun h => hnot 12 (mem_ready.2 ⟨h, _, rfl, by simp [Region.binds] <;> simp_all⟩))
            have st13 := hk 13 (by omega) (fun h => hnot 13 (mem_ready.2 ⟨h, _, rfl, by simp [Region.binds] <;> simp_all⟩))
            have st14 := hk 14 (by omega) (fun h => hnot 14 (mem_ready.2 ⟨h, _, rfl, by simp [Region.binds] <;> simp_all⟩))
            have st15 := hk 15 (by omega) (fun h => hnot 15 (mem_ready.2 ⟨h, _, rfl, by simp [Region.binds] <;> simp_all⟩))
            have st16 := hk 16 (by omega) (fun h => hnot 16 (mem_ready.2 ⟨h, _, rfl, by simp [Region.binds] <;> simp_all⟩))
            have st17 := hk 17 (by omega) (fun h => hnot 17 (mem_ready.2 ⟨h, _, rfl, by simp [Region.binds] <;> simp_all⟩))
            have st18 := hk 18 (by omega) (fun h => hnot 18 (mem_ready.2 ⟨h, _, rfl, by simp [Region.binds] <;> simp_all⟩))
            have st19 := hk 19 (by omega) (fun h => hnot 19 (mem_ready.2 ⟨h, _, rfl, by simp [Region.binds] <;> simp_all⟩))
            have st20 := hk 20 (by omega) (fun h => hnot 20 (mem_ready.2 ⟨h, _, rfl, by simp [Region.binds] <;> simp_all⟩))
            have st21 := hk 21 (by omega) (fun h => hnot 21 (mem_ready.2 ⟨h, _, rfl, by simp [Region.binds] <;> simp_all⟩))
            have st22 := hk 22 (by omega) (fun h => hnot 22 (mem_ready.2 ⟨h, _, rfl, by simp [Region.binds] <;> simp_all⟩))
            have st23 := hk 23 (by omega) (fun h => hnot 23 (mem_ready.2 ⟨h, _, rfl, by simp [Region.binds] <;> simp_all⟩))
            have st24 := hk 24 (by omega) (fun h => hnot 24 (mem_ready.2 ⟨h, _, rfl, by simp [Region.binds] <;> simp_all⟩))
            have st25 := hk 25 (by omega) (fun h => hnot 25 (mem_ready.2 ⟨h, _, rfl, by simp [Region.binds] <;> simp_all⟩))
            have st26 := hk 26 (by omega) (fun h => hnot 26 (mem_ready.2 ⟨h, _, rfl, by simp [Region.binds] <;> simp_all⟩))
            have st27 := hk 27 (by omega) (fun h => hnot 27 (mem_ready.2 ⟨h, _, rfl, by simp [Region.binds] <;> simp_all⟩))
            have st28 := hk 28 (by omega) (fun h => hnot 28 (mem_ready.2 ⟨h, _, rfl, by simp [Region.binds] <;> simp_all⟩))
            have st29 := hk 29 (by omega) (fun h => hnot 29 (mem_ready.2 ⟨h, _, rfl, by simp [Region.binds] <;> simp_all⟩))
            have hall : ∀ i, i < 30 → l.getD i true = true := fun i hi => by
              rcases (show i = 0 ∨ i = 1 ∨ i = 2 ∨ i = 3 ∨ i = 4 ∨ i = 5 ∨ i = 6 ∨ i = 7 ∨ i = 8 ∨ i = 9 ∨ i = 10 ∨ i = 11 ∨ i = 12 ∨ i = 13 ∨ i = 14 ∨ i = 15 ∨ i = 16 ∨ i = 17 ∨ i = 18 ∨ i = 19 ∨ i = 20 ∨ i = 21 ∨ i = 22 ∨ i = 23 ∨ i = 24 ∨ i = 25 ∨ i = 26 ∨ i = 27 ∨ i = 28 ∨ i = 29 by omega) with rfl | rfl | rfl | rfl | rfl | rfl | rfl | rfl | rfl | rfl | rfl | rfl | rfl | rfl | rfl | rfl | rfl | rfl | rfl | rfl | rfl | rfl | rfl | rfl | rfl | rfl | rfl | rfl | rfl | rfl
              · exact getD_true st0
              · exact getD_true st1
              · exact getD_true st2
              · exact getD_true st3
              · exact getD_true st4
              · exact getD_true st5
              · exact getD_true st6
              · exact getD_true st7
              · exact getD_true st8
              · exact getD_true st9
              · exact getD_true st10
              · exact getD_true st11
              · exact getD_true st12
              · exact getD_true st13
              · exact getD_true st14
              · exact getD_true st15
              · exact getD_true st16
              · exact getD_true st17
              · exact getD_true st18
              · exact getD_true st19
              · exact getD_true st20
              · exact getD_true st21
              · exact getD_true st22
              · exact getD_true st23
              · exact getD_true st24
              · exact getD_true st25
              · exact getD_true st26
              · exact getD_true st27
              · exact getD_true st28
              · exact getD_true st29
            clear st0 st1 st2 st3 st4 st5 st6 st7 st8 st9 st10 st11 st12 st13 st14 st15 st16 st17 st18 st19 st20 st21 st22 st23 st24 st25 st26 st27 st28 st29 hk hnot hz
            have hTs : T.size = 90 := by rw [hT]; rfl
            have ha := hR.all (T' := ((((((((((((((((((((((((((((((T.setIfInBounds 57 (vals 0)).setIfInBounds 58 (vals 1)).setIfInBounds 59 (vals 2)).setIfInBounds 60 (vals 3)).setIfInBounds 61 (vals 4)).setIfInBounds 62 (vals 5)).setIfInBounds 63 (vals 6)).setIfInBounds 64 (vals 7)).setIfInBounds 65 (vals 8)).setIfInBounds 66 (vals 9)).setIfInBounds 67 (vals 10)).setIfInBounds 68 (vals 11)).setIfInBounds 69 (vals 12)).setIfInBounds 70 (vals 13)).setIfInBounds 71 (vals 14)).setIfInBounds 72 (vals 15)).setIfInBounds 73 (vals 16)).setIfInBounds 74 (vals 17)).setIfInBounds 75 (vals 18)).setIfInBounds 76 (vals 19)).setIfInBounds 77 (vals 20)).setIfInBounds 78 (vals 21)).setIfInBounds 79 (vals 22)).setIfInBounds 80 (vals 23)).setIfInBounds 81 (vals 24)).setIfInBounds 82 (vals 25)).setIfInBounds 83 (vals 26)).setIfInBounds 84 (vals 27)).setIfInBounds 85 (vals 28)).setIfInBounds 86 (vals 29))) (fun i hi => hall i (by simpa using hi)) (by simp) (fun j hj => by
              by_cases h1 : j = 57 ∨ j = 58 ∨ j = 59 ∨ j = 60 ∨ j = 61 ∨ j = 62 ∨ j = 63 ∨ j = 64 ∨ j = 65 ∨ j = 66 ∨ j = 67 ∨ j = 68 ∨ j = 69 ∨ j = 70 ∨ j = 71 ∨ j = 72 ∨ j = 73 ∨ j = 74 ∨ j = 75 ∨ j = 76 ∨ j = 77 ∨ j = 78 ∨ j = 79 ∨ j = 80 ∨ j = 81 ∨ j = 82 ∨ j = 83 ∨ j = 84 ∨ j = 85 ∨ j = 86
              · rcases h1 with rfl | rfl | rfl | rfl | rfl | rfl | rfl | rfl | rfl | rfl | rfl | rfl | rfl | rfl | rfl | rfl | rfl | rfl | rfl | rfl | rfl | rfl | rfl | rfl | rfl | rfl | rfl | rfl | rfl | rfl <;> simp [rv_sets, tOwn, List.findIdx?, List.findIdx?.go, hTs]
              · simp only [not_or] at h1
                obtain ⟨m57, m58, m59, m60, m61, m62, m63, m64, m65, m66, m67, m68, m69, m70, m71, m72, m73, m74, m75, m76, m77, m78, m79, m80, m81, m82, m83, m84, m85, m86⟩ := h1
                have e : tOwn [some 57, some 58, some 59, some 60, some 61, some 62, some 63, some 64, some 65, some 66, some 67, some 68, some 69, some 70, some 71, some 72, some 73, some 74, some 75, some 76, some 77, some 78, some 79, some 80, some 81, some 82, some 83, some 84, some 85, some 86] vals j = none := by
                  unfold tOwn
                  simp [List.findIdx?, List.findIdx?.go, Ne.symm m57, Ne.symm m58, Ne.symm m59, Ne.symm m60, Ne.symm m61, Ne.symm m62, Ne.symm m63, Ne.symm m64, Ne.symm m65, Ne.symm m66, Ne.symm m67, Ne.symm m68, Ne.symm m69, Ne.symm m70, Ne.symm m71, Ne.symm m72, Ne.symm m73, Ne.symm m74, Ne.symm m75, Ne.symm m76, Ne.symm m77, Ne.symm m78, Ne.symm m79, Ne.symm m80, Ne.symm m81, Ne.symm m82, Ne.symm m83, Ne.symm m84, Ne.symm m85, Ne.symm m86]
                rw [e]
                simp only [rv_sets]
                repeat rw [if_neg (by omega)])
            have v0 : vals 0 = DV 4 (.slice ad nd cdp) (x : Int) (y : Int) := hR.vl 0 (by decide) (hall 0 (by decide))
            have v1 : vals 1 = .pointer (some ⟨bP, 0, none⟩) := hR.vl 1 (by decide) (hall 1 (by decide))
            have v2 : vals 2 = .slice a1 m1 b1 := hR.vl 2 (by decide) (hall 2 (by decide))
            have v3 : vals 3 = .pointer (some ⟨bP, 1, none⟩) := hR.vl 3 (by decide) (hall 3 (by decide))
            have v4 : vals 4 = .slice a2 m2 b2 := hR.vl 4 (by decide) (hall 4 (by decide))
            have v6 : vals 6 = DV 4 (.slice ad nd cdp) (x : Int) (y : Int) := hR.vl 6 (by decide) (hall 6 (by decide))
            have v7 : vals 7 = .pointer (some ⟨bP, 0, none⟩) := hR.vl 7 (by decide) (hall 7 (by decide))
            have v8 : vals 8 = .slice a1 m1 b1 := hR.vl 8 (by decide) (hall 8 (by decide))
            have v9 : vals 9 = .pointer (some ⟨bP, 1, none⟩) := hR.vl 9 (by decide) (hall 9 (by decide))
            have v10 : vals 10 = .slice a2 m2 b2 := hR.vl 10 (by decide) (hall 10 (by decide))
            have v12 : vals 12 = .bool true := hR.vl 12 (by decide) (hall 12 (by decide))
            have v13 : vals 13 = .bool false := hR.vl 13 (by decide) (hall 13 (by decide))
            have v14 : vals 14 = .bool false := hR.vl 14 (by decide) (hall 14 (by decide))
            have v15 : vals 15 = DV 4 (.slice ad nd cdp) (x : Int) (y : Int) := hR.vl 15 (by decide) (hall 15 (by decide))
            have v16 : vals 16 = .pointer (some ⟨bP, 0, none⟩) := hR.vl 16 (by decide) (hall 16 (by decide))
            have v17 : vals 17 = .slice a1 m1 b1 := hR.vl 17 (by decide) (hall 17 (by decide))
            have v18 : vals 18 = .pointer (some ⟨bP, 1, none⟩) := hR.vl 18 (by decide) (hall 18 (by decide))
            have v19 : vals 19 = .slice a2 m2 b2 := hR.vl 19 (by decide) (hall 19 (by decide))
            have v21 : vals 21 = DV 4 (.slice ad nd cdp) (x : Int) (y : Int) := hR.vl 21 (by decide) (hall 21 (by decide))
            have v22 : vals 22 = .pointer (some ⟨bP, 0, none⟩) := hR.vl 22 (by decide) (hall 22 (by decide))
            have v23 : vals 23 = .slice a1 m1 b1 := hR.vl 23 (by decide) (hall 23 (by decide))
            have v24 : vals 24 = .pointer (some ⟨bP, 1, none⟩) := hR.vl 24 (by decide) (hall 24 (by decide))
            have v25 : vals 25 = .slice a2 m2 b2 := hR.vl 25 (by decide) (hall 25 (by decide))
            have v27 : vals 27 = .bool true := hR.vl 27 (by decide) (hall 27 (by decide))
            have v28 : vals 28 = .bool false := hR.vl 28 (by decide) (hall 28 (by decide))
            have v29 : vals 29 = .bool false := hR.vl 29 (by decide) (hall 29 (by decide))
            have HWE : Hid (Below w4.drew.heap.size w4.drew w') := Lib.hid hR.wd
            subst ha
            clear hR hall hTs
            rw [v0, v1, v2, v3, v4, v6, v7, v8, v9, v10, v12, v13, v14, v15, v16, v17, v18, v19, v21, v22, v23, v24, v25, v27, v28, v29, hT]
            simp only [List.setIfInBounds_toArray, List.set_cons_succ, List.set_cons_zero]
            clear v0 v1 v2 v3 v4 v6 v7 v8 v9 v10 v12 v13 v14 v15 v16 v17 v18 v19 v21 v22 v23 v24 v25 v27 v28 v29 hT T
          generalize vals 5 = y5
          generalize vals 11 = y11
          generalize vals 20 = y20
          generalize vals 26 = y26
          have HFN : Hid (Below X2.heap.size X2 w') := Lib.hid (HX2.out _ HWE.out).2.2.2.2
          clear H17 H18 H19 H20 H21 H22 HDC HPC HTO HX2 HWE
          go_wp2
          go_roundw
          case rel => exact ⟨j + 1, by omega, by go_num, HFN⟩
          case measure => simp [intOf]; omega

end Go.Proofs.Ytcpgoaombabfjaa
