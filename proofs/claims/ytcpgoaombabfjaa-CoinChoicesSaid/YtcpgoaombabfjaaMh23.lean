/- What CoinUneven and CoinChoices stand on: what Next's row is; two designs that lie in memory. No condition beyond those that are stated. The law CoinUneven, walked. Condition: the slices read as ints; any numbers. -/
import Derived.Test.YtcpgoaombabfjaaMh22
import Derived.Test.YtcpgoaombabfjaaMh14
import Derived.Test.YtcpgoaombabfjaaMh15
namespace Go.Proofs.Ytcpgoaombabfjaa
set_option linter.unusedSimpArgs false
set_option linter.unusedVariables false
open Go Go.RowKit

theorem nxV_fit (r row : List Int) (arm : Int) : (nxV r row arm).length ≤ 6 ∧ ∀ j, I64 ((nxV r row arm).getD j 0) := by
  unfold nxV
  split
  · rename_i h
    unfold nxB at h
    simp only [Bool.and_eq_true] at h
    have hp := h.1.1.1.1
    have hf := h.1.1.1.2
    refine ⟨by rw [mor_len, unV_len hf]; exact (prB_iff.1 hp).1, fun j => ?_⟩
    have := mor_in (unV_in hf) arm.toNat j
    exact ⟨by omega, by omega⟩
  · exact ⟨by simp, fun j => by simp; decide⟩

/-- A block that holds two designs. -/
abbrev TwoD (W : World) (g : Nat) (k1 : Int) (v1 : Value) (a1 b1 : Int) (k2 : Int) (v2 : Value) (a2 b2 : Int) : Prop :=
  W.heap[g]? = some (.cells #[.int .i64 k1, v1, .slice none 0 0, .int .i64 0, .int .i64 a1, .int .i64 b1, .int .i64 k2, v2, .slice none 0 0, .int .i64 0, .int .i64 a2, .int .i64 b2] 30 (0, 0))

/-- What one of the designs is. -/
structure DesAt (W : World) (g i : Nat) (v : Value) (r : List Int) (x y : Nat) : Prop where
  ix : Ix W v r
  c0 : W.cell? ⟨g, i * 6, none⟩ = some (.int .i64 4)
  c1 : W.cell? ⟨g, i * 6 + 1, none⟩ = some v
  c2 : W.cell? ⟨g, i * 6 + 2, none⟩ = some (.slice none 0 0)
  c3 : W.cell? ⟨g, i * 6 + 3, none⟩ = some (.int .i64 0)
  c4 : W.cell? ⟨g, i * 6 + 4, none⟩ = some (.int .i64 (x : Int))
  c5 : W.cell? ⟨g, i * 6 + 5, none⟩ = some (.int .i64 (y : Int))

/-- What the slice of the two designs is. -/
def DesV (X w : World) (u : Value) : Prop := ∃ g, u = .slice (some ⟨g, 0, none⟩) 2 2 ∧ X.heap.size ≤ g ∧ ∀ i, i < 2 → ∃ ao n cap, ∃ r : List Int, ∃ x y : Nat, OddOk r x y ∧ DesAt w g i (.slice ao n cap) r x y
theorem DesAt.below {w w' : World} {g i : Nat} {v : Value} {r : List Int} {x y : Nat} (h : DesAt w g i v r x y) (hb : Below w.heap.size w w') : DesAt w' g i v r x y :=
  ⟨h.ix.below hb, cell_later hb h.c0, cell_later hb h.c1, cell_later hb h.c2, cell_later hb h.c3, cell_later hb h.c4, cell_later hb h.c5⟩
theorem DesV.below {X w w' : World} {u : Value} (h : DesV X w u) (hb : Below w.heap.size w w') : DesV X w' u := by
  obtain ⟨g, h1, h2, h3⟩ := h
  refine ⟨g, h1, h2, fun i hi => ?_⟩
  obtain ⟨ao, n, cap, r, x, y, h4, h5⟩ := h3 i hi
  exact ⟨ao, n, cap, r, x, y, h4, h5.below hb⟩
theorem DesV.made {X w : World} {a1 a2 : Option Addr} {n1 n2 c1 c2 : Nat} {r1 r2 : List Int} {x1 y1 x2 y2 : Nat} (hX : X.heap.size ≤ w.heap.size) (h1 : Ix w (.slice a1 n1 c1) r1) (o1 : OddOk r1 x1 y1) (h2 : Ix w (.slice a2 n2 c2) r2) (o2 : OddOk r2 x2 y2) :
    DesV X (w.alloc (.cells #[.int .i64 4, .slice a1 n1 c1, .slice none 0 0, .int .i64 0, .int .i64 (x1 : Int), .int .i64 (y1 : Int), .int .i64 4, .slice a2 n2 c2, .slice none 0 0, .int .i64 0, .int .i64 (x2 : Int), .int .i64 (y2 : Int)] 30)) (.slice (some ⟨w.heap.size, 0, none⟩) 2 2) := by
  have hb : Below w.heap.size w (w.alloc (.cells #[.int .i64 4, .slice a1 n1 c1, .slice none 0 0, .int .i64 0, .int .i64 (x1 : Int), .int .i64 (y1 : Int), .int .i64 4, .slice a2 n2 c2, .slice none 0 0, .int .i64 0, .int .i64 (x2 : Int), .int .i64 (y2 : Int)] 30)) := (Below.refl _ _).alloc (Nat.le_refl _) _
  have h := heap_alloc_new w (.cells #[.int .i64 4, .slice a1 n1 c1, .slice none 0 0, .int .i64 0, .int .i64 (x1 : Int), .int .i64 (y1 : Int), .int .i64 4, .slice a2 n2 c2, .slice none 0 0, .int .i64 0, .int .i64 (x2 : Int), .int .i64 (y2 : Int)] 30)
  refine ⟨_, rfl, hX, fun i hi => ?_⟩
  rcases (show i = 0 ∨ i = 1 by omega) with rfl | rfl
  · exact ⟨a1, n1, c1, r1, x1, y1, o1, h1.below hb, cell_of_row _ _ _ _ _ _ h, cell_of_row _ _ _ _ _ _ h, cell_of_row _ _ _ _ _ _ h, cell_of_row _ _ _ _ _ _ h, cell_of_row _ _ _ _ _ _ h, cell_of_row _ _ _ _ _ _ h⟩
  · exact ⟨a2, n2, c2, r2, x2, y2, o2, h2.below hb, cell_of_row _ _ _ _ _ _ h, cell_of_row _ _ _ _ _ _ h, cell_of_row _ _ _ _ _ _ h, cell_of_row _ _ _ _ _ _ h, cell_of_row _ _ _ _ _ _ h, cell_of_row _ _ _ _ _ _ h⟩

/-- Slices of ints in a row of cells. -/
def SlAt (W : World) (h j : Nat) (l : List Int) : Prop := ∃ ao n cap, W.cell? ⟨h, j, none⟩ = some (.slice ao n cap) ∧ Ix W (.slice ao n cap) l
theorem SlAt.below {w w' : World} {h j : Nat} {l : List Int} (a : SlAt w h j l) (hb : Below w.heap.size w w') : SlAt w' h j l := by
  obtain ⟨ao, n, cap, h1, h2⟩ := a
  exact ⟨ao, n, cap, cell_later hb h1, h2.below hb⟩

theorem made_oddok {r : List Int} {cn cd : Nat} (h : MadeOk r cn cd) : OddOk r cn cd := ⟨by have := h.l4; omega, by rcases h.coin with ⟨a, b⟩ | ⟨a, b⟩ | ⟨a, b⟩ | ⟨a, b⟩ <;> omega, by rcases h.coin with ⟨a, b⟩ | ⟨a, b⟩ | ⟨a, b⟩ | ⟨a, b⟩ <;> omega⟩

end Go.Proofs.Ytcpgoaombabfjaa

namespace Go.Proofs.Ytcpgoaombabfjaa
set_option linter.unusedSimpArgs false
set_option linter.unusedVariables false
open Go Go.RowKit
attribute [local go_sem ↓] appI_rw

/-- What the operations that make both designs return. -/
def DPV (X : World) (D Q : Value) : Nat → Value → World → Prop
  | 0, u, _ => u = D
  | 1, u, _ => u = D
  | 2, u, _ => u = Q
  | 3, u, w => ∃ ao n cap R, ∃ x y : Nat, u = DV 4 (.slice ao n cap) (x : Int) (y : Int) ∧ Ix w (.slice ao n cap) R ∧ OddOk R x y
  | 4, u, w => DesV X w u
  | 5, u, _ => u = .int .i64 2
  | 6, u, _ => u = .int .i64 0
  | _, _, _ => True
theorem DPV.below {X w w' : World} {D Q : Value} (hb : Below w.heap.size w w') : ∀ i x, DPV X D Q i x w → DPV X D Q i x w'
  | 0, _, h => h
  | 1, _, h => h
  | 2, _, h => h
  | 3, _, ⟨a, n, c, R, x, y, e, h, o⟩ => ⟨a, n, c, R, x, y, e, h.below hb, o⟩
  | 4, _, h => DesV.below h hb
  | 5, _, h => h
  | 6, _, h => h
  | _ + 7, _, h => h
def dpCh : List (Nat × Nat) := [(3, 1), (3, 2), (4, 0), (4, 3), (5, 4)]

set_option linter.unusedSimpArgs false in
set_option maxRecDepth 100000 in
set_option maxHeartbeats 8000000 in
theorem coinUneven_any {W : World} {ao bo co qo : Option Addr} {n m k cap dap eap nq cq : Nat} {l s t z : List Int} (hl : Ix W (.slice ao n cap) l) (hs : Ix W (.slice bo m dap) s) (ht : Ix W (.slice co k eap) t) (hz : Ix W (.slice qo nq cq) z) (q0 q1 arm : Int) :
    Calls Try.prog 3 #[.agg #[.slice ao n cap, .slice bo m dap, .slice co k eap], .agg #[.int .i64 q0, .int .i64 q1], .slice qo nq cq, .int .i64 arm] W fun e w' => e = .returned (.bool true) ∧ Below W.heap.size W w' := by
  have hb : Below W.heap.size W ((W.alloc (.cells #[.slice ao n cap, .slice bo m dap, .slice co k eap] 24)).alloc (.cells #[.int .i64 q0, .int .i64 q1] 25)) := ((Below.refl _ _).alloc (Nat.le_refl _) _).alloc (by simp) _
  have x0 : CsBox ((W.alloc (.cells #[.slice ao n cap, .slice bo m dap, .slice co k eap] 24)).alloc (.cells #[.int .i64 q0, .int .i64 q1] 25)) W.heap.size (.slice ao n cap) (.slice bo m dap) (.slice co k eap) := ((Below.refl _ _).alloc (Nat.le_refl _) _ |>.block W.heap.size (by simp)).trans (heap_alloc_new _ _)
  have x1 : ((W.alloc (.cells #[.slice ao n cap, .slice bo m dap, .slice co k eap] 24)).alloc (.cells #[.int .i64 q0, .int .i64 q1] 25)).heap[W.heap.size + 1]? = some (.cells #[.int .i64 q0, .int .i64 q1] 25 (0, 0)) := by
    have h := heap_alloc_new (W.alloc (.cells #[.slice ao n cap, .slice bo m dap, .slice co k eap] 24)) (.cells #[.int .i64 q0, .int .i64 q1] 25)
    rw [World.size_alloc] at h
    exact h
  have HBX := Lib.hid hb
  have HS := Lib.hid (sanity_any (W := ((W.alloc (.cells #[.slice ao n cap, .slice bo m dap, .slice co k eap] 24)).alloc (.cells #[.int .i64 q0, .int .i64 q1] 25))))
  have HCC : Hid (∀ w, Below ((W.alloc (.cells #[.slice ao n cap, .slice bo m dap, .slice co k eap] 24)).alloc (.cells #[.int .i64 q0, .int .i64 q1] 25)).heap.size ((W.alloc (.cells #[.slice ao n cap, .slice bo m dap, .slice co k eap] 24)).alloc (.cells #[.int .i64 q0, .int .i64 q1] 25)) w → (w.cell? ⟨W.heap.size, 0, none⟩ = some (.slice ao n cap) ∧ w.cell? ⟨W.heap.size, 1, none⟩ = some (.slice bo m dap) ∧ w.cell? ⟨W.heap.size, 2, none⟩ = some (.slice co k eap)) ∧ w.cell? ⟨W.heap.size + 1, 0, none⟩ = some (.int .i64 q0) ∧ w.cell? ⟨W.heap.size + 1, 1, none⟩ = some (.int .i64 q1)) := Lib.hid (fun w hb => by
    have h : CsBox w W.heap.size (.slice ao n cap) (.slice bo m dap) (.slice co k eap) := (hb.block _ (Array.getElem?_eq_some_iff.1 x0).1).trans x0
    have h2 := (hb.block _ (Array.getElem?_eq_some_iff.1 x1).1).trans x1
    exact ⟨⟨cell_of_row _ _ _ _ _ _ h, cell_of_row _ _ _ _ _ _ h, cell_of_row _ _ _ _ _ _ h⟩, cell_of_row _ _ _ _ _ _ h2, cell_of_row _ _ _ _ _ _ h2⟩)
  have HCA := Lib.hid (fun w (hbw : Below ((W.alloc (.cells #[.slice ao n cap, .slice bo m dap, .slice co k eap] 24)).alloc (.cells #[.int .i64 q0, .int .i64 q1] 25)).heap.size ((W.alloc (.cells #[.slice ao n cap, .slice bo m dap, .slice co k eap] 24)).alloc (.cells #[.int .i64 q0, .int .i64 q1] 25)) w) => case_any (W := w) (hl.below (hb.trans (hbw.mono hb.size))) (hs.below (hb.trans (hbw.mono hb.size))) (ht.below (hb.trans (hbw.mono hb.size))))
  have hzl : nq = z.length := hz.size
  obtain ⟨p, hp⟩ : ∃ p, p = min nq 8 := ⟨_, rfl⟩
  have hpm : min (nq : Int) 8 = (p : Int) := by omega
  have hpn : p ≤ nq := by omega
  have hp8 : p ≤ 8 := by omega
  have hpc : p ≤ cq := by
    by_cases h0 : nq = 0
    · omega
    · obtain ⟨b, off, -, -, h9, -, -⟩ := hz.at h0; omega
  have HZ := Lib.hid (fun w (hbw : Below W.heap.size W w) => (hz.below hbw).take hpn)
  have HLZ : Hid ((z.take p).length = p) := Lib.hid (by rw [List.length_take]; omega)
  clear hl hs ht hb x0 x1 hz hzl hp
  go_enter Try.func3, Try.ntmps3
  go_upto_region 4 with (first
    | (go_at_call 9; (with_reducible refine HS.out.mono ?_); rintro e w1 ⟨rfl, hb1⟩; have HB1 := Lib.hid hb1; obtain ⟨⟨c0, c1', c2'⟩, -, -⟩ := HCC.out _ hb1; clear hb1)
    | (go_at_call 10; (with_reducible refine (HCA.out _ HB1.out).mono ?_); rintro e w2 ⟨ar, nr, cr, r, cn, cd, so, ns, cs, row, tt, nt, ct, row2, rfl, hix, hok, hrw, hb2⟩; have HIX := Lib.hid hix; have HOK := Lib.hid hok; have HRW := Lib.hid hrw; have HBY := Lib.hid (HB1.out.trans (hb2.mono HB1.out.size)); have HB2 := Lib.hid (HBX.out.trans ((HB1.out.trans (hb2.mono HB1.out.size)).mono HBX.out.size)); clear hix hok hrw hb2 c0 c1' c2'))
  clear hpm hpc
  have HD0 : Hid (DBox (w2.alloc (.cells #[.int .i64 4, .slice ar nr cr, .slice none 0 0, .int .i64 0, .int .i64 (cn : Int), .int .i64 (cd : Int)] 30)) w2.heap.size 4 (.slice ar nr cr) (cn : Int) (cd : Int)) := Lib.hid (dbox_is w2 4 (.slice ar nr cr) cn cd)
  have HB0 : Hid (Below W.heap.size W (w2.alloc (.cells #[.int .i64 4, .slice ar nr cr, .slice none 0 0, .int .i64 0, .int .i64 (cn : Int), .int .i64 (cd : Int)] 30))) := Lib.hid (HB2.out.alloc HB2.out.size _)
  have hbd := dbox_below w2 4 (.slice ar nr cr) cn cd
  have HI0 : Hid (Ix (w2.alloc (.cells #[.int .i64 4, .slice ar nr cr, .slice none 0 0, .int .i64 0, .int .i64 (cn : Int), .int .i64 (cd : Int)] 30)) (.slice ar nr cr) r ∧ Ix (w2.alloc (.cells #[.int .i64 4, .slice ar nr cr, .slice none 0 0, .int .i64 0, .int .i64 (cn : Int), .int .i64 (cd : Int)] 30)) (.slice so ns cs) row ∧ Ix (w2.alloc (.cells #[.int .i64 4, .slice ar nr cr, .slice none 0 0, .int .i64 0, .int .i64 (cn : Int), .int .i64 (cd : Int)] 30)) (.slice tt nt ct) row2) := Lib.hid ⟨HIX.out.1.below hbd, HIX.out.2.1.below hbd, HIX.out.2.2.below hbd⟩
  clear hbd
  have HCX : Hid (∀ w, Below (w2.alloc (.cells #[.int .i64 4, .slice ar nr cr, .slice none 0 0, .int .i64 0, .int .i64 (cn : Int), .int .i64 (cd : Int)] 30)).heap.size (w2.alloc (.cells #[.int .i64 4, .slice ar nr cr, .slice none 0 0, .int .i64 0, .int .i64 (cn : Int), .int .i64 (cd : Int)] 30)) w → w.cell? ⟨W.heap.size + 1, 0, none⟩ = some (.int .i64 q0) ∧ w.cell? ⟨W.heap.size + 1, 1, none⟩ = some (.int .i64 q1)) := Lib.hid (fun w hb => (HCC.out w (HBY.out.trans (((dbox_below w2 4 (.slice ar nr cr) cn cd).trans (hb.mono (by simp))).mono HBY.out.size))).2)
  generalize (w2.alloc (.cells #[.int .i64 4, .slice ar nr cr, .slice none 0 0, .int .i64 0, .int .i64 (cn : Int), .int .i64 (cd : Int)] 30)) = W0 at HD0 HB0 HI0 HCX ⊢
  generalize w2.heap.size = Bd at HD0 ⊢
  have HCL : Hid (∀ w', Below W0.drew.heap.size W0.drew w' → w'.cell? ⟨Bd, 0, none⟩ = some (.int .i64 4) ∧ w'.cell? ⟨Bd, 1, none⟩ = some (.slice ar nr cr) ∧ w'.cell? ⟨Bd, 2, none⟩ = some (.slice none 0 0) ∧ w'.cell? ⟨Bd, 3, none⟩ = some (.int .i64 0) ∧ w'.cell? ⟨Bd, 4, none⟩ = some (.int .i64 (cn : Int)) ∧ w'.cell? ⟨Bd, 5, none⟩ = some (.int .i64 (cd : Int))) := Lib.hid (fun w' hb => (HD0.out.below ((Below.refl _ _).drew.trans hb)).cells)
  have HCQ : Hid (∀ w', Below W0.drew.heap.size W0.drew w' → w'.cell? ⟨W.heap.size + 1, 0, none⟩ = some (.int .i64 q0) ∧ w'.cell? ⟨W.heap.size + 1, 1, none⟩ = some (.int .i64 q1)) := Lib.hid (fun w' hb => HCX.out w' ((Below.refl _ _).drew.trans hb))
  have HOD : Hid (∀ w', Below W0.drew.heap.size W0.drew w' → Calls Try.prog 11 #[DV 4 (.slice ar nr cr) (cn : Int) (cd : Int), .agg #[.int .i64 q0, .int .i64 q1]] w' fun e w2 => ∃ ao n cap R, ∃ x y : Nat, e = .returned (DV 4 (.slice ao n cap) (x : Int) (y : Int)) ∧ Ix w2 (.slice ao n cap) R ∧ OddOk R x y ∧ Below w'.heap.size w' w2) := Lib.hid (fun w' hb => odd_any (HI0.out.1.below ((Below.refl _ _).drew.trans hb)) (by have := HOK.out.l2; omega) (by have := HOK.out.l4; omega) 4 cn cd (made_oddok HOK.out).n (made_oddok HOK.out).d q0 q1)
  have HRX : Hid (∀ w', Below W0.drew.heap.size W0.drew w' → Ix w' (.slice ar nr cr) r) := Lib.hid (fun w' hb => HI0.out.1.below ((Below.refl _ _).drew.trans hb))
  have HOKD := Lib.hid (made_oddok HOK.out)
  clear HIX HB2 HB1 HS HCA HCC HBX HBY HCX HD0
  refine (wpIn_wide (n := 6)).1 ?_
  refine frame_namedIn ?_
  intro T hT
  obtain ⟨R, hRd⟩ : ∃ R : Array Bool → Act → World → Prop, R = (fun l a w' => ∃ vals, RH dpCh T [some 35, some 36, some 37, some 38, some 39, some 40, some 41] (fun _ _ w' => Below W0.drew.heap.size W0.drew w') (DPV W0.drew (DV 4 (.slice ar nr cr) (cn : Int) (cd : Int)) (.agg #[.int .i64 q0, .int .i64 q1])) vals l a w') := ⟨_, rfl⟩
  refine region_inv (by kernel_rfl) R ?h0r1 ?stepr1 ?finr1
  case h0r1 => rw [hRd]; exact RH.start rfl (fun i j h => by simp [dpCh] at h; simp only [List.length_cons, List.length_nil]; omega) (by exact (Below.refl _ _))
  case stepr1 =>
    rintro l a w' i' hR0 hi'
    have hR1 := hR0
    rw [hRd] at hR1
    obtain ⟨vals, hR⟩ := hR1
    obtain ⟨hl0, o, ho, hdep⟩ := mem_ready.1 hi'
    have h15 : i' < 7 := by
      have := (Array.getElem?_eq_some_iff.1 ho).1
      simpa using this
    rcases (show i' = 0 ∨ i' = 1 ∨ i' = 2 ∨ i' = 3 ∨ i' = 4 ∨ i' = 5 ∨ i' = 6 by omega) with rfl | rfl | rfl | rfl | rfl | rfl | rfl
    · simp at ho
      subst ho
      simp [Region.binds] at hdep
      have k0 : a.tmps.getD 10 undef = .pointer (some ⟨Bd, 0, none⟩) := (hR.fr.kept rfl (by simp [hT])).trans (by rw [hT]; try rfl)
      have hc : ∀ j, (0, j) ∈ dpCh → l.getD j true = true := by intro j hj; simp [dpCh] at hj
      clear hi' hdep
      obtain ⟨d0, d1, d2, d3, d4, d5⟩ := HCL.out _ hR.wd
      have k0g := k0
      rw [Array.getD_eq_getD_getElem?] at k0g
      unfold wpOpIn
      simp [Region.wanted]
      unfold Oper.wpIn
      simp [Oper.about, execOp, go_sem, Act.eval, k0, k0g, d0, d1, d2, d3, d4, d5]
      rw [hRd]
      exact hR.op 0 35 _ rfl (by decide) hl0 hc (hR.wd) (fun _ _ h => h) (rfl)
    · simp at ho
      subst ho
      simp [Region.binds] at hdep
      have k0 : a.tmps.getD 10 undef = .pointer (some ⟨Bd, 0, none⟩) := (hR.fr.kept rfl (by simp [hT])).trans (by rw [hT]; try rfl)
      have hc : ∀ j, (1, j) ∈ dpCh → l.getD j true = true := by intro j hj; simp [dpCh] at hj
      clear hi' hdep
      obtain ⟨d0, d1, d2, d3, d4, d5⟩ := HCL.out _ hR.wd
      have k0g := k0
      rw [Array.getD_eq_getD_getElem?] at k0g
      unfold wpOpIn
      simp [Region.wanted]
      unfold Oper.wpIn
      simp [Oper.about, execOp, go_sem, Act.eval, k0, k0g, d0, d1, d2, d3, d4, d5]
      rw [hRd]
      exact hR.op 1 36 _ rfl (by decide) hl0 hc (hR.wd) (fun _ _ h => h) (rfl)
    · simp at ho
      subst ho
      simp [Region.binds] at hdep
      have k0 : a.tmps.getD 5 undef = .pointer (some ⟨W.heap.size + 1, 0, none⟩) := (hR.fr.kept rfl (by simp [hT])).trans (by rw [hT]; try rfl)
      have hc : ∀ j, (2, j) ∈ dpCh → l.getD j true = true := by intro j hj; simp [dpCh] at hj
      clear hi' hdep
      obtain ⟨z0, z1⟩ := HCQ.out _ hR.wd
      have k0g := k0
      rw [Array.getD_eq_getD_getElem?] at k0g
      unfold wpOpIn
      simp [Region.wanted]
      unfold Oper.wpIn
      simp [Oper.about, execOp, go_sem, Act.eval, k0, k0g, z0, z1]
      rw [hRd]
      exact hR.op 2 37 _ rfl (by decide) hl0 hc (hR.wd) (fun _ _ h => h) (rfl)
    · simp at ho
      subst ho
      simp [Region.binds] at hdep
      have d0 : l.getD 1 true = true := getD_true (by simp_all)
      have k0 : a.tmps.getD 36 undef = vals 1 := hR.get rfl (by simp_all) (by simp [hT])
      have e0 : vals 1 = DV 4 (.slice ar nr cr) (cn : Int) (cd : Int) := hR.vl 1 (by decide) d0
      rw [e0] at k0
      have d1 : l.getD 2 true = true := getD_true (by simp_all)
      have k1 : a.tmps.getD 37 undef = vals 2 := hR.get rfl (by simp_all) (by simp [hT])
      have e1 : vals 2 = .agg #[.int .i64 q0, .int .i64 q1] := hR.vl 2 (by decide) d1
      rw [e1] at k1
      have hc : ∀ j, (3, j) ∈ dpCh → l.getD j true = true := by intro j hj; simp [dpCh] at hj; rcases hj with rfl | rfl <;> exact getD_true (by simp_all)
      clear hi' hdep
      have k0g := k0
      rw [Array.getD_eq_getD_getElem?] at k0g
      have k1g := k1
      rw [Array.getD_eq_getD_getElem?] at k1g
      unfold wpOpIn
      simp [Region.wanted]
      unfold Oper.wpIn
      simp [Oper.about, execOp, go_sem, Act.eval, k0, k1, k0g, k1g]
      refine ⟨trivial, (callsIn_wide.2 (HOD.out _ hR.wd)).mono ?_⟩
      rintro e w'' ⟨ao9, n9, c9, R9, x9, y9, rfl, hi, ho, hb⟩
      rw [hRd]
      exact hR.op 3 38 _ rfl (by decide) hl0 hc (hR.wd.trans (hb.mono hR.wd.size)) (DPV.below hb) (⟨_, _, _, _, _, _, rfl, hi, ho⟩)
    · simp at ho
      subst ho
      simp [Region.binds] at hdep
      have d0 : l.getD 0 true = true := getD_true (by simp_all)
      have k0 : a.tmps.getD 35 undef = vals 0 := hR.get rfl (by simp_all) (by simp [hT])
      have e0 : vals 0 = DV 4 (.slice ar nr cr) (cn : Int) (cd : Int) := hR.vl 0 (by decide) d0
      rw [e0] at k0
      have d1 : l.getD 3 true = true := getD_true (by simp_all)
      have k1 : a.tmps.getD 38 undef = vals 3 := hR.get rfl (by simp_all) (by simp [hT])
      obtain ⟨ao9, n9, c9, R9, x9, y9, e1, hi1, ho1⟩ := (show ∃ ao n cap R, ∃ x y : Nat, vals 3 = DV 4 (.slice ao n cap) (x : Int) (y : Int) ∧ Ix w' (.slice ao n cap) R ∧ OddOk R x y from hR.vl 3 (by decide) d1)
      rw [e1] at k1
      have hc : ∀ j, (4, j) ∈ dpCh → l.getD j true = true := by intro j hj; simp [dpCh] at hj; rcases hj with rfl | rfl <;> exact getD_true (by simp_all)
      clear hi' hdep
      have k0g := k0
      rw [Array.getD_eq_getD_getElem?] at k0g
      have k1g := k1
      rw [Array.getD_eq_getD_getElem?] at k1g
      unfold wpOpIn
      simp [Region.wanted]
      unfold Oper.wpIn
      simp [Oper.about, execOp, go_sem, Act.eval, k0, k1, k0g, k1g]
      rw [hRd]
      exact hR.op 4 39 _ rfl (by decide) hl0 hc (hR.wd.alloc hR.wd.size _) (DPV.below ((Below.refl _ _).alloc (Nat.le_refl _) _)) (DesV.made hR.wd.size (HRX.out _ hR.wd) HOKD.out hi1 ho1)
    · simp at ho
      subst ho
      simp [Region.binds] at hdep
      have d0 : l.getD 4 true = true := getD_true (by simp_all)
      have k0 : a.tmps.getD 39 undef = vals 4 := hR.get rfl (by simp_all) (by simp [hT])
      obtain ⟨g0, e0, hgs0, hg0⟩ : DesV W0.drew w' (vals 4) := hR.vl 4 (by decide) d0
      rw [e0] at k0
      have hc : ∀ j, (5, j) ∈ dpCh → l.getD j true = true := by intro j hj; simp [dpCh] at hj; rcases hj with rfl <;> exact getD_true (by simp_all)
      clear hi' hdep
      have k0g := k0
      rw [Array.getD_eq_getD_getElem?] at k0g
      unfold wpOpIn
      simp [Region.wanted]
      unfold Oper.wpIn
      simp [Oper.about, execOp, go_sem, Act.eval, k0, k0g]
      rw [hRd]
      exact hR.op 5 40 _ rfl (by decide) hl0 hc (hR.wd) (fun _ _ h => h) (rfl)
    · simp at ho
      subst ho
      simp [Region.binds] at hdep
      have hc : ∀ j, (6, j) ∈ dpCh → l.getD j true = true := by intro j hj; simp [dpCh] at hj
      clear hi' hdep
      unfold wpOpIn
      simp [Region.wanted]
      unfold Oper.wpIn
      simp [Oper.about, execOp, go_sem, Act.eval, ]
      rw [hRd]
      exact hR.op 6 41 _ rfl (by decide) hl0 hc (hR.wd) (fun _ _ h => h) (rfl)
  case' finr1 =>
    rintro l a w' hR0 hz
    rw [hRd] at hR0
    obtain ⟨vals, hR⟩ := hR0
    clear hRd R
    have hnot := List.eq_nil_iff_forall_not_mem.1 hz
    have hk : ∀ k, k < 7 → (l.getD k true = false → False) → l.getD k false = true := fun k h12 h => by
      have hs := hR.size
      cases h' : l.getD k true with
      | false => exact (h h').elim
      | true => simp at hs; simp [Array.getD, hs, h12] at h' ⊢; exact h'
    have st0 := hk 0 (by omega) (fun h => hnot 0 (mem_ready.2 ⟨h, _, rfl, by simp [Region.binds]⟩))
    have st1 := hk 1 (by omega) (fun h => hnot 1 (mem_ready.2 ⟨h, _, rfl, by simp [Region.binds]⟩))
    have st2 := hk 2 (by omega) (fun h => hnot 2 (mem_ready.2 ⟨h, _, rfl, by simp [Region.binds]⟩))
    have st3 := hk 3 (by omega) (fun h => hnot 3 (mem_ready.2 ⟨h, _, rfl, by simp [Region.binds] <;> simp_all⟩))
    have st4 := hk 4 (by omega) (fun h => hnot 4 (mem_ready.2 ⟨h, _, rfl, by simp [Region.binds] <;> simp_all⟩))
    have st5 := hk 5 (by omega) (fun h => hnot 5 (mem_ready.2 ⟨h, _, rfl, by simp [Region.binds] <;> simp_all⟩))
    have st6 := hk 6 (by omega) (fun h => hnot 6 (mem_ready.2 ⟨h, _, rfl, by simp [Region.binds]⟩))
    have hall : ∀ i, i < 7 → l.getD i true = true := fun i hi => by
      rcases (show i = 0 ∨ i = 1 ∨ i = 2 ∨ i = 3 ∨ i = 4 ∨ i = 5 ∨ i = 6 by omega) with rfl | rfl | rfl | rfl | rfl | rfl | rfl
      · exact getD_true st0
      · exact getD_true st1
      · exact getD_true st2
      · exact getD_true st3
      · exact getD_true st4
      · exact getD_true st5
      · exact getD_true st6
    clear st0 st1 st2 st3 st4 st5 st6 hk hnot hz
    have hTs : T.size = 97 := by rw [hT]; rfl
    have ha := hR.all (T' := (((((((T.setIfInBounds 35 (vals 0)).setIfInBounds 36 (vals 1)).setIfInBounds 37 (vals 2)).setIfInBounds 38 (vals 3)).setIfInBounds 39 (vals 4)).setIfInBounds 40 (vals 5)).setIfInBounds 41 (vals 6))) (fun i hi => hall i (by simpa using hi)) (by simp) (fun j hj => by
      by_cases h1 : j = 35 ∨ j = 36 ∨ j = 37 ∨ j = 38 ∨ j = 39 ∨ j = 40 ∨ j = 41
      · rcases h1 with rfl | rfl | rfl | rfl | rfl | rfl | rfl <;> simp [rv_sets, tOwn, List.findIdx?, List.findIdx?.go, hTs]
      · simp only [not_or] at h1
        obtain ⟨m35, m36, m37, m38, m39, m40, m41⟩ := h1
        have e : tOwn [some 35, some 36, some 37, some 38, some 39, some 40, some 41] vals j = none := by
          unfold tOwn
          simp [List.findIdx?, List.findIdx?.go, Ne.symm m35, Ne.symm m36, Ne.symm m37, Ne.symm m38, Ne.symm m39, Ne.symm m40, Ne.symm m41]
        rw [e]
        simp only [rv_sets]
        repeat rw [if_neg (by omega)])
    have v0 : vals 0 = DV 4 (.slice ar nr cr) (cn : Int) (cd : Int) := hR.vl 0 (by decide) (hall 0 (by decide))
    have v1 : vals 1 = DV 4 (.slice ar nr cr) (cn : Int) (cd : Int) := hR.vl 1 (by decide) (hall 1 (by decide))
    have v2 : vals 2 = .agg #[.int .i64 q0, .int .i64 q1] := hR.vl 2 (by decide) (hall 2 (by decide))
    have v5 : vals 5 = .int .i64 2 := hR.vl 5 (by decide) (hall 5 (by decide))
    have v6 : vals 6 = .int .i64 0 := hR.vl 6 (by decide) (hall 6 (by decide))
    have HWD : Hid (Below W0.drew.heap.size W0.drew w') := Lib.hid hR.wd
    obtain ⟨gD, eD, hgs, hgd⟩ : DesV W0.drew w' (vals 4) := hR.vl 4 (by decide) (hall 4 (by decide))
    have HGD := Lib.hid (And.intro hgs hgd)
    clear hgs hgd
    subst ha
    clear hR hall hTs
    rw [v0, v1, v2, v5, v6, hT]
    simp only [List.setIfInBounds_toArray, List.set_cons_succ, List.set_cons_zero]
    clear v0 v1 v2 v5 v6 hT T
  have HBW : Hid (Below W0.heap.size W0 w') := Lib.hid ((Below.refl W0.heap.size W0).drew.trans HWD.out)
  clear HCL HCQ HOD HRX HWD
  rw [eD]
  generalize vals 3 = y3
  clear eD
  obtain ⟨Wa, hWa⟩ : ∃ Wa, Wa = w' := ⟨_, rfl⟩
  rw [← hWa]
  rw [← hWa] at HBW HGD
  clear hWa
  have HGA : Hid (∀ i, i < 2 → ∃ ao n cap, ∃ r : List Int, ∃ x y : Nat, OddOk r x y ∧ DesAt Wa gD i (.slice ao n cap) r x y) := Lib.hid HGD.out.2
  have HRO : Hid (∀ w', Below Wa.heap.size Wa w' → Ix w' (.slice so ns cs) row ∧ Ix w' (.slice tt nt ct) row2 ∧ Ix w' (.slice qo p cq) (z.take p) ∧ Below W.heap.size W w') := Lib.hid (fun w' hb => by
    have h := HBW.out.trans (hb.mono HBW.out.size)
    have h2 := HB0.out.trans (h.mono HB0.out.size)
    exact ⟨HI0.out.2.1.below h, HI0.out.2.2.below h, HZ.out w' h2, h2⟩)
  clear HGD HBW HB0 HI0 HZ
  go_wp2
  go_loopw [14, 16, 18, 19, 20, 21, 22, 41, 50, 66] (fun _ _ _ _ _ _ _ iv _ _ wr => ∃ i : Nat, i ≤ 2 ∧ iv = .int .i64 (i : Nat) ∧ Hid (Below Wa.heap.size Wa wr)) (fun _ _ _ _ _ _ _ iv _ _ _ => 2 - (intOf iv).toNat)
  case atStart => exact ⟨0, by omega, rfl, Lib.hid (Below.refl _ _)⟩
  case round =>
    obtain ⟨w, hw⟩ : ∃ w, w = wr := ⟨_, rfl⟩
    subst hw
    obtain ⟨i, hi, rfl, HBL⟩ := hrel
    by_cases hi2 : i = 2
    · subst hi2
      have HF := Lib.hid (HRO.out _ HBL.out).2.2.2
      go_wp2
      go_ret
      exact ⟨rfl, HF.out⟩
    · have hlt : i < 2 := by omega
      have hltI : (i : Int) < 2 := by omega
      obtain ⟨ad, nd, cdp, rd, x, y, ok, hd⟩ := HGA.out i hlt
      have hd := hd.below HBL.out
      have HOKR := Lib.hid ok
      have HDA := Lib.hid hd.ix
      obtain ⟨-, c0, c1, c2, c3, c4, c5⟩ := hd
      obtain ⟨bD, hbD⟩ : ∃ b, b = w.heap.size := ⟨_, rfl⟩
      obtain ⟨X1, hX1⟩ : ∃ X, X = w.alloc (.cells #[.int .i64 4, .slice ad nd cdp, .slice none 0 0, .int .i64 0, .int .i64 (x : Int), .int .i64 (y : Int)] 30) := ⟨_, rfl⟩
      obtain ⟨X2, hX2⟩ : ∃ X, X = X1.alloc (.cells #[.slice so ns cs, .slice tt nt ct, .slice qo p cq, .slice none 0 0] 22) := ⟨_, rfl⟩
      have hb1 : Below w.heap.size w X1 := by rw [hX1]; exact (Below.refl _ _).alloc (Nat.le_refl _) _
      have hb2 : Below X1.heap.size X1 X2 := by rw [hX2]; exact (Below.refl _ _).alloc (Nat.le_refl _) _
      have hd1 : DBox X1 bD 4 (.slice ad nd cdp) (x : Int) (y : Int) := by rw [hX1, hbD]; exact dbox_is w 4 (.slice ad nd cdp) (x : Int) (y : Int)
      have hbB : Below w.heap.size w X2 := hb1.trans (hb2.mono hb1.size)
      have hs2 := heap_alloc_new X1 (.cells #[.slice so ns cs, .slice tt nt ct, .slice qo p cq, .slice none 0 0] 22)
      rw [← hX2] at hs2
      have HSL : Hid (∀ j, j < 4 → ∃ L, SlAt X2 X1.heap.size j L ∧ L.length ≤ 1000) := Lib.hid (fun j hj => by
        have hro := HRO.out X2 (HBL.out.trans (hbB.mono HBL.out.size))
        have hl4 := HOK.out.l4
        have hr1 := HRW.out.1.1
        have hr2 := HRW.out.2.1
        have hz := HLZ.out
        rcases (show j = 0 ∨ j = 1 ∨ j = 2 ∨ j = 3 by omega) with rfl | rfl | rfl | rfl
        · exact ⟨_, ⟨so, ns, cs, cell_of_row _ _ _ _ _ _ hs2, hro.1⟩, by omega⟩
        · exact ⟨_, ⟨tt, nt, ct, cell_of_row _ _ _ _ _ _ hs2, hro.2.1⟩, by omega⟩
        · exact ⟨_, ⟨qo, p, cq, cell_of_row _ _ _ _ _ _ hs2, hro.2.2.1⟩, by omega⟩
        · exact ⟨[], ⟨none, 0, 0, cell_of_row _ _ _ _ _ _ hs2, Ix.nil _⟩, by simp⟩)
      have HXB : Hid (∀ w', Below X2.heap.size X2 w' → (w'.cell? ⟨bD, 0, none⟩ = some (.int .i64 4) ∧ w'.cell? ⟨bD, 1, none⟩ = some (.slice ad nd cdp) ∧ w'.cell? ⟨bD, 2, none⟩ = some (.slice none 0 0) ∧ w'.cell? ⟨bD, 3, none⟩ = some (.int .i64 0) ∧ w'.cell? ⟨bD, 4, none⟩ = some (.int .i64 (x : Int)) ∧ w'.cell? ⟨bD, 5, none⟩ = some (.int .i64 (y : Int))) ∧ Ix w' (.slice ad nd cdp) rd ∧ Below Wa.heap.size Wa w') := Lib.hid (fun w' hb => ⟨((hd1.below hb2).below hb).cells, (HDA.out.below hbB).below hb, HBL.out.trans ((hbB.trans (hb.mono hbB.size)).mono HBL.out.size)⟩)
      have HEQ : Hid (w.heap.size = bD ∧ X1 = w.alloc (.cells #[.int .i64 4, .slice ad nd cdp, .slice none 0 0, .int .i64 0, .int .i64 (x : Int), .int .i64 (y : Int)] 30) ∧ X2 = X1.alloc (.cells #[.slice so ns cs, .slice tt nt ct, .slice qo p cq, .slice none 0 0] 22)) := Lib.hid ⟨hbD.symm, hX1, hX2⟩
      clear hbD hX1 hX2 hb1 hb2 hd1 hbB hs2 ok HDA
      go_upto_region 7 with fail
      rw [← HEQ.out.2.1, HEQ.out.1]
      clear c0 c1 c2 c3 c4 c5
      go_wp2
      rw [← HEQ.out.2.2]
      generalize X1.heap.size = hB at HSL ⊢
      clear HEQ
      go_loopw [16, 18, 19, 20, 21, 22, 50, 66] (fun _ _ _ _ _ _ jv _ wr => ∃ j : Nat, j ≤ 4 ∧ jv = .int .i64 (j : Nat) ∧ Hid (Below X2.heap.size X2 wr)) (fun _ _ _ _ _ _ jv _ _ => 4 - (intOf jv).toNat)
      case atStart => exact ⟨0, by omega, rfl, Lib.hid (Below.refl _ _)⟩
      case round =>
        obtain ⟨w2, hw⟩ : ∃ w, w = wr := ⟨_, rfl⟩
        subst hw
        obtain ⟨j, hj, rfl, HBM⟩ := hrel
        by_cases hj4 : j = 4
        · subst hj4
          have HF := Lib.hid (HXB.out _ HBM.out).2.2
          go_wp2
          go_roundw
          case rel => exact ⟨i + 1, by omega, by go_num, HF⟩
          case measure => simp [intOf]; omega
        · have hjlt : j < 4 := by omega
          have hjltI : (j : Int) < 4 := by omega
          obtain ⟨L, hsl, hL⟩ := HSL.out j hjlt
          obtain ⟨av, nv, cv, hcell, hix⟩ := hsl.below HBM.out
          have HLX := Lib.hid hix
          have HS2 : Hid (∀ w', Below w2.heap.size w2 w' → (w'.cell? ⟨bD, 0, none⟩ = some (.int .i64 4) ∧ w'.cell? ⟨bD, 1, none⟩ = some (.slice ad nd cdp) ∧ w'.cell? ⟨bD, 2, none⟩ = some (.slice none 0 0) ∧ w'.cell? ⟨bD, 3, none⟩ = some (.int .i64 0) ∧ w'.cell? ⟨bD, 4, none⟩ = some (.int .i64 (x : Int)) ∧ w'.cell? ⟨bD, 5, none⟩ = some (.int .i64 (y : Int))) ∧ Ix w' (.slice ad nd cdp) rd ∧ Ix w' (.slice av nv cv) L ∧ Below X2.heap.size X2 w') := Lib.hid (fun w' hb => ⟨(HXB.out w' (HBM.out.trans (hb.mono HBM.out.size))).1, (HXB.out w' (HBM.out.trans (hb.mono HBM.out.size))).2.1, HLX.out.below hb, HBM.out.trans (hb.mono HBM.out.size)⟩)
          obtain ⟨u, hu⟩ : ∃ u, u = uneV rd L := ⟨_, rfl⟩
          have HU12 : Hid (∀ w', Below w2.heap.size w2 w' → Calls Try.prog 12 #[DV 4 (.slice ad nd cdp) (x : Int) (y : Int), .slice av nv cv] w' fun e w'' => e = .returned (.int .i64 u) ∧ Below w'.heap.size w' w'') := Lib.hid (fun w' hb => by rw [hu]; exact uneven_any (HS2.out w' hb).2.1 (HS2.out w' hb).2.2.1 HOKR.out.l8 4 (x : Int) (y : Int))
          have HU13 : Hid (∀ w', Below w2.heap.size w2 w' → Calls Try.prog 13 #[DV 4 (.slice ad nd cdp) (x : Int) (y : Int), .slice av nv cv] w' fun e w'' => e = .returned (.int .i64 u) ∧ Below w'.heap.size w' w'') := Lib.hid (fun w' hb => by rw [hu]; exact rUneven_any (HS2.out w' hb).2.1 (HS2.out w' hb).2.2.1 HOKR.out.l8 4 (x : Int) (y : Int))
          have HNX : Hid (∀ w' (a : Int), Below w2.heap.size w2 w' → Calls Try.prog 15 #[DV 4 (.slice ad nd cdp) (x : Int) (y : Int), .slice av nv cv, .int .i64 a] w' fun e w'' => ∃ ao n cap, e = .returned (.tuple #[.slice ao n cap, .bool (nxB rd L a)]) ∧ Ix w'' (.slice ao n cap) (nxV rd L a) ∧ Below w'.heap.size w' w'') := Lib.hid (fun w' a hb => by
            refine (next_any (HS2.out w' hb).2.1 (HS2.out w' hb).2.2.1 HOKR.out.l8 4 (x : Int) (y : Int) a).mono fun e w'' h => ?_
            obtain ⟨ao, n, cap, h1, h2, h3⟩ := h
            exact ⟨ao, n, cap, h1, h2.ix (by have := owI_len h2; have := (nxV_fit rd L a).1; omega) (nxV_fit rd L a).2, h3⟩)
          have HNY : Hid (∀ w' (a : Int), Below w2.heap.size w2 w' → Calls Try.prog 16 #[DV 4 (.slice ad nd cdp) (x : Int) (y : Int), .slice av nv cv, .int .i64 a] w' fun e w'' => ∃ ao n cap, e = .returned (.tuple #[.slice ao n cap, .bool (nxB rd L a)]) ∧ Ix w'' (.slice ao n cap) (nxV rd L a) ∧ Below w'.heap.size w' w'') := Lib.hid (fun w' a hb => by
            refine (rNext_any (HS2.out w' hb).2.1 (HS2.out w' hb).2.2.1 HOKR.out.l8 4 (x : Int) (y : Int) a).mono fun e w'' h => ?_
            obtain ⟨ao, n, cap, h1, h2, h3⟩ := h
            exact ⟨ao, n, cap, h1, h2.ix (by have := owI_len h2; have := (nxV_fit rd L a).1; omega) (nxV_fit rd L a).2, h3⟩)
          have HMD : Hid (∀ w', Calls Try.prog 14 #[.int .i64 arm, .int .i64 4] w' fun e w'' => e = .returned (.int .i64 (arm % 4)) ∧ w'' = w') := Lib.hid (fun w' => mod_any arm 4 (by decide) (by decide) w')
          obtain ⟨am, ham⟩ : ∃ am, am = arm % 4 := ⟨_, rfl⟩
          rw [← ham] at HMD
          clear hsl hix hu ham
          go_upto_region 10 with fail
          clear hcell
          have HS3 : Hid (∀ w', Below w2.heap.size w2 w' → w'.cell? ⟨bD, 0, none⟩ = some (.int .i64 4) ∧ w'.cell? ⟨bD, 1, none⟩ = some (.slice ad nd cdp) ∧ w'.cell? ⟨bD, 2, none⟩ = some (.slice none 0 0) ∧ w'.cell? ⟨bD, 3, none⟩ = some (.int .i64 0) ∧ w'.cell? ⟨bD, 4, none⟩ = some (.int .i64 (x : Int)) ∧ w'.cell? ⟨bD, 5, none⟩ = some (.int .i64 (y : Int))) := Lib.hid (fun w' hb => (HS2.out w' hb).1)
          obtain ⟨k0, k1, k2, k3, k4, k5⟩ := HS3.out _ (Below.refl _ _)
          have HBX := Lib.hid ((Below.refl w2.heap.size w2).drew)
          have HB0X := Lib.hid (Below.refl w2.heap.size w2)
          go_region_held3 (fun w' => w'.cell? ⟨bD, 0, none⟩ = some (.int .i64 4) ∧ w'.cell? ⟨bD, 1, none⟩ = some (.slice ad nd cdp) ∧ w'.cell? ⟨bD, 2, none⟩ = some (.slice none 0 0) ∧ w'.cell? ⟨bD, 3, none⟩ = some (.int .i64 0) ∧ w'.cell? ⟨bD, 4, none⟩ = some (.int .i64 (x : Int)) ∧ w'.cell? ⟨bD, 5, none⟩ = some (.int .i64 (y : Int)))
            (first | (with_reducible exact HS3.out _ HBX.out) | (with_reducible exact HS3.out _ HB0X.out.drew) | (with_reducible exact HS3.out _ HB0X.out))
            ((first
            | (go_at_call 12; (with_reducible refine (HU12.out _ HBX.out).mono ?_); rintro e w5 ⟨rfl, hb⟩; have HBX := Lib.hid (HBX.out.trans (hb.mono HBX.out.size)); clear hb)
            | (go_at_call 13; (with_reducible refine (HU13.out _ HBX.out).mono ?_); rintro e w6 ⟨rfl, hb⟩; have HBX := Lib.hid (HBX.out.trans (hb.mono HBX.out.size)); clear hb)))
          clear k0 k1 k2 k3 k4 k5
          have HB6 : Hid (Below w2.heap.size w2 w6) := HBX
          have HAC : Hid (∀ e, e < 2 → ∃ a : Int, ∀ w', Below (w6.alloc (.cells #[.int .i64 arm, .int .i64 am] 3)).heap.size (w6.alloc (.cells #[.int .i64 arm, .int .i64 am] 3)) w' → w'.cell? ⟨w6.heap.size, e, none⟩ = some (.int .i64 a)) := Lib.hid (fun e he => by
            have h := heap_alloc_new w6 (.cells #[.int .i64 arm, .int .i64 am] 3)
            rcases (show e = 0 ∨ e = 1 by omega) with rfl | rfl
            · exact ⟨arm, fun w' hb => cell_later hb (cell_of_row _ _ _ _ _ _ h)⟩
            · exact ⟨am, fun w' hb => cell_later hb (cell_of_row _ _ _ _ _ _ h)⟩)
          have HBE : Hid (Below w2.heap.size w2 (w6.alloc (.cells #[.int .i64 arm, .int .i64 am] 3))) := Lib.hid (HB6.out.alloc HB6.out.size _)
          clear HU12 HU13 HBX HB0X HS3
          go_wp2_with (go_at_call 14; (with_reducible refine (HMD.out _).mono ?_); rintro e w7 ⟨rfl, hw⟩; subst w7)
          generalize (w6.alloc (.cells #[.int .i64 arm, .int .i64 am] 3)) = We at HAC HBE ⊢
          generalize w6.heap.size = hA at HAC ⊢
          clear HMD
          go_loopw [18, 19, 20, 21, 22, 66] (fun _ _ _ _ _ ev wr => ∃ e : Nat, e ≤ 2 ∧ ev = .int .i64 (e : Nat) ∧ Hid (Below We.heap.size We wr)) (fun _ _ _ _ _ ev _ => 2 - (intOf ev).toNat)
          case atStart => exact ⟨0, by omega, rfl, Lib.hid (Below.refl _ _)⟩
          case round =>
            obtain ⟨w4, hw⟩ : ∃ w, w = wr := ⟨_, rfl⟩
            subst hw
            obtain ⟨e, he, rfl, HBN⟩ := hrel
            have HB2W : Hid (∀ w', Below w4.heap.size w4 w' → Below w2.heap.size w2 w') := Lib.hid (fun w' hb => HBE.out.trans ((HBN.out.trans (hb.mono HBN.out.size)).mono HBE.out.size))
            by_cases he2 : e = 2
            · subst he2
              have HF := Lib.hid (HS2.out _ (HB2W.out _ (Below.refl _ _))).2.2.2
              go_wp2
              go_roundw
              case rel => exact ⟨j + 1, by omega, by go_num, HF⟩
              case measure => simp [intOf]; omega
            · have helt : e < 2 := by omega
              have heltI : (e : Int) < 2 := by omega
              obtain ⟨a, ha⟩ := HAC.out e helt
              have hca := ha _ HBN.out
              have HN1 := Lib.hid (fun w' hb => HNX.out w' a (HB2W.out w' hb))
              have HN2 := Lib.hid (fun w' hb => HNY.out w' a (HB2W.out w' hb))
              obtain ⟨nb, hnb⟩ : ∃ nb, nb = nxB rd L a := ⟨_, rfl⟩
              obtain ⟨N, hN⟩ : ∃ N, N = nxV rd L a := ⟨_, rfl⟩
              rw [← hnb, ← hN] at HN1 HN2
              have HSm : Hid (∀ w' (a1 b1 : Option Addr) (n1 m1 c1 d1 : Nat), Ix w' (.slice a1 n1 c1) N → Ix w' (.slice b1 m1 d1) N → Calls Try.prog 17 #[.slice a1 n1 c1, .slice b1 m1 d1] w' fun e w2 => e = .returned (.bool true) ∧ Below w'.heap.size w' w2) := Lib.hid (fun w' a1 b1 n1 m1 c1 d1 h1 h2 => by
                have h := sameInts_any h1 h2
                rwa [decide_eq_true rfl] at h)
              obtain ⟨k0, k1, k2, k3, k4, k5⟩ := (HS2.out _ (HB2W.out _ (Below.refl _ _))).1
              clear hnb hN ha
              cases nb with
              | true =>
                go_wp2_with (first
                  | (go_at_call 15; (with_reducible refine (HN1.out _ (Below.refl _ _)).mono ?_); rintro e1 w7 ⟨a1, n1, c1, rfl, hi, hb⟩; have HI1 := Lib.hid hi; have HBP := Lib.hid hb; clear k0 k1 k2 k3 k4 k5; obtain ⟨k0, k1, k2, k3, k4, k5⟩ := (HS2.out _ (HB2W.out _ HBP.out)).1; clear hi hb)
                  | (go_at_call 16; (with_reducible refine (HN2.out _ HBP.out).mono ?_); rintro e1 w8 ⟨a2, n2, c2, rfl, hi, hb⟩; have HI2 := Lib.hid hi; have HI1 := Lib.hid (HI1.out.below hb); have HBP := Lib.hid (HBP.out.trans (hb.mono HBP.out.size)); clear k0 k1 k2 k3 k4 k5; clear hi hb)
                  | (go_at_call 17; (with_reducible refine (HSm.out _ _ _ _ _ _ _ HI1.out HI2.out).mono ?_); rintro e1 w9 ⟨rfl, hb⟩; have HBP := Lib.hid (HBP.out.trans (hb.mono HBP.out.size)); clear hb))
                go_roundw
                case rel => exact ⟨e + 1, by omega, by go_num, Lib.hid (HBN.out.trans (HBP.out.mono HBN.out.size))⟩
                case measure => simp [intOf]; omega
              | false =>
                go_wp2_with (first
                  | (go_at_call 15; (with_reducible refine (HN1.out _ (Below.refl _ _)).mono ?_); rintro e1 w7 ⟨a1, n1, c1, rfl, hi, hb⟩; have HI1 := Lib.hid hi; have HBP := Lib.hid hb; clear k0 k1 k2 k3 k4 k5; obtain ⟨k0, k1, k2, k3, k4, k5⟩ := (HS2.out _ (HB2W.out _ HBP.out)).1; clear hi hb)
                  | (go_at_call 16; (with_reducible refine (HN2.out _ HBP.out).mono ?_); rintro e1 w8 ⟨a2, n2, c2, rfl, hi, hb⟩; have HI2 := Lib.hid hi; have HI1 := Lib.hid (HI1.out.below hb); have HBP := Lib.hid (HBP.out.trans (hb.mono HBP.out.size)); clear k0 k1 k2 k3 k4 k5; clear hi hb)
                  | (go_at_call 17; (with_reducible refine (HSm.out _ _ _ _ _ _ _ HI1.out HI2.out).mono ?_); rintro e1 w9 ⟨rfl, hb⟩; have HBP := Lib.hid (HBP.out.trans (hb.mono HBP.out.size)); clear hb))
                go_roundw
                case rel => exact ⟨e + 1, by omega, by go_num, Lib.hid (HBN.out.trans (HBP.out.mono HBN.out.size))⟩
                case measure => simp [intOf]; omega

end Go.Proofs.Ytcpgoaombabfjaa
