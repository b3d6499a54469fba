/- Contract of the law: made. Condition: the slices read as ints. The law CoinEven, walked. Condition: the slice reads as ints; the two numbers are bytes. What came in: a case, two small numbers. No condition. -/
import Derived.Test.YtcpgoaombabfjaaMh3
import Derived.Test.YtcpgoaombabfjaaMh6
import Derived.Test.YtcpgoaombabfjaaMh14
import Derived.Test.YtcpgoaombabfjaaMh1
namespace Go.Proofs.Ytcpgoaombabfjaa
open Go.RowKit

/-- A design and two tuples. -/
theorem results_made {fn : Func} {g : Nat} {tmps : Array Value} {w : World} {a b c d e f : Value} (h : fn.results = #[.cell 2 30, .tmp 3, .tmp 4]) (hp : tmps.getD 2 undef = .pointer (some ⟨g, 0, none⟩)) (hg : w.heap[g]? = some (.cells #[a, b, c, d, e, f] 30 (0, 0))) :
    (results fn tmps).run Try.prog w = .ok (.tuple #[.agg #[a, b, c, d, e, f], tmps.getD 3 undef, tmps.getD 4 undef]) w := by
  have h1 := run_loadVar_row (P := Try.prog) w g 30 30 #[a, b, c, d, e, f] (0, 0) _ hg Try.underlying30 rfl (by kernel_rfl)
  have hp' : tmps[2]?.getD undef = .pointer (some ⟨g, 0, none⟩) := by simpa [Array.getD_eq_getD_getElem?] using hp
  simp [results, h, hp', h1, asAddr, Array.getD_eq_getD_getElem?]

/-- Six cells of one block are turned. -/
theorem six_keep {w : World} {q j : Nat} {a b c d e f : Value} (hj : j ≠ q) : ((((((w.setCell ⟨q, 0, none⟩ a).setCell ⟨q, 1, none⟩ b).setCell ⟨q, 2, none⟩ c).setCell ⟨q, 3, none⟩ d).setCell ⟨q, 4, none⟩ e).setCell ⟨q, 5, none⟩ f).heap[j]? = w.heap[j]? := by
  have h : ∀ (w : World) (o : Nat) (v : Value), (w.setCell ⟨q, o, none⟩ v).heap[j]? = w.heap[j]? := fun w o v => Below.heap_setCell _ _ _ _ (by simpa using fun e => hj e)
  rw [h, h, h, h, h, h]

abbrev CsBox (W : World) (B : Nat) (x y z : Value) : Prop := W.heap[B]? = some (.cells #[x, y, z] 24 (0, 0))

set_option maxRecDepth 10000 in
set_option maxHeartbeats 4000000 in
theorem case_any {W : World} {ao bo co : Option Addr} {n m k cap dap eap : Nat} {l s t : List Int} (hl : Ix W (.slice ao n cap) l) (hs : Ix W (.slice bo m dap) s) (ht : Ix W (.slice co k eap) t) :
    Calls Try.prog 10 #[.agg #[.slice ao n cap, .slice bo m dap, .slice co k eap]] W fun e w' => ∃ ar nr cr r cn cd so ns cs row tt nt ct row2, e = .returned (.tuple #[DV 4 (.slice ar nr cr) ((cn : Nat) : Int) ((cd : Nat) : Int), .slice so ns cs, .slice tt nt ct]) ∧ (Ix w' (.slice ar nr cr) r ∧ Ix w' (.slice so ns cs) row ∧ Ix w' (.slice tt nt ct) row2) ∧ MadeOk r cn cd ∧ (RowOk r row ∧ RowOk r row2) ∧ Below W.heap.size W w' := by
  obtain ⟨W1, hW1⟩ : ∃ W1, W1 = (W.alloc (.cells #[.slice ao n cap, .slice bo m dap, .slice co k eap] 24)).alloc (.cells #[.int .i64 0, .slice none 0 0, .slice none 0 0, .int .i64 0, .int .i64 0, .int .i64 0] 30) := ⟨_, rfl⟩
  have hb : Below W.heap.size W W1 := by rw [hW1]; exact ((Below.refl _ _).alloc (Nat.le_refl _) _).alloc (by simp) _
  have x0 : CsBox W1 W.heap.size (.slice ao n cap) (.slice bo m dap) (.slice co k eap) := by rw [hW1]; exact ((Below.refl _ _).alloc (Nat.le_refl _) _ |>.block W.heap.size (by simp)).trans (heap_alloc_new _ _)
  have x1 : DBox W1 (W.heap.size + 1) 0 (.slice none 0 0) 0 0 := by
    have h := heap_alloc_new (W.alloc (.cells #[.slice ao n cap, .slice bo m dap, .slice co k eap] 24)) (.cells #[.int .i64 0, .slice none 0 0, .slice none 0 0, .int .i64 0, .int .i64 0, .int .i64 0] 30)
    rw [World.size_alloc] at h
    rw [hW1]; exact h
  have HB := Lib.hid hb
  have HX0 := Lib.hid x0
  have HX1 := Lib.hid x1
  have HMD := Lib.hid (made_any (hl.below hb))
  have HSX := Lib.hid hs
  have HTX := Lib.hid ht
  have c0 : W1.cell? ⟨W.heap.size, 0, none⟩ = some (.slice ao n cap) := cell_of_row _ _ _ _ _ _ x0
  rw [hW1] at HB HX0 HX1 HMD c0
  have HCC : Hid (∀ W', CsBox W' W.heap.size (.slice ao n cap) (.slice bo m dap) (.slice co k eap) → W'.cell? ⟨W.heap.size, 0, none⟩ = some (.slice ao n cap) ∧ W'.cell? ⟨W.heap.size, 1, none⟩ = some (.slice bo m dap) ∧ W'.cell? ⟨W.heap.size, 2, none⟩ = some (.slice co k eap)) := Lib.hid (fun W' h => ⟨cell_of_row _ _ _ _ _ _ h, cell_of_row _ _ _ _ _ _ h, cell_of_row _ _ _ _ _ _ h⟩)
  clear hl hs ht hb x0 x1 hW1 W1
  go_enter Try.func10, Try.ntmps10
  go_wp2_with (go_at_call 23; (with_reducible refine HMD.out.mono ?_); rintro e w1 ⟨ar, nr, cr, r, cn, cd, rfl, ho, hok, hb1⟩; have HO := Lib.hid ho; have HOK := Lib.hid hok; have HB1 := Lib.hid (HB.out.trans (hb1.mono HB.out.size)); have HX0 := Lib.hid ((hb1.block W.heap.size (Array.getElem?_eq_some_iff.1 HX0.out).1).trans HX0.out); have HX1 := Lib.hid (HX1.out.below hb1); clear ho hok hb1 c0)
  have HBA : Hid (Below w1.heap.size w1 (w1.alloc (.cells #[.int .i64 4, .slice ar nr cr, .slice none 0 0, .int .i64 0, .int .i64 (cn : Nat), .int .i64 (cd : Nat)] 30))) := Lib.hid ((Below.refl _ _).alloc (Nat.le_refl _) _)
  have HS : Hid (∀ W', Below (w1.alloc (.cells #[.int .i64 4, .slice ar nr cr, .slice none 0 0, .int .i64 0, .int .i64 (cn : Nat), .int .i64 (cd : Nat)] 30)).heap.size (w1.alloc (.cells #[.int .i64 4, .slice ar nr cr, .slice none 0 0, .int .i64 0, .int .i64 (cn : Nat), .int .i64 (cd : Nat)] 30)) W' → W'.cell? ⟨W.heap.size, 1, none⟩ = some (.slice bo m dap) ∧ W'.cell? ⟨W.heap.size, 2, none⟩ = some (.slice co k eap) ∧ W'.cell? ⟨w1.heap.size, 0, none⟩ = some (.int .i64 4) ∧ W'.cell? ⟨w1.heap.size, 1, none⟩ = some (.slice ar nr cr) ∧ W'.cell? ⟨w1.heap.size, 2, none⟩ = some (.slice none 0 0) ∧ W'.cell? ⟨w1.heap.size, 3, none⟩ = some (.int .i64 0) ∧ W'.cell? ⟨w1.heap.size, 4, none⟩ = some (.int .i64 (cn : Nat)) ∧ W'.cell? ⟨w1.heap.size, 5, none⟩ = some (.int .i64 (cd : Nat))) := Lib.hid (fun W' hb => by
    have hb2 := HBA.out.trans (hb.mono HBA.out.size)
    obtain ⟨-, e1, e2⟩ := HCC.out _ ((hb2.block W.heap.size (Array.getElem?_eq_some_iff.1 HX0.out).1).trans HX0.out)
    obtain ⟨d0, d1, d2, d3, d4, d5⟩ := ((dbox_is w1 4 (.slice ar nr cr) (cn : Nat) (cd : Nat)).below hb).cells
    exact ⟨e1, e2, d0, d1, d2, d3, d4, d5⟩)
  have HF : Hid (∀ w3, Below (w1.alloc (.cells #[.int .i64 4, .slice ar nr cr, .slice none 0 0, .int .i64 0, .int .i64 (cn : Nat), .int .i64 (cd : Nat)] 30)).heap.size (w1.alloc (.cells #[.int .i64 4, .slice ar nr cr, .slice none 0 0, .int .i64 0, .int .i64 (cn : Nat), .int .i64 (cd : Nat)] 30)) w3 → ((((((w3.setCell ⟨W.heap.size + 1, 0, none⟩ (.int .i64 4)).setCell ⟨W.heap.size + 1, 1, none⟩ (.slice ar nr cr)).setCell ⟨W.heap.size + 1, 2, none⟩ (.slice none 0 0)).setCell ⟨W.heap.size + 1, 3, none⟩ (.int .i64 0)).setCell ⟨W.heap.size + 1, 4, none⟩ (.int .i64 (cn : Nat))).setCell ⟨W.heap.size + 1, 5, none⟩ (.int .i64 (cd : Nat))).cell? ⟨W.heap.size, 1, none⟩ = some (.slice bo m dap) ∧ ((((((w3.setCell ⟨W.heap.size + 1, 0, none⟩ (.int .i64 4)).setCell ⟨W.heap.size + 1, 1, none⟩ (.slice ar nr cr)).setCell ⟨W.heap.size + 1, 2, none⟩ (.slice none 0 0)).setCell ⟨W.heap.size + 1, 3, none⟩ (.int .i64 0)).setCell ⟨W.heap.size + 1, 4, none⟩ (.int .i64 (cn : Nat))).setCell ⟨W.heap.size + 1, 5, none⟩ (.int .i64 (cd : Nat))).cell? ⟨W.heap.size, 2, none⟩ = some (.slice co k eap) ∧ ((((((w3.setCell ⟨W.heap.size + 1, 0, none⟩ (.int .i64 4)).setCell ⟨W.heap.size + 1, 1, none⟩ (.slice ar nr cr)).setCell ⟨W.heap.size + 1, 2, none⟩ (.slice none 0 0)).setCell ⟨W.heap.size + 1, 3, none⟩ (.int .i64 0)).setCell ⟨W.heap.size + 1, 4, none⟩ (.int .i64 (cn : Nat))).setCell ⟨W.heap.size + 1, 5, none⟩ (.int .i64 (cd : Nat))).cell? ⟨w1.heap.size, 0, none⟩ = some (.int .i64 4) ∧ ((((((w3.setCell ⟨W.heap.size + 1, 0, none⟩ (.int .i64 4)).setCell ⟨W.heap.size + 1, 1, none⟩ (.slice ar nr cr)).setCell ⟨W.heap.size + 1, 2, none⟩ (.slice none 0 0)).setCell ⟨W.heap.size + 1, 3, none⟩ (.int .i64 0)).setCell ⟨W.heap.size + 1, 4, none⟩ (.int .i64 (cn : Nat))).setCell ⟨W.heap.size + 1, 5, none⟩ (.int .i64 (cd : Nat))).cell? ⟨w1.heap.size, 1, none⟩ = some (.slice ar nr cr) ∧ ((((((w3.setCell ⟨W.heap.size + 1, 0, none⟩ (.int .i64 4)).setCell ⟨W.heap.size + 1, 1, none⟩ (.slice ar nr cr)).setCell ⟨W.heap.size + 1, 2, none⟩ (.slice none 0 0)).setCell ⟨W.heap.size + 1, 3, none⟩ (.int .i64 0)).setCell ⟨W.heap.size + 1, 4, none⟩ (.int .i64 (cn : Nat))).setCell ⟨W.heap.size + 1, 5, none⟩ (.int .i64 (cd : Nat))).cell? ⟨w1.heap.size, 2, none⟩ = some (.slice none 0 0) ∧ ((((((w3.setCell ⟨W.heap.size + 1, 0, none⟩ (.int .i64 4)).setCell ⟨W.heap.size + 1, 1, none⟩ (.slice ar nr cr)).setCell ⟨W.heap.size + 1, 2, none⟩ (.slice none 0 0)).setCell ⟨W.heap.size + 1, 3, none⟩ (.int .i64 0)).setCell ⟨W.heap.size + 1, 4, none⟩ (.int .i64 (cn : Nat))).setCell ⟨W.heap.size + 1, 5, none⟩ (.int .i64 (cd : Nat))).cell? ⟨w1.heap.size, 3, none⟩ = some (.int .i64 0) ∧ ((((((w3.setCell ⟨W.heap.size + 1, 0, none⟩ (.int .i64 4)).setCell ⟨W.heap.size + 1, 1, none⟩ (.slice ar nr cr)).setCell ⟨W.heap.size + 1, 2, none⟩ (.slice none 0 0)).setCell ⟨W.heap.size + 1, 3, none⟩ (.int .i64 0)).setCell ⟨W.heap.size + 1, 4, none⟩ (.int .i64 (cn : Nat))).setCell ⟨W.heap.size + 1, 5, none⟩ (.int .i64 (cd : Nat))).cell? ⟨w1.heap.size, 4, none⟩ = some (.int .i64 (cn : Nat)) ∧ ((((((w3.setCell ⟨W.heap.size + 1, 0, none⟩ (.int .i64 4)).setCell ⟨W.heap.size + 1, 1, none⟩ (.slice ar nr cr)).setCell ⟨W.heap.size + 1, 2, none⟩ (.slice none 0 0)).setCell ⟨W.heap.size + 1, 3, none⟩ (.int .i64 0)).setCell ⟨W.heap.size + 1, 4, none⟩ (.int .i64 (cn : Nat))).setCell ⟨W.heap.size + 1, 5, none⟩ (.int .i64 (cd : Nat))).cell? ⟨w1.heap.size, 5, none⟩ = some (.int .i64 (cd : Nat))) := Lib.hid (fun w3 hb => by
    have hx := (Array.getElem?_eq_some_iff.1 HX1.out).1
    have hk : ∀ j, j ≠ W.heap.size + 1 → ((((((w3.setCell ⟨W.heap.size + 1, 0, none⟩ (.int .i64 4)).setCell ⟨W.heap.size + 1, 1, none⟩ (.slice ar nr cr)).setCell ⟨W.heap.size + 1, 2, none⟩ (.slice none 0 0)).setCell ⟨W.heap.size + 1, 3, none⟩ (.int .i64 0)).setCell ⟨W.heap.size + 1, 4, none⟩ (.int .i64 (cn : Nat))).setCell ⟨W.heap.size + 1, 5, none⟩ (.int .i64 (cd : Nat))).heap[j]? = w3.heap[j]? := fun j hj => six_keep hj
    have n1 : W.heap.size ≠ W.heap.size + 1 := by omega
    have n2 : w1.heap.size ≠ W.heap.size + 1 := by omega
    obtain ⟨e1, e2, d0, d1, d2, d3, d4, d5⟩ := HS.out w3 hb
    exact ⟨(World.cell?_of_block (hk _ n1)).trans e1, (World.cell?_of_block (hk _ n1)).trans e2, (World.cell?_of_block (hk _ n2)).trans d0, (World.cell?_of_block (hk _ n2)).trans d1, (World.cell?_of_block (hk _ n2)).trans d2, (World.cell?_of_block (hk _ n2)).trans d3, (World.cell?_of_block (hk _ n2)).trans d4, (World.cell?_of_block (hk _ n2)).trans d5⟩)
  have HBX := Lib.hid ((Below.refl (w1.alloc (.cells #[.int .i64 4, .slice ar nr cr, .slice none 0 0, .int .i64 0, .int .i64 (cn : Nat), .int .i64 (cd : Nat)] 30)).heap.size (w1.alloc (.cells #[.int .i64 4, .slice ar nr cr, .slice none 0 0, .int .i64 0, .int .i64 (cn : Nat), .int .i64 (cd : Nat)] 30))).drew)
  have hnr := owI_len HO.out
  have h4 := HOK.out.l4
  have HRS := Lib.hid (fun W' (hb : Below (w1.alloc (.cells #[.int .i64 4, .slice ar nr cr, .slice none 0 0, .int .i64 0, .int .i64 (cn : Nat), .int .i64 (cd : Nat)] 30)).heap.size (w1.alloc (.cells #[.int .i64 4, .slice ar nr cr, .slice none 0 0, .int .i64 0, .int .i64 (cn : Nat), .int .i64 (cd : Nat)] 30)) W') => row_any (W := W') (ar := ar) (cr := cr) hnr (by omega) (HSX.out.below (HB1.out.trans ((HBA.out.trans (hb.mono HBA.out.size)).mono HB1.out.size))) 4 (cn : Nat) (cd : Nat))
  have HRT := Lib.hid (fun W' (hb : Below (w1.alloc (.cells #[.int .i64 4, .slice ar nr cr, .slice none 0 0, .int .i64 0, .int .i64 (cn : Nat), .int .i64 (cd : Nat)] 30)).heap.size (w1.alloc (.cells #[.int .i64 4, .slice ar nr cr, .slice none 0 0, .int .i64 0, .int .i64 (cn : Nat), .int .i64 (cd : Nat)] 30)) W') => row_any (W := W') (ar := ar) (cr := cr) hnr (by omega) (HTX.out.below (HB1.out.trans ((HBA.out.trans (hb.mono HBA.out.size)).mono HB1.out.size))) 4 (cn : Nat) (cd : Nat))
  have HNR := Lib.hid (And.intro hnr h4)
  clear hnr h4
  obtain ⟨k0, k1, k2, k3, k4, k5, k6, k7⟩ := HS.out _ (Below.refl _ _)
  go_region_held3 (fun W' => W'.cell? ⟨W.heap.size, 1, none⟩ = some (.slice bo m dap) ∧ W'.cell? ⟨W.heap.size, 2, none⟩ = some (.slice co k eap) ∧ W'.cell? ⟨w1.heap.size, 0, none⟩ = some (.int .i64 4) ∧ W'.cell? ⟨w1.heap.size, 1, none⟩ = some (.slice ar nr cr) ∧ W'.cell? ⟨w1.heap.size, 2, none⟩ = some (.slice none 0 0) ∧ W'.cell? ⟨w1.heap.size, 3, none⟩ = some (.int .i64 0) ∧ W'.cell? ⟨w1.heap.size, 4, none⟩ = some (.int .i64 (cn : Nat)) ∧ W'.cell? ⟨w1.heap.size, 5, none⟩ = some (.int .i64 (cd : Nat)))
    (first | (with_reducible exact HS.out _ HBX.out) | (with_reducible exact HF.out _ HBX.out))
    ((first
    | (go_at_call 24; (with_reducible refine (HRS.out _ HBX.out).mono ?_); rintro e w2 ⟨so, ns, cs, row, rfl, hso, hrow, hb⟩; have HSO := Lib.hid hso; have HROW := Lib.hid hrow; have HBX := Lib.hid (HBX.out.trans (hb.mono HBX.out.size)); clear hso hrow hb)
    | (go_at_call 24; (with_reducible refine (HRT.out _ HBX.out).mono ?_); rintro e w3 ⟨tt, nt, ct, row2, rfl, hto, hrow2, hb⟩; have HTO := Lib.hid (owns_mono hto (Nat.le_trans HBA.out.size HBX.out.size)); have HSO := Lib.hid (owns_later HSO.out hb); have HROW2 := Lib.hid hrow2; have HBX := Lib.hid (HBX.out.trans (hb.mono HBX.out.size)); have hx1 := HX1.out.below (HBA.out.trans (HBX.out.mono HBA.out.size)); have HX3 := Lib.hid hx1; have lx := (Array.getElem?_eq_some_iff.1 hx1).1; obtain ⟨y0, y1, y2, y3, y4, y5⟩ := hx1.cells; have f0 := frozen_of_row _ _ 0 _ _ hx1; have f1 := frozen_of_row _ _ 1 _ _ hx1; have f2 := frozen_of_row _ _ 2 _ _ hx1; have f3 := frozen_of_row _ _ 3 _ _ hx1; have f4 := frozen_of_row _ _ 4 _ _ hx1; have f5 := frozen_of_row _ _ 5 _ _ hx1; clear hto hrow2 hb hx1)))
  clear k0 k1 k2 k3 k4 k5 k6 k7 y0 y1 y2 y3 y4 y5 f0 f1 f2 f3 f4 f5 lx
  have HEAD : True := trivial
  go_wp2
  have hk : ∀ j, j ≠ W.heap.size + 1 → ((((((w3.setCell ⟨W.heap.size + 1, 0, none⟩ (.int .i64 4)).setCell ⟨W.heap.size + 1, 1, none⟩ (.slice ar nr cr)).setCell ⟨W.heap.size + 1, 2, none⟩ (.slice none 0 0)).setCell ⟨W.heap.size + 1, 3, none⟩ (.int .i64 0)).setCell ⟨W.heap.size + 1, 4, none⟩ (.int .i64 (cn : Nat))).setCell ⟨W.heap.size + 1, 5, none⟩ (.int .i64 (cd : Nat))).heap[j]? = w3.heap[j]? := fun j hj => six_keep hj
  have q0 := heap_setCell_same _ (W.heap.size + 1) 0 _ 30 (.int .i64 4) HX3.out
  have q1 := heap_setCell_same _ (W.heap.size + 1) 1 _ 30 (.slice ar nr cr) q0
  have q2 := heap_setCell_same _ (W.heap.size + 1) 2 _ 30 (.slice none 0 0) q1
  have q3 := heap_setCell_same _ (W.heap.size + 1) 3 _ 30 (.int .i64 0) q2
  have q4 := heap_setCell_same _ (W.heap.size + 1) 4 _ 30 (.int .i64 (cn : Nat)) q3
  have q5 := heap_setCell_same _ (W.heap.size + 1) 5 _ 30 (.int .i64 (cd : Nat)) q4
  have hb3 := HBA.out.trans (HBX.out.mono HBA.out.size)
  have hsz1 : W.heap.size + 2 ≤ w1.heap.size := by have := (Array.getElem?_eq_some_iff.1 HX1.out).1; omega
  have hor : OwI ((((((w3.setCell ⟨W.heap.size + 1, 0, none⟩ (.int .i64 4)).setCell ⟨W.heap.size + 1, 1, none⟩ (.slice ar nr cr)).setCell ⟨W.heap.size + 1, 2, none⟩ (.slice none 0 0)).setCell ⟨W.heap.size + 1, 3, none⟩ (.int .i64 0)).setCell ⟨W.heap.size + 1, 4, none⟩ (.int .i64 (cn : Nat))).setCell ⟨W.heap.size + 1, 5, none⟩ (.int .i64 (cd : Nat))) (W.heap.size + 2) (.slice ar nr cr) nr r := by
    have h := owns_later HO.out hb3
    simp only [World.size_alloc] at h
    exact owns_same h (fun g hg => hk g (by have := (own_lt h hg).1; omega))
  have hos : OwI ((((((w3.setCell ⟨W.heap.size + 1, 0, none⟩ (.int .i64 4)).setCell ⟨W.heap.size + 1, 1, none⟩ (.slice ar nr cr)).setCell ⟨W.heap.size + 1, 2, none⟩ (.slice none 0 0)).setCell ⟨W.heap.size + 1, 3, none⟩ (.int .i64 0)).setCell ⟨W.heap.size + 1, 4, none⟩ (.int .i64 (cn : Nat))).setCell ⟨W.heap.size + 1, 5, none⟩ (.int .i64 (cd : Nat))) w1.heap.size (.slice so ns cs) ns row := by
    have h := owns_mono HSO.out (show w1.heap.size ≤ _ from by simp)
    exact owns_same h (fun g hg => hk g (by have := (own_lt h hg).1; omega))
  have hot : OwI ((((((w3.setCell ⟨W.heap.size + 1, 0, none⟩ (.int .i64 4)).setCell ⟨W.heap.size + 1, 1, none⟩ (.slice ar nr cr)).setCell ⟨W.heap.size + 1, 2, none⟩ (.slice none 0 0)).setCell ⟨W.heap.size + 1, 3, none⟩ (.int .i64 0)).setCell ⟨W.heap.size + 1, 4, none⟩ (.int .i64 (cn : Nat))).setCell ⟨W.heap.size + 1, 5, none⟩ (.int .i64 (cd : Nat))) w1.heap.size (.slice tt nt ct) nt row2 := by
    have h := HTO.out
    exact owns_same h (fun g hg => hk g (by have := (own_lt h hg).1; omega))
  have hbw : Below W.heap.size W ((((((w3.setCell ⟨W.heap.size + 1, 0, none⟩ (.int .i64 4)).setCell ⟨W.heap.size + 1, 1, none⟩ (.slice ar nr cr)).setCell ⟨W.heap.size + 1, 2, none⟩ (.slice none 0 0)).setCell ⟨W.heap.size + 1, 3, none⟩ (.int .i64 0)).setCell ⟨W.heap.size + 1, 4, none⟩ (.int .i64 (cn : Nat))).setCell ⟨W.heap.size + 1, 5, none⟩ (.int .i64 (cd : Nat))) := ((((((HB1.out.trans (hb3.mono HB1.out.size)).setCell (by simp only; omega) _).setCell (by simp only; omega) _).setCell (by simp only; omega) _).setCell (by simp only; omega) _).setCell (by simp only; omega) _).setCell (by simp only; omega) _
  have hN := HNR.out
  have hr1 := HROW.out
  have hr2 := HROW2.out
  have hl1 := owI_len hos
  have hl2 := owI_len hot
  refine bodyPost_ret (results_made rfl rfl q5) rfl ?_
  exact ⟨ar, nr, cr, r, cn, cd, so, ns, cs, row, tt, nt, ct, row2, rfl, ⟨hor.ix (by omega) (fun j => by have := HOK.out.rr j; exact ⟨by omega, by omega⟩), hos.ix (by have := hr1.1; omega) (fun j => by have := hr1.2 j; exact ⟨by omega, by omega⟩), hot.ix (by have := hr2.1; omega) (fun j => by have := hr2.2 j; exact ⟨by omega, by omega⟩)⟩, HOK.out, ⟨hr1, hr2⟩, hbw⟩

end Go.Proofs.Ytcpgoaombabfjaa

namespace Go.Proofs.Ytcpgoaombabfjaa
open Go.RowKit
attribute [local go_sem ↓] appI_rw

/-- A row of one's own while it is made. -/
structure OwL (W wr : World) (B : Nat) (v : Value) (n : Nat) (R : List Int) : Prop where
  o : OwI wr B v n R
  bl : Below B W wr
  lt : B ≤ wr.heap.size
theorem OwL.step {W wr : World} {B : Nat} {v : Value} {n : Nat} {R : List Int} (h : OwL W wr B v n R) (hn : n ≤ 100) (x : Int) :
    ∃ g cap w2, Sem.run Try.prog (appI 22 #[v, .slice (some ⟨wr.heap.size, 0, none⟩) 1 1]) (wr.alloc (.cells #[.int .i64 x] 3)) = .ok (.slice (some ⟨g, 0, none⟩) (n + 1) cap) w2 ∧ OwL W w2 B (.slice (some ⟨g, 0, none⟩) (n + 1) cap) (n + 1) (R ++ [x]) := by
  obtain ⟨g, cap, w2, hrun, hown, hb, hgr, hg, hgl⟩ := push_int h.o (by omega) h.lt x
  exact ⟨g, cap, w2, hrun, ⟨hown, h.bl.trans hb, Nat.le_trans h.lt hb.size⟩⟩

set_option maxRecDepth 100000 in
set_option maxHeartbeats 8000000 in
theorem coinEven_any {W : World} {ao : Option Addr} {ln cap : Nat} {l : List Int} (hX : Ix W (.slice ao ln cap) l) {c : Int} {an : Nat} (hc : 0 ≤ c ∧ c ≤ 255) (ha : an ≤ 255) :
    Calls Try.prog 8 #[.slice ao ln cap, .int .u8 c, .int .u8 (an : Int)] W fun e w' => e = .returned (.bool true) ∧ Below W.heap.size W w' := by
  have HS := Lib.hid (sanity_any (W := W))
  have HM := Lib.hid (fun W' (hb : Below W.heap.size W W') => made_any (hX.below hb))
  have wc : IntKind.i64.wrap c = c := IntWalk.i64_in _ (by omega)
  have wa : IntKind.i64.wrap (an : Int) = (an : Int) := IntWalk.i64_in _ (by omega)
  clear hX
  go_enter Try.func8, Try.ntmps8
  go_wp2_with (first
    | (go_at_call 9; (with_reducible refine HS.out.mono ?_); rintro e w1 ⟨rfl, hb1⟩; have HB1 := Lib.hid hb1; clear hb1)
    | (go_at_call 23; (with_reducible refine (HM.out _ HB1.out).mono ?_); rintro e w2 ⟨ar, nr, cr, r, cn, cd, rfl, ho, hok, hb2⟩; have HOK := Lib.hid hok; have HNR := Lib.hid (owI_len ho); have HI := Lib.hid (ho.ix (by have := hok.l4; have := owI_len ho; omega) (fun j => by have := hok.rr j; exact ⟨by omega, by omega⟩)); have HB2 := Lib.hid (HB1.out.trans (hb2.mono HB1.out.size)); clear ho hok hb2))
  have HD0 : Hid (DBox (w2.alloc (.cells #[.int .i64 4, .slice ar nr cr, .slice none 0 0, .int .i64 0, .int .i64 (cn : Int), .int .i64 (cd : Int)] 30)) w2.heap.size 4 (.slice ar nr cr) (cn : Int) (cd : Int)) := Lib.hid (dbox_is w2 4 (.slice ar nr cr) cn cd)
  have HB0 : Hid (Below W.heap.size W (w2.alloc (.cells #[.int .i64 4, .slice ar nr cr, .slice none 0 0, .int .i64 0, .int .i64 (cn : Int), .int .i64 (cd : Int)] 30))) := Lib.hid (HB2.out.alloc HB2.out.size _)
  have HI0 : Hid (Ix (w2.alloc (.cells #[.int .i64 4, .slice ar nr cr, .slice none 0 0, .int .i64 0, .int .i64 (cn : Int), .int .i64 (cd : Int)] 30)) (.slice ar nr cr) r) := Lib.hid (HI.out.below (dbox_below w2 4 (.slice ar nr cr) cn cd))
  generalize (w2.alloc (.cells #[.int .i64 4, .slice ar nr cr, .slice none 0 0, .int .i64 0, .int .i64 (cn : Int), .int .i64 (cd : Int)] 30)) = W0 at HD0 HB0 HI0 ⊢
  generalize w2.heap.size = Bd at HD0 ⊢
  have hn2 : 2 ≤ nr := by have := HOK.out.l2; have := HNR.out; omega
  have hn4 : nr ≤ 4 := by have := HOK.out.l4; have := HNR.out; omega
  have hrr := HOK.out.rr
  have HRR := Lib.hid hrr
  clear HI HB2 HB1 HS HM hrr
  go_loopw [9, 10, 11, 26] (fun vv gv _ kv wr => ∃ (k : Nat) (vR : Value), k ≤ nr ∧ kv = .int .i64 (k : Nat) ∧ vv = vR ∧ gv = .int .i64 (grL r k) ∧ Hid (OwL W0 wr W0.heap.size vR k (rwL r c k))) (fun _ _ _ kv _ => nr - (intOf kv).toNat)
  case atStart => exact ⟨0, _, by omega, rfl, rfl, rfl, Lib.hid ⟨World.ownsRow_nil _ _ _ _, Below.refl _ _, Nat.le_refl _⟩⟩
  case round =>
    obtain ⟨k, vR, hk, rfl, rfl, rfl, HO⟩ := hrel
    obtain ⟨aR, cR, rfl⟩ := slice_of_owns HO.out.o
    have HDk := Lib.hid (HD0.out.below HO.out.bl)
    obtain ⟨d0, d1, d2, d3, d4, d5⟩ := HDk.out.cells
    by_cases hkm : k = nr
    · subst hkm
      have HRow : Hid (Ix _ (.slice aR k cR) (rwL r c k)) := Lib.hid (HO.out.o.ix (by omega) (fun j => by have := rwL_in hc HRR.out k j; exact ⟨by omega, by omega⟩))
      have HIk : Hid (Ix wr (.slice ar k cr) r) := Lib.hid (HI0.out.below HO.out.bl)
      have HBk : Hid (Below W.heap.size W wr) := Lib.hid (HB0.out.trans (HO.out.bl.mono HB0.out.size))
      obtain ⟨G, hG⟩ : ∃ G, G = grL r k := ⟨_, rfl⟩
      rw [← hG]
      have HG := Lib.hid hG
      clear hG HO HI0 HD0 HB0
      go_wp2
      clear d0 d1 d2 d3 d4 d5
      obtain ⟨W3, hW3⟩ : ∃ W3, W3 = wr := ⟨_, rfl⟩
      subst hW3
      go_loopw [12, 13, 51] (fun vv _ jv w => ∃ (j : Nat) (vQ : Value) (n : Nat), j ≤ k ∧ jv = .int .i64 (j : Nat) ∧ vv = vQ ∧ Hid (OwL W3 w W3.heap.size vQ n (wnL r G j) ∧ n ≤ j)) (fun _ _ jv _ => k - (intOf jv).toNat)
      case atStart => exact ⟨0, _, 0, by omega, rfl, rfl, Lib.hid ⟨⟨World.ownsRow_nil _ _ _ _, Below.refl _ _, Nat.le_refl _⟩, Nat.le_refl _⟩⟩
      case round =>
        obtain ⟨w, hw⟩ : ∃ w, w = wr := ⟨_, rfl⟩
        subst hw
        obtain ⟨j, vQ, n, hj, rfl, rfl, HO⟩ := hrel
        obtain ⟨aQ, cQ, rfl⟩ := slice_of_owns HO.out.1.o
        by_cases hjk : j = k
        · subst hjk
          have HWn : Hid (Ix w (.slice aQ n cQ) (wnL r G j)) := Lib.hid (HO.out.1.o.ix (by have := HO.out.2; omega) (fun i => by
            by_cases hi : i < (wnL r G j).length
            · obtain ⟨q, h1, h2⟩ := mem_wnL (getI_mem hi)
              rw [h2]; exact ⟨by omega, by omega⟩
            · rw [out_zero (by omega)]; decide))
          have hok := HOK.out
          have hjr := HNR.out
          have HPV := even_prf hok hc
          rw [← hjr, ← HG.out] at HPV
          have HUV := even_une hok hc
          rw [← hjr] at HUV
          have HIw : Hid (∀ w', Below w.heap.size w w' → Ix w' (.slice ar j cr) r ∧ Ix w' (.slice aR j cR) (rwL r c j) ∧ Ix w' (.slice aQ n cQ) (wnL r G j) ∧ DBox w' Bd 4 (.slice ar j cr) (cn : Int) (cd : Int) ∧ Below W.heap.size W w') := Lib.hid (fun w' hb => by
            have h := HO.out.1.bl.trans (hb.mono HO.out.1.lt)
            exact ⟨HIk.out.below h, HRow.out.below h, HWn.out.below hb, HDk.out.below h, HBk.out.trans (h.mono HBk.out.size)⟩)
          have HU : Hid (∀ w', Below w.heap.size w w' → Calls Try.prog 12 #[DV 4 (.slice ar j cr) (cn : Int) (cd : Int), .slice aR j cR] w' fun e w2 => e = .returned (.int .i64 0) ∧ Below w'.heap.size w' w2) := Lib.hid (fun w' hb => by
            have h := uneven_any (HIw.out w' hb).1 (HIw.out w' hb).2.1 (by have := hok.l4; omega) 4 (cn : Int) (cd : Int)
            rwa [HUV] at h)
          have HP : Hid (∀ w', Below w.heap.size w w' → Calls Try.prog 18 #[DV 4 (.slice ar j cr) (cn : Int) (cd : Int), .slice aR j cR, .slice none 0 0] w' fun e w2 => ∃ ao n cap, e = .returned (.slice ao n cap) ∧ Ix w2 (.slice ao n cap) (wnL r G j) ∧ Below w'.heap.size w' w2) := Lib.hid (fun w' hb => by
            have h := preferred_any (HIw.out w' hb).1 (HIw.out w' hb).2.1 (Ix.nil w') (by have := hok.l4; omega) 4 (cn : Int) (cd : Int)
            rw [HPV] at h
            refine h.mono fun e w2 h => ?_
            obtain ⟨ao, n, cap, h1, h2, h3⟩ := h
            exact ⟨ao, n, cap, h1, h2.ix (by have := owI_len h2; have := wnL_len r G j; omega) (fun i => (HIw.out w (Below.refl _ _)).2.2.1.fit i), h3⟩)
          have HSm : Hid (∀ w' ao n' cap, Below w.heap.size w w' → Ix w' (.slice ao n' cap) (wnL r G j) → Calls Try.prog 17 #[.slice ao n' cap, .slice aQ n cQ] w' fun e w2 => e = .returned (.bool true) ∧ Below w'.heap.size w' w2) := Lib.hid (fun w' ao n' cap hb hx => by
            have h := sameInts_any hx (HIw.out w' hb).2.2.1
            rwa [decide_eq_true rfl] at h)
          have HDC : Hid (∀ w', Below w.heap.size w w' → w'.cell? ⟨Bd, 0, none⟩ = some (.int .i64 4) ∧ w'.cell? ⟨Bd, 1, none⟩ = some (.slice ar j cr) ∧ w'.cell? ⟨Bd, 2, none⟩ = some (.slice none 0 0) ∧ w'.cell? ⟨Bd, 3, none⟩ = some (.int .i64 0) ∧ w'.cell? ⟨Bd, 4, none⟩ = some (.int .i64 (cn : Int)) ∧ w'.cell? ⟨Bd, 5, none⟩ = some (.int .i64 (cd : Int))) := Lib.hid (fun w' hb => (HIw.out w' hb).2.2.2.1.cells)
          obtain ⟨d0, d1, d2, d3, d4, d5⟩ := HDC.out w (Below.refl _ _)
          have hn0 : ¬ (j : Int) = 0 := by omega
          clear hok hjr HPV HUV HWn HDk HBk HIk HRow HO
          go_wp2_with (first
            | (go_at_call 12; (with_reducible refine (HU.out _ (Below.refl _ _)).mono ?_); rintro e w1 ⟨rfl, hb1⟩; have HB1 := Lib.hid hb1; clear d0 d1 d2 d3 d4 d5; obtain ⟨d0, d1, d2, d3, d4, d5⟩ := HDC.out _ HB1.out; clear hb1)
            | (go_at_call 18; (with_reducible refine (HP.out _ HB1.out).mono ?_); rintro e w2 ⟨aP, nP, cP, rfl, hP, hb2⟩; have HXP := Lib.hid hP; have HB2 := Lib.hid (HB1.out.trans (hb2.mono HB1.out.size)); clear d0 d1 d2 d3 d4 d5; obtain ⟨d0, d1, d2, d3, d4, d5⟩ := HDC.out _ HB2.out; clear hb2 hP)
            | (go_at_call 17; (with_reducible refine (HSm.out _ _ _ _ HB2.out HXP.out).mono ?_); rintro e w3 ⟨rfl, hb3⟩; have HB3 := Lib.hid (HB2.out.trans (hb3.mono HB2.out.size)); clear d0 d1 d2 d3 d4 d5; obtain ⟨d0, d1, d2, d3, d4, d5⟩ := HDC.out _ HB3.out; clear hb3))
          obtain ⟨K, hK⟩ : ∃ K : Nat, K = an % j := ⟨_, rfl⟩
          have hKj : K < j := by rw [hK]; exact Nat.mod_lt _ (by omega)
          have hKe : (an : Int) % (j : Int) = (K : Int) := by rw [hK]; rfl
          rw [hKe]
          clear hK hKe
          have hok := HOK.out
          have hjr := HNR.out
          have hl : (rwL r c j).length = r.length := by rw [rwL_len, hjr]
          have hi : ∀ i, 0 ≤ (rwL r c j).getD i 0 ∧ (rwL r c j).getD i 0 ≤ 765 := rwL_in hc hok.rr j
          have hnx := even_nx (l := rwL r c j) hok hl (fun i => by have := hi i; omega) (K := K) (by omega)
          by_cases hp : 0 < r.getD K 0
          · have hN1 := hnx.1
            have hN1V := hnx.2 hp
            rw [decide_eq_true hp] at hN1
            have hl1 : (mor (rwL r c j) K).length = r.length := by rw [mor_len, hl]
            have hi1 : ∀ i, 0 ≤ (mor (rwL r c j) K).getD i 0 ∧ (mor (rwL r c j) K).getD i 0 ≤ 766 := fun i => by
              rw [mor_get (by omega)]; have := hi i; have := hi K; split <;> omega
            have hnx2 := even_nx (l := mor (rwL r c j) K) hok hl1 (fun i => by have := hi1 i; omega) (K := K) (by omega)
            have hN2 := hnx2.1
            have hN2V := hnx2.2 hp
            rw [decide_eq_true hp] at hN2
            have hl2 : (mor (mor (rwL r c j) K) K).length = r.length := by rw [mor_len, hl1]
            have hi2 : ∀ i, 0 ≤ (mor (mor (rwL r c j) K) K).getD i 0 ∧ (mor (mor (rwL r c j) K) K).getD i 0 ≤ 767 := fun i => by
              rw [mor_get (by omega)]; have := hi1 i; have := hi1 K; split <;> omega
            have g1 : ∀ i, i < r.length → (mor (rwL r c j) K).getD i 0 = c * r.getD i 0 + if i = K then 1 else 0 := fun i h => by
              rw [mor_get (by omega)]
              by_cases e : i = K
              · subst e; rw [if_pos rfl, if_pos rfl, rwL_get (by omega)]
              · rw [if_neg e, if_neg e, rwL_get (by omega), Int.add_zero]
            have g2 : ∀ i, i < r.length → (mor (mor (rwL r c j) K) K).getD i 0 = c * r.getD i 0 + if i = K then 2 else 0 := fun i h => by
              rw [mor_get (by omega)]
              by_cases e : i = K
              · subst e; have := g1 i h; rw [if_pos rfl] at this; rw [if_pos rfl, if_pos rfl, this]; omega
              · have := g1 i h; rw [if_neg e] at this; rw [if_neg e, if_neg e, this]
            obtain ⟨q, hq⟩ : ∃ q, q = ((mulN r r.length : Nat) : Int) / r.getD K 0 := ⟨_, rfl⟩
            have u1 := even_step (c := c) (d := 1) hok hl1 (fun i => by have := hi1 i; omega) ⟨by omega, hp⟩ (by omega) g1
            have u2 := even_step (c := c) (d := 2) hok hl2 (fun i => by have := hi2 i; omega) ⟨by omega, hp⟩ (by omega) g2
            have hq0 := even_pos (r := r) (K := K) ⟨by omega, hp⟩
            have hqm : q ≤ 840 := by
              have h1 := mulN_le (r := r) (fun i => by have := hok.rr i; omega) r.length
              have h2 : ((mulN r r.length : Nat) : Int) / r.getD K 0 ≤ ((mulN r r.length : Nat) : Int) := Int.ediv_le_self _ (by omega)
              omega
            rw [← hq] at u1 u2 hq0
            rw [Int.one_mul] at u1
            have wq : IntKind.i64.wrap (2 * q) = 2 * q := IntWalk.i64_in _ (by omega)
            have lr8 : r.length ≤ 8 := by omega
            have HC1 : Hid (∀ w', Below w.heap.size w w' → Calls Try.prog 15 #[DV 4 (.slice ar j cr) (cn : Int) (cd : Int), .slice aR j cR, .int .i64 (K : Int)] w' fun e w2 => ∃ ao n cap, e = .returned (.tuple #[.slice ao n cap, .bool true]) ∧ Ix w2 (.slice ao n cap) (mor (rwL r c j) K) ∧ Below w'.heap.size w' w2) := Lib.hid (fun w' hb => by
              have h := next_any (HIw.out w' hb).1 (HIw.out w' hb).2.1 lr8 4 (cn : Int) (cd : Int) (K : Int)
              rw [hN1, hN1V] at h
              refine h.mono fun e w2 h => ?_
              obtain ⟨ao, n, cap, h1, h2, h3⟩ := h
              exact ⟨ao, n, cap, h1, h2.ix (by have := owI_len h2; omega) (fun i => by have := hi1 i; exact ⟨by omega, by omega⟩), h3⟩)
            have HC2 : Hid (∀ w' ao n cap, Below w.heap.size w w' → Ix w' (.slice ao n cap) (mor (rwL r c j) K) → Calls Try.prog 15 #[DV 4 (.slice ar j cr) (cn : Int) (cd : Int), .slice ao n cap, .int .i64 (K : Int)] w' fun e w2 => ∃ ao n cap, e = .returned (.tuple #[.slice ao n cap, .bool true]) ∧ Ix w2 (.slice ao n cap) (mor (mor (rwL r c j) K) K) ∧ Below w'.heap.size w' w2) := Lib.hid (fun w' ao n cap hb hx => by
              have h := next_any (HIw.out w' hb).1 hx lr8 4 (cn : Int) (cd : Int) (K : Int)
              rw [hN2, hN2V] at h
              refine h.mono fun e w2 h => ?_
              obtain ⟨ao, n, cap, h1, h2, h3⟩ := h
              exact ⟨ao, n, cap, h1, h2.ix (by have := owI_len h2; omega) (fun i => by have := hi2 i; exact ⟨by omega, by omega⟩), h3⟩)
            have HV1 : Hid (∀ w' ao n cap, Below w.heap.size w w' → Ix w' (.slice ao n cap) (mor (rwL r c j) K) → Calls Try.prog 12 #[DV 4 (.slice ar j cr) (cn : Int) (cd : Int), .slice ao n cap] w' fun e w2 => e = .returned (.int .i64 q) ∧ Below w'.heap.size w' w2) := Lib.hid (fun w' ao n cap hb hx => by
              have h := uneven_any (HIw.out w' hb).1 hx lr8 4 (cn : Int) (cd : Int)
              rwa [u1] at h)
            have HV2 : Hid (∀ w' ao n cap, Below w.heap.size w w' → Ix w' (.slice ao n cap) (mor (mor (rwL r c j) K) K) → Calls Try.prog 12 #[DV 4 (.slice ar j cr) (cn : Int) (cd : Int), .slice ao n cap] w' fun e w2 => e = .returned (.int .i64 (2 * q)) ∧ Below w'.heap.size w' w2) := Lib.hid (fun w' ao n cap hb hx => by
              have h := uneven_any (HIw.out w' hb).1 hx lr8 4 (cn : Int) (cd : Int)
              rwa [u2] at h)
            clear hok hjr hl hi hnx hp hN1 hN1V hl1 hi1 hnx2 hN2 hN2V hl2 hi2 g1 g2 hq u1 u2 lr8
            go_wp2_with (first
              | (go_at_call 15; (with_reducible refine (HC1.out _ HB3.out).mono ?_); rintro e w4 ⟨a1, n1, c1, rfl, hx, hb⟩; have HX1 := Lib.hid hx; have HB4 := Lib.hid (HB3.out.trans (hb.mono HB3.out.size)); clear d0 d1 d2 d3 d4 d5; obtain ⟨d0, d1, d2, d3, d4, d5⟩ := HDC.out _ HB4.out; clear hb hx)
              | (go_at_call 15; (with_reducible refine (HC2.out _ _ _ _ HB4.out HX1.out).mono ?_); rintro e w5 ⟨a2, n2, c2, rfl, hx, hb⟩; have HX2 := Lib.hid hx; have HB5 := Lib.hid (HB4.out.trans (hb.mono HB4.out.size)); have HX1 := Lib.hid (HX1.out.below hb); clear d0 d1 d2 d3 d4 d5; obtain ⟨d0, d1, d2, d3, d4, d5⟩ := HDC.out _ HB5.out; clear hb hx)
              | (go_at_call 12; (with_reducible refine (HV1.out _ _ _ _ HB5.out HX1.out).mono ?_); rintro e w6 ⟨rfl, hb⟩; have HX2 := Lib.hid (HX2.out.below hb); have HB6 := Lib.hid (HB5.out.trans (hb.mono HB5.out.size)); clear d0 d1 d2 d3 d4 d5; obtain ⟨d0, d1, d2, d3, d4, d5⟩ := HDC.out _ HB6.out; clear hb)
              | (go_at_call 12; (with_reducible refine (HV2.out _ _ _ _ HB6.out HX2.out).mono ?_); rintro e w7 ⟨rfl, hb⟩; have HB7 := Lib.hid (HB6.out.trans (hb.mono HB6.out.size)); clear hb))
            go_ret
            exact ⟨rfl, (HIw.out _ HB7.out).2.2.2.2⟩
          · have hN1 := hnx.1
            rw [decide_eq_false hp] at hN1
            have h0 : r.getD K 0 = 0 := by have := hok.rr K; omega
            have lr8 : r.length ≤ 8 := by omega
            have HC1 : Hid (∀ w', Below w.heap.size w w' → Calls Try.prog 15 #[DV 4 (.slice ar j cr) (cn : Int) (cd : Int), .slice aR j cR, .int .i64 (K : Int)] w' fun e w2 => ∃ ao n cap, e = .returned (.tuple #[.slice ao n cap, .bool false]) ∧ Below w'.heap.size w' w2) := Lib.hid (fun w' hb => by
              have h := next_any (HIw.out w' hb).1 (HIw.out w' hb).2.1 lr8 4 (cn : Int) (cd : Int) (K : Int)
              rw [hN1] at h
              refine h.mono fun e w2 h => ?_
              obtain ⟨ao, n, cap, h1, h2, h3⟩ := h
              exact ⟨ao, n, cap, h1, h3⟩)
            obtain ⟨b, off, rfl, -, -, -, -⟩ := (HIw.out w (Below.refl _ _)).1.at (by omega)
            have HCK : Hid (∀ w', Below w.heap.size w w' → w'.cell? ⟨b, off + K, none⟩ = some (.int .i64 0)) := Lib.hid (fun w' hb => by
              obtain ⟨b', off', he, -, -, -, hcl⟩ := (HIw.out w' hb).1.at (by omega)
              cases he
              have := hcl K hKj
              rwa [h0] at this)
            have hKI : (K : Int) < (j : Int) := by omega
            clear hok hjr hl hi hnx hp hN1 h0 lr8
            go_wp2_with (go_at_call 15; (with_reducible refine (HC1.out _ HB3.out).mono ?_); rintro e w4 ⟨a1, n1, c1, rfl, hb⟩; have HB4 := Lib.hid (HB3.out.trans (hb.mono HB3.out.size)); clear d0 d1 d2 d3 d4 d5; obtain ⟨d0, d1, d2, d3, d4, d5⟩ := HDC.out _ HB4.out; have hcK := HCK.out _ HB4.out; clear hb)
            go_ret
            exact ⟨rfl, (HIw.out _ HB4.out).2.2.2.2⟩
        · have hlt : j < k := by omega
          have hltI : (j : Int) < (k : Int) := by omega
          obtain ⟨d0, d1, d2, d3, d4, d5⟩ := (HDk.out.below HO.out.1.bl).cells
          obtain ⟨b, off, rfl, -, -, -, hcl⟩ := (HIk.out.below HO.out.1.bl).at (by omega)
          have hc1 := hcl j hlt
          obtain ⟨x, hx⟩ : ∃ x, x = r.getD j 0 := ⟨_, rfl⟩
          rw [← hx] at hc1
          by_cases he : x = G
          · rw [he] at hc1
            have HW : Hid (wnL r G (j + 1) = wnL r G j ++ [(j : Int)]) := Lib.hid (by rw [wnL, if_pos (by rw [← hx, he])])
            have hn := HO.out.2
            obtain ⟨gA, capA, wA, hrunA, hMA⟩ := HO.out.1.step (by omega) (j : Int)
            have HMA := Lib.hid (And.intro hMA (show n + 1 ≤ j + 1 by omega))
            clear hcl hx he hMA HO hn
            go_wp2
            go_roundw
            case rel => exact ⟨j + 1, _, n + 1, by omega, by go_num, rfl, by rw [HW.out]; exact HMA⟩
            case measure => simp [intOf]; omega
          · have HW : Hid (wnL r G (j + 1) = wnL r G j) := Lib.hid (by rw [wnL, if_neg (by rw [← hx]; exact he), List.append_nil])
            have HMA : Hid (OwL W3 w W3.heap.size (.slice aQ n cQ) n (wnL r G j) ∧ n ≤ j + 1) := Lib.hid ⟨HO.out.1, by have := HO.out.2; omega⟩
            clear hcl hx HO
            go_wp2
            go_roundw
            case rel => exact ⟨j + 1, _, n, by omega, by go_num, rfl, by rw [HW.out]; exact HMA⟩
            case measure => simp [intOf]; omega
    · have hlt : k < nr := by omega
      have hltI : (k : Int) < (nr : Int) := by omega
      obtain ⟨b, off, rfl, -, -, -, hcl⟩ := (HI0.out.below HO.out.bl).at (by omega)
      have hc1 := hcl k hlt
      obtain ⟨x, hx⟩ : ∃ x, x = r.getD k 0 := ⟨_, rfl⟩
      have HG : Hid (grL r (k + 1) = max (grL r k) x) := Lib.hid (by rw [grL, hx])
      have HW : Hid (rwL r c (k + 1) = rwL r c k ++ [c * x]) := Lib.hid (by rw [rwL, hx])
      have hx3 : 0 ≤ x ∧ x ≤ 3 := by rw [hx]; exact HRR.out k
      rw [← hx] at hc1
      obtain ⟨y, hy⟩ : ∃ y, y = c * x := ⟨_, rfl⟩
      have hy7 : 0 ≤ y ∧ y ≤ 765 := by
        rw [hy]
        exact ⟨Int.mul_nonneg hc.1 hx3.1, Int.le_trans (Int.mul_le_mul hc.2 hx3.2 hx3.1 (by omega)) (by omega)⟩
      have wy : IntKind.i64.wrap (c * x) = y := by rw [← hy]; exact IntWalk.i64_in _ (by omega)
      rw [← hy] at HW
      obtain ⟨gA, capA, wA, hrunA, hMA⟩ := HO.out.step (by omega) y
      have HMA := Lib.hid hMA
      obtain ⟨e0, e1, e2, e3, e4, e5⟩ := (HD0.out.below hMA.bl).cells
      have hc2 : wA.cell? ⟨b, off + k, none⟩ = some (.int .i64 x) := by
        obtain ⟨b', off', he, -, -, -, hcl'⟩ := (HI0.out.below hMA.bl).at (by omega)
        cases he
        rw [hx]; exact hcl' k hlt
      clear hcl hx hy hMA HO
      go_wp2
      go_roundw
      case rel => exact ⟨k + 1, _, by omega, by go_num, rfl, by rw [HG.out], by rw [HW.out]; exact HMA⟩
      case measure => simp [intOf]; omega

end Go.Proofs.Ytcpgoaombabfjaa

namespace Go.Proofs.Ytcpgoaombabfjaa
open Go.ChangeShapes Go.WideShapes Go.ChangeAt Go.RowKit

set_option maxRecDepth 100000 in
theorem open_case {H : Type} {enc : TypeId × Value → H} {W : World} {r : Reach} {b0 : Nat} {v : Value} {d : DataW H} {p : List MemPlace} (hv : Value.okWide Try.prog W r b0 24 v) (h : DataW.Trod enc Try.prog W 0 (fun _ => true) true 24 v d p) : ∃ (ao bo co : Option Addr) (n m k cap dap eap : Nat) (l s t : List Int), v = .agg #[.slice ao n cap, .slice bo m dap, .slice co k eap] ∧ Ix W (.slice ao n cap) l ∧ Ix W (.slice bo m dap) s ∧ Ix W (.slice co k eap) t := by
  obtain ⟨cs, rfl, hs⟩ := okWide_struct Try.underlying24 hv
  obtain ⟨c0, c1, c2, rfl⟩ := array_three (hs.trans cells24)
  obtain ⟨fuel, hf⟩ := h
  obtain ⟨xs, n, _, _, hl, hlen, hf⟩ := DataW.trod_struct Try.underlying24 hf
  match xs, hlen with
  | [y0, y1, y2], _ =>
    have f0 : DataW.trod enc Try.prog W 0 (fun _ => true) true n 22 (([c0, c1, c2].drop 0).take (Try.prog.cellsOf 22)) = some y0 := hf 0 _ rfl
    have f1 : DataW.trod enc Try.prog W 0 (fun _ => true) true n 22 (([c0, c1, c2].drop 1).take (Try.prog.cellsOf 22)) = some y1 := hf 1 _ rfl
    have f2 : DataW.trod enc Try.prog W 0 (fun _ => true) true n 22 (([c0, c1, c2].drop 2).take (Try.prog.cellsOf 22)) = some y2 := hf 2 _ rfl
    rw [cells22] at f0 f1 f2
    have g0 : DataW.trod enc Try.prog W 0 (fun _ => true) true n 22 [c0] = some y0 := f0
    have g1 : DataW.trod enc Try.prog W 0 (fun _ => true) true n 22 [c1] = some y1 := f1
    have g2 : DataW.trod enc Try.prog W 0 (fun _ => true) true n 22 [c2] = some y2 := f2
    obtain ⟨l0, X0⟩ := open_ix g0
    obtain ⟨l1, X1⟩ := open_ix g1
    obtain ⟨l2, X2⟩ := open_ix g2
    obtain ⟨a0, k0, rfl⟩ := X0.mk'
    obtain ⟨a1, k1, rfl⟩ := X1.mk'
    obtain ⟨a2, k2, rfl⟩ := X2.mk'
    exact ⟨_, _, _, _, _, _, _, _, _, l0, l1, l2, rfl, X0, X1, X2⟩

set_option maxRecDepth 100000 in
theorem open_a2 {H : Type} {enc : TypeId × Value → H} {W : World} {r : Reach} {b0 : Nat} {v : Value} {d : DataW H} {p : List MemPlace} (hv : Value.okWide Try.prog W r b0 53 v) (h : DataW.Trod enc Try.prog W 0 (fun _ => true) true 53 v d p) : ∃ a b : Nat, v = .agg #[.int .u8 (a : Int), .int .u8 (b : Int)] ∧ a ≤ 255 ∧ b ≤ 255 := by
  obtain ⟨cs, rfl, hs⟩ := okWide_arr Try.underlying53 hv
  obtain ⟨v0, v1, rfl⟩ := array_two (hs.trans cells53)
  obtain ⟨fuel, hf⟩ := h
  obtain ⟨y0, y1, n, h0, h1⟩ := trod_arr2 Try.underlying53 cells5 hf
  obtain ⟨a, e0, _, w0⟩ := DataW.trod_int Try.underlying5 h0
  obtain ⟨b, e1, _, w1⟩ := DataW.trod_int Try.underlying5 h1
  simp at e0 e1
  have w0 := u8_wf w0
  have w1 := u8_wf w1
  exact ⟨a.toNat, b.toNat, by rw [e0, e1, Int.toNat_of_nonneg w0.1, Int.toNat_of_nonneg w1.1], by omega, by omega⟩

end Go.Proofs.Ytcpgoaombabfjaa
