/- What CoinShares keeps in memory: a block of bools and one of ints that are written in place. No condition beyond those that are stated. The law CoinShares, walked. Condition: the slices read as ints. The given statement CoinShares: whatever the input, the law returns true and leaves its arguments as they were. No condition. -/
import Derived.Test.YtcpgoaombabfjaaMh16
import Derived.Test.YtcpgoaombabfjaaMh15
import Derived.BigQuiet
namespace Go.Proofs.Ytcpgoaombabfjaa
open Go Go.RowKit

/-- A block that holds bools. -/
abbrev BB (W : World) (g : Nat) (L : List Bool) : Prop := W.heap[g]? = some (.cells (L.map Value.bool).toArray 4 (0, 0))
section
variable {W W' : World} {g : Nat} {L : List Bool}
theorem BB.cell (h : BB W g L) {k : Nat} (hk : k < L.length) : W.cell? ⟨g, k, none⟩ = some (.bool (L.getD k false)) := by
  refine cell_of_row _ _ _ _ _ _ h |>.trans ?_
  simp [List.getD, hk]
theorem BB.lt (h : BB W g L) : g < W.heap.size := (Array.getElem?_eq_some_iff.1 h).1
theorem BB.free (h : BB W g L) (k : Nat) : W.frozen? ⟨g, k, none⟩ = false := frozen_of_row _ _ k _ _ h
theorem BB.set (h : BB W g L) {k : Nat} (x : Bool) : BB (W.setCell ⟨g, k, none⟩ (.bool x)) g (L.set k x) := by
  have h2 := heap_setCell_same _ g k _ 4 (.bool x) h
  rw [BB, h2]
  congr 2
  simp [List.map_set]
theorem BB.other (h : BB W g L) {q k : Nat} {v : Value} (hq : g ≠ q) : BB (W.setCell ⟨q, k, none⟩ v) g L := (Below.heap_setCell _ _ _ _ (by simpa using hq)).trans h
theorem BB.later (h : BB W g L) (hb : Below W.heap.size W W') : BB W' g L := (hb.block g h.lt).trans h
end
theorem Try.info4 : (Try.prog.info? 4).map (fun i => (i.zero, i.size, i.bytes)) = some (some (.bool false), 1, 1) := by kernel_rfl

/-- make([]bool, n) -/
theorem made_bools (k : Nat) (hk : k ≤ 1000) (W : World) : (Instr.makeSlice 49 (.int .i64 (k : Int)) (.int .i64 (k : Int))).run Try.prog W = .ok (.slice (some ⟨W.heap.size, 0, none⟩) k k) (W.alloc (.cells (Array.replicate k (Value.bool false)) 4)) := by
  obtain ⟨i0, hii, hz0, hz1, hz2⟩ := info_parts Try.info4
  have h := run_makeSlice (P := Try.prog) W 49 4 i0 (.bool false) Try.underlying49 hii hz0 .i64 .i64 (k : Int) (k : Int) (by omega) (by omega) (by rw [hz1]; simp; omega) (by rw [hz2]; omega) (by omega)
  rw [hz1] at h
  simp only [Int.toNat_natCast] at h
  have e : madeCells (Value.bool false).cells (k * 1) = Array.replicate k (Value.bool false) := by
    apply Array.ext'
    rw [show (Value.bool false).cells = #[.bool false] from rfl, toList_madeCells_one]
    simp
  rw [e] at h
  exact h

theorem setB_get {L : List Bool} {k j : Nat} (x : Bool) (hk : k < L.length) : (L.set k x).getD j false = if j = k then x else L.getD j false := by
  by_cases h : j = k
  · subst h; rw [if_pos rfl]; simp [List.getD, hk]
  · rw [if_neg h]; simp [List.getD, List.getElem?_set_ne (fun e => h e.symm)]
theorem mem_take {P : List Int} {k : Nat} (h : k < P.length) (x : Int) : x ∈ P.take (k + 1) ↔ x ∈ P.take k ∨ x = P.getD k 0 := by
  rw [List.take_add_one, List.getElem?_eq_getElem h, List.mem_append]
  simp [List.getD, h]

/-- While it is written which arms are preferred. -/
structure S1 (W0 w : World) (g n : Nat) (P : List Int) (k : Nat) (B : List Bool) : Prop where
  u : BB w g B
  b : Below W0.heap.size W0 w
  l : B.length = n
  at' : ∀ j : Nat, j < n → B.getD j false = decide ((j : Int) ∈ P.take k)
theorem S1.start {W0 : World} {n : Nat} {P : List Int} : S1 W0 (W0.alloc (.cells (Array.replicate n (Value.bool false)) 4)) W0.heap.size n P 0 (List.replicate n false) :=
  ⟨by have h := heap_alloc_new W0 (.cells (Array.replicate n (Value.bool false)) 4); rw [BB, h]; simp, (Below.refl _ _).alloc (Nat.le_refl _) _, by simp, fun j hj => by simp [List.getD, hj]⟩
theorem S1.put {W0 w : World} {n : Nat} {P : List Int} {k a : Nat} {B : List Bool} (h : S1 W0 w W0.heap.size n P k B) (hk : k < P.length) (ha : P.getD k 0 = (a : Int)) (han : a < n) : S1 W0 (w.setCell ⟨W0.heap.size, a, none⟩ (.bool true)) W0.heap.size n P (k + 1) (B.set a true) := by
  refine ⟨h.u.set true, h.b.setCell (Nat.le_refl _) _, by rw [List.length_set]; exact h.l, fun j hj => ?_⟩
  rw [setB_get _ (by rw [h.l]; exact han)]
  by_cases e : j = a
  · subst e
    rw [if_pos rfl]
    symm; rw [decide_eq_true_iff, mem_take hk, ha]; exact .inr rfl
  · rw [if_neg e, h.at' j hj]
    rw [decide_eq_decide, mem_take hk, ha]
    constructor
    · exact .inl
    · rintro (h | h)
      · exact h
      · omega

/-- While it is written what each arm weighs. -/
structure S2 (W0 w : World) (g q n : Nat) (P : List Int) (C : List Ch) (i : Nat) (B : List Bool) (L : List Int) : Prop where
  u : BB w g B
  v : IB w q L
  b : Below W0.heap.size W0 w
  lb : B.length = n
  ll : L.length = n
  bt : ∀ j : Nat, j < n → B.getD j false = decide ((j : Int) ∈ P)
  at' : ∀ j : Nat, j < n → L.getD j 0 = sm (fW (j : Int)) (C.take i)
theorem S1.weights {W0 w : World} {n : Nat} {P : List Int} {B : List Bool} (h : S1 W0 w W0.heap.size n P P.length B) (C : List Ch) : S2 W0 (w.alloc (.cells (ints (List.replicate n 0)).toArray 3)) W0.heap.size w.heap.size n P C 0 B (List.replicate n 0) :=
  ⟨h.u.later ((Below.refl _ _).alloc (Nat.le_refl _) _), heap_alloc_new _ _, h.b.alloc h.b.size _, h.l, by simp, fun j hj => by rw [h.at' j hj, List.take_length], fun j hj => by simp [List.getD, hj, sm]⟩
theorem S2.put {W0 w : World} {g q n : Nat} {P : List Int} {C : List Ch} {i a : Nat} {x : Int} {B : List Bool} {L : List Int} (h : S2 W0 w g q n P C i B L) (hg : W0.heap.size ≤ g) (hq : W0.heap.size ≤ q) (hgq : g ≠ q) (hi : i < C.length) (hc : C.getD i (0, 0, 0) = (x, 0, (a : Int))) (han : a < n) (h0 : sm (fW (a : Int)) (C.take i) = 0) : S2 W0 (w.setCell ⟨q, a, none⟩ (.int .i64 x)) g q n P C (i + 1) B (L.set a x) := by
  refine ⟨h.u.other hgq, h.v.set x, h.b.setCell hq _, h.lb, by rw [List.length_set]; exact h.ll, h.bt, fun j hj => ?_⟩
  rw [set_get _ (by rw [h.ll]; exact han), sm_step hi, hc]
  by_cases e : j = a
  · subst e
    rw [if_pos rfl, h0]
    simp [fW]
  · rw [if_neg e, h.at' j hj]
    have : ¬ (a : Int) = (j : Int) := by omega
    simp [fW, this]
theorem S2.later {W0 w w' : World} {g q n : Nat} {P : List Int} {C : List Ch} {i : Nat} {B : List Bool} {L : List Int} (h : S2 W0 w g q n P C i B L) (hb : Below w.heap.size w w') : S2 W0 w' g q n P C i B L :=
  ⟨h.u.later hb, h.v.later hb, h.b.trans (hb.mono h.b.size), h.lb, h.ll, h.bt, h.at'⟩

/-- How great sums are. -/
theorem sums_in {r P : List Int} {C : List Ch} {cn cd : Nat} (h : ShOk r P C cn cd) (i : Nat) : (0 ≤ sm (fO P) (C.take i) ∧ sm (fO P) (C.take i) ≤ 8192) ∧ (0 ≤ sm fA (C.take i) ∧ sm fA (C.take i) ≤ 8192) := by
  have hl := h.cl
  have hm : ∀ c ∈ C.take i, 1 ≤ c.1 ∧ c.1 ≤ 2048 := fun c hc => by
    obtain ⟨j, hj, e⟩ := List.getElem_of_mem (List.mem_of_mem_take hc)
    obtain ⟨x, a, h1, h2, _⟩ := h.cm j hj
    have e2 : C.getD j (0, 0, 0) = c := by rw [← e]; simp [List.getD, hj]
    rw [← e2, h1]; exact h2
  have hlen : (C.take i).length ≤ 4 := by rw [List.length_take]; omega
  have h1 := sm_in (f := fO P) (b := 2048) (C := C.take i) (fun c hc => by have := hm c hc; unfold fO; split <;> omega)
  have h2 := sm_in (f := fA) (b := 2048) (C := C.take i) (fun c hc => by have := hm c hc; unfold fA; omega)
  omega

end Go.Proofs.Ytcpgoaombabfjaa

namespace Go.Proofs.Ytcpgoaombabfjaa
open Go Go.RowKit
attribute [local go_sem ↓] appI_rw

set_option maxRecDepth 100000 in
set_option maxHeartbeats 8000000 in
theorem coinShares_any {W : World} {ao bo co : Option Addr} {n m k cap dap eap : Nat} {l s t : List Int} (hl : Ix W (.slice ao n cap) l) (hs : Ix W (.slice bo m dap) s) (ht : Ix W (.slice co k eap) t) :
    Calls Try.prog 5 #[.agg #[.slice ao n cap, .slice bo m dap, .slice co k eap]] W fun e w' => e = .returned (.bool true) ∧ Below W.heap.size W w' := by
  have hb : Below W.heap.size W (W.alloc (.cells #[.slice ao n cap, .slice bo m dap, .slice co k eap] 24)) := (Below.refl _ _).alloc (Nat.le_refl _) _
  have x0 : CsBox (W.alloc (.cells #[.slice ao n cap, .slice bo m dap, .slice co k eap] 24)) W.heap.size (.slice ao n cap) (.slice bo m dap) (.slice co k eap) := heap_alloc_new _ _
  have HBX := Lib.hid hb
  have HS := Lib.hid (sanity_any (W := W.alloc (.cells #[.slice ao n cap, .slice bo m dap, .slice co k eap] 24)))
  have HCC : Hid (∀ w, Below (W.alloc (.cells #[.slice ao n cap, .slice bo m dap, .slice co k eap] 24)).heap.size (W.alloc (.cells #[.slice ao n cap, .slice bo m dap, .slice co k eap] 24)) w → w.cell? ⟨W.heap.size, 0, none⟩ = some (.slice ao n cap) ∧ w.cell? ⟨W.heap.size, 1, none⟩ = some (.slice bo m dap) ∧ w.cell? ⟨W.heap.size, 2, none⟩ = some (.slice co k eap)) := Lib.hid (fun w hb => by
    have h : CsBox w W.heap.size (.slice ao n cap) (.slice bo m dap) (.slice co k eap) := (hb.block _ (Array.getElem?_eq_some_iff.1 x0).1).trans x0
    exact ⟨cell_of_row _ _ _ _ _ _ h, cell_of_row _ _ _ _ _ _ h, cell_of_row _ _ _ _ _ _ h⟩)
  have HCA := Lib.hid (fun w (hbw : Below (W.alloc (.cells #[.slice ao n cap, .slice bo m dap, .slice co k eap] 24)).heap.size (W.alloc (.cells #[.slice ao n cap, .slice bo m dap, .slice co k eap] 24)) w) => case_any (W := w) (hl.below (hb.trans (hbw.mono hb.size))) (hs.below (hb.trans (hbw.mono hb.size))) (ht.below (hb.trans (hbw.mono hb.size))))
  clear hl hs ht hb x0
  go_enter Try.func5, Try.ntmps5
  go_wp2_with (first
    | (go_at_call 9; (with_reducible refine HS.out.mono ?_); rintro e w1 ⟨rfl, hb1⟩; have HB1 := Lib.hid hb1; obtain ⟨c0, c1, c2⟩ := HCC.out _ hb1; clear hb1)
    | (go_at_call 10; (with_reducible refine (HCA.out _ HB1.out).mono ?_); rintro e w2 ⟨ar, nr, cr, r, cn, cd, so, ns, cs, row, tt, nt, ct, row2, rfl, hix, hok, hrw, hb2⟩; have HIX := Lib.hid hix; have HOK := Lib.hid hok; have HRW := Lib.hid hrw; have HB2 := Lib.hid (HBX.out.trans ((HB1.out.trans (hb2.mono HB1.out.size)).mono HBX.out.size)); clear hix hok hrw hb2 c0 c1 c2))
  have HD0 : Hid (DBox (w2.alloc (.cells #[.int .i64 4, .slice ar nr cr, .slice none 0 0, .int .i64 0, .int .i64 (cn : Int), .int .i64 (cd : Int)] 30)) w2.heap.size 4 (.slice ar nr cr) (cn : Int) (cd : Int)) := Lib.hid (dbox_is w2 4 (.slice ar nr cr) cn cd)
  have HB0 : Hid (Below W.heap.size W (w2.alloc (.cells #[.int .i64 4, .slice ar nr cr, .slice none 0 0, .int .i64 0, .int .i64 (cn : Int), .int .i64 (cd : Int)] 30))) := Lib.hid (HB2.out.alloc HB2.out.size _)
  have hbd := dbox_below w2 4 (.slice ar nr cr) cn cd
  have HI0 : Hid (Ix (w2.alloc (.cells #[.int .i64 4, .slice ar nr cr, .slice none 0 0, .int .i64 0, .int .i64 (cn : Int), .int .i64 (cd : Int)] 30)) (.slice ar nr cr) r ∧ Ix (w2.alloc (.cells #[.int .i64 4, .slice ar nr cr, .slice none 0 0, .int .i64 0, .int .i64 (cn : Int), .int .i64 (cd : Int)] 30)) (.slice so ns cs) row ∧ Ix (w2.alloc (.cells #[.int .i64 4, .slice ar nr cr, .slice none 0 0, .int .i64 0, .int .i64 (cn : Int), .int .i64 (cd : Int)] 30)) (.slice tt nt ct) row2) := Lib.hid ⟨HIX.out.1.below hbd, HIX.out.2.1.below hbd, HIX.out.2.2.below hbd⟩
  clear hbd
  generalize (w2.alloc (.cells #[.int .i64 4, .slice ar nr cr, .slice none 0 0, .int .i64 0, .int .i64 (cn : Int), .int .i64 (cd : Int)] 30)) = W0 at HD0 HB0 HI0 ⊢
  generalize w2.heap.size = Bd at HD0 ⊢
  have HNR := Lib.hid HI0.out.1.size
  have hn2 : 2 ≤ nr := by have := HOK.out.l2; have := HNR.out; omega
  have hn4 : nr ≤ 4 := by have := HOK.out.l4; have := HNR.out; omega
  have HRR := Lib.hid HOK.out.rr
  clear HIX HB2 HB1 HS HCA HCC HBX
  obtain ⟨P, hP⟩ : ∃ P, P = prfV r row row2 := ⟨_, rfl⟩
  obtain ⟨C, hC⟩ : ∃ C, C = chV r row row2 (cn : Int) (cd : Int) := ⟨_, rfl⟩
  have HSO : Hid (ShOk r P C cn cd) := Lib.hid (by rw [hP, hC]; exact shares_ok HOK.out HRW.out.1 HRW.out.2)
  have HCL : Hid (∀ w', Below W0.heap.size W0 w' → w'.cell? ⟨Bd, 0, none⟩ = some (.int .i64 4) ∧ w'.cell? ⟨Bd, 1, none⟩ = some (.slice ar nr cr) ∧ w'.cell? ⟨Bd, 2, none⟩ = some (.slice none 0 0) ∧ w'.cell? ⟨Bd, 3, none⟩ = some (.int .i64 0) ∧ w'.cell? ⟨Bd, 4, none⟩ = some (.int .i64 (cn : Int)) ∧ w'.cell? ⟨Bd, 5, none⟩ = some (.int .i64 (cd : Int))) := Lib.hid (fun w' hb => (HD0.out.below hb).cells)
  have HPF : Hid (∀ (w' : World) ao n cap, OwI w' W0.heap.size (.slice ao n cap) n P → Ix w' (.slice ao n cap) P) := Lib.hid (fun w' ao n cap h => h.ix (by have h1 := owI_len h; have h2 := prf_len r row row2; rw [← hP] at h2; have := HOK.out.l4; omega) (fun j => by rw [hP]; exact prf_fit HOK.out j))
  have HPC : Hid (∀ w', Below W0.heap.size W0 w' → Calls Try.prog 18 #[DV 4 (.slice ar nr cr) (cn : Int) (cd : Int), .slice so ns cs, .slice tt nt ct] w' fun e w2 => ∃ ao n cap, e = .returned (.slice ao n cap) ∧ Ix w2 (.slice ao n cap) P ∧ Below w'.heap.size w' w2) := Lib.hid (fun w' hb => by
    have h := preferred_any (HI0.out.1.below hb) (HI0.out.2.1.below hb) (HI0.out.2.2.below hb) (by have := HOK.out.l4; omega) 4 (cn : Int) (cd : Int)
    rw [← hP] at h
    exact h.mono fun e w2 h => by obtain ⟨ao, n, cap, h1, h2, h3⟩ := h; exact ⟨ao, n, cap, h1, HPF.out _ _ _ _ (owns_mono h2 hb.size), h3⟩)
  have HCH : Hid (∀ w', Below W0.heap.size W0 w' → Calls Try.prog 21 #[DV 4 (.slice ar nr cr) (cn : Int) (cd : Int), .slice so ns cs, .slice tt nt ct] w' fun e w2 => ∃ ao n cap, e = .returned (.slice ao n cap) ∧ Cx w2 (.slice ao n cap) C ∧ Below w'.heap.size w' w2) := Lib.hid (fun w' hb => by
    have h := choices_any (HI0.out.1.below hb) (HI0.out.2.1.below hb) (HI0.out.2.2.below hb) (by have := HOK.out.l4; omega) 4 cn cd (by rcases HOK.out.coin with ⟨a, b⟩ | ⟨a, b⟩ | ⟨a, b⟩ | ⟨a, b⟩ <;> omega) (by rcases HOK.out.coin with ⟨a, b⟩ | ⟨a, b⟩ | ⟨a, b⟩ | ⟨a, b⟩ <;> omega)
    refine h.mono fun e w2 h => ?_
    obtain ⟨ao, n, cap, h1, h2, h3⟩ := h
    exact ⟨ao, n, cap, h1, by rw [hC]; exact h2.cx (by have := owC_len h2; have := chV_len4 (s := row) (t := row2) HOK.out; omega) (chV_fit HOK.out), h3⟩)
  have HCD : Hid (1 ≤ cn ∧ cn ≤ 4 ∧ 1 ≤ cd ∧ cd ≤ 4) := Lib.hid (by rcases HOK.out.coin with ⟨a, b⟩ | ⟨a, b⟩ | ⟨a, b⟩ | ⟨a, b⟩ <;> omega)
  clear hP hC HPF HRW
  obtain ⟨d0, d1, d2, d3, d4, d5⟩ := HCL.out W0 (Below.refl _ _)
  go_wp2_with (first
    | (go_at_call 18; (with_reducible refine (HPC.out _ (Below.refl _ _)).mono ?_); rintro e w3 ⟨aP, nP, cP, rfl, hp, hb3⟩; have HXP := Lib.hid hp; have HB3 := Lib.hid hb3; clear d0 d1 d2 d3 d4 d5; obtain ⟨d0, d1, d2, d3, d4, d5⟩ := HCL.out _ hb3; clear hb3 hp)
    | (go_at_call 21; (with_reducible refine (HCH.out _ HB3.out).mono ?_); rintro e w4 ⟨aC, nC, cC, rfl, hc, hb4⟩; have HXC := Lib.hid hc; have HXP := Lib.hid (HXP.out.below hb4); have HB4 := Lib.hid (HB3.out.trans (hb4.mono HB3.out.size)); clear d0 d1 d2 d3 d4 d5; obtain ⟨d0, d1, d2, d3, d4, d5⟩ := HCL.out _ HB4.out; have hmk := made_bools nr (by omega) w4; clear hb4 hc))
  have HS1 : Hid (S1 w4 (w4.alloc (.cells (Array.replicate nr (Value.bool false)) 4)) w4.heap.size nr P 0 (List.replicate nr false)) := Lib.hid S1.start
  have HNP := Lib.hid HXP.out.size
  have HNC := Lib.hid HXC.out.size
  have hnP : nP ≤ 4 := by have := HNP.out; have := HSO.out.pl; have := cnt_le r r.length; have := HOK.out.l4; omega
  have hnC : nC ≤ 4 := by have := HNC.out; have := HSO.out.cl; omega
  have HC4 : Hid (∀ w', Below w4.heap.size w4 w' → w'.cell? ⟨Bd, 0, none⟩ = some (.int .i64 4) ∧ w'.cell? ⟨Bd, 1, none⟩ = some (.slice ar nr cr) ∧ w'.cell? ⟨Bd, 2, none⟩ = some (.slice none 0 0) ∧ w'.cell? ⟨Bd, 3, none⟩ = some (.int .i64 0) ∧ w'.cell? ⟨Bd, 4, none⟩ = some (.int .i64 (cn : Int)) ∧ w'.cell? ⟨Bd, 5, none⟩ = some (.int .i64 (cd : Int))) := Lib.hid (fun w' hb => HCL.out w' (HB4.out.trans (hb.mono HB4.out.size)))
  have HX4 : Hid (∀ w', Below w4.heap.size w4 w' → Ix w' (.slice ar nr cr) r ∧ Ix w' (.slice aP nP cP) P ∧ Cx w' (.slice aC nC cC) C) := Lib.hid (fun w' hb => ⟨HI0.out.1.below (HB4.out.trans (hb.mono HB4.out.size)), HXP.out.below hb, HXC.out.below hb⟩)
  have HBE : Hid (∀ w', Below w4.heap.size w4 w' → Below W.heap.size W w') := Lib.hid (fun w' hb => HB0.out.trans ((HB4.out.trans (hb.mono HB4.out.size)).mono HB0.out.size))
  generalize (w4.alloc (.cells (Array.replicate nr (Value.bool false)) 4)) = wA at HS1 ⊢
  clear HXP HXC HB3 HPC HCH HI0 HB0 HD0 hmk d0 d1 d2 d3 d4 d5
  go_loopw [11, 41] (fun _ kv wr => ∃ (k : Nat) (B : List Bool), k ≤ nP ∧ kv = .int .i64 (k : Nat) ∧ Hid (S1 w4 wr w4.heap.size nr P k B)) (fun _ kv _ => nP - (intOf kv).toNat)
  case atStart => exact ⟨0, _, by omega, rfl, HS1⟩
  case round =>
    obtain ⟨w, hw⟩ : ∃ w, w = wr := ⟨_, rfl⟩
    subst hw
    obtain ⟨k, B, hk, rfl, H1⟩ := hrel
    by_cases hkm : k = nP
    · subst hkm
      have HM : Hid (S1 w4 w w4.heap.size nr P P.length B) := Lib.hid (by have := H1.out; rwa [HNP.out] at this)
      have hmk := made_full nr (by omega) w
      have HS2 : Hid (S2 w4 (w.alloc (.cells (ints (List.replicate nr 0)).toArray 3)) w4.heap.size w.heap.size nr P C 0 B (List.replicate nr 0)) := Lib.hid (HM.out.weights C)
      have HGQ : Hid (w4.heap.size ≤ w.heap.size ∧ w4.heap.size ≠ w.heap.size) := Lib.hid ⟨HM.out.b.size, by have := HM.out.u.lt; omega⟩
      obtain ⟨d0, d1, d2, d3, d4, d5⟩ := HC4.out w HM.out.b
      clear HM H1
      go_wp2
      clear hmk d0 d1 d2 d3 d4 d5
      generalize (w.alloc (.cells (ints (List.replicate nr 0)).toArray 3)) = wB at HS2 ⊢
      generalize w.heap.size = g2 at HGQ HS2 ⊢
      go_loopw [13, 14, 17, 72] (fun ov av _ iv wr => ∃ (i : Nat) (L : List Int) (o a : Int), i ≤ nC ∧ iv = .int .i64 (i : Nat) ∧ ov = .int .i64 o ∧ av = .int .i64 a ∧ Hid (o = sm (fO P) (C.take i) ∧ a = sm fA (C.take i)) ∧ Hid (S2 w4 wr w4.heap.size g2 nr P C i B L)) (fun _ _ _ iv _ => nC - (intOf iv).toNat)
      case atStart => exact ⟨0, _, 0, 0, by omega, rfl, rfl, rfl, Lib.hid ⟨by simp [sm], by simp [sm]⟩, HS2⟩
      case round =>
        obtain ⟨w2, hw⟩ : ∃ w, w = wr := ⟨_, rfl⟩
        subst hw
        obtain ⟨i, L, o, a, hi, rfl, rfl, rfl, HSM, H2⟩ := hrel
        by_cases him : i = nC
        · subst him
          have HF := H2.out
          rw [HNC.out] at HF
          have HF2 := Lib.hid HF
          have HSE : Hid (o = sm (fO P) C ∧ a = sm fA C) := Lib.hid (by have h := HSM.out; rw [HNC.out, List.take_length] at h; exact h)
          have HAT : Hid (∀ j : Nat, j < nr → L.getD j 0 = sm (fW (j : Int)) C) := Lib.hid (fun j hj => by have h := HF.at' j hj; rwa [List.take_length] at h)
          have HBX5 : Hid (Below W.heap.size W w2) := Lib.hid (HBE.out _ HF.b)
          have HC5 : Hid (∀ w', Below w2.heap.size w2 w' → w'.cell? ⟨Bd, 0, none⟩ = some (.int .i64 4) ∧ w'.cell? ⟨Bd, 1, none⟩ = some (.slice ar nr cr) ∧ w'.cell? ⟨Bd, 2, none⟩ = some (.slice none 0 0) ∧ w'.cell? ⟨Bd, 3, none⟩ = some (.int .i64 0) ∧ w'.cell? ⟨Bd, 4, none⟩ = some (.int .i64 (cn : Int)) ∧ w'.cell? ⟨Bd, 5, none⟩ = some (.int .i64 (cd : Int))) := Lib.hid (fun w' hb => HC4.out w' (HF2.out.b.trans (hb.mono HF2.out.b.size)))
          have HX5 : Hid (∀ w', Below w2.heap.size w2 w' → Ix w' (.slice ar nr cr) r ∧ BB w' w4.heap.size B ∧ IB w' g2 L) := Lib.hid (fun w' hb => ⟨(HX4.out w' (HF2.out.b.trans (hb.mono HF2.out.b.size))).1, HF2.out.u.later hb, HF2.out.v.later hb⟩)
          have HLL : Hid (B.length = nr ∧ L.length = nr ∧ ∀ j : Nat, j < nr → B.getD j false = decide ((j : Int) ∈ P)) := Lib.hid ⟨HF.lb, HF.ll, HF.bt⟩
          have hso := sums_in HSO.out C.length
          rw [List.take_length, ← HSE.out.1, ← HSE.out.2] at hso
          have HSB := Lib.hid hso
          clear HF HF2 H2 HSM hso
          go_wp2
          obtain ⟨w5, hw5⟩ : ∃ w5, w5 = w2 := ⟨_, rfl⟩
          subst hw5
          go_loopw [15, 18, 19, 127, 140] (fun pv _ _ jv _ wr => ∃ (j : Nat) (p : Int), j ≤ nr ∧ jv = .int .i64 (j : Nat) ∧ pv = .int .i64 p ∧ Hid (p = (cnt r j : Int)) ∧ Hid (Below w5.heap.size w5 wr)) (fun _ _ _ jv _ _ => nr - (intOf jv).toNat)
          case atStart => exact ⟨0, 0, by omega, rfl, rfl, Lib.hid rfl, Lib.hid (Below.refl _ _)⟩
          case round =>
            obtain ⟨w6, hw⟩ : ∃ w, w = wr := ⟨_, rfl⟩
            subst hw
            obtain ⟨j, p, hj, rfl, rfl, HPJ, HBL⟩ := hrel
            by_cases hjm : j = nr
            · subst hjm
              have hk0 : ¬ (k : Int) = 0 := by have := HSO.out.pl; have := HNP.out; omega
              have hkp : ¬ p < (k : Int) := by have h1 := HSO.out.pl.2; have h2 := HNP.out; have h3 := HPJ.out; rw [← HNR.out] at h1; omega
              obtain ⟨d0, d1, d2, d3, d4, d5⟩ := HC5.out w6 HBL.out
              have HBF : Hid (Below W.heap.size W w6) := Lib.hid (HBX5.out.trans (HBL.out.mono HBX5.out.size))
              by_cases hf : P.length = cnt r r.length
              · have hpk : p = (k : Int) := by have h2 := HNP.out; have h3 := HPJ.out; rw [← HNR.out] at hf; omega
                have hoa : o = a := by rw [HSE.out.1, HSE.out.2]; exact HSO.out.e1 hf
                subst hpk hoa
                clear hf
                go_wp2
                go_ret
                exact ⟨rfl, HBF.out⟩
              · have hpk : (k : Int) < p := by have h1 := HSO.out.pl.2; have h2 := HNP.out; have h3 := HPJ.out; rw [← HNR.out] at hf h1; omega
                have hpk2 : ¬ (k : Int) = p := by omega
                have hoa : o * (cd : Int) = a * (cn : Int) := by rw [HSE.out.1, HSE.out.2]; exact HSO.out.e2 (by have := HSO.out.pl.2; omega)
                have hbd := mul_le_of (a := o) (b := (cd : Int)) (A := 8192) (B := 4) HSB.out.1 (by have := HCD.out; omega)
                obtain ⟨z, hz⟩ : ∃ z, z = o * (cd : Int) := ⟨_, rfl⟩
                have wz1 : IntKind.i64.wrap (o * (cd : Int)) = z := by rw [hz]; exact IntWalk.i64_in _ (by omega)
                have wz2 : IntKind.i64.wrap (a * (cn : Int)) = z := by rw [hz, hoa]; exact IntWalk.i64_in _ (by rw [← hoa]; omega)
                clear hf hoa hz hbd
                go_wp2
                go_ret
                exact ⟨rfl, HBF.out⟩
            · have hlt : j < nr := by omega
              have hltI : (j : Int) < (nr : Int) := by omega
              obtain ⟨d0, d1, d2, d3, d4, d5⟩ := HC5.out w6 HBL.out
              obtain ⟨b, off, rfl, -, -, -, hcr⟩ := (HX5.out w6 HBL.out).1.at (by omega)
              have c1 := hcr j hlt
              obtain ⟨x, hx⟩ : ∃ x, x = r.getD j 0 := ⟨_, rfl⟩
              rw [← hx] at c1
              have HP1 : Hid (0 < x → p + 1 = (cnt r (j + 1) : Int)) := Lib.hid (fun h => by rw [cnt, ← hx, if_pos h, HPJ.out]; simp)
              have HP0 : Hid (¬ 0 < x → p = (cnt r (j + 1) : Int)) := Lib.hid (fun h => by rw [cnt, ← hx, if_neg h, HPJ.out]; simp)
              have hpb : 0 ≤ p ∧ p ≤ 4 := by have h1 := HPJ.out; have h2 := cnt_le r j; omega
              have HX := Lib.hid hx
              clear hcr hx
              by_cases hp : 0 < x
              · have wp : IntKind.i64.wrap (p + 1) = p + 1 := IntWalk.i64_in _ (by omega)
                have HPN : Hid (p + 1 = (cnt r (j + 1) : Int)) := Lib.hid (HP1.out hp)
                go_upto_region 30 with fail
                clear c1 d0 d1 d2 d3 d4 d5
                go_wp2
                go_loopw [19, 140] (fun _ iv wr => ∃ (e : Nat), e ≤ nr ∧ iv = .int .i64 (e : Nat) ∧ Hid (Below w5.heap.size w5 wr)) (fun _ iv _ => nr - (intOf iv).toNat)
                case atStart => exact ⟨0, by omega, rfl, HBL⟩
                case round =>
                  obtain ⟨w8, hw⟩ : ∃ w, w = wr := ⟨_, rfl⟩
                  subst hw
                  obtain ⟨e, he, rfl, HBM⟩ := hrel
                  by_cases hem : e = nr
                  · subst hem
                    go_wp2
                    go_roundw
                    case rel => exact ⟨j + 1, _, by omega, by go_num, rfl, HPN, HBM⟩
                    case measure => simp [intOf]; omega
                  · have hlE : e < nr := by omega
                    have hlEI : (e : Int) < (nr : Int) := by omega
                    obtain ⟨d0, d1, d2, d3, d4, d5⟩ := HC5.out w8 HBM.out
                    have hxx := HX5.out w8 HBM.out
                    obtain ⟨b', off', he', -, -, -, hcr⟩ := hxx.1.at (by omega)
                    cases he'
                    have r1 := hcr j hlt
                    have r2 := hcr e hlE
                    have b1 := hxx.2.1.cell (k := j) (by rw [HLL.out.1]; exact hlt)
                    have b2 := hxx.2.1.cell (k := e) (by rw [HLL.out.1]; exact hlE)
                    have l1 := hxx.2.2.cell (k := j) (by rw [HLL.out.2.1]; exact hlt)
                    have l2 := hxx.2.2.cell (k := e) (by rw [HLL.out.2.1]; exact hlE)
                    rw [HLL.out.2.2 j hlt] at b1
                    rw [HLL.out.2.2 e hlE] at b2
                    rw [← HX.out] at r1
                    obtain ⟨y, hy⟩ : ∃ y, y = r.getD e 0 := ⟨_, rfl⟩
                    rw [← hy] at r2
                    obtain ⟨u1, hu1⟩ : ∃ u, u = L.getD j 0 := ⟨_, rfl⟩
                    obtain ⟨u2, hu2⟩ : ∃ u, u = L.getD e 0 := ⟨_, rfl⟩
                    rw [← hu1] at l1
                    rw [← hu2] at l2
                    have hub : 0 ≤ u1 * y ∧ u1 * y ≤ 2048 * 3 := mul_le_of (by rw [hu1, HAT.out j hlt]; exact HSO.out.wb j (by have := HNR.out; omega)) (by rw [hy]; exact HRR.out e)
                    have huc : 0 ≤ u2 * x ∧ u2 * x ≤ 2048 * 3 := mul_le_of (by rw [hu2, HAT.out e hlE]; exact HSO.out.wb e (by have := HNR.out; omega)) (by rw [HX.out]; exact HRR.out j)
                    clear hcr hxx
                    by_cases hpj : (j : Int) ∈ P
                    · by_cases hpe : (e : Int) ∈ P
                      · rw [decide_eq_true hpj] at b1
                        rw [decide_eq_true hpe] at b2
                        have hz := HSO.out.w j e (by have := HNR.out; omega) (by have := HNR.out; omega) (by simp [hpj, hpe])
                        rw [← HAT.out j hlt, ← HAT.out e hlE, ← HX.out, ← hy, ← hu1, ← hu2] at hz
                        obtain ⟨z, hzz⟩ : ∃ z, z = u1 * y := ⟨_, rfl⟩
                        have wz1 : IntKind.i64.wrap (u1 * y) = z := by rw [hzz]; exact IntWalk.i64_in _ (by omega)
                        have wz2 : IntKind.i64.wrap (u2 * x) = z := by rw [hzz, hz]; exact IntWalk.i64_in _ (by rw [← hz]; omega)
                        clear hz hzz
                        clear hu1 hu2 hy hpj hpe hub huc
                        go_upto_region 33 with fail
                        go_quiet (fail)
                        go_wp2
                        go_roundw
                        case rel => exact ⟨e + 1, by omega, by go_num, Lib.hid (HBM.out.trans ⟨rfl, rfl, rfl, Nat.le_refl _, fun _ _ => rfl⟩)⟩
                        case measure => simp [intOf]; omega
                      · rw [decide_eq_true hpj] at b1
                        rw [decide_eq_false hpe] at b2
                        clear hu1 hu2 hy hpj hpe hub huc
                        go_upto_region 33 with fail
                        go_quiet (fail)
                        go_wp2
                        go_roundw
                        case rel => exact ⟨e + 1, by omega, by go_num, Lib.hid (HBM.out.trans ⟨rfl, rfl, rfl, Nat.le_refl _, fun _ _ => rfl⟩)⟩
                        case measure => simp [intOf]; omega
                    · by_cases hpe : (e : Int) ∈ P
                      · rw [decide_eq_false hpj] at b1
                        rw [decide_eq_true hpe] at b2
                        clear hu1 hu2 hy hpj hpe hub huc
                        go_upto_region 33 with fail
                        go_quiet (fail)
                        go_wp2
                        go_roundw
                        case rel => exact ⟨e + 1, by omega, by go_num, Lib.hid (HBM.out.trans ⟨rfl, rfl, rfl, Nat.le_refl _, fun _ _ => rfl⟩)⟩
                        case measure => simp [intOf]; omega
                      · rw [decide_eq_false hpj] at b1
                        rw [decide_eq_false hpe] at b2
                        have hz := HSO.out.w j e (by have := HNR.out; omega) (by have := HNR.out; omega) (by simp [hpj, hpe])
                        rw [← HAT.out j hlt, ← HAT.out e hlE, ← HX.out, ← hy, ← hu1, ← hu2] at hz
                        obtain ⟨z, hzz⟩ : ∃ z, z = u1 * y := ⟨_, rfl⟩
                        have wz1 : IntKind.i64.wrap (u1 * y) = z := by rw [hzz]; exact IntWalk.i64_in _ (by omega)
                        have wz2 : IntKind.i64.wrap (u2 * x) = z := by rw [hzz, hz]; exact IntWalk.i64_in _ (by rw [← hz]; omega)
                        clear hz hzz
                        clear hu1 hu2 hy hpj hpe hub huc
                        go_upto_region 33 with fail
                        go_quiet (fail)
                        go_wp2
                        go_roundw
                        case rel => exact ⟨e + 1, by omega, by go_num, Lib.hid (HBM.out.trans ⟨rfl, rfl, rfl, Nat.le_refl _, fun _ _ => rfl⟩)⟩
                        case measure => simp [intOf]; omega
              · have HPN : Hid (p = (cnt r (j + 1) : Int)) := Lib.hid (HP0.out hp)
                obtain ⟨p', hp'⟩ : ∃ p', p' = p := ⟨_, rfl⟩
                rw [← hp'] at HPN ⊢
                clear hp'
                go_upto_region 30 with fail
                clear c1 d0 d1 d2 d3 d4 d5
                go_wp2
                go_loopw [19, 140] (fun _ iv wr => ∃ (e : Nat), e ≤ nr ∧ iv = .int .i64 (e : Nat) ∧ Hid (Below w5.heap.size w5 wr)) (fun _ iv _ => nr - (intOf iv).toNat)
                case atStart => exact ⟨0, by omega, rfl, HBL⟩
                case round =>
                  obtain ⟨w8, hw⟩ : ∃ w, w = wr := ⟨_, rfl⟩
                  subst hw
                  obtain ⟨e, he, rfl, HBM⟩ := hrel
                  by_cases hem : e = nr
                  · subst hem
                    go_wp2
                    go_roundw
                    case rel => exact ⟨j + 1, _, by omega, by go_num, rfl, HPN, HBM⟩
                    case measure => simp [intOf]; omega
                  · have hlE : e < nr := by omega
                    have hlEI : (e : Int) < (nr : Int) := by omega
                    obtain ⟨d0, d1, d2, d3, d4, d5⟩ := HC5.out w8 HBM.out
                    have hxx := HX5.out w8 HBM.out
                    obtain ⟨b', off', he', -, -, -, hcr⟩ := hxx.1.at (by omega)
                    cases he'
                    have r1 := hcr j hlt
                    have r2 := hcr e hlE
                    have b1 := hxx.2.1.cell (k := j) (by rw [HLL.out.1]; exact hlt)
                    have b2 := hxx.2.1.cell (k := e) (by rw [HLL.out.1]; exact hlE)
                    have l1 := hxx.2.2.cell (k := j) (by rw [HLL.out.2.1]; exact hlt)
                    have l2 := hxx.2.2.cell (k := e) (by rw [HLL.out.2.1]; exact hlE)
                    rw [HLL.out.2.2 j hlt] at b1
                    rw [HLL.out.2.2 e hlE] at b2
                    rw [← HX.out] at r1
                    obtain ⟨y, hy⟩ : ∃ y, y = r.getD e 0 := ⟨_, rfl⟩
                    rw [← hy] at r2
                    obtain ⟨u1, hu1⟩ : ∃ u, u = L.getD j 0 := ⟨_, rfl⟩
                    obtain ⟨u2, hu2⟩ : ∃ u, u = L.getD e 0 := ⟨_, rfl⟩
                    rw [← hu1] at l1
                    rw [← hu2] at l2
                    have hub : 0 ≤ u1 * y ∧ u1 * y ≤ 2048 * 3 := mul_le_of (by rw [hu1, HAT.out j hlt]; exact HSO.out.wb j (by have := HNR.out; omega)) (by rw [hy]; exact HRR.out e)
                    have huc : 0 ≤ u2 * x ∧ u2 * x ≤ 2048 * 3 := mul_le_of (by rw [hu2, HAT.out e hlE]; exact HSO.out.wb e (by have := HNR.out; omega)) (by rw [HX.out]; exact HRR.out j)
                    clear hcr hxx
                    by_cases hpj : (j : Int) ∈ P
                    · by_cases hpe : (e : Int) ∈ P
                      · rw [decide_eq_true hpj] at b1
                        rw [decide_eq_true hpe] at b2
                        have hz := HSO.out.w j e (by have := HNR.out; omega) (by have := HNR.out; omega) (by simp [hpj, hpe])
                        rw [← HAT.out j hlt, ← HAT.out e hlE, ← HX.out, ← hy, ← hu1, ← hu2] at hz
                        obtain ⟨z, hzz⟩ : ∃ z, z = u1 * y := ⟨_, rfl⟩
                        have wz1 : IntKind.i64.wrap (u1 * y) = z := by rw [hzz]; exact IntWalk.i64_in _ (by omega)
                        have wz2 : IntKind.i64.wrap (u2 * x) = z := by rw [hzz, hz]; exact IntWalk.i64_in _ (by rw [← hz]; omega)
                        clear hz hzz
                        clear hu1 hu2 hy hpj hpe hub huc
                        go_upto_region 33 with fail
                        go_quiet (fail)
                        go_wp2
                        go_roundw
                        case rel => exact ⟨e + 1, by omega, by go_num, Lib.hid (HBM.out.trans ⟨rfl, rfl, rfl, Nat.le_refl _, fun _ _ => rfl⟩)⟩
                        case measure => simp [intOf]; omega
                      · rw [decide_eq_true hpj] at b1
                        rw [decide_eq_false hpe] at b2
                        clear hu1 hu2 hy hpj hpe hub huc
                        go_upto_region 33 with fail
                        go_quiet (fail)
                        go_wp2
                        go_roundw
                        case rel => exact ⟨e + 1, by omega, by go_num, Lib.hid (HBM.out.trans ⟨rfl, rfl, rfl, Nat.le_refl _, fun _ _ => rfl⟩)⟩
                        case measure => simp [intOf]; omega
                    · by_cases hpe : (e : Int) ∈ P
                      · rw [decide_eq_false hpj] at b1
                        rw [decide_eq_true hpe] at b2
                        clear hu1 hu2 hy hpj hpe hub huc
                        go_upto_region 33 with fail
                        go_quiet (fail)
                        go_wp2
                        go_roundw
                        case rel => exact ⟨e + 1, by omega, by go_num, Lib.hid (HBM.out.trans ⟨rfl, rfl, rfl, Nat.le_refl _, fun _ _ => rfl⟩)⟩
                        case measure => simp [intOf]; omega
                      · rw [decide_eq_false hpj] at b1
                        rw [decide_eq_false hpe] at b2
                        have hz := HSO.out.w j e (by have := HNR.out; omega) (by have := HNR.out; omega) (by simp [hpj, hpe])
                        rw [← HAT.out j hlt, ← HAT.out e hlE, ← HX.out, ← hy, ← hu1, ← hu2] at hz
                        obtain ⟨z, hzz⟩ : ∃ z, z = u1 * y := ⟨_, rfl⟩
                        have wz1 : IntKind.i64.wrap (u1 * y) = z := by rw [hzz]; exact IntWalk.i64_in _ (by omega)
                        have wz2 : IntKind.i64.wrap (u2 * x) = z := by rw [hzz, hz]; exact IntWalk.i64_in _ (by rw [← hz]; omega)
                        clear hz hzz
                        clear hu1 hu2 hy hpj hpe hub huc
                        go_upto_region 33 with fail
                        go_quiet (fail)
                        go_wp2
                        go_roundw
                        case rel => exact ⟨e + 1, by omega, by go_num, Lib.hid (HBM.out.trans ⟨rfl, rfl, rfl, Nat.le_refl _, fun _ _ => rfl⟩)⟩
                        case measure => simp [intOf]; omega
        · have hlt : i < nC := by omega
          have hltI : (i : Int) < (nC : Int) := by omega
          obtain ⟨bC, oC, rfl, -, -, hcc⟩ := (HX4.out w2 H2.out.b).2.2.at (by omega)
          obtain ⟨x, q, hq, hx, hqn, hz⟩ := HSO.out.cm i (by have := HNC.out; omega)
          obtain ⟨e1, e2, e3⟩ := hcc i hlt
          rw [hq] at e1 e2 e3
          have hqr : q < nr := by have := HNR.out; omega
          have hqI : (q : Int) < (nr : Int) := by omega
          have hqN : ¬ (nr : Int) ≤ (q : Int) := by omega
          have hq0 : ¬ (q : Int) < 0 := by omega
          have hx1 : ¬ x < 1 := by omega
          obtain ⟨wx, hwx⟩ : ∃ wx, wx = w2.alloc (.cells #[.int .i64 x, .int .i64 0, .int .i64 (q : Int)] 51) := ⟨_, rfl⟩
          have hba : Below w2.heap.size w2 wx := by rw [hwx]; exact (Below.refl _ _).alloc (Nat.le_refl _) _
          have HBX : Hid (CBox wx w2.heap.size (x, 0, (q : Int))) := Lib.hid (by rw [hwx]; exact heap_alloc_new _ _)
          have HX2 := Lib.hid (H2.out.later hba)
          rw [hwx] at HBX HX2
          have HC2 := Lib.hid (HC4.out w2 H2.out.b)
          have HR2 := Lib.hid ((HX4.out w2 H2.out.b).1)
          have HQ := Lib.hid hq
          have HZ := Lib.hid hz
          have HS3 : Hid (∀ w', S2 w4 w' w4.heap.size g2 nr P C i B L → S2 w4 (w'.setCell ⟨g2, q, none⟩ (.int .i64 x)) w4.heap.size g2 nr P C (i + 1) B (L.set q x)) := Lib.hid (fun w' h => h.put (Nat.le_refl _) HGQ.out.1 HGQ.out.2 (by have := HNC.out; omega) hq hqr hz)
          have hsO := sm_step (f := fO P) (C := C) (i := i) (by have := HNC.out; omega)
          have hsA := sm_step (f := fA) (C := C) (i := i) (by have := HNC.out; omega)
          rw [hq] at hsO hsA
          have hbO := (sums_in HSO.out i)
          have hbO2 := (sums_in HSO.out (i + 1))
          rw [hsO, hsA, ← HSM.out.1, ← HSM.out.2] at hbO2
          rw [← HSM.out.1, ← HSM.out.2] at hbO
          have hl0 := H2.out.at' q hqr
          rw [hz] at hl0
          have HL0 := Lib.hid hl0
          have wa : IntKind.i64.wrap (a + x) = a + x := IntWalk.i64_in _ (by have := hbO2.2; simp [fA] at this; omega)
          have HSA : Hid (a + x = sm fA (C.take (i + 1))) := Lib.hid (by rw [hsA, ← HSM.out.2]; rfl)
          have HSO1 : Hid ((q : Int) ∈ P → o + x = sm (fO P) (C.take (i + 1)) ∧ IntKind.i64.wrap (o + x) = o + x) := Lib.hid (fun hm => ⟨by rw [hsO, ← HSM.out.1]; simp [fO, hm], IntWalk.i64_in _ (by have := hbO2.1; simp [fO, hm] at this; omega)⟩)
          have HSO0 : Hid (¬ (q : Int) ∈ P → o = sm (fO P) (C.take (i + 1))) := Lib.hid (fun hm => by rw [hsO, ← HSM.out.1]; simp [fO, hm])
          clear hba hwx wx hcc hq hz hsO hsA hbO hbO2 hl0
          go_upto_region 18 with fail
          clear e1 e2 e3
          have HD2 := Lib.hid (HC4.out _ HX2.out.b)
          have HR3 := Lib.hid ((HX4.out _ HX2.out.b).1)
          generalize (w2.alloc (.cells #[.int .i64 x, .int .i64 0, .int .i64 (q : Int)] 51)) = wx at HBX HX2 HD2 HR3 ⊢
          have hbq : w2.heap.size ≠ g2 := by have := H2.out.v.lt; omega
          generalize w2.heap.size = bx at HBX hbq ⊢
          obtain ⟨x0, x1, x2⟩ := HBX.out.cells
          obtain ⟨d0, d1, d2, d3, d4, d5⟩ := HD2.out
          have cl := HX2.out.v.cell (k := q) (by rw [HX2.out.ll]; exact hqr)
          have fl := HX2.out.v.free q
          have ll := HX2.out.v.lt
          rw [HL0.out] at cl
          have HX3 := Lib.hid (HS3.out _ HX2.out)
          have HXB : Hid (CBox (wx.setCell ⟨g2, q, none⟩ (.int .i64 x)) bx (x, 0, (q : Int))) := Lib.hid ((Below.heap_setCell _ _ _ _ (by simpa using hbq)).trans HBX.out)
          go_upto_region 21 with fail
          clear x0 x1 x2 d0 d1 d2 d3 d4 d5 cl fl ll
          generalize (wx.setCell ⟨g2, q, none⟩ (.int .i64 x)) = wy at HX3 HXB ⊢
          obtain ⟨x0, x1, x2⟩ := HXB.out.cells
          have cb := HX3.out.u.cell (k := q) (by rw [HX3.out.lb]; exact hqr)
          rw [HX3.out.bt q hqr] at cb
          by_cases hm : (q : Int) ∈ P
          · rw [decide_eq_true hm] at cb
            have wo := (HSO1.out hm).2
            have HSM2 : Hid (o + x = sm (fO P) (C.take (i + 1)) ∧ a + x = sm fA (C.take (i + 1))) := Lib.hid ⟨(HSO1.out hm).1, HSA.out⟩
            go_wp2
            go_roundw
            case rel => exact ⟨i + 1, _, _, _, by omega, by go_num, rfl, rfl, HSM2, HX3⟩
            case measure => simp [intOf]; omega
          · rw [decide_eq_false hm] at cb
            have HSM2 : Hid (o = sm (fO P) (C.take (i + 1)) ∧ a + x = sm fA (C.take (i + 1))) := Lib.hid ⟨HSO0.out hm, HSA.out⟩
            go_wp2
            go_roundw
            case rel => exact ⟨i + 1, _, _, _, by omega, by go_num, rfl, rfl, HSM2, HX3⟩
            case measure => simp [intOf]; omega
    · have hlt : k < nP := by omega
      have hltI : (k : Int) < (nP : Int) := by omega
      obtain ⟨bP, oP, rfl, -, -, -, hcp⟩ := (HX4.out w H1.out.b).2.1.at (by omega)
      obtain ⟨b, off, rfl, -, -, -, hcr⟩ := (HX4.out w H1.out.b).1.at (by omega)
      obtain ⟨d0, d1, d2, d3, d4, d5⟩ := HC4.out w H1.out.b
      obtain ⟨a, ha, ha2, ha3⟩ := HSO.out.pm k (by have := HNP.out; omega)
      have c1 := hcp k hlt
      rw [ha] at c1
      have han : a < nr := by have := HNR.out; omega
      have c2 := hcr a han
      obtain ⟨x, hx⟩ : ∃ x, x = r.getD a 0 := ⟨_, rfl⟩
      rw [← hx] at c2 ha3
      have hx0 : ¬ x = 0 := by omega
      have ha0 : ¬ (a : Int) < 0 := by omega
      have haI : (a : Int) < (nr : Int) := by omega
      have haN : ¬ (nr : Int) ≤ (a : Int) := by omega
      have cu := H1.out.u.cell (k := a) (by rw [H1.out.l]; exact han)
      have fu := H1.out.u.free a
      have lu := H1.out.u.lt
      have HN : Hid (S1 w4 (w.setCell ⟨w4.heap.size, a, none⟩ (.bool true)) w4.heap.size nr P (k + 1) (B.set a true)) := Lib.hid (H1.out.put (by have := HNP.out; omega) ha han)
      clear hcp hcr ha ha3 hx H1
      go_wp2
      go_roundw
      case rel => exact ⟨k + 1, _, by omega, by go_num, HN⟩
      case measure => simp [intOf]; omega

end Go.Proofs.Ytcpgoaombabfjaa

namespace Go.Proofs.Ytcpgoaombabfjaa
open Go.ChangeShapes Go.WideShapes Go.ChangeAt Go.RowKit

set_option maxRecDepth 100000 in
theorem coinShares_lifted (os : Os) (started : os.Started) (H : Type) (enc : TypeId × Value → H) :
    ReturnsInHanded {} Try.checked os 5 .any (Rows.coinSharesSpec.pre6 enc Try.prog Try.f5 Rows.coinSharesRow.domain false) (Rows.coinSharesSpec.post enc Try.prog Try.f5 false true false false) := by
  refine returnsInHanded_of_change (C := Try.checked) own started (by kernel_rfl) Try.func5
    (ChangeSpec.witness6 (enc := enc) (C := Try.checked) false ⟨#[], #[.agg #[.slice none 0 0, .slice none 0 0, .slice none 0 0]], []⟩ 8 (by kernel_rfl) (by kernel_rfl) (by kernel_rfl) (by kernel_rfl)) ?_
  intro W base args ds gs before hval0 hW hcnd _
  have hval : ∀ (j : Nat) t v, Try.f5.params[j]? = some t → args[j]? = some v → Value.okWide Try.prog W .any base t v := hval0
  have hW' := hW
  obtain ⟨p, q, hA0, hV, rfl, hfz, hnd⟩ := hW
  have hA : DataW.TrodAll enc Try.prog W 0 (fun _ => true) true Try.f5.params.toList args.toList ds p := hA0
  rw [Try.params5] at hA hval
  obtain ⟨v0, vs0, d0, ds0, p0, q0, hargs, rfl, rfl, h0, r0⟩ := trodAll_cons hA
  obtain ⟨rfl, rfl, rfl⟩ := trodAll_nil r0
  obtain rfl : args = #[v0] := by cases args; simp_all
  obtain ⟨rfl, rfl⟩ := trodVars_none hV
  have k0 := h0
  have lt0 : ∀ x ∈ p0, x.block < W.heap.size := by obtain ⟨m, hm⟩ := k0; exact DataW.trod_lt m _ _ _ hm
  obtain ⟨ao0, bo0, co0, n0, m0, k0_, cap0, dap0, eap0, l0, s0, t0, rfl, X0, Y0, Z0⟩ := open_case (hval 0 24 v0 rfl rfl) h0
  clear hA0 hval0
  try simp only [List.append_nil] at hW'
  refine (coinShares_any X0 Y0 Z0).mono fun e W' ⟨he, bel⟩ => ?_
  subst he
  exact ⟨_, rfl, _, _, _, [], _, [], hW', trodAll_mk1 (shut_bool Try.underlying4 _), (trodAll_cons_mk (Below.trod laidOut (by kernel_rfl) (of_decide_eq_true (by kernel_rfl)) k0 bel lt0) trodAll_mk0), rfl, bel.frame _, fun h => by cases h⟩

theorem coinShares_over : Rows.coinSharesRow.holds Try.pinned (OpenSpec.ofChange Rows.coinSharesSpec) :=
  OpenClaim.holds_of_wide 5 Try.f5 rfl rfl rfl rfl rfl rfl rfl ⟨rfl, rfl, rfl, rfl, rfl⟩ rfl rfl rfl rfl rfl (by kernel_rfl) Try.func5 (by kernel_rfl)
    (of_decide_eq_true (by kernel_rfl)) (by unfold Func.isWrapper; first | (rw [if_pos (by decide +kernel)]; kernel_rfl) | (rw [if_neg (by decide +kernel)]; exact ⟨rfl, rfl⟩))
    (fun os started H enc _ => coinShares_lifted os started H enc)

/-- The statement. -/
theorem coinShares_holds : Rows.CoinSharesSaid := coinShares_over

end Go.Proofs.Ytcpgoaombabfjaa
