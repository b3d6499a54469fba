/- Contract of urn: Next, of a choice that can be drawn. Condition: the slices read as ints, at most eight each. -/
import Derived.Test.YtmpopbkhmkkhgaaI
namespace Go.Proofs.Ytmpopbkhmkkhgaa
open Go.RowKit Go.Shelf
attribute [local go_sem] Oper.semAt_some

theorem run_store_func {P : Program} {w : World} {a : Addr} {m : Mode} (f : Fn) (x y : Array Value) : (store a (.func f x y) m).run P w = stored P w a (.func f x y) m := run_store P w a _ m rfl
attribute [local go_sem] run_store_func

/-- What is added to an arm. -/
def addA (a : Int) (arm k : Int) : Int := if k = arm then 0 else a

set_option maxRecDepth 10000 in
set_option maxHeartbeats 1000000 in
theorem added_any {W : World} {Bc Bd : Nat} {x y z kd a : Int} {vr : Value} (hc : CBox W Bc (x, y, z)) (hd : DBox W Bd kd vr a) (k : Int) :
    Calls Try.prog 31 #[.int .i64 k, .pointer (some ⟨Bc, 0, none⟩), .pointer (some ⟨Bd, 0, none⟩)] W fun e w' => e = .returned (.int .i64 (addA a z k)) ∧ w' = W := by
  obtain ⟨-, -, c2⟩ := hc.cells
  obtain ⟨-, -, -, c3, -, -⟩ := hd.cells
  simp only at c2
  clear hc hd
  unfold addA
  by_cases h : k = z
  · rw [if_pos h]
    subst h
    go_enter Try.func31, Try.ntmps31
    go_wp2
    go_ret
    exact ⟨rfl, rfl⟩
  · rw [if_neg h]
    go_enter Try.func31, Try.ntmps31
    go_wp2
    go_ret
    exact ⟨rfl, rfl⟩

/-- What holds when the first k arms have got what is added. -/
def NxJ (W Wx : World) (g cap n : Nat) (r : List Int) (a arm : Int) (b : List Int) (k : Nat) (W' : World) : Prop :=
  Below W.heap.size W W' ∧ Wx.heap.size ≤ W'.heap.size ∧ (∀ j, j < Wx.heap.size → j ≠ g → W'.heap[j]? = Wx.heap[j]?) ∧ OwI W' W.heap.size (.slice (some ⟨g, 0, none⟩) n cap) n (addV r a arm b k)

theorem nxJ_own {W Wx : World} {g cap n : Nat} {r : List Int} {a arm : Int} {b : List Int} (hB : W.heap.size ≤ Wx.heap.size) : OwnFrom Wx.heap.size (NxJ W Wx g cap n r a arm b) := by
  rintro k W1 W' row ⟨h1, h2, h3, h5⟩ hg hr
  have hsz := hg.size
  have hne : ∀ j, j < Wx.heap.size → row ≠ some j := fun j hj e => by have := (hr j e).1; omega
  refine ⟨h1.grown hg h1.size (fun j e => Nat.le_trans hB (hr j e).1), by omega, fun j hj hjq => (grown_block hg (by omega) (hne j hj)).trans (h3 j hj hjq), owns_same h5 fun g' hg' => ?_⟩
  refine grown_block hg (own_lt h5 hg').2 fun e => ?_
  obtain ⟨o, ho, hc⟩ := own_cells h5 hg'
  obtain ⟨_, o', ho', hc'⟩ := hr g' e
  rw [ho] at ho'
  cases ho'
  rw [hc] at hc'
  cases hc'

theorem nxJ_skip {W Wx : World} {g cap n : Nat} {r : List Int} {a arm : Int} {b : List Int} {k : Nat} {W' : World} (h : ¬ 0 < r.getD k 0) (hJ : NxJ W Wx g cap n r a arm b k W') : NxJ W Wx g cap n r a arm b (k + 1) W' := by
  obtain ⟨h1, h2, h3, h5⟩ := hJ
  refine ⟨h1, h2, h3, ?_⟩
  rw [addV_same (fun hc => h hc.1)]
  exact h5

theorem nxJ_step {W Wx : World} {g cap n : Nat} {r : List Int} {a arm : Int} {b : List Int} {k : Nat} {W' : World} (hJ : NxJ W Wx g cap n r a arm b k W') (hk : k < n) (hg : W.heap.size ≤ g ∧ g < Wx.heap.size) (hr : 0 < r.getD k 0) :
    W'.drew.cell? ⟨g, k, none⟩ = some (.int .i64 (b.getD k 0)) ∧ W'.drew.frozen? ⟨g, k, none⟩ = false ∧ NxJ W Wx g cap n r a arm b (k + 1) (W'.drew.setCell ⟨g, k, none⟩ (.int .i64 (b.getD k 0 + addA a arm k))) ∧ KeepsFrom Wx.heap.size W' (W'.drew.setCell ⟨g, k, none⟩ (.int .i64 (b.getD k 0 + addA a arm k))) := by
  obtain ⟨h1, h2, h3, h5⟩ := hJ
  have hnl := owI_len h5
  rw [addV_len] at hnl
  obtain ⟨g', cap', e, hcp, hg1, hg2, hgc, hfr, hset⟩ := h5.parts (by omega)
  injection e with e _ _; injection e with e; injection e with e _; subst e
  have hc := hgc k hk
  rw [addV_get (by omega)] at hc
  have e0 : addN r a arm b k k = b.getD k 0 := by unfold addN; rw [if_neg (by omega)]
  rw [e0] at hc
  have hs := hset k (b.getD k 0 + addA a arm k) hk
  have e1 : b.getD k 0 + addA a arm k = addN r a arm b (k + 1) k := by
    unfold addN addA
    by_cases he : (k : Int) = arm
    · rw [if_pos he, if_neg (fun h => h.2.2 he)]; omega
    · rw [if_neg he, if_pos ⟨by omega, hr, he⟩]
  rw [addV_set (by omega) e1] at hs
  refine ⟨hc, hfr k, ⟨?_, ?_, ?_, hs⟩, ?_⟩
  · exact (h1.trans (Below.refl _ _).drew).setCell hg.1 _
  · show Wx.heap.size ≤ (W'.heap.modify _ _).size
    rw [Array.size_modify]; exact h2
  · intro j hj hjq
    rw [Below.heap_setCell _ _ _ _ (by simp only; omega)]
    exact h3 j hj hjq
  · refine ⟨by show W'.heap.size ≤ (W'.heap.modify _ _).size; rw [Array.size_modify]; exact Nat.le_refl _, fun j o hj ho hc => ?_⟩
    rw [Below.heap_setCell _ _ _ _ (by simp only; omega)]
    exact ho

theorem own_at {W : World} {B n : Nat} {v : Value} {l : List Int} (h : OwI W B v n l) (hn : n ≠ 0) : ∃ g cap, v = .slice (some ⟨g, 0, none⟩) n cap ∧ B ≤ g ∧ g < W.heap.size := by
  obtain ⟨g, cap, e, _, h1, h2, _⟩ := h.parts hn
  exact ⟨g, cap, e, h1, h2⟩

def nxCh : List (Nat × Nat) := [(8, 6), (8, 7), (7, 0), (7, 1), (6, 2), (6, 5), (5, 3), (5, 4)]

theorem spotless' {W : World} {b off : Nat} {v : Value} (h : W.cell? ⟨b, off, none⟩ = some v) : b < W.heap.size := by
  unfold World.cell? at h
  cases hb : W.heap[b]? with
  | none => simp only [hb] at h; cases h
  | some o => exact (Array.getElem?_eq_some_iff.1 hb).1

theorem addV_fit {r b : List Int} {a arm : Int} {n : Nat} (hin : inB 0 1048576 b = true) (ha : 0 ≤ a ∧ a ≤ 8) (k : Nat) : I64 ((addV r a arm b n).getD k 0) := by
  by_cases hk : k < b.length
  · rw [addV_get hk]
    have := (inB_iff.1 hin) k hk
    unfold addN
    split
    · exact ⟨by omega, by omega⟩
    · exact ⟨by omega, by omega⟩
  · rw [show (addV r a arm b n).getD k 0 = 0 by rw [List.getD, List.getElem?_eq_none (by rw [addV_len]; omega)]; rfl]
    decide

set_option maxRecDepth 100000 in
set_option maxHeartbeats 8000000 in
theorem next_yes {W : World} {ar aw : Option Addr} {nr cr nw cw : Nat} {r row : List Int} (hr : Ix W (.slice ar nr cr) r) (hw : Ix W (.slice aw nw cw) row) (lr : r.length ≤ 8) (lw : row.length ≤ 8) (kd : Int) {a x y z : Int} (hc : (x, y, z) ∈ chV r a row) :
    Calls Try.prog 18 #[DV kd (.slice ar nr cr) a, .slice aw nw cw, .agg #[.int .i64 x, .int .i64 y, .int .i64 z]] W fun e w' => ∃ ao n cap, e = .returned (.tuple #[.slice ao n cap, .bool (inB 0 1048576 (allV r a row z))]) ∧ OwI w' W.heap.size (.slice ao n cap) n (if inB 0 1048576 (allV r a row z) = true then allV r a row z else []) ∧ Below W.heap.size W w' := by
  have HB := Lib.hid (Below.refl (nbox W kd (.slice ar nr cr) a x y z).heap.size (nbox W kd (.slice ar nr cr) a x y z))
  have HCH := Lib.hid (fun W' (hb : Below (nbox W kd (.slice ar nr cr) a x y z).heap.size (nbox W kd (.slice ar nr cr) a x y z) W') => choices_any (hr.below (nbox_up hb)) (hw.below (nbox_up hb)) lr lw kd a)
  have HBA := Lib.hid (fun W' (hb : Below (nbox W kd (.slice ar nr cr) a x y z).heap.size (nbox W kd (.slice ar nr cr) a x y z) W') => balls_any (hr.below (nbox_up hb)) (hw.below (nbox_up hb)) lr lw kd a)
  have HCO := Lib.hid (fun W' v (B n : Nat) (h : OwC W' B v n (chV r a row)) => contains_any (h.chx lr) x y z)
  rw [decide_eq_true hc] at HCO
  have HCF := Lib.hid (ch_facts hc)
  have HIN := Lib.hid (balV_in (r := r) (row := row) (a := a))
  have HKP := Lib.hid (fun W' (hb : Below (nbox W kd (.slice ar nr cr) a x y z).heap.size (nbox W kd (.slice ar nr cr) a x y z) W') => nbox_flat hb)
  obtain ⟨k0, k1, k2, k3, k4, k5, k6, k7, k8⟩ := HKP.out _ HB.out
  have HX := Lib.hid hr
  have HNR := Lib.hid hr.size
  have HLR := Lib.hid lr
  have hb0 : 0 < (balV r a row).length := by obtain ⟨j, h1, _⟩ := HCF.out; omega
  unfold allV
  obtain ⟨b, hb⟩ : ∃ b, b = balV r a row := ⟨_, rfl⟩
  rw [← hb] at HBA HCF HIN hb0 ⊢
  have HB0 := Lib.hid hb0
  obtain ⟨L, hL⟩ : ∃ L, L = addV r a z b b.length := ⟨_, rfl⟩
  rw [← hL]
  obtain ⟨R, hR⟩ : ∃ R, R = inB 0 1048576 L := ⟨_, rfl⟩
  rw [← hR]
  obtain ⟨F, hF⟩ : ∃ F, F = (if R = true then L else []) := ⟨_, rfl⟩
  rw [← hF]
  have HL := Lib.hid hL
  have HR := Lib.hid hR
  have HF := Lib.hid hF
  clear hL hR hF
  clear hr hw hc lr lw hb hb0
  refine (callsIn_wide (n := 6)).1 ?_
  refine callsIn_of_wp_marks Try.func18 rfl trivial ?_ rfl
  simp only [Try.ntmps18, List.size_toArray, List.length_cons, List.length_nil, Nat.reduceAdd, Nat.reduceSub, Array.replicate_succ, Array.replicate_zero, List.push_toArray, List.append_toArray, List.nil_append, List.cons_append]
  refine wpIn_wide.2 ?_
  go_wp2
  go_region_held3 (fun W' => W'.cell? ⟨W.heap.size, 0, none⟩ = some (.int .i64 kd) ∧ W'.cell? ⟨W.heap.size, 1, none⟩ = some (.slice ar nr cr) ∧ W'.cell? ⟨W.heap.size, 2, none⟩ = some (.slice none 0 0) ∧ W'.cell? ⟨W.heap.size, 3, none⟩ = some (.int .i64 a) ∧ W'.cell? ⟨W.heap.size, 4, none⟩ = some (.int .i64 0) ∧ W'.cell? ⟨W.heap.size, 5, none⟩ = some (.int .i64 0) ∧ W'.cell? ⟨W.heap.size + 1, 0, none⟩ = some (.int .i64 x) ∧ W'.cell? ⟨W.heap.size + 1, 1, none⟩ = some (.int .i64 y) ∧ W'.cell? ⟨W.heap.size + 1, 2, none⟩ = some (.int .i64 z))
    (first | (with_reducible exact HKP.out _ HB3.out) | (with_reducible exact HKP.out _ HB2.out) | (with_reducible exact HKP.out _ HB.out) | (exact HKP.out _ HB.out.drew))
    ((first
    | (go_at_call 17; (refine (HCH.out _ HB.out.drew).mono ?_); rintro e w1 ⟨ao1, n1, cap1, rfl, ho, hb⟩; have HO := Lib.hid ho; have HB2 := Lib.hid (HB.out.drew.trans (hb.mono HB.out.drew.size)); clear ho hb)
    | (go_at_call 30; (with_reducible refine (HCO.out _ _ _ _ HO.out).mono ?_); rintro e w2 ⟨rfl, hb2⟩; have HB3 := Lib.hid (HB2.out.trans (hb2.mono HB2.out.size)); clear hb2)))
  clear k0 k1 k2 k3 k4 k5 k6 k7 k8
  obtain ⟨k0, k1, k2, k3, k4, k5, k6, k7, k8⟩ := HKP.out _ HB3.out
  have hz2 := HB3.out.size
  have hz3 := nbox_size W kd (.slice ar nr cr) a x y z
  have hlt1 : W.heap.size < w2.heap.size := by omega
  have hlt2 : W.heap.size + 1 < w2.heap.size := by omega
  clear hz2 hz3
  go_wp2_with (first
    | (go_at_call 13; (refine (HBA.out _ (HB3.out.alloc HB3.out.size _)).mono ?_); rintro e w3 ⟨ab, nb, cb, rfl, ho, hb⟩; have hnb : nb ≠ 0 := (by have := owI_len ho; have := HB0.out; omega); obtain ⟨g, cb2, eg, hg1, hg2⟩ := own_at ho hnb; injection eg with eg1 _ eg3; subst eg1 eg3; have hf3 : w3.heap[w2.heap.size]? = some (.cells #[.func (.func 31) #[] #[.pointer (some ⟨W.heap.size + 1, 0, none⟩), .pointer (some ⟨W.heap.size, 0, none⟩)]] 59 (0, 0)) := (hb.block _ (by simp)).trans (heap_alloc_new _ _); have HO3 := Lib.hid ho; have HB4 := Lib.hid ((HB3.out.alloc HB3.out.size _).trans (hb.mono (HB3.out.alloc HB3.out.size _).size)); have HF3 := Lib.hid hf3; have HG := Lib.hid (And.intro hg1 (And.intro hg2 hb)); clear k0 k1 k2 k3 k4 k5 k6 k7 k8 hg1 hg2 hnb ho hf3; obtain ⟨k0, k1, k2, k3, k4, k5, k6, k7, k8⟩ := HKP.out _ HB4.out; have hlt3 : W.heap.size < w3.heap.size := Nat.lt_of_lt_of_le hlt1 (Nat.le_trans (by simp) hb.size); clear hb)
    | (go_at_call 29; (refine (inUse_k (W := w3.alloc (.cells #[.slice (some ⟨g, 0, none⟩) nb cb] 23))).mono ?_); rintro e w5 ⟨bB, bD, rfl, hbB, hbD, hB2, hD2, hb⟩; have HIU := Lib.hid (And.intro hbB (And.intro hbD (And.intro hB2 (And.intro hD2 hb)))); clear hbB hbD hB2 hD2 hb; clear k0 k1 k2 k3 k4 k5 k6 k7 k8))
  refine (wpIn_wide (n := 6)).1 ?_
  obtain ⟨hg1, hg2, hb23⟩ := HG.out
  obtain ⟨hbB, hbD, hB2, hD2, hb35⟩ := HIU.out
  rw [World.size_alloc] at hbB hbD hg1
  have hnl : nb = b.length := owI_len HO3.out
  have HNB := Lib.hid hnl
  have hb35' : Below w3.heap.size w3 w5 := ((Below.refl _ w3).alloc (Nat.le_refl _) _).trans (hb35.mono (by simp))
  have HB5 := Lib.hid (HB4.out.trans (hb35'.mono HB4.out.size))
  have hz5 := hb35'.size
  have hns := nbox_size W kd (.slice ar nr cr) a x y z
  have hz3 := HB3.out.size
  have hz23 := hb23.size
  rw [World.size_alloc] at hz23
  have HC5 := Lib.hid (nbox_c HB5.out)
  have HD5 := Lib.hid (nbox_d HB5.out)
  have hf5 : w5.heap[w2.heap.size]? = some (.cells #[.func (.func 31) #[] #[.pointer (some ⟨W.heap.size + 1, 0, none⟩), .pointer (some ⟨W.heap.size, 0, none⟩)]] 59 (0, 0)) := (hb35'.block _ (by omega)).trans HF3.out
  have h95 : w5.heap[w3.heap.size]? = some (.cells #[.slice (some ⟨g, 0, none⟩) nb cb] 23 (0, 0)) := (hb35.block _ (by simp)).trans (heap_alloc_new _ _)
  have hz95 := (Array.getElem?_eq_some_iff.1 h95).1
  have hO5 : OwI w5 W.heap.size (.slice (some ⟨g, 0, none⟩) nb cb) nb b := owns_mono (owns_later HO3.out hb35') (by simp; omega)
  have hI0 : NxJ W w5 g cb nb r a z b 0 w5 := ⟨nbox_up HB5.out, Nat.le_refl _, fun _ _ _ => rfl, by rw [addV_zero]; exact hO5⟩
  have HI0 := Lib.hid hI0
  have hgq : W.heap.size ≤ g ∧ g < w5.heap.size := ⟨by omega, by omega⟩
  have HGQ := Lib.hid hgq
  have hWq : W.heap.size ≤ w5.heap.size := by omega
  have HWQ := Lib.hid hWq
  obtain ⟨j0, hj1, hj2, hj3, hj4, hj5, hj6, hj7, hj8, hj9⟩ := HCF.out
  have hnr8 : nb = nr ∧ nr ≤ 8 := ⟨by have := HNR.out; omega, by have := HLR.out; have := HNR.out; omega⟩
  have HN8 := Lib.hid hnr8
  have HUS := Lib.hid (usB_iff.1 hj8)
  have hcells : ∀ (k : Nat) (W' : World), NxJ W w5 g cb nb r a z b k W' → (W'.cell? ⟨bB, 0, none⟩ = some (.slice (some ⟨g, 0, none⟩) nb cb) ∧ W'.cell? ⟨bD, 1, none⟩ = some (.slice ar nr cr)) := fun k W' h =>
    ⟨cell_of_row _ _ _ _ _ _ ((h.2.2.1 bB (Array.getElem?_eq_some_iff.1 hB2).1 (by omega)).trans hB2), cell_of_row _ _ _ _ _ _ ((h.2.2.1 bD (Array.getElem?_eq_some_iff.1 hD2).1 (by omega)).trans hD2)⟩
  have hc2 : ∀ (k : Nat) (W' : World), NxJ W w5 g cb nb r a z b k W' → k < nb → (∃ b' off, some (Addr.mk g 0 none) = some ⟨b', off, none⟩ ∧ W'.cell? ⟨b', off + k, none⟩ = some (.int .i64 (b.getD k 0))) ∧ (∃ b' off, ar = some ⟨b', off, none⟩ ∧ W'.cell? ⟨b', off + k, none⟩ = some (.int .i64 (r.getD k 0))) := fun k W' h hk => by
    obtain ⟨b', off, e4, hq, -, hbl, hcl⟩ := HX.out.at (by omega)
    obtain ⟨g', cap', e, -, -, -, hgc, -, -⟩ := h.2.2.2.parts (by omega)
    injection e with e _ _; injection e with e; injection e with e _; subst e
    have hc := hgc k hk
    rw [addV_get (by omega)] at hc
    have e0 : addN r a z b k k = b.getD k 0 := by unfold addN; rw [if_neg (by omega)]
    rw [e0] at hc
    refine ⟨⟨g, 0, rfl, by rw [Nat.zero_add]; exact hc⟩, ⟨b', off, e4, ?_⟩⟩
    exact (World.cell?_of_block (h.2.2.1 b' (Nat.lt_of_lt_of_le hbl hWq) (by omega))).trans (cell_later (nbox_up HB5.out) (hcl k (by omega)))
  have hbox : ∀ (k : Nat) (W' : World), NxJ W w5 g cb nb r a z b k W' → W'.drew.cell? ⟨w3.heap.size, 0, none⟩ = some (.slice (some ⟨g, 0, none⟩) nb cb) ∧ W'.drew.cell? ⟨w2.heap.size, 0, none⟩ = some (.func (.func 31) #[] #[.pointer (some ⟨W.heap.size + 1, 0, none⟩), .pointer (some ⟨W.heap.size, 0, none⟩)]) ∧ CBox W'.drew (W.heap.size + 1) (x, y, z) ∧ DBox W'.drew W.heap.size kd (.slice ar nr cr) a := fun k W' h =>
    ⟨cell_of_row _ _ _ _ _ _ ((h.2.2.1 _ hz95 (by omega)).trans h95), cell_of_row _ _ _ _ _ _ ((h.2.2.1 _ (by omega) (by omega)).trans hf5), (h.2.2.1 _ (by omega) (by omega)).trans HC5.out, (h.2.2.1 _ (by omega) (by omega)).trans HD5.out⟩
  have HCL := Lib.hid hcells
  have HC2 := Lib.hid hc2
  have HBX := Lib.hid hbox
  have HIB := Lib.hid (inB_iff.1 HIN.out)
  clear hcells hc2 hbox hI0 hO5 hgq hWq hnr8 hnl hb35' hz5 hns hz3 hz23 hf5 h95 hz95 hj1 hj2 hj3 hj4 hj5 hj6 hj7 hj8 hj9 hg1 hg2 hb23 hbB hbD hB2 hD2 hb35 hlt1 hlt2 hlt3 j0
  refine rangeFunc_steps rfl (by omega) (gf := 33) (lb := #[.pointer (some ⟨bB, 0, none⟩), .pointer (some ⟨bD, 0, none⟩)]) rfl trivial (enters_of Try.func33 (by kernel_rfl) rfl)
    (inUse_steps Fence.wide 5 trivial rfl (by omega) bB bD nb cb nr cr (some ⟨g, 0, none⟩) ar b r (by have := HN8.out; omega) (by have := HN8.out; omega) (by have := HN8.out; omega) (NxJ W w5 g cb nb r a z b) HCL.out HC2.out (fun k W' hk hu h => nxJ_skip hu h)) (fun _ => rfl)
    (nxJ_own HWQ.out) HI0.out
    (fun k => { tmps := #[DV kd (.slice ar nr cr) a, .slice aw nw cw, .agg #[.int .i64 x, .int .i64 y, .int .i64 z], .pointer (some ⟨W.heap.size, 0, none⟩), undef, .pointer (some ⟨W.heap.size + 1, 0, none⟩), .slice none 0 0, .bool false, .pointer (some ⟨w2.heap.size, 0, none⟩), .pointer (some ⟨w3.heap.size, 0, none⟩), .int .i64 (k : Int), .int .i64 (b.getD k 0), DV kd (.slice ar nr cr) a, .slice aw nw cw, .slice ao1 n1 cap1, .agg #[.int .i64 x, .int .i64 y, .int .i64 z], .bool true, .bool false, .func (.func 31) #[] #[.pointer (some ⟨W.heap.size + 1, 0, none⟩), .pointer (some ⟨W.heap.size, 0, none⟩)], DV kd (.slice ar nr cr) a, .slice aw nw cw, .slice (some ⟨g, 0, none⟩) nb cb, DV kd (.slice ar nr cr) a, .slice (some ⟨g, 0, none⟩) nb cb, .func (.func 33) #[] #[.pointer (some ⟨bB, 0, none⟩), .pointer (some ⟨bD, 0, none⟩)], .int .i64 (k : Int), .int .i64 (b.getD k 0), undef, undef, undef, undef, undef, undef, undef, undef, undef, undef, undef, undef], defers := [] }) ?assign ?body ?done
  case assign =>
    intro y k W' K hK
    obtain ⟨u, hu⟩ : ∃ u, u = b.getD k 0 := ⟨_, rfl⟩
    unfold useArgs
    rw [← hu] at hK ⊢
    clear hu
    gi_wp2
    exact hK
  case body =>
    intro yl k W' hk hu hI
    obtain ⟨c9, c8, hcc, hdd⟩ := HBX.out k W' hI
    obtain ⟨hx, hfree, hJ, hKF⟩ := nxJ_step hI hk HGQ.out hu
    have HCA : Hid (∀ n, CallsIn Fence.wide n Try.prog 31 #[.int .i64 (k : Int), .pointer (some ⟨W.heap.size + 1, 0, none⟩), .pointer (some ⟨W.heap.size, 0, none⟩)] W'.drew fun e w' => e = .returned (.int .i64 (addA a z k)) ∧ w' = W'.drew) := Lib.hid (fun n => callsIn_wide.2 (added_any hcc hdd k))
    have hub := HIB.out k (by have := HNB.out; omega)
    have hvb : 0 ≤ addA a z k ∧ addA a z k ≤ 8 := by have := HUS.out; unfold addA; split <;> omega
    have HJ := Lib.hid hJ
    have HKF := Lib.hid hKF
    obtain ⟨u, huu⟩ : ∃ u, u = b.getD k 0 := ⟨_, rfl⟩
    obtain ⟨v, hvv⟩ : ∃ v, v = addA a z k := ⟨_, rfl⟩
    rw [← huu] at hx HJ HKF hub ⊢
    rw [← hvv] at HJ HKF hvb HCA
    have wk : IntKind.i64.wrap (u + v) = u + v := by rw [IntKind.wrap_i64]; omega
    have hlI : (k : Int) < (nb : Int) := by omega
    clear hub hvb huu hvv hJ hKF hI hcc hdd hu
    gi_wp2
    refine frame_namedIn ?_
    intro T hT
    obtain ⟨vals, hvals⟩ : ∃ vals : Nat → Value, vals = (fun ix => if ix = 0 then .slice (some ⟨g, 0, none⟩) nb cb else if ix = 1 then .int .i64 (k : Int) else if ix = 2 then .int .i64 u else if ix = 3 then .func (.func 31) #[] #[.pointer (some ⟨W.heap.size + 1, 0, none⟩), .pointer (some ⟨W.heap.size, 0, none⟩)] else if ix = 4 then .int .i64 (k : Int) else if ix = 5 then .int .i64 v else if ix = 6 then .int .i64 (u + v) else if ix = 7 then .pointer (some ⟨g, k, none⟩) else undef) := ⟨_, rfl⟩
    have v0 : vals 0 = .slice (some ⟨g, 0, none⟩) nb cb := by rw [hvals]; rfl
    have v1 : vals 1 = .int .i64 (k : Int) := by rw [hvals]; rfl
    have v2 : vals 2 = .int .i64 u := by rw [hvals]; rfl
    have v3 : vals 3 = .func (.func 31) #[] #[.pointer (some ⟨W.heap.size + 1, 0, none⟩), .pointer (some ⟨W.heap.size, 0, none⟩)] := by rw [hvals]; rfl
    have v4 : vals 4 = .int .i64 (k : Int) := by rw [hvals]; rfl
    have v5 : vals 5 = .int .i64 v := by rw [hvals]; rfl
    have v6 : vals 6 = .int .i64 (u + v) := by rw [hvals]; rfl
    have v7 : vals 7 = .pointer (some ⟨g, k, none⟩) := by rw [hvals]; rfl
    clear hvals
    refine region_inv (by kernel_rfl) (fun l a w' => RV W'.drew ⟨g, k, none⟩ (.int .i64 (u + v)) 8 nxCh T [some 27, some 28, some 29, some 30, some 31, some 32, some 33, some 34, none] vals l a w') ?h0v1 ?stepv1 ?finv1
    case h0v1 => exact RV.start rfl (fun i j h => by simp [nxCh] at h; simp only [List.length_cons, List.length_nil]; omega) (by decide)
    case stepv1 =>
        rintro l a w' i' hR hi'
        obtain ⟨hl0, o, ho, hdep⟩ := mem_ready.1 hi'
        have h15 : i' < 9 := by
          have := (Array.getElem?_eq_some_iff.1 ho).1
          simpa using this
        rcases (show i' = 0 ∨ i' = 1 ∨ i' = 2 ∨ i' = 3 ∨ i' = 4 ∨ i' = 5 ∨ i' = 6 ∨ i' = 7 ∨ i' = 8 by omega) with rfl | rfl | rfl | rfl | rfl | rfl | rfl | rfl | rfl
        · simp at ho
          subst ho
          simp [Region.binds] at hdep
          have k0 : a.tmps.getD 9 undef = _ := (hR.fr.kept rfl (by simp [hT])).trans (by rw [hT]; try rfl)
          have hc : ∀ j, (0, j) ∈ nxCh → l.getD j true = true := by intro j hj; simp [nxCh] at hj
          have hw' := hR.before hl0 (fun hs => (hR.dep 7 0 (by decide) (hR.dep 8 7 (by decide) hs)))
          subst hw'
          clear hi' hdep
          unfold wpOpIn
          simp [Region.wanted]
          unfold Oper.wpIn
          simp [Oper.about, execOp, go_sem, Act.eval, k0, c9]
          exact hR.op 0 27 v0 rfl (by decide) hl0 (by decide) hc
        · simp at ho
          subst ho
          simp [Region.binds] at hdep
          have k0 : a.tmps.getD 10 undef = _ := (hR.fr.kept rfl (by simp [hT])).trans (by rw [hT]; try rfl)
          have hc : ∀ j, (1, j) ∈ nxCh → l.getD j true = true := by intro j hj; simp [nxCh] at hj
          clear hi' hdep
          unfold wpOpIn
          simp [Region.wanted]
          unfold Oper.wpIn
          simp [Oper.about, execOp, go_sem, Act.eval, k0]
          exact hR.op 1 28 v1 rfl (by decide) hl0 (by decide) hc
        · simp at ho
          subst ho
          simp [Region.binds] at hdep
          have k0 : a.tmps.getD 11 undef = _ := (hR.fr.kept rfl (by simp [hT])).trans (by rw [hT]; try rfl)
          have hc : ∀ j, (2, j) ∈ nxCh → l.getD j true = true := by intro j hj; simp [nxCh] at hj
          clear hi' hdep
          unfold wpOpIn
          simp [Region.wanted]
          unfold Oper.wpIn
          simp [Oper.about, execOp, go_sem, Act.eval, k0]
          exact hR.op 2 29 v2 rfl (by decide) hl0 (by decide) hc
        · simp at ho
          subst ho
          simp [Region.binds] at hdep
          have k0 : a.tmps.getD 8 undef = _ := (hR.fr.kept rfl (by simp [hT])).trans (by rw [hT]; try rfl)
          have hc : ∀ j, (3, j) ∈ nxCh → l.getD j true = true := by intro j hj; simp [nxCh] at hj
          have hw' := hR.before hl0 (fun hs => (hR.dep 5 3 (by decide) (hR.dep 6 5 (by decide) (hR.dep 8 6 (by decide) hs))))
          subst hw'
          clear hi' hdep
          unfold wpOpIn
          simp [Region.wanted]
          unfold Oper.wpIn
          simp [Oper.about, execOp, go_sem, Act.eval, k0, c8]
          exact hR.op 3 30 v3 rfl (by decide) hl0 (by decide) hc
        · simp at ho
          subst ho
          simp [Region.binds] at hdep
          have k0 : a.tmps.getD 10 undef = _ := (hR.fr.kept rfl (by simp [hT])).trans (by rw [hT]; try rfl)
          have hc : ∀ j, (4, j) ∈ nxCh → l.getD j true = true := by intro j hj; simp [nxCh] at hj
          clear hi' hdep
          unfold wpOpIn
          simp [Region.wanted]
          unfold Oper.wpIn
          simp [Oper.about, execOp, go_sem, Act.eval, k0]
          exact hR.op 4 31 v4 rfl (by decide) hl0 (by decide) hc
        · simp at ho
          subst ho
          simp [Region.binds] at hdep
          have k0 : a.tmps.getD 30 undef = _ := (hR.fr.done (i := 3) rfl (by simp_all) (by simp [hT])).trans v3
          have k1 : a.tmps.getD 31 undef = _ := (hR.fr.done (i := 4) rfl (by simp_all) (by simp [hT])).trans v4
          have hc : ∀ j, (5, j) ∈ nxCh → l.getD j true = true := by intro j hj; simp [nxCh] at hj; rcases hj with rfl | rfl <;> exact getD_true (by simp_all)
          have hw' := hR.before hl0 (fun hs => (hR.dep 6 5 (by decide) (hR.dep 8 6 (by decide) hs)))
          subst hw'
          clear hi' hdep
          unfold wpOpIn
          simp [Region.wanted]
          unfold Oper.wpIn
          simp [Oper.about, execOp, go_sem, Act.eval, k0, k1]
          refine ⟨trivial, (CallsIn.inRound _ (HCA.out _)).mono ?_⟩
          rintro e w'' ⟨rfl, rfl⟩
          exact hR.op 5 32 v5 rfl (by decide) hl0 (by decide) hc
        · simp at ho
          subst ho
          simp [Region.binds] at hdep
          have k0 : a.tmps.getD 29 undef = _ := (hR.fr.done (i := 2) rfl (by simp_all) (by simp [hT])).trans v2
          have k1 : a.tmps.getD 32 undef = _ := (hR.fr.done (i := 5) rfl (by simp_all) (by simp [hT])).trans v5
          have hc : ∀ j, (6, j) ∈ nxCh → l.getD j true = true := by intro j hj; simp [nxCh] at hj; rcases hj with rfl | rfl <;> exact getD_true (by simp_all)
          clear hi' hdep
          unfold wpOpIn
          simp [Region.wanted]
          unfold Oper.wpIn
          simp [Oper.about, execOp, go_sem, Act.eval, k0, k1, wk]
          exact hR.op 6 33 v6 rfl (by decide) hl0 (by decide) hc
        · simp at ho
          subst ho
          simp [Region.binds] at hdep
          have k0 : a.tmps.getD 27 undef = _ := (hR.fr.done (i := 0) rfl (by simp_all) (by simp [hT])).trans v0
          have k1 : a.tmps.getD 28 undef = _ := (hR.fr.done (i := 1) rfl (by simp_all) (by simp [hT])).trans v1
          have hc : ∀ j, (7, j) ∈ nxCh → l.getD j true = true := by intro j hj; simp [nxCh] at hj; rcases hj with rfl | rfl <;> exact getD_true (by simp_all)
          clear hi' hdep
          unfold wpOpIn
          simp [Region.wanted]
          unfold Oper.wpIn
          simp [Oper.about, execOp, go_sem, Act.eval, k0, k1, hlI]
          exact hR.op 7 34 v7 rfl (by decide) hl0 (by decide) hc
        · simp at ho
          subst ho
          simp [Region.binds] at hdep
          have k0 : a.tmps.getD 34 undef = _ := (hR.fr.done (i := 7) rfl (by simp_all) (by simp [hT])).trans v7
          have k1 : a.tmps.getD 33 undef = _ := (hR.fr.done (i := 6) rfl (by simp_all) (by simp [hT])).trans v6
          have hc : ∀ j, (8, j) ∈ nxCh → l.getD j true = true := by intro j hj; simp [nxCh] at hj; rcases hj with rfl | rfl <;> exact getD_true (by simp_all)
          have hw' := hR.before hl0 (fun hs => hs)
          subst hw'
          clear hi' hdep
          unfold wpOpIn
          simp [Region.wanted]
          unfold Oper.wpIn
          simp [Oper.about, execOp, go_sem, Act.eval, k0, k1, hx, hfree]
          exact hR.store rfl hl0 hc undef
    case' finv1 =>
        rintro l a w' hR hz
        have hnot := List.eq_nil_iff_forall_not_mem.1 hz
        have hk : ∀ k, k < 9 → (l.getD k true = false → False) → l.getD k false = true := fun k h12 h => by
          have hs := hR.size
          cases h' : l.getD k true with
          | false => exact (h h').elim
          | true => simp at hs; simp [Array.getD, hs, h12] at h' ⊢; exact h'
        have st0 := hk 0 (by omega) (fun h => hnot 0 (mem_ready.2 ⟨h, _, rfl, by simp [Region.binds]⟩))
        have st1 := hk 1 (by omega) (fun h => hnot 1 (mem_ready.2 ⟨h, _, rfl, by simp [Region.binds]⟩))
        have st2 := hk 2 (by omega) (fun h => hnot 2 (mem_ready.2 ⟨h, _, rfl, by simp [Region.binds]⟩))
        have st3 := hk 3 (by omega) (fun h => hnot 3 (mem_ready.2 ⟨h, _, rfl, by simp [Region.binds]⟩))
        have st4 := hk 4 (by omega) (fun h => hnot 4 (mem_ready.2 ⟨h, _, rfl, by simp [Region.binds]⟩))
        have st5 := hk 5 (by omega) (fun h => hnot 5 (mem_ready.2 ⟨h, _, rfl, by simp [Region.binds] <;> simp_all⟩))
        have st6 := hk 6 (by omega) (fun h => hnot 6 (mem_ready.2 ⟨h, _, rfl, by simp [Region.binds] <;> simp_all⟩))
        have st7 := hk 7 (by omega) (fun h => hnot 7 (mem_ready.2 ⟨h, _, rfl, by simp [Region.binds] <;> simp_all⟩))
        have st8 := hk 8 (by omega) (fun h => hnot 8 (mem_ready.2 ⟨h, _, rfl, by simp [Region.binds] <;> simp_all⟩))
        have hall : ∀ i, i < 9 → l.getD i true = true := fun i hi => by
          rcases (show i = 0 ∨ i = 1 ∨ i = 2 ∨ i = 3 ∨ i = 4 ∨ i = 5 ∨ i = 6 ∨ i = 7 ∨ i = 8 by omega) with rfl | rfl | rfl | rfl | rfl | rfl | rfl | rfl | rfl
          · exact getD_true st0
          · exact getD_true st1
          · exact getD_true st2
          · exact getD_true st3
          · exact getD_true st4
          · exact getD_true st5
          · exact getD_true st6
          · exact getD_true st7
          · exact getD_true st8
        clear st0 st1 st2 st3 st4 st5 st6 st7 st8 hk hnot hz
        have hTs : T.size = 39 := by rw [hT]; rfl
        obtain ⟨ha, hw'⟩ := hR.all (T' := ((((((((T.setIfInBounds 27 (vals 0)).setIfInBounds 28 (vals 1)).setIfInBounds 29 (vals 2)).setIfInBounds 30 (vals 3)).setIfInBounds 31 (vals 4)).setIfInBounds 32 (vals 5)).setIfInBounds 33 (vals 6)).setIfInBounds 34 (vals 7))) (fun i hi => hall i (by simpa using hi)) (by decide) (by simp) (fun j hj => by
          by_cases h1 : j = 27 ∨ j = 28 ∨ j = 29 ∨ j = 30 ∨ j = 31 ∨ j = 32 ∨ j = 33 ∨ j = 34
          · rcases h1 with rfl | rfl | rfl | rfl | rfl | rfl | rfl | rfl <;> simp [rv_sets, tOwn, List.findIdx?, List.findIdx?.go, hTs]
          · simp only [not_or] at h1
            obtain ⟨m27, m28, m29, m30, m31, m32, m33, m34⟩ := h1
            have e : tOwn [some 27, some 28, some 29, some 30, some 31, some 32, some 33, some 34, none] vals j = none := by
              unfold tOwn
              simp [List.findIdx?, List.findIdx?.go, Ne.symm m27, Ne.symm m28, Ne.symm m29, Ne.symm m30, Ne.symm m31, Ne.symm m32, Ne.symm m33, Ne.symm m34]
            rw [e]
            simp only [rv_sets]
            repeat rw [if_neg (by omega)])
        subst ha hw'
        clear hR hall hTs
        rw [v0, v1, v2, v3, v4, v5, v6, v7, hT]
        simp only [List.setIfInBounds_toArray, List.set_cons_succ, List.set_cons_zero]
        clear v0 v1 v2 v3 v4 v5 v6 v7 vals hT T
    gi_wp2
    exact ⟨HKF.out, HJ.out⟩
  case done =>
    intro D W' hD hI hK
    have HI := Lib.hid hI
    have HK := Lib.hid hK
    have HDD := Lib.hid hD
    have hwn : W'.heap.size ≤ W'.heap.size := Nat.le_refl _
    obtain ⟨c9, -, -, -⟩ := HBX.out _ W' hI
    have c9 : W'.cell? ⟨w3.heap.size, 0, none⟩ = some (.slice (some ⟨g, 0, none⟩) nb cb) := c9
    have h9l : w3.heap.size < W'.heap.size := by
      have := spotless' c9; exact this
    have HWI := Lib.hid (within_any (hI.2.2.2.ix (by have := HN8.out; omega) (addV_fit HIN.out HUS.out.2.2)) 0 1048576)
    have HO := Lib.hid hI.2.2.2
    clear hI hK hD hwn
    have hL2 : addV r a z b nb = L := by rw [HL.out, HNB.out]
    rw [hL2] at HWI HO
    clear hL2
    rw [← HR.out] at HWI
    cases R with
    | true =>
      go_wp2_with (go_at_call 32; (with_reducible refine HWI.out.mono ?_); rintro e w6 ⟨rfl, hb6⟩; have c9 := cell_later hb6 c9; have HB6 := Lib.hid hb6; clear hb6)
      have hK6 := (HB6.out.block D (Array.getElem?_eq_some_iff.1 HK.out).1).trans HK.out
      have hwq := HWQ.out
      have hdd := HDD.out
      have hB6 := HI.out.1.trans (HB6.out.mono HI.out.1.size)
      refine ⟨by simp, .inl ⟨_, _, rfl, run_takeDeferred hK6, ?_⟩⟩
      exact ⟨_, results_tmp2 rfl _ _ _, some ⟨g, 0, none⟩, nb, cb, rfl, by rw [HF.out]; simp only [if_true]; exact owns_put (owns_later HO.out HB6.out) hK6, hB6.grown (grownBy_putObj' _ D _) hB6.size (fun j e => by cases e; omega)⟩
    | false =>
      go_wp2_with (go_at_call 32; (with_reducible refine HWI.out.mono ?_); rintro e w6 ⟨rfl, hb6⟩; have c9 := cell_later hb6 c9; have HB6 := Lib.hid hb6; clear hb6)
      have hK6 := (HB6.out.block D (Array.getElem?_eq_some_iff.1 HK.out).1).trans HK.out
      have hwq := HWQ.out
      have hdd := HDD.out
      have hB6 := HI.out.1.trans (HB6.out.mono HI.out.1.size)
      refine ⟨by simp, .inl ⟨_, _, rfl, run_takeDeferred hK6, ?_⟩⟩
      exact ⟨_, results_tmp2 rfl _ _ _, none, 0, 0, rfl, by rw [HF.out]; simp only [if_false, Bool.false_eq_true]; exact World.ownsRow_nil _ _ _ _, hB6.grown (grownBy_putObj' _ D _) hB6.size (fun j e => by cases e; omega)⟩

end Go.Proofs.Ytmpopbkhmkkhgaa
