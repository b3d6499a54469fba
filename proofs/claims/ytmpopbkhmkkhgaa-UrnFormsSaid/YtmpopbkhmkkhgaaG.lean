/- Contract of urn: Choices. Condition: the slices read as ints, at most eight each. -/
import Derived.Test.YtmpopbkhmkkhgaaF
import Derived.Deep.RegionHeld3
import Derived.Deep.RegionLaw
namespace Go.Proofs.Ytmpopbkhmkkhgaa
open Go.RowKit Go.Shelf
attribute [local go_sem] Oper.semAt_some

theorem balV_len {r row : List Int} {a : Int} : (balV r a row).length = 0 ∨ (balV r a row).length = r.length := by
  unfold balV
  split
  · rename_i h
    split
    · exact .inr rfl
    · rename_i h0
      have := (Bool.and_eq_true _ _).mp h
      have h2 := this.2
      unfold fitB at h2
      rw [decide_eq_false h0, Bool.false_or] at h2
      have := (Bool.and_eq_true _ _).mp h2
      exact .inr (by simpa using this.1)
  · exact .inl rfl

theorem balV_in {r row : List Int} {a : Int} : inB 0 1048576 (balV r a row) = true := by
  unfold balV
  split
  · rename_i h
    obtain ⟨h1, h2⟩ := (Bool.and_eq_true _ _).mp h
    split
    · unfold usB at h1
      have h3 : inB 0 8 r = true := by simp at h1; exact h1.1.2
      rw [inB_iff] at h3 ⊢
      intro k hk
      have := h3 k hk
      omega
    · rename_i h0
      unfold fitB at h2
      rw [decide_eq_false h0, Bool.false_or] at h2
      exact ((Bool.and_eq_true _ _).mp h2).2
  · rfl

theorem grown_block {w w' : World} {row : Option Nat} (hg : w.grownBy w' row) {k : Nat} (hk : k < w.heap.size) (hne : row ≠ some k) : w'.heap[k]? = w.heap[k]? :=
  hg.block k hk (fun e => hne e.symm)
theorem owns_same {e : TypeId} {size : Nat} {W W' : World} {B n : Nat} {v : Value} {xs : List Value} (h : W.ownsRow B e size v n xs) (hb : ∀ g, v.ownBlock = some g → W'.heap[g]? = W.heap[g]?) : W'.ownsRow B e size v n xs := by
  refine ⟨h.1, ?_⟩
  rcases h.2 with h | ⟨g, cap, cur, h1, h2, h3, h4⟩
  · exact .inl h
  · exact .inr ⟨g, cap, cur, h1, h2, (hb g (by rw [h1]; rfl)).trans h3, h4⟩
theorem own_lt {e : TypeId} {size : Nat} {W : World} {B n : Nat} {v : Value} {xs : List Value} (h : W.ownsRow B e size v n xs) {g : Nat} (hg : v.ownBlock = some g) : B ≤ g ∧ g < W.heap.size := h.lt g hg
/-- The own block is one of cells. -/
theorem own_cells {e : TypeId} {size : Nat} {W : World} {B n : Nat} {v : Value} {xs : List Value} (h : W.ownsRow B e size v n xs) {g : Nat} (hg : v.ownBlock = some g) : ∃ o : Obj, W.heap[g]? = some o ∧ o.isCells = true := by
  rcases h.2 with ⟨hv, _⟩ | ⟨g', cap, cur, h1, h2, h3, h4⟩
  · rw [hv] at hg; cases hg
  · rw [h1] at hg
    have e : g' = g := by simpa [Value.ownBlock] using hg
    subst e
    exact ⟨_, h3, rfl⟩

/-- What is owned is owned when what is deferred is taken. -/
theorem owns_put {e : TypeId} {size : Nat} {W : World} {B n : Nat} {v : Value} {xs : List Value} {D : Nat} {o' : Obj} {l : Option (List Deferred)} (h : W.ownsRow B e size v n xs) (hD : W.heap[D]? = some (.deferred l)) : (W.putObj D o').ownsRow B e size v n xs :=
  owns_same h fun g hg => World.putObj_heap_other (fun e => by
    obtain ⟨o, ho, hc⟩ := own_cells h hg
    subst e
    rw [hD] at ho
    cases ho
    cases hc)

/-- What holds when the first k arms have been looked at. -/
def ChJ (W Wx : World) (q : Nat) (r b : List Int) (k : Nat) (W' : World) : Prop :=
  Below W.heap.size W W' ∧ Wx.heap.size ≤ W'.heap.size ∧ (∀ j, j < Wx.heap.size → j ≠ q → W'.heap[j]? = Wx.heap[j]?) ∧ ∃ ao m cap, W'.heap[q]? = some (.cells #[.slice ao m cap] 38 (0, 0)) ∧ OwC W' Wx.heap.size (.slice ao m cap) m (cho r b k)

theorem chJ_own {W Wx : World} {q : Nat} {r b : List Int} (hB : W.heap.size ≤ Wx.heap.size) (hq : q < Wx.heap.size) : OwnFrom Wx.heap.size (ChJ W Wx q r b) := by
  rintro k W1 W' row ⟨h1, h2, h3, ao, m, cap, h4, h5⟩ hg hr
  have hsz := hg.size
  have hne : ∀ j, j < Wx.heap.size → row ≠ some j := fun j hj e => by have := (hr j e).1; omega
  refine ⟨h1.grown hg h1.size (fun j e => Nat.le_trans hB (hr j e).1), by omega, fun j hj hjq => (grown_block hg (by omega) (hne j hj)).trans (h3 j hj hjq), ao, m, cap, (grown_block hg (by omega) (hne q hq)).trans h4, owns_same h5 fun g hg' => ?_⟩
  refine grown_block hg (own_lt h5 hg').2 fun e => ?_
  obtain ⟨o, ho, hc⟩ := own_cells h5 hg'
  obtain ⟨_, o', ho', hc'⟩ := hr g e
  rw [ho] at ho'
  cases ho'
  rw [hc] at hc'
  cases hc'

theorem chJ_skip {W Wx : World} {q : Nat} {r b : List Int} {k : Nat} {W' : World} (h : ¬ (0 < r.getD k 0 ∧ 0 < b.getD k 0)) (hJ : ChJ W Wx q r b k W') : ChJ W Wx q r b (k + 1) W' := by
  obtain ⟨h1, h2, h3, ao, m, cap, h4, h5⟩ := hJ
  refine ⟨h1, h2, h3, ao, m, cap, h4, ?_⟩
  rw [cho, if_neg h, List.append_nil]
  exact h5

theorem chJ_step {W Wx : World} {q : Nat} {r b : List Int} {k : Nat} {W' : World} (hJ : ChJ W Wx q r b k W') (hq : W.heap.size ≤ q ∧ q < Wx.heap.size) (hk : k ≤ 1000) (hr : 0 < r.getD k 0) (hb : 0 < b.getD k 0) :
    ∃ ao m cap g cap2 w2, W'.cell? ⟨q, 0, none⟩ = some (.slice ao m cap) ∧ q < W'.heap.size ∧ Sem.run Try.prog (appC 38 #[.slice ao m cap, .slice (some ⟨W'.heap.size, 0, none⟩) 1 1]) (W'.alloc (.cells #[.int .i64 (b.getD k 0), .int .i64 0, .int .i64 (k : Int)] 29)) = .ok (.slice (some ⟨g, 0, none⟩) (m + 1) cap2) w2 ∧ w2.cell? ⟨q, 0, none⟩ = some (.slice ao m cap) ∧ w2.frozen? ⟨q, 0, none⟩ = false ∧ ChJ W Wx q r b (k + 1) (w2.setCell ⟨q, 0, none⟩ (.slice (some ⟨g, 0, none⟩) (m + 1) cap2)) ∧ KeepsFrom Wx.heap.size W' (w2.setCell ⟨q, 0, none⟩ (.slice (some ⟨g, 0, none⟩) (m + 1) cap2)) := by
  obtain ⟨h1, h2, h3, ao, m, cap, h4, h5⟩ := hJ
  have hm := owC_len h5
  have hml := cho_len r b k
  obtain ⟨g, cap2, w2, hrun, hown, hbl, hgr, hg, hgl⟩ := push_choice h5 (by omega) h2 (b.getD k 0) 0 (k : Int)
  have hneq : ∀ j, j < Wx.heap.size → (Value.slice ao m cap).ownBlock ≠ some j := fun j hj e => by have := (own_lt h5 e).1; omega
  have hkeep : ∀ j, j < W'.heap.size → (Value.slice ao m cap).ownBlock ≠ some j → w2.heap[j]? = W'.heap[j]? := fun j hj hne => by
    rw [grown_block hgr (by rw [World.size_alloc]; omega) hne]
    exact Below.heap_alloc W' _ j hj
  have hd := (hkeep q (by omega) (hneq q hq.2)).trans h4
  have hsz := hbl.size
  have hgB := (own_lt hown (g := g) rfl).1
  refine ⟨ao, m, cap, g, cap2, w2, cell_of_row _ _ _ _ _ _ h4, by omega, hrun, cell_of_row _ _ _ _ _ _ hd, frozen_of_row _ _ _ _ _ hd, ⟨?_, ?_, ?_, _, _, _, heap_setCell_same _ _ _ _ _ _ hd, ?_⟩, ?_⟩
  · exact ((h1.trans (hbl.mono (by omega))).setCell hq.1 _)
  · simp only [World.setCell, Array.size_modify]; omega
  · intro j hj hjq
    rw [Below.heap_setCell _ _ _ _ (by simp only; omega), hkeep j (by omega) (hneq j hj)]
    exact h3 j hj hjq
  · rw [cho, if_pos ⟨hr, hb⟩]
    exact owns_same hown fun k' hk' => Below.heap_setCell _ _ _ _ (by
      have e : g = k' := by simpa [Value.ownBlock] using hk'
      simp only; omega)
  · refine ⟨by simp only [World.setCell, Array.size_modify]; omega, fun j o hj ho hc => ?_⟩
    have hjl := (Array.getElem?_eq_some_iff.1 ho).1
    rw [Below.heap_setCell _ _ _ _ (by simp only; omega), hkeep j hjl (fun e => ?_)]
    · exact ho
    · obtain ⟨o', ho', hc'⟩ := own_cells h5 e
      rw [ho] at ho'; cases ho'; rw [hc] at hc'; cases hc'

theorem inUse_k {W : World} {kd : Int} {vr : Value} {a : Int} {ab : Option Addr} {nb cb : Nat} :
    Calls Try.prog 29 #[DV kd vr a, .slice ab nb cb] W fun e w' => ∃ bB bD, e = .returned (.func (.func 33) #[] #[.pointer (some ⟨bB, 0, none⟩), .pointer (some ⟨bD, 0, none⟩)]) ∧ W.heap.size ≤ bB ∧ W.heap.size ≤ bD ∧ w'.heap[bB]? = some (.cells #[.slice ab nb cb] 23 (0, 0)) ∧ DBox w' bD kd vr a ∧ Below W.heap.size W w' := by
  refine inUse_any.mono fun e w' ⟨h1, h2⟩ => ?_
  subst h2
  refine ⟨_, _, h1, by omega, by omega, ?_, DBox.below (dbox_is W kd vr a) ((Below.refl _ _).alloc (Nat.le_refl _) _), (dbox_below W kd vr a).alloc (by simp) _⟩
  have := heap_alloc_new (dbox W kd vr a) (.cells #[.slice ab nb cb] 23)
  rwa [dbox_size] at this

/-- The two boxes of Choices. -/
abbrev lbox (W : World) (kd : Int) (vr : Value) (a : Int) : World := (dbox W kd vr a).alloc (.cells #[.slice none 0 0] 38)
theorem lbox_below (W : World) (kd : Int) (vr : Value) (a : Int) : Below W.heap.size W (lbox W kd vr a) := (dbox_below W kd vr a).alloc (by simp) _
theorem lbox_size (W : World) (kd : Int) (vr : Value) (a : Int) : (lbox W kd vr a).heap.size = W.heap.size + 2 := by simp [lbox, dbox]
theorem lbox_up {W W' : World} {kd : Int} {vr : Value} {a : Int} (h : Below (lbox W kd vr a).heap.size (lbox W kd vr a) W') : Below W.heap.size W W' := (lbox_below W kd vr a).trans (h.mono (by rw [lbox_size]; omega))
theorem lbox_d {W W' : World} {kd : Int} {vr : Value} {a : Int} (h : Below (lbox W kd vr a).heap.size (lbox W kd vr a) W') : DBox W' W.heap.size kd vr a :=
  DBox.below (DBox.below (dbox_is W kd vr a) ((Below.refl _ _).alloc (Nat.le_refl _) _)) h
theorem lbox_l {W W' : World} {kd : Int} {vr : Value} {a : Int} (h : Below (lbox W kd vr a).heap.size (lbox W kd vr a) W') : W'.heap[W.heap.size + 1]? = some (.cells #[.slice none 0 0] 38 (0, 0)) := by
  refine (h.block _ (by rw [lbox_size]; omega)).trans ?_
  have := heap_alloc_new (dbox W kd vr a) (.cells #[.slice none 0 0] 38)
  rwa [dbox_size] at this

attribute [local go_sem ↓] appC_rw

set_option maxRecDepth 100000 in
set_option maxHeartbeats 4000000 in
theorem choices_any {W : World} {ar aw : Option Addr} {nr cr nw cw : Nat} {r row : List Int} (hr : Ix W (.slice ar nr cr) r) (hw : Ix W (.slice aw nw cw) row) (lr : r.length ≤ 8) (lw : row.length ≤ 8) (kd a : Int) :
    Calls Try.prog 17 #[DV kd (.slice ar nr cr) a, .slice aw nw cw] W fun e w' => ∃ ao n cap, e = .returned (.slice ao n cap) ∧ OwC w' W.heap.size (.slice ao n cap) n (chV r a row) ∧ Below W.heap.size W w' := by
  have HNR := Lib.hid hr.size
  have HX := Lib.hid hr
  have HLR := Lib.hid lr
  have HBL := Lib.hid <| balV_len (r := r) (row := row) (a := a)
  have HIN := Lib.hid (balV_in (r := r) (row := row) (a := a))
  have HB := Lib.hid (Below.refl (lbox W kd (.slice ar nr cr) a).heap.size (lbox W kd (.slice ar nr cr) a))
  have HD := Lib.hid (fun W' (hb : Below (lbox W kd (.slice ar nr cr) a).heap.size (lbox W kd (.slice ar nr cr) a) W') => (lbox_d hb).cells)
  have HBA := Lib.hid (fun W' (hb : Below (lbox W kd (.slice ar nr cr) a).heap.size (lbox W kd (.slice ar nr cr) a) W') => balls_any (hr.below (lbox_up hb)) (hw.below (lbox_up hb)) lr lw kd a)
  unfold chV
  obtain ⟨b, hb⟩ : ∃ b, b = balV r a row := ⟨_, rfl⟩
  rw [← hb] at HBL HIN HBA ⊢
  obtain ⟨k0, k1, k2, k3, k4, k5⟩ := HD.out _ HB.out
  clear hr hw hb lw lr
  refine (callsIn_wide (n := 6)).1 ?_
  refine callsIn_of_wp_marks Try.func17 rfl trivial ?_ rfl
  simp only [Try.ntmps17, List.size_toArray, List.length_cons, List.length_nil, Nat.reduceAdd, Nat.reduceSub, Array.replicate_succ, Array.replicate_zero, List.push_toArray, List.append_toArray, List.nil_append, List.cons_append]
  refine wpIn_wide.2 ?_
  go_wp2
  go_region_held3 (fun W' => W'.cell? ⟨W.heap.size, 0, none⟩ = some (.int .i64 kd) ∧ W'.cell? ⟨W.heap.size, 1, none⟩ = some (.slice ar nr cr) ∧ W'.cell? ⟨W.heap.size, 2, none⟩ = some (.slice none 0 0) ∧ W'.cell? ⟨W.heap.size, 3, none⟩ = some (.int .i64 a) ∧ W'.cell? ⟨W.heap.size, 4, none⟩ = some (.int .i64 0) ∧ W'.cell? ⟨W.heap.size, 5, none⟩ = some (.int .i64 0))
    (first | (with_reducible exact HD.out _ HB3.out) | (with_reducible exact HD.out _ HB2.out) | (with_reducible exact HD.out _ HB.out) | (with_reducible exact HD.out _ HB.out.drew) | (exact HD.out _ HB.out.drew))
    ((first
    | (go_at_call 13; (refine (HBA.out _ HB.out.drew).mono ?_); rintro e w1 ⟨ab, nb, cb, rfl, ho, hb⟩; have HO := Lib.hid ho; have HB2 := Lib.hid (HB.out.drew.trans (hb.mono HB.out.drew.size)); clear ho hb)
    | (go_at_call 29; (with_reducible refine inUse_k.mono ?_); rintro e w2 ⟨bB, bD, rfl, hbB, hbD, hB2, hD2, hb⟩; have HB3 := Lib.hid (HB2.out.trans (hb.mono HB2.out.size)); have HIU := Lib.hid (And.intro hbB (And.intro hbD (And.intro hB2 (And.intro hD2 hb)))); clear hbB hbD hB2 hD2 hb)))
  clear k0 k1 k2 k3 k4 k5
  go_wp2
  refine (wpIn_wide (n := 6)).1 ?_
  have hlbs := lbox_size W kd (.slice ar nr cr) a
  have hnb : nb = b.length := owI_len HO.out
  have HNB := Lib.hid hnb
  obtain ⟨hbB, hbD, hB2, hD2, hb12⟩ := HIU.out
  have hsz2 := HB2.out.size
  have hsz12 := hb12.size
  have hO2 : Ix w2 (.slice ab nb cb) b := (HO.out.ix (by have := HBL.out; have := HLR.out; omega) (fun k => by
    by_cases hk : k < b.length
    · have := (inB_iff.1 HIN.out) k hk
      exact ⟨by omega, by omega⟩
    · rw [show b.getD k 0 = 0 by simp [List.getD, List.getElem?_eq_none (Nat.le_of_not_lt hk)]]; decide)).below hb12
  have hX2 : Ix w2 (.slice ar nr cr) r := HX.out.below (lbox_up HB3.out)
  have hbBl := (Array.getElem?_eq_some_iff.1 hB2).1
  have hbDl := (Array.getElem?_eq_some_iff.1 hD2).1
  have hI0 : ChJ W w2 (W.heap.size + 1) r b 0 w2 := ⟨lbox_up HB3.out, Nat.le_refl _, fun _ _ _ => rfl, none, 0, 0, lbox_l HB3.out, World.ownsRow_nil _ _ _ _⟩
  have HI0 := Lib.hid hI0
  have hq2 : W.heap.size ≤ W.heap.size + 1 ∧ W.heap.size + 1 < w2.heap.size := ⟨by omega, by omega⟩
  have HQ2 := Lib.hid hq2
  have hcells : ∀ (k : Nat) (W' : World), ChJ W w2 (W.heap.size + 1) r b k W' → (W'.cell? ⟨bB, 0, none⟩ = some (.slice ab nb cb) ∧ W'.cell? ⟨bD, 1, none⟩ = some (.slice ar nr cr)) := fun k W' h =>
    ⟨cell_of_row _ _ _ _ _ _ ((h.2.2.1 bB hbBl (by omega)).trans hB2), cell_of_row _ _ _ _ _ _ ((h.2.2.1 bD hbDl (by omega)).trans hD2)⟩
  have hblk : ∀ {g : Nat} {off : Nat} {v : Value} {W' : World} {k : Nat}, ChJ W w2 (W.heap.size + 1) r b k W' → g < w2.heap.size → g ≠ W.heap.size + 1 → w2.cell? ⟨g, off, none⟩ = some v → W'.cell? ⟨g, off, none⟩ = some v := fun h hg hne hc => (World.cell?_of_block (h.2.2.1 _ hg hne)).trans hc
  have hnbr : nb ≤ nr := by have := HBL.out; have := HNR.out; omega
  have hnr8 : nr ≤ 8 := by have := HLR.out; have := HNR.out; omega
  have hnb1000 : nb ≤ 1000 := by omega
  have hWq : W.heap.size ≤ w2.heap.size := by omega
  obtain ⟨FN, hFN⟩ : ∃ FN : Nat → World → Prop, FN = ChJ W w2 (W.heap.size + 1) r b := ⟨_, rfl⟩
  have hc2 : ∀ (k : Nat) (W' : World), ChJ W w2 (W.heap.size + 1) r b k W' → k < nb → (∃ b' off, ab = some ⟨b', off, none⟩ ∧ W'.cell? ⟨b', off + k, none⟩ = some (.int .i64 (b.getD k 0))) ∧ (∃ b' off, ar = some ⟨b', off, none⟩ ∧ W'.cell? ⟨b', off + k, none⟩ = some (.int .i64 (r.getD k 0))) := fun k W' h hk => by
    obtain ⟨g, cap3, e3, hcp, hg1, hg2, hgc, -, -⟩ := HO.out.parts (by omega)
    injection e3 with e3 _ _
    obtain ⟨b', off, e4, hq, -, hbl, hcl⟩ := HX.out.at (by omega)
    have hg1' : W.heap.size + 2 ≤ g := by rw [← hlbs]; exact hg1
    refine ⟨⟨g, 0, e3, ?_⟩, ⟨b', off, e4, ?_⟩⟩
    · rw [Nat.zero_add]
      exact hblk h (by omega) (by omega) ((World.cell?_of_block (hb12.block g hg2)).trans (hgc k hk))
    · exact hblk h (by omega) (by omega) (cell_later (lbox_up HB3.out) (hcl k (by omega)))
  have HCL := Lib.hid hcells
  have HC2 := Lib.hid hc2
  have HN2 := Lib.hid (And.intro hnb1000 (And.intro hnbr (And.intro hnr8 hWq)))
  clear hnb hFN hblk hc2 hcells hI0 hnb1000 hnbr hnr8 hWq hO2 hX2 hbBl hbDl hb12 hsz12 hsz2 hlbs hbB hbD hB2 hD2
  refine rangeFunc_steps rfl (by omega) (gf := 33) (lb := #[.pointer (some ⟨bB, 0, none⟩), .pointer (some ⟨bD, 0, none⟩)]) rfl trivial (enters_of Try.func33 (by kernel_rfl) rfl)
    (inUse_steps Fence.wide 5 trivial rfl (by omega) bB bD nb cb nr cr ab ar b r HN2.out.1 HN2.out.2.1 (Nat.le_trans HN2.out.2.2.1 (by decide)) (ChJ W w2 (W.heap.size + 1) r b) HCL.out HC2.out (fun k W' hk hu h => chJ_skip (fun hc => hu hc.1) h)) (fun _ => rfl)
    (chJ_own HN2.out.2.2.2 HQ2.out.2) HI0.out
    (fun k => { tmps := #[DV kd (.slice ar nr cr) a, .slice aw nw cw, .pointer (some ⟨W.heap.size, 0, none⟩), undef, .slice none 0 0, .pointer (some ⟨W.heap.size + 1, 0, none⟩), .int .i64 (k : Int), .int .i64 (b.getD k 0), DV kd (.slice ar nr cr) a, DV kd (.slice ar nr cr) a, .slice aw nw cw, .slice ab nb cb, .func (.func 33) #[] #[.pointer (some ⟨bB, 0, none⟩), .pointer (some ⟨bD, 0, none⟩)], .int .i64 (k : Int), .int .i64 (b.getD k 0), undef, undef, undef, undef, undef, undef, undef, undef, undef], defers := [] }) ?assign ?body ?done
  case assign =>
    intro y k W' K hK
    obtain ⟨u, hu⟩ : ∃ u, u = b.getD k 0 := ⟨_, rfl⟩
    unfold useArgs
    rw [← hu] at hK ⊢
    clear hu
    gi_wp2
    exact hK
  case body =>
    intro y k W' hk hu hI
    have hk8 : k ≤ 1000 := Nat.le_trans (Nat.le_of_lt hk) HN2.out.1
    by_cases h0 : 0 < b.getD k 0
    · obtain ⟨ao, m, cap, g, cap2, w3, c0, hql, hrun, c1, f1, hJ, hKF⟩ := chJ_step hI HQ2.out hk8 hu h0
      have HJ := Lib.hid hJ
      have HKF := Lib.hid hKF
      obtain ⟨u, huu⟩ : ∃ u, u = b.getD k 0 := ⟨_, rfl⟩
      rw [← huu] at h0 hrun ⊢
      clear huu hJ hKF hI hk hk8 hu
      gi_wp2
      exact ⟨HKF.out, HJ.out⟩
    · have hJ := chJ_skip (fun hc => h0 hc.2) hI
      have HJ := Lib.hid hJ
      obtain ⟨u, huu⟩ : ∃ u, u = b.getD k 0 := ⟨_, rfl⟩
      rw [← huu] at h0 ⊢
      clear huu hJ hI hk hk8 hu
      gi_wp2
      exact ⟨KeepsFrom.refl _ _, HJ.out⟩
  case done =>
    intro D W' hD hI hK
    have HI := Lib.hid hI
    obtain ⟨h1, h2, h3, ao, m, cap, h4, h5⟩ := hI
    have c0 : W'.cell? ⟨W.heap.size + 1, 0, none⟩ = some (.slice ao m cap) := cell_of_row _ _ _ _ _ _ h4
    have HO5 := Lib.hid h5
    have HQ5 := Lib.hid h4
    have HK := Lib.hid hK
    have HDD := Lib.hid hD
    clear hK hD h1 h2 h3 h4 h5
    go_wp2
    refine ⟨by simp, .inl ⟨_, _, rfl, run_takeDeferred HK.out, ?_⟩⟩
    have hwq := HN2.out.2.2.2
    have hdd := HDD.out
    exact ⟨_, results_tmp rfl _ _ _, ao, m, cap, rfl, by rw [← HNB.out]; exact owns_put (owns_mono HO5.out hwq) HK.out, HI.out.1.grown (grownBy_putObj' _ D _) HI.out.1.size (fun j e => by cases e; omega)⟩

end Go.Proofs.Ytmpopbkhmkkhgaa
