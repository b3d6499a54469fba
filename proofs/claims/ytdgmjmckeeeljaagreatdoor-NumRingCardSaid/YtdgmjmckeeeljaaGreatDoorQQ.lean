/- Contract of num.Text, for a right Num. Premise: the table uint64pow10 is laid in the world. -/
import Derived.Test.YtdgmjmckeeeljaaGreatDoorPP
namespace Go.Proofs.YtdgmjmckeeeljaaGreatDoor
open Go.RowKit Go.Shelf
attribute [local go_sem] Oper.semAt_some

theorem isB {B b : Nat} {bs : List Value} {W : World} (h : Lib.BuilderAt 73 5 B b (.pointer (some ⟨b, 0, none⟩)) bs W) : Lib.IsBuilder 73 5 B b bs W := .inr h

set_option maxRecDepth 100000 in
set_option maxHeartbeats 4000000 in
theorem text_any {w : World} {v : Value} {a : Int} (hN : Nu w v a) (htab : Tab w) : Calls Tryz.prog 23 #[v] w fun e w' => e = .returned (.string ⟨(txt a).toArray⟩) ∧ Below w.heap.size w w' := by
  obtain ⟨s, rfl, hs, hl⟩ := hN
  have hr := rightB_digs a hl
  obtain ⟨x, hx⟩ : ∃ x, x = a.natAbs := ⟨_, rfl⟩
  rw [← hx] at hs hl hr
  obtain ⟨ao0, cap0, hsv⟩ := hs.mk'
  obtain ⟨n0, hn0⟩ : ∃ n, n = (digs x).length := ⟨_, rfl⟩
  rw [← hn0] at hsv
  subst hsv
  refine (callsIn_wide (n := 5)).1 ?_
  have w32 : Fence.wide.fn 32 := trivial
  have w56 : Fence.wide.fn 56 := trivial
  have w57 : Fence.wide.fn 57 := trivial
  have w58 : Fence.wide.fn 58 := trivial
  have w59 : Fence.wide.fn 59 := trivial
  have w60 : Fence.wide.fn 60 := trivial
  have w61 : Fence.wide.fn 61 := trivial
  have w62 : Fence.wide.fn 62 := trivial
  obtain ⟨neg, hneg⟩ : ∃ neg, neg = decide (a < 0) := ⟨_, rfl⟩
  rw [← hneg] at hr ⊢
  have H32 : Hid (∀ k W, Below w.heap.size w W → CallsIn Fence.wide k Tryz.prog 32 #[.agg #[.bool neg, .slice ao0 n0 cap0]] W fun e w' => e = .returned (.bool true) ∧ Below W.heap.size W w') := fun k W hW => callsIn_wide.2 ((right_any neg (hs.below hW) (by omega)).mono fun e w' h => by
    rw [hr] at h
    exact ⟨h.1, by rw [h.2]; exact (Below.refl _ _).alloc (Nat.le_refl _) _⟩)
  have H57 : Hid (∀ k W, Below w.heap.size w W → CallsIn Fence.wide k Tryz.prog 57 #[.slice ao0 n0 cap0] W fun e w' => ∃ ao cap, e = .returned (.slice ao (grp x).length cap) ∧ Sl w' (.slice ao (grp x).length cap) (grp x) ∧ Below W.heap.size W w' ∧ Ty59 w' ao) := fun k W hW => callsIn_wide.2 ((groups_any (hs.below hW) hl).mono fun e w' ⟨ao, cap, h1, h2, h3, h4⟩ => ⟨ao, cap, h1, h2.sl, h3, h4⟩)
  have H56 : Hid (∀ k B b bs W, Lib.IsBuilder 73 5 B b bs W → bs.length + 1 ≤ 140737488355328 → B ≤ W.heap.size → CallsIn Fence.wide k Tryz.prog 56 #[.pointer (some ⟨b, 0, none⟩), .int .u8 45] W fun e w' => e = .returned .nilIface ∧ Lib.BuilderAt 73 5 B b (.pointer (some ⟨b, 0, none⟩)) (bs ++ [.int .u8 45]) w' ∧ Below B W w' ∧ KeptT b W w') := fun k B b bs W h1 h2 h3 => callsIn_wide.2 (writeByte_any B b bs 45 W h1 h2 h3)
  obtain ⟨L, hL⟩ : ∃ L, L = grp x := ⟨_, rfl⟩
  have hLb : ∀ d ∈ L, d < 1000000000 := by rw [hL]; exact grp_bd x
  have hL1 : 1 ≤ L.length := by rw [hL]; exact grp_pos x
  have hL2 : L.length ≤ 514 := by
    rw [hL]
    by_cases h0 : (digs x).length = 0
    · have : x = 0 := digs_inj (by rw [digs_zero]; exact List.eq_nil_of_length_eq_zero h0)
      rw [this, grp]; simp
    · have := grp_len2 hl (by omega)
      omega
  rw [← hL] at H57
  obtain ⟨pre, hpre⟩ : ∃ pre : List UInt8, pre = if a < 0 then [45] else [] := ⟨_, rfl⟩
  have hpl : pre.length ≤ 1 := by rw [hpre]; split <;> simp
  obtain ⟨res, hres⟩ : ∃ res : ByteArray, res = ⟨(txt a).toArray⟩ := ⟨_, rfl⟩
  rw [← hres]
  have HRES : Hid (res = ⟨(pre ++ grpText L).toArray⟩) := by
    rw [hres, hL, grpText_grp, hpre, hx]
    rfl
  obtain ⟨nL, hnL⟩ : ∃ nL, nL = L.length := ⟨_, rfl⟩
  rw [← hnL] at H57 hL1 hL2
  have HNL := Lib.hid hnL
  have HLB := Lib.hid hLb
  have HTAB := Lib.hid htab
  have HNEG := Lib.hid hneg
  have HPRE := Lib.hid hpre
  clear hs hl hr hx hn0 hneg hL hLb hpre hres hnL htab
  refine callsIn_of_wp_marks Tryz.func23 rfl trivial ?_ rfl
  simp only [Tryz.ntmps23, List.size_toArray, List.length_cons, List.length_nil, Nat.reduceAdd, Nat.reduceSub, Array.replicate_succ, Array.replicate_zero, List.push_toArray, List.append_toArray, List.nil_append, List.cons_append]
  cases neg
  · have hpr : pre = [] := by rw [HPRE.out, if_neg (by have := HNEG.out; simpa using this)]
    have HPR := Lib.hid hpr
    clear hpr
    gi_wp2_with (first | (gi_at_call 32; refine (H32.out _ _ (by go_grown)).mono ?_; rintro e w1 ⟨rfl, hb1⟩; have r1 : w1.heap[w.heap.size]? = some (.cells #[.bool false, .slice ao0 n0 cap0] 27 (0, 0)) := (hb1.block w.heap.size (by simp)).trans (heap_alloc_new _ _); have hb1' : Below w.heap.size w w1 := ((Below.refl _ w).alloc (Nat.le_refl _) _).trans (hb1.mono (by simp)); have hlt1 : w.heap.size < w1.heap.size := (Array.getElem?_eq_some_iff.1 r1).1; have r2 : (w1.alloc (.cells #[.pointer none, .slice none 0 0] 73)).heap[w.heap.size]? = some (.cells #[.bool false, .slice ao0 n0 cap0] 27 (0, 0)) := (Below.heap_alloc _ _ _ hlt1).trans r1; have c0 : (w1.alloc (.cells #[.pointer none, .slice none 0 0] 73)).cell? ⟨w.heap.size, 0, none⟩ = some (.bool false) := (cell_of_row _ _ _ _ _ _ r2).trans rfl; have c1 : (w1.alloc (.cells #[.pointer none, .slice none 0 0] 73)).cell? ⟨w.heap.size, 1, none⟩ = some (.slice ao0 n0 cap0) := (cell_of_row _ _ _ _ _ _ r2).trans rfl; have hfr := builder_fresh w w1 (Nat.le_of_lt hlt1); have HFR := Lib.hid hfr; have HB1 : Hid (Below w.heap.size w (w1.alloc (.cells #[.pointer none, .slice none 0 0] 73))) := Lib.hid (hb1'.alloc (Nat.le_of_lt hlt1) _); have HR2 := Lib.hid r2; have HL1 := Lib.hid hlt1; clear hb1 r1 hb1' hlt1 r2 hfr) | (gi_at_call 57; refine (H57.out _ _ HB1.out).mono ?_; rintro e w3 ⟨ao, cap, rfl, hsl, hb3, hty⟩; have HSL := Lib.hid hsl; have HTY := Lib.hid hty; have HB3 := Lib.hid (HB1.out.trans (hb3.mono HB1.out.size)); have HBD3 := Lib.hid (isBuilder_below HFR.out hb3); clear hsl hb3 hty) | (gi_at_call 58; refine (backward_in Fence.wide _ w58 rfl _ _ _ _).mono ?_; rintro e w' ⟨rfl, rfl⟩))
    have hI0 : TxJ w w1.heap.size w3.heap.size (w3.heap.size + 1) ao cap L pre 0 ((w3.alloc (.cells #[.slice ao nL cap] 25)).alloc (.cells #[.slice ao nL cap] 25)) := by
      have e0 : pre ++ grpText (L.drop (L.length - 0)) = [] := by rw [HPR.out, Nat.sub_zero, List.drop_length]; rfl
      have hbb : Below w3.heap.size w3 ((w3.alloc (.cells #[.slice ao nL cap] 25)).alloc (.cells #[.slice ao nL cap] 25)) := by go_grown
      have k2 := heap_alloc_new (w3.alloc (.cells #[.slice ao nL cap] 25)) (.cells #[.slice ao nL cap] 25)
      rw [World.size_alloc] at k2
      obtain ⟨q1, q2⟩ := HSL.out.row59 HTY.out (W' := ((w3.alloc (.cells #[.slice ao nL cap] 25)).alloc (.cells #[.slice ao nL cap] 25))) (fun q o ho _ => (hbb.block q (Array.getElem?_eq_some_iff.1 ho).1).trans ho)
      rw [HNL.out] at q1 q2 k2 hbb ⊢
      refine ⟨(Below.heap_alloc _ _ _ (by simp)).trans (heap_alloc_new _ _), k2, q1, q2, ?_, HB3.out.trans (hbb.mono HB3.out.size)⟩
      rw [e0]
      exact isBuilder_below HBD3.out hbb
    have HI0 := Lib.hid hI0
    have HS3 := Lib.hid HB3.out.size
    clear hI0
    refine rangeFunc_counts rfl (by omega) (gf := 90) (lb := #[.pointer (some ⟨w3.heap.size + 1, 0, none⟩)]) rfl trivial (enters_of Tryz.func90 (by kernel_rfl) rfl)
      (backward_counts Fence.wide 4 trivial rfl (by omega) (w3.heap.size + 1) ao cap L (by rw [← HNL.out]; omega) (TxJ w w1.heap.size w3.heap.size (w3.heap.size + 1) ao cap L pre) (fun k W h => by rw [cell_of_row _ _ _ _ _ _ h.c']; rfl) (fun k W h hk => ?hcell)) (fun _ => rfl)
      (txJ_own (by have := HS3.out; simp; omega)) HI0.out
      (fun k => { tmps := #[.agg #[.bool false, .slice ao0 n0 cap0], .pointer (some ⟨w.heap.size, 0, none⟩), .string ⟨#[]⟩, .pointer (some ⟨w1.heap.size, 0, none⟩), .pointer (some ⟨w3.heap.size, 0, none⟩), .int .i64 ((L.length - 1 - k : Nat) : Int), .int .u32 ((L.getD (L.length - 1 - k) 0 : Nat) : Int), undef, .agg #[.bool false, .slice ao0 n0 cap0], .bool true, .bool false, .pointer (some ⟨w.heap.size, 0, none⟩), .bool false, undef, .pointer (some ⟨w.heap.size, 1, none⟩), .slice ao0 n0 cap0, .slice ao nL cap, .slice ao nL cap, .func (.func 90) #[] #[.pointer (some ⟨w3.heap.size + 1, 0, none⟩)], .int .i64 ((L.length - 1 - k : Nat) : Int), .int .u32 ((L.getD (L.length - 1 - k) 0 : Nat) : Int), undef, undef, undef, undef, undef, undef, undef, undef, undef, undef, undef, undef, undef, undef, undef, undef], defers := [] }) ?assign ?body ?done
    case hcell =>
      obtain ⟨b, off, e, _, _, hcl⟩ := h.sl.at (by rw [← HNL.out]; omega)
      exact ⟨b, off, e, hcl _ (by omega)⟩
    case assign =>
      intro y k W K hK
      obtain ⟨i, hi⟩ : ∃ i, i = L.length - 1 - k := ⟨_, rfl⟩
      obtain ⟨u, hu⟩ : ∃ u, u = L.getD (L.length - 1 - k) 0 := ⟨_, rfl⟩
      unfold backArgs
      rw [← hu, ← hi] at hK ⊢
      clear hi hu
      gi_wp2
      exact hK
    case body =>
      intro y k W hk hI
      obtain ⟨i, hi⟩ : ∃ i, i = L.length - 1 - k := ⟨_, rfl⟩
      obtain ⟨u, hu⟩ : ∃ u, u = L.getD (L.length - 1 - k) 0 := ⟨_, rfl⟩
      rw [← hu, ← hi]
      have hil : i < L.length := by omega
      have hub : u < 1000000000 := by
        rw [hu, ← hi, show L.getD i 0 = L[i] by simp [List.getD, hil]]
        exact HLB.out _ (List.getElem_mem hil)
      obtain ⟨D, hD⟩ : ∃ D : ByteArray, D = ⟨(Lib.decDigits u).toArray⟩ := ⟨_, rfl⟩
      obtain ⟨nd, hnd⟩ : ∃ nd, nd = (Lib.decDigits u).length := ⟨_, rfl⟩
      have hDs : D.size = nd := by rw [hD, hnd]; simp [ByteArray.size]
      have hnd9 : nd ≤ 9 := by rw [hnd]; exact dec_len9 hub
      obtain ⟨Z, hZ⟩ : ∃ Z : ByteArray, Z = ⟨(Lib.repeatL [48] (9 - nd)).toArray⟩ := ⟨_, rfl⟩
      have hZs : Z.size = 9 - nd := by rw [hZ]; simp [ByteArray.size, rep_len]
      have HF : Hid (∀ k W, Tab W → CallsIn Fence.wide k Tryz.prog 59 #[.int .u64 u, .int .i64 10] W fun e w' => e = .returned (.string D) ∧ Below W.heap.size W w') := fun k W ht => callsIn_wide.2 (by rw [hD]; exact fmt_any u (by omega) W ht)
      have HRP : Hid (∀ k W, CallsIn Fence.wide k Tryz.prog 61 #[.string ⟨#[48]⟩, .int .i64 (9 - (nd : Int))] W fun e w' => e = .returned (.string Z) ∧ Below W.heap.size W w') := fun k W => callsIn_wide.2 (by
        have := Tryz.strings_Repeat ⟨#[48]⟩ (9 - nd) W (by omega) (by show 1 * (9 - nd) ≤ _; omega)
        rw [show ((9 - nd : Nat) : Int) = 9 - (nd : Int) by omega] at this
        rw [hZ]; exact this)
      have H60 : Hid (∀ k bs s W, Lib.IsBuilder 73 5 w.heap.size w1.heap.size bs W → bs.length + s.size ≤ 140737488355328 → w.heap.size ≤ W.heap.size → CallsIn Fence.wide k Tryz.prog 60 #[.pointer (some ⟨w1.heap.size, 0, none⟩), .string s] W fun e w' => e = .returned (.tuple #[.int .i64 s.size, .nilIface]) ∧ Lib.BuilderAt 73 5 w.heap.size w1.heap.size (.pointer (some ⟨w1.heap.size, 0, none⟩)) (bs ++ Lib.strCells s) w' ∧ Below w.heap.size W w' ∧ KeptT w1.heap.size W w') := fun k bs s W h1 h2 h3 => callsIn_wide.2 (writeString_any w.heap.size w1.heap.size bs s W h1 h2 h3)
      have hc : W.cell? ⟨w3.heap.size, 0, none⟩ = some (.slice ao nL cap) := by rw [cell_of_row _ _ _ _ _ _ hI.c, ← HNL.out]; rfl
      have hln1 : (chars (pre ++ grpText (L.drop (L.length - k)))).length ≤ 9000 := by
        have h1 := grpText_len (L.drop (L.length - k)) (fun d hd => HLB.out d (List.mem_of_mem_drop hd))
        rw [List.length_drop] at h1
        have h2 := HNL.out
        simp only [chars, List.length_map, List.length_append]
        omega
      have htb := tab_below HTAB.out hI.bl
      obtain ⟨cs0, hb0⟩ := builder_ty hI.bd
      have HBW := Lib.hid hI.bl.size
      have HB0 := Lib.hid hb0
      have HTB := Lib.hid htb
      have HI := Lib.hid hI
      have HBD := Lib.hid hI.bd
      have HKT := Lib.hid (KeptT.refl w1.heap.size W)
      have HBL := Lib.hid (Below.refl w.heap.size W)
      have HU := Lib.hid hu
      have HII := Lib.hid hi
      have HD := Lib.hid hD
      have HZ := Lib.hid hZ
      have HND := Lib.hid hnd
      have hnl := HNL.out
      have HKL := Lib.hid hk
      by_cases hk0 : k = 0
      · have hik : i = nL - 1 := by omega
        have hi2 : ¬ ((i : Int) < (nL : Int) - 1) := by omega
        have HLN := Lib.hid hln1
        have HK0 := Lib.hid hk0
        clear hln1 htb hb0 hI hu hi hD hZ hnd hnl hk hk0 hik HI0
        gi_wp2_with (first | (gi_at_call 59; refine (CallsIn.inRound y (HF.out _ _ HTB.out)).mono ?_; rintro e w4 ⟨rfl, hb⟩; have hc4 : w4.cell? ⟨w3.heap.size, 0, none⟩ = some (.slice ao nL cap) := cell_later hb hc; have HBD := Lib.hid (isBuilder_below HBD.out hb); have HKT := Lib.hid (HKT.out.trans (KeptT.below hb)); have HBL := Lib.hid (HBL.out.trans (hb.mono (Nat.le_trans HBW.out HBL.out.size))); clear hb) | (gi_at_call 60; refine (CallsIn.inRound y (H60.out _ _ D _ HBD.out (by have := HLN.out; rw [hDs]; omega) (Nat.le_trans HBW.out HBL.out.size))).mono ?_; rintro e w7 ⟨rfl, hbd, hb, hk⟩; have HBD := Lib.hid (isB hbd); have HKT := Lib.hid (HKT.out.trans hk); have HBL := Lib.hid (HBL.out.trans hb); clear hb hbd hk))
        refine ⟨keeps_of_keptT HB0.out HKT.out HBL.out.size, txJ_step HI.out HKT.out HBL.out ?_⟩
        have h1 := HBD.out
        rw [HK0.out, Nat.sub_zero, List.drop_length, HD.out, chars_str, ← chars_append] at h1
        rw [HK0.out, Nat.zero_add, grpText_first (by rw [← HNL.out]; omega)]
        have h2 := HU.out
        rw [HK0.out, Nat.sub_zero] at h2
        rw [← h2]
        simpa [grpText] using h1
      · have hi2 : (i : Int) < (nL : Int) - 1 := by omega
        have HLN1 := Lib.hid hln1
        have HK0 := Lib.hid hk0
        clear hln1 htb hb0 hI hu hi hD hZ hnd hnl hk hk0 HI0
        gi_wp2_with (first | (gi_at_call 59; refine (CallsIn.inRound y (HF.out _ _ HTB.out)).mono ?_; rintro e w4 ⟨rfl, hb⟩; have hc4 : w4.cell? ⟨w3.heap.size, 0, none⟩ = some (.slice ao nL cap) := cell_later hb hc; have HBD := Lib.hid (isBuilder_below HBD.out hb); have HKT := Lib.hid (HKT.out.trans (KeptT.below hb)); have HBL := Lib.hid (HBL.out.trans (hb.mono (Nat.le_trans HBW.out HBL.out.size))); clear hb) | (gi_at_call 61; refine (CallsIn.inRound y (HRP.out _ _)).mono ?_; rintro e w5 ⟨rfl, hb⟩; have HBD := Lib.hid (isBuilder_below HBD.out hb); have HKT := Lib.hid (HKT.out.trans (KeptT.below hb)); have HBL := Lib.hid (HBL.out.trans (hb.mono (Nat.le_trans HBW.out HBL.out.size))); clear hb) | (gi_at_call 60; refine (CallsIn.inRound y (H60.out _ _ _ _ HBD.out (by first | (rw [hZs]; have := HLN1.out; omega) | (rw [List.length_append, hDs, show (Lib.strCells Z).length = Z.size from Lib.strCells_length Z, hZs]; have := HLN1.out; omega)) (Nat.le_trans HBW.out HBL.out.size))).mono ?_; rintro e w6 ⟨rfl, hbd, hb, hk⟩; have HBD := Lib.hid (isB hbd); have HKT := Lib.hid (HKT.out.trans hk); have HBL := Lib.hid (HBL.out.trans hb); clear hb hbd hk))
        refine ⟨keeps_of_keptT HB0.out HKT.out HBL.out.size, txJ_step HI.out HKT.out HBL.out ?_⟩
        have h1 := HBD.out
        rw [HD.out, HZ.out, chars_str, chars_str, ← chars_append, ← chars_append] at h1
        rw [grpText_drop HKL.out HK0.out, ← HU.out, ← HND.out, ← List.append_assoc, ← List.append_assoc]
        exact h1
    case done =>
      intro D W hD hI hK
      have hbd := hI.bd
      rw [Nat.sub_self, List.drop_zero] at hbd
      obtain ⟨cs0, hb0⟩ := builder_ty hI.bd
      have hne : some D ≠ some w1.heap.size := fun e => by
        cases e
        rw [hb0] at hK
        cases hK
      have H62 : Hid (∀ k, CallsIn Fence.wide k Tryz.prog 62 #[.pointer (some ⟨w1.heap.size, 0, none⟩)] W fun e w' => e = .returned (.string res) ∧ Below w.heap.size W w' ∧ Lib.OthersKept 5 (some w1.heap.size) W w') := fun k => callsIn_wide.2 ((Any.Builder_String_any_k Tryz.lays169 Tryz.Builder_Extra_169 w.heap.size w1.heap.size (pre ++ grpText L) W (Lib.IsBuilderF.of hbd) hI.bl.size).mono fun e w' h => ⟨by rw [HRES.out]; exact h.1, h.2.2.1, h.2.2.2⟩)
      have HBL := Lib.hid hI.bl
      have HK := Lib.hid hK
      have HNE := Lib.hid hne
      clear hI hK hbd hb0 HI0 hne
      gi_wp2_with (gi_at_call 62; refine (H62.out _).mono ?_; rintro e w4 ⟨rfl, hb, hok⟩)
      have hK4 := hok _ _ HK.out HNE.out (fun c f e => by cases e)
      refine ⟨by simp, .inl ⟨_, _, rfl, run_takeDeferred hK4, ?_⟩⟩
      refine ⟨_, results_tmp rfl _ _ _, rfl, ?_⟩
      exact (HBL.out.trans hb).grown (grownBy_putObj' _ D _) (by have := HBL.out.size; have := hb.size; omega) (fun k e => by cases e; have := HS3.out; simp at hD; omega)
  · have hpr : pre = [45] := by rw [HPRE.out, if_pos (by have := HNEG.out; simpa using this)]
    have HPR := Lib.hid hpr
    clear hpr
    gi_wp2_with (first | (gi_at_call 32; refine (H32.out _ _ (by go_grown)).mono ?_; rintro e w1 ⟨rfl, hb1⟩; have r1 : w1.heap[w.heap.size]? = some (.cells #[.bool true, .slice ao0 n0 cap0] 27 (0, 0)) := (hb1.block w.heap.size (by simp)).trans (heap_alloc_new _ _); have hb1' : Below w.heap.size w w1 := ((Below.refl _ w).alloc (Nat.le_refl _) _).trans (hb1.mono (by simp)); have hlt1 : w.heap.size < w1.heap.size := (Array.getElem?_eq_some_iff.1 r1).1; have r2 : (w1.alloc (.cells #[.pointer none, .slice none 0 0] 73)).heap[w.heap.size]? = some (.cells #[.bool true, .slice ao0 n0 cap0] 27 (0, 0)) := (Below.heap_alloc _ _ _ hlt1).trans r1; have c0 : (w1.alloc (.cells #[.pointer none, .slice none 0 0] 73)).cell? ⟨w.heap.size, 0, none⟩ = some (.bool true) := (cell_of_row _ _ _ _ _ _ r2).trans rfl; have c1 : (w1.alloc (.cells #[.pointer none, .slice none 0 0] 73)).cell? ⟨w.heap.size, 1, none⟩ = some (.slice ao0 n0 cap0) := (cell_of_row _ _ _ _ _ _ r2).trans rfl; have hfr := builder_fresh w w1 (Nat.le_of_lt hlt1); have HFR := Lib.hid hfr; have HB1 : Hid (Below w.heap.size w (w1.alloc (.cells #[.pointer none, .slice none 0 0] 73))) := Lib.hid (hb1'.alloc (Nat.le_of_lt hlt1) _); have HR2 := Lib.hid r2; have HL1 := Lib.hid hlt1; clear hb1 r1 hb1' hlt1 r2 hfr) | (gi_at_call 56; refine (H56.out _ w.heap.size _ _ _ HFR.out (by simp [chars]) HB1.out.size).mono ?_; rintro e w2 ⟨rfl, hbd, hb2, hk2⟩; have r3 := hk2 _ _ HR2.out (fun cs f e => by cases e) (by have := HL1.out; omega); have c3 : w2.cell? ⟨w.heap.size, 1, none⟩ = some (.slice ao0 n0 cap0) := (cell_of_row _ _ _ _ _ _ r3).trans rfl; have HBD : Hid (Lib.IsBuilder 73 5 w.heap.size w1.heap.size (chars [45]) w2) := Lib.hid (.inr hbd); have HB2 := Lib.hid (HB1.out.trans hb2); clear hbd hb2 hk2 r3) | (gi_at_call 57; refine (H57.out _ _ HB2.out).mono ?_; rintro e w3 ⟨ao, cap, rfl, hsl, hb3, hty⟩; have HSL := Lib.hid hsl; have HTY := Lib.hid hty; have HB3 := Lib.hid (HB2.out.trans (hb3.mono HB2.out.size)); have HBD3 := Lib.hid (isBuilder_below HBD.out hb3); clear hsl hb3 hty) | (gi_at_call 58; refine (backward_in Fence.wide _ w58 rfl _ _ _ _).mono ?_; rintro e w' ⟨rfl, rfl⟩))
    have hI0 : TxJ w w1.heap.size w3.heap.size (w3.heap.size + 1) ao cap L pre 0 ((w3.alloc (.cells #[.slice ao nL cap] 25)).alloc (.cells #[.slice ao nL cap] 25)) := by
      have e0 : pre ++ grpText (L.drop (L.length - 0)) = [45] := by rw [HPR.out, Nat.sub_zero, List.drop_length]; rfl
      have hbb : Below w3.heap.size w3 ((w3.alloc (.cells #[.slice ao nL cap] 25)).alloc (.cells #[.slice ao nL cap] 25)) := by go_grown
      have k2 := heap_alloc_new (w3.alloc (.cells #[.slice ao nL cap] 25)) (.cells #[.slice ao nL cap] 25)
      rw [World.size_alloc] at k2
      obtain ⟨q1, q2⟩ := HSL.out.row59 HTY.out (W' := ((w3.alloc (.cells #[.slice ao nL cap] 25)).alloc (.cells #[.slice ao nL cap] 25))) (fun q o ho _ => (hbb.block q (Array.getElem?_eq_some_iff.1 ho).1).trans ho)
      rw [HNL.out] at q1 q2 k2 hbb ⊢
      refine ⟨(Below.heap_alloc _ _ _ (by simp)).trans (heap_alloc_new _ _), k2, q1, q2, ?_, HB3.out.trans (hbb.mono HB3.out.size)⟩
      rw [e0]
      exact isBuilder_below HBD3.out hbb
    have HI0 := Lib.hid hI0
    have HS3 := Lib.hid HB3.out.size
    clear hI0
    refine rangeFunc_counts rfl (by omega) (gf := 90) (lb := #[.pointer (some ⟨w3.heap.size + 1, 0, none⟩)]) rfl trivial (enters_of Tryz.func90 (by kernel_rfl) rfl)
      (backward_counts Fence.wide 4 trivial rfl (by omega) (w3.heap.size + 1) ao cap L (by rw [← HNL.out]; omega) (TxJ w w1.heap.size w3.heap.size (w3.heap.size + 1) ao cap L pre) (fun k W h => by rw [cell_of_row _ _ _ _ _ _ h.c']; rfl) (fun k W h hk => ?hcell)) (fun _ => rfl)
      (txJ_own (by have := HS3.out; simp; omega)) HI0.out
      (fun k => { tmps := #[.agg #[.bool true, .slice ao0 n0 cap0], .pointer (some ⟨w.heap.size, 0, none⟩), .string ⟨#[]⟩, .pointer (some ⟨w1.heap.size, 0, none⟩), .pointer (some ⟨w3.heap.size, 0, none⟩), .int .i64 ((L.length - 1 - k : Nat) : Int), .int .u32 ((L.getD (L.length - 1 - k) 0 : Nat) : Int), undef, .agg #[.bool true, .slice ao0 n0 cap0], .bool true, .bool false, .pointer (some ⟨w.heap.size, 0, none⟩), .bool true, .nilIface, .pointer (some ⟨w.heap.size, 1, none⟩), .slice ao0 n0 cap0, .slice ao nL cap, .slice ao nL cap, .func (.func 90) #[] #[.pointer (some ⟨w3.heap.size + 1, 0, none⟩)], .int .i64 ((L.length - 1 - k : Nat) : Int), .int .u32 ((L.getD (L.length - 1 - k) 0 : Nat) : Int), undef, undef, undef, undef, undef, undef, undef, undef, undef, undef, undef, undef, undef, undef, undef, undef], defers := [] }) ?assign ?body ?done
    case hcell =>
      obtain ⟨b, off, e, _, _, hcl⟩ := h.sl.at (by rw [← HNL.out]; omega)
      exact ⟨b, off, e, hcl _ (by omega)⟩
    case assign =>
      intro y k W K hK
      obtain ⟨i, hi⟩ : ∃ i, i = L.length - 1 - k := ⟨_, rfl⟩
      obtain ⟨u, hu⟩ : ∃ u, u = L.getD (L.length - 1 - k) 0 := ⟨_, rfl⟩
      unfold backArgs
      rw [← hu, ← hi] at hK ⊢
      clear hi hu
      gi_wp2
      exact hK
    case body =>
      intro y k W hk hI
      obtain ⟨i, hi⟩ : ∃ i, i = L.length - 1 - k := ⟨_, rfl⟩
      obtain ⟨u, hu⟩ : ∃ u, u = L.getD (L.length - 1 - k) 0 := ⟨_, rfl⟩
      rw [← hu, ← hi]
      have hil : i < L.length := by omega
      have hub : u < 1000000000 := by
        rw [hu, ← hi, show L.getD i 0 = L[i] by simp [List.getD, hil]]
        exact HLB.out _ (List.getElem_mem hil)
      obtain ⟨D, hD⟩ : ∃ D : ByteArray, D = ⟨(Lib.decDigits u).toArray⟩ := ⟨_, rfl⟩
      obtain ⟨nd, hnd⟩ : ∃ nd, nd = (Lib.decDigits u).length := ⟨_, rfl⟩
      have hDs : D.size = nd := by rw [hD, hnd]; simp [ByteArray.size]
      have hnd9 : nd ≤ 9 := by rw [hnd]; exact dec_len9 hub
      obtain ⟨Z, hZ⟩ : ∃ Z : ByteArray, Z = ⟨(Lib.repeatL [48] (9 - nd)).toArray⟩ := ⟨_, rfl⟩
      have hZs : Z.size = 9 - nd := by rw [hZ]; simp [ByteArray.size, rep_len]
      have HF : Hid (∀ k W, Tab W → CallsIn Fence.wide k Tryz.prog 59 #[.int .u64 u, .int .i64 10] W fun e w' => e = .returned (.string D) ∧ Below W.heap.size W w') := fun k W ht => callsIn_wide.2 (by rw [hD]; exact fmt_any u (by omega) W ht)
      have HRP : Hid (∀ k W, CallsIn Fence.wide k Tryz.prog 61 #[.string ⟨#[48]⟩, .int .i64 (9 - (nd : Int))] W fun e w' => e = .returned (.string Z) ∧ Below W.heap.size W w') := fun k W => callsIn_wide.2 (by
        have := Tryz.strings_Repeat ⟨#[48]⟩ (9 - nd) W (by omega) (by show 1 * (9 - nd) ≤ _; omega)
        rw [show ((9 - nd : Nat) : Int) = 9 - (nd : Int) by omega] at this
        rw [hZ]; exact this)
      have H60 : Hid (∀ k bs s W, Lib.IsBuilder 73 5 w.heap.size w1.heap.size bs W → bs.length + s.size ≤ 140737488355328 → w.heap.size ≤ W.heap.size → CallsIn Fence.wide k Tryz.prog 60 #[.pointer (some ⟨w1.heap.size, 0, none⟩), .string s] W fun e w' => e = .returned (.tuple #[.int .i64 s.size, .nilIface]) ∧ Lib.BuilderAt 73 5 w.heap.size w1.heap.size (.pointer (some ⟨w1.heap.size, 0, none⟩)) (bs ++ Lib.strCells s) w' ∧ Below w.heap.size W w' ∧ KeptT w1.heap.size W w') := fun k bs s W h1 h2 h3 => callsIn_wide.2 (writeString_any w.heap.size w1.heap.size bs s W h1 h2 h3)
      have hc : W.cell? ⟨w3.heap.size, 0, none⟩ = some (.slice ao nL cap) := by rw [cell_of_row _ _ _ _ _ _ hI.c, ← HNL.out]; rfl
      have hln1 : (chars (pre ++ grpText (L.drop (L.length - k)))).length ≤ 9000 := by
        have h1 := grpText_len (L.drop (L.length - k)) (fun d hd => HLB.out d (List.mem_of_mem_drop hd))
        rw [List.length_drop] at h1
        have h2 := HNL.out
        simp only [chars, List.length_map, List.length_append]
        omega
      have htb := tab_below HTAB.out hI.bl
      obtain ⟨cs0, hb0⟩ := builder_ty hI.bd
      have HBW := Lib.hid hI.bl.size
      have HB0 := Lib.hid hb0
      have HTB := Lib.hid htb
      have HI := Lib.hid hI
      have HBD := Lib.hid hI.bd
      have HKT := Lib.hid (KeptT.refl w1.heap.size W)
      have HBL := Lib.hid (Below.refl w.heap.size W)
      have HU := Lib.hid hu
      have HII := Lib.hid hi
      have HD := Lib.hid hD
      have HZ := Lib.hid hZ
      have HND := Lib.hid hnd
      have hnl := HNL.out
      have HKL := Lib.hid hk
      by_cases hk0 : k = 0
      · have hik : i = nL - 1 := by omega
        have hi2 : ¬ ((i : Int) < (nL : Int) - 1) := by omega
        have HLN := Lib.hid hln1
        have HK0 := Lib.hid hk0
        clear hln1 htb hb0 hI hu hi hD hZ hnd hnl hk hk0 hik HI0
        gi_wp2_with (first | (gi_at_call 59; refine (CallsIn.inRound y (HF.out _ _ HTB.out)).mono ?_; rintro e w4 ⟨rfl, hb⟩; have hc4 : w4.cell? ⟨w3.heap.size, 0, none⟩ = some (.slice ao nL cap) := cell_later hb hc; have HBD := Lib.hid (isBuilder_below HBD.out hb); have HKT := Lib.hid (HKT.out.trans (KeptT.below hb)); have HBL := Lib.hid (HBL.out.trans (hb.mono (Nat.le_trans HBW.out HBL.out.size))); clear hb) | (gi_at_call 60; refine (CallsIn.inRound y (H60.out _ _ D _ HBD.out (by have := HLN.out; rw [hDs]; omega) (Nat.le_trans HBW.out HBL.out.size))).mono ?_; rintro e w7 ⟨rfl, hbd, hb, hk⟩; have HBD := Lib.hid (isB hbd); have HKT := Lib.hid (HKT.out.trans hk); have HBL := Lib.hid (HBL.out.trans hb); clear hb hbd hk))
        refine ⟨keeps_of_keptT HB0.out HKT.out HBL.out.size, txJ_step HI.out HKT.out HBL.out ?_⟩
        have h1 := HBD.out
        rw [HK0.out, Nat.sub_zero, List.drop_length, HD.out, chars_str, ← chars_append] at h1
        rw [HK0.out, Nat.zero_add, grpText_first (by rw [← HNL.out]; omega)]
        have h2 := HU.out
        rw [HK0.out, Nat.sub_zero] at h2
        rw [← h2]
        simpa [grpText] using h1
      · have hi2 : (i : Int) < (nL : Int) - 1 := by omega
        have HLN1 := Lib.hid hln1
        have HK0 := Lib.hid hk0
        clear hln1 htb hb0 hI hu hi hD hZ hnd hnl hk hk0 HI0
        gi_wp2_with (first | (gi_at_call 59; refine (CallsIn.inRound y (HF.out _ _ HTB.out)).mono ?_; rintro e w4 ⟨rfl, hb⟩; have hc4 : w4.cell? ⟨w3.heap.size, 0, none⟩ = some (.slice ao nL cap) := cell_later hb hc; have HBD := Lib.hid (isBuilder_below HBD.out hb); have HKT := Lib.hid (HKT.out.trans (KeptT.below hb)); have HBL := Lib.hid (HBL.out.trans (hb.mono (Nat.le_trans HBW.out HBL.out.size))); clear hb) | (gi_at_call 61; refine (CallsIn.inRound y (HRP.out _ _)).mono ?_; rintro e w5 ⟨rfl, hb⟩; have HBD := Lib.hid (isBuilder_below HBD.out hb); have HKT := Lib.hid (HKT.out.trans (KeptT.below hb)); have HBL := Lib.hid (HBL.out.trans (hb.mono (Nat.le_trans HBW.out HBL.out.size))); clear hb) | (gi_at_call 60; refine (CallsIn.inRound y (H60.out _ _ _ _ HBD.out (by first | (rw [hZs]; have := HLN1.out; omega) | (rw [List.length_append, hDs, show (Lib.strCells Z).length = Z.size from Lib.strCells_length Z, hZs]; have := HLN1.out; omega)) (Nat.le_trans HBW.out HBL.out.size))).mono ?_; rintro e w6 ⟨rfl, hbd, hb, hk⟩; have HBD := Lib.hid (isB hbd); have HKT := Lib.hid (HKT.out.trans hk); have HBL := Lib.hid (HBL.out.trans hb); clear hb hbd hk))
        refine ⟨keeps_of_keptT HB0.out HKT.out HBL.out.size, txJ_step HI.out HKT.out HBL.out ?_⟩
        have h1 := HBD.out
        rw [HD.out, HZ.out, chars_str, chars_str, ← chars_append, ← chars_append] at h1
        rw [grpText_drop HKL.out HK0.out, ← HU.out, ← HND.out, ← List.append_assoc, ← List.append_assoc]
        exact h1
    case done =>
      intro D W hD hI hK
      have hbd := hI.bd
      rw [Nat.sub_self, List.drop_zero] at hbd
      obtain ⟨cs0, hb0⟩ := builder_ty hI.bd
      have hne : some D ≠ some w1.heap.size := fun e => by
        cases e
        rw [hb0] at hK
        cases hK
      have H62 : Hid (∀ k, CallsIn Fence.wide k Tryz.prog 62 #[.pointer (some ⟨w1.heap.size, 0, none⟩)] W fun e w' => e = .returned (.string res) ∧ Below w.heap.size W w' ∧ Lib.OthersKept 5 (some w1.heap.size) W w') := fun k => callsIn_wide.2 ((Any.Builder_String_any_k Tryz.lays169 Tryz.Builder_Extra_169 w.heap.size w1.heap.size (pre ++ grpText L) W (Lib.IsBuilderF.of hbd) hI.bl.size).mono fun e w' h => ⟨by rw [HRES.out]; exact h.1, h.2.2.1, h.2.2.2⟩)
      have HBL := Lib.hid hI.bl
      have HK := Lib.hid hK
      have HNE := Lib.hid hne
      clear hI hK hbd hb0 HI0 hne
      gi_wp2_with (gi_at_call 62; refine (H62.out _).mono ?_; rintro e w4 ⟨rfl, hb, hok⟩)
      have hK4 := hok _ _ HK.out HNE.out (fun c f e => by cases e)
      refine ⟨by simp, .inl ⟨_, _, rfl, run_takeDeferred hK4, ?_⟩⟩
      refine ⟨_, results_tmp rfl _ _ _, rfl, ?_⟩
      exact (HBL.out.trans hb).grown (grownBy_putObj' _ D _) (by have := HBL.out.size; have := hb.size; omega) (fun k e => by cases e; have := HS3.out; simp at hD; omega)

end Go.Proofs.YtdgmjmckeeeljaaGreatDoor
