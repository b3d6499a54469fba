/- Contract of num: Parse. No condition. -/
import Derived.Test.YtdgmjmckeeeljaaGreatDoorFF
namespace Go.Proofs.YtdgmjmckeeeljaaGreatDoor
open Go.RowKit

def isZ (t : ByteArray) : Bool := t.data.toList == [48]
def cutT (s : ByteArray) : ByteArray := ⟨(Lib.trimPrefix s.data.toList [45]).toArray⟩
def cutN (s : ByteArray) : Bool := Lib.hasPrefix s.data.toList [45]

/-- What a text stands for. -/
def parseZ (s : ByteArray) : Option Int :=
  if decB (cutT s) = true ∧ ¬(cutN s = true ∧ isZ (cutT s) = true) then some (if cutN s = true then -((decV 0 (cutT s).data.toList : Nat) : Int) else ((decV 0 (cutT s).data.toList : Nat) : Int)) else none

def ParseRes (w : World) : Option Int → Ending → World → Prop
  | none, e, w' => e = .returned (.tuple #[.agg #[.bool false, .slice none 0 0], .bool false]) ∧ Below w.heap.size w w'
  | some z, e, w' => NumRes w z e w'

theorem eql_zero (t : ByteArray) : binOp BinOp.eql 9 (.string t) (.string ⟨#[48]⟩) = (pure (.bool (isZ t)) : Sem Value) := by
  rw [binOp_string_eql, ByteArray.toList_eq, ByteArray.toList_eq]
  rfl

theorem decV_pos (t : ByteArray) (h : decB t = true) (hz : isZ t = false) : 0 < decV 0 t.data.toList := by
  unfold decB at h
  simp only [Bool.and_eq_true, Bool.or_eq_true, decide_eq_true_eq] at h
  obtain ⟨⟨⟨h1, _⟩, h3⟩, h4⟩ := h
  have hlen : t.data.toList.length = t.size := by rw [Array.length_toList]; rfl
  unfold isZ at hz
  rw [beq_eq_false_iff_ne] at hz
  match hm : t.data.toList with
  | [] => rw [hm] at hlen; exact absurd hlen.symm h1
  | b :: r =>
    rw [hm] at h3 h4 hlen hz
    simp only [List.all_cons, Bool.and_eq_true] at h4
    have h5 := h4.1
    unfold digB at h5
    simp only [Bool.and_eq_true, decide_eq_true_eq] at h5
    have h6 : b.toNat ≠ 48 := by
      rcases h3 with h3 | h3
      · exact h3
      · intro hb
        apply hz
        have hr : r = [] := List.eq_nil_of_length_eq_zero (by simp at hlen; omega)
        rw [hr, show b = 48 from UInt8.toNat_inj.1 hb]
    have h7 : decV 0 (b :: r) = decV (0 * 10 + (b.toNat - 48)) r := rfl
    rw [h7, decV_acc]
    have h8 : 1 ≤ (0 * 10 + (b.toNat - 48)) * 10 ^ r.length := Nat.mul_pos (by omega) (Nat.pow_pos (by omega))
    omega

set_option maxRecDepth 10000 in
set_option maxHeartbeats 1000000 in
theorem parse_bad (s : ByteArray) (w : World) (h : decB (cutT s) = false) : Calls Tryz.prog 24 #[.string s] w (ParseRes w none) := by
  have HCP : Hid (∀ W, Calls Tryz.prog 63 #[.string s, .string ⟨#[45]⟩] W fun e w' => e = .returned (.tuple #[.string (cutT s), .bool (cutN s)]) ∧ w' = W) := fun W => Tryz.strings_CutPrefix s _ W
  have HDC : Hid (∀ W, Calls Tryz.prog 64 #[.string (cutT s)] W (SameRes W false)) := fun W => by have := decimal_any (cutT s) W; rwa [h] at this
  obtain ⟨t, ht⟩ : ∃ t, t = cutT s := ⟨_, rfl⟩
  obtain ⟨neg, hn⟩ : ∃ neg, neg = cutN s := ⟨_, rfl⟩
  rw [← ht] at HCP HDC
  rw [← hn] at HCP
  clear ht hn h
  go_enter Tryz.func24, Tryz.ntmps24
  go_wp2_with (first | (go_at_call 63; refine (HCP.out _).mono ?_; rintro e w' ⟨rfl, rfl⟩) | (go_at_call 64; refine (HDC.out _).mono ?_; rintro e W1 ⟨rfl, hb1⟩; have hr := (resbox_new w).below hb1; obtain ⟨r0, r1, f0, f1⟩ := hr.cells; obtain ⟨q0, q1⟩ := hr.stored (.bool false) (.slice none 0 0)))
  refine bodyPost_ret (v := .tuple #[.agg #[.bool false, .slice none 0 0], .bool false]) (by simp [results, Tryz.results24, go_sem, q0, q1]) rfl ?_
  refine ⟨rfl, ?_⟩
  have hs := hb1.size
  simp at hs
  exact ((Below.trans (by go_grown) (hb1.mono (by simp))).setCell (by simp) _).setCell (by simp) _

set_option maxRecDepth 10000 in
set_option maxHeartbeats 1000000 in
theorem parse_minus (s : ByteArray) (w : World) (h : decB (cutT s) = true) (hn : cutN s = true) (hz : isZ (cutT s) = true) : Calls Tryz.prog 24 #[.string s] w (ParseRes w none) := by
  have HCP : Hid (∀ W, Calls Tryz.prog 63 #[.string s, .string ⟨#[45]⟩] W fun e w' => e = .returned (.tuple #[.string (cutT s), .bool (cutN s)]) ∧ w' = W) := fun W => Tryz.strings_CutPrefix s _ W
  have HDC : Hid (∀ W, Calls Tryz.prog 64 #[.string (cutT s)] W (SameRes W true)) := fun W => by have := decimal_any (cutT s) W; rwa [h] at this
  have hzz := eql_zero (cutT s)
  rw [hz] at hzz
  rw [hn] at HCP
  obtain ⟨t, ht⟩ : ∃ t, t = cutT s := ⟨_, rfl⟩
  rw [← ht] at HCP HDC hzz
  clear ht hn h hz
  go_enter Tryz.func24, Tryz.ntmps24
  go_wp2_with (first | (go_at_call 63; refine (HCP.out _).mono ?_; rintro e w' ⟨rfl, rfl⟩) | (go_at_call 64; refine (HDC.out _).mono ?_; rintro e W1 ⟨rfl, hb1⟩; have hr := (resbox_new w).below hb1; obtain ⟨r0, r1, f0, f1⟩ := hr.cells; obtain ⟨q0, q1⟩ := hr.stored (.bool false) (.slice none 0 0)))
  refine bodyPost_ret (v := .tuple #[.agg #[.bool false, .slice none 0 0], .bool false]) (by simp [results, Tryz.results24, go_sem, q0, q1]) rfl ?_
  refine ⟨rfl, ?_⟩
  have hs := hb1.size
  simp at hs
  exact ((Below.trans (by go_grown) (hb1.mono (by simp))).setCell (by simp) _).setCell (by simp) _

theorem decB_fit (t : ByteArray) (h : decB t = true) : t.size ≤ 2467 ∧ t.data.toList.all digB = true := by
  unfold decB at h
  simp only [Bool.and_eq_true, decide_eq_true_eq] at h
  exact ⟨h.1.1.2, h.2⟩

set_option maxRecDepth 10000 in
set_option maxHeartbeats 1000000 in
theorem parse_neg (s : ByteArray) (w : World) (h : decB (cutT s) = true) (hn : cutN s = true) (hz : true = true → isZ (cutT s) = false) (v : Nat) (hv : v = decV 0 (cutT s).data.toList) : Calls Tryz.prog 24 #[.string s] w (NumRes w (-((v : Nat) : Int))) := by
  have HCP : Hid (∀ W, Calls Tryz.prog 63 #[.string s, .string ⟨#[45]⟩] W fun e w' => e = .returned (.tuple #[.string (cutT s), .bool (cutN s)]) ∧ w' = W) := fun W => Tryz.strings_CutPrefix s _ W
  have HDC : Hid (∀ W, Calls Tryz.prog 64 #[.string (cutT s)] W (SameRes W true)) := fun W => by have := decimal_any (cutT s) W; rwa [h] at this
  obtain ⟨n, hnl⟩ : ∃ n, n = (digs v).length := ⟨_, rfl⟩
  have HPA : Hid (∀ W, Calls Tryz.prog 65 #[.string (cutT s)] W fun e w' => ∃ ao cap, e = .returned (.slice ao n cap) ∧ Sw W.heap.size w' (.slice ao n cap) (digs v) ∧ Below W.heap.size W w') := fun W => by
    obtain ⟨h1, h2⟩ := decB_fit _ h
    refine (parsed_any _ W h1 h2).mono ?_
    rintro e w' ⟨x, rfl, hs, hb⟩
    rw [← hv] at hs
    obtain ⟨ao, cap, rfl⟩ := hs.sl.mk'
    rw [← hnl] at hs ⊢
    exact ⟨_, _, rfl, hs, hb⟩
  have hzz := eql_zero (cutT s)
  have hsg : (-((v : Nat) : Int)) ≠ 0 → true = decide ((-((v : Nat) : Int)) < 0) := by have := decV_pos _ h (hz rfl); rw [← hv] at this; intro _; symm; rw [decide_eq_true_eq]; omega
  have hab : n = (digs (-((v : Nat) : Int)).natAbs).length := by rw [hnl]; congr 2 <;> omega
  have had : digs v = digs (-((v : Nat) : Int)).natAbs := by congr 1 <;> omega
  rw [hz rfl] at hzz
  rw [hn] at HCP
  obtain ⟨t, ht⟩ : ∃ t, t = cutT s := ⟨_, rfl⟩
  obtain ⟨z, hzd⟩ : ∃ z : Int, z = -((v : Nat) : Int) := ⟨_, rfl⟩
  rw [← ht] at HCP HDC HPA hzz
  rw [← hzd] at hsg hab had ⊢
  rw [had] at HPA
  have HSG := Lib.hid hsg
  have HAB := Lib.hid hab
  clear ht hn h hz hzd hsg hab had hv hnl
  go_enter Tryz.func24, Tryz.ntmps24
  go_wp2_with (first | (go_at_call 63; refine (HCP.out _).mono ?_; rintro e w' ⟨rfl, rfl⟩) | (go_at_call 64; refine (HDC.out _).mono ?_; rintro e W1 ⟨rfl, hb1⟩) | (go_at_call 65; refine (HPA.out _).mono ?_; rintro e W2 ⟨ao, cap, rfl, hs2, hb2⟩; have hr := ((resbox_new w).below hb1).below hb2; obtain ⟨r0, r1, f0, f1⟩ := hr.cells; have hz1 := hr.lt; have hz2 := Nat.le_of_lt hz1) | (go_at_call 47; refine (made_any _ _ _ _ _).mono ?_; rintro e W3 ⟨rfl, rfl⟩))
  have q0 := hb1.size
  have q1 := hb2.size
  simp at q0
  have b1 : Below w.heap.size w W1 := Below.trans (by go_grown) (hb1.mono (by simp))
  have b2 : Below w.heap.size w W2 := b1.trans (hb2.mono (by omega))
  have hfin : Below w.heap.size w (((W2.setCell ⟨w.heap.size, 0, none⟩ (.bool (mkN true n))).setCell ⟨w.heap.size, 1, none⟩ (.slice (mkA ao n) (mkL n) (mkC n cap))).alloc (.cells #[.bool (mkN true n), .slice (mkA ao n) (mkL n) (mkC n cap)] 27)) :=
    ((b2.setCell (by simp) _).setCell (by simp) _).alloc (by simp; omega) _
  obtain ⟨c0, c1⟩ := res_cells hr (.bool (mkN true n)) (.slice (mkA ao n) (mkL n) (mkC n cap)) (.cells #[.bool (mkN true n), .slice (mkA ao n) (mkL n) (mkC n cap)] 27)
  have hsw := hs2.after (g := w.heap.size) (by omega) (.bool (mkN true n)) (.slice (mkA ao n) (mkL n) (mkC n cap)) (.cells #[.bool (mkN true n), .slice (mkA ao n) (mkL n) (mkC n cap)] 27)
  revert hfin c0 c1 hsw
  generalize (((W2.setCell ⟨w.heap.size, 0, none⟩ (.bool (mkN true n))).setCell ⟨w.heap.size, 1, none⟩ (.slice (mkA ao n) (mkL n) (mkC n cap))).alloc (.cells #[.bool (mkN true n), .slice (mkA ao n) (mkL n) (mkC n cap)] 27)) = W4
  intro hfin c0 c1 hsw
  have HSW := Lib.hid hsw
  clear hsw
  refine bodyPost_ret (v := .tuple #[.agg #[.bool (mkN true n), .slice (mkA ao n) (mkL n) (mkC n cap)], .bool (mkK n)]) (by simp [results, Tryz.results24, go_sem, c0, c1]) rfl ?_
  exact numRes_made hfin HAB.out HSG.out (fun _ => HSW.out.mono (by omega))

set_option maxRecDepth 10000 in
set_option maxHeartbeats 1000000 in
theorem parse_pos (s : ByteArray) (w : World) (h : decB (cutT s) = true) (hn : cutN s = false) (hz : false = true → isZ (cutT s) = false) (v : Nat) (hv : v = decV 0 (cutT s).data.toList) : Calls Tryz.prog 24 #[.string s] w (NumRes w (((v : Nat) : Int))) := by
  have HCP : Hid (∀ W, Calls Tryz.prog 63 #[.string s, .string ⟨#[45]⟩] W fun e w' => e = .returned (.tuple #[.string (cutT s), .bool (cutN s)]) ∧ w' = W) := fun W => Tryz.strings_CutPrefix s _ W
  have HDC : Hid (∀ W, Calls Tryz.prog 64 #[.string (cutT s)] W (SameRes W true)) := fun W => by have := decimal_any (cutT s) W; rwa [h] at this
  obtain ⟨n, hnl⟩ : ∃ n, n = (digs v).length := ⟨_, rfl⟩
  have HPA : Hid (∀ W, Calls Tryz.prog 65 #[.string (cutT s)] W fun e w' => ∃ ao cap, e = .returned (.slice ao n cap) ∧ Sw W.heap.size w' (.slice ao n cap) (digs v) ∧ Below W.heap.size W w') := fun W => by
    obtain ⟨h1, h2⟩ := decB_fit _ h
    refine (parsed_any _ W h1 h2).mono ?_
    rintro e w' ⟨x, rfl, hs, hb⟩
    rw [← hv] at hs
    obtain ⟨ao, cap, rfl⟩ := hs.sl.mk'
    rw [← hnl] at hs ⊢
    exact ⟨_, _, rfl, hs, hb⟩
  have hzz := eql_zero (cutT s)
  have hsg : (((v : Nat) : Int)) ≠ 0 → false = decide ((((v : Nat) : Int)) < 0) := by intro _; symm; rw [decide_eq_false_iff_not]; omega
  have hab : n = (digs (((v : Nat) : Int)).natAbs).length := by rw [hnl]; congr 2 <;> omega
  have had : digs v = digs (((v : Nat) : Int)).natAbs := by congr 1 <;> omega
  clear hzz
  rw [hn] at HCP
  obtain ⟨t, ht⟩ : ∃ t, t = cutT s := ⟨_, rfl⟩
  obtain ⟨z, hzd⟩ : ∃ z : Int, z = ((v : Nat) : Int) := ⟨_, rfl⟩
  rw [← ht] at HCP HDC HPA
  rw [← hzd] at hsg hab had ⊢
  rw [had] at HPA
  have HSG := Lib.hid hsg
  have HAB := Lib.hid hab
  clear ht hn h hz hzd hsg hab had hv hnl
  go_enter Tryz.func24, Tryz.ntmps24
  go_wp2_with (first | (go_at_call 63; refine (HCP.out _).mono ?_; rintro e w' ⟨rfl, rfl⟩) | (go_at_call 64; refine (HDC.out _).mono ?_; rintro e W1 ⟨rfl, hb1⟩) | (go_at_call 65; refine (HPA.out _).mono ?_; rintro e W2 ⟨ao, cap, rfl, hs2, hb2⟩; have hr := ((resbox_new w).below hb1).below hb2; obtain ⟨r0, r1, f0, f1⟩ := hr.cells; have hz1 := hr.lt; have hz2 := Nat.le_of_lt hz1) | (go_at_call 47; refine (made_any _ _ _ _ _).mono ?_; rintro e W3 ⟨rfl, rfl⟩))
  have q0 := hb1.size
  have q1 := hb2.size
  simp at q0
  have b1 : Below w.heap.size w W1 := Below.trans (by go_grown) (hb1.mono (by simp))
  have b2 : Below w.heap.size w W2 := b1.trans (hb2.mono (by omega))
  have hfin : Below w.heap.size w (((W2.setCell ⟨w.heap.size, 0, none⟩ (.bool (mkN false n))).setCell ⟨w.heap.size, 1, none⟩ (.slice (mkA ao n) (mkL n) (mkC n cap))).alloc (.cells #[.bool (mkN false n), .slice (mkA ao n) (mkL n) (mkC n cap)] 27)) :=
    ((b2.setCell (by simp) _).setCell (by simp) _).alloc (by simp; omega) _
  obtain ⟨c0, c1⟩ := res_cells hr (.bool (mkN false n)) (.slice (mkA ao n) (mkL n) (mkC n cap)) (.cells #[.bool (mkN false n), .slice (mkA ao n) (mkL n) (mkC n cap)] 27)
  have hsw := hs2.after (g := w.heap.size) (by omega) (.bool (mkN false n)) (.slice (mkA ao n) (mkL n) (mkC n cap)) (.cells #[.bool (mkN false n), .slice (mkA ao n) (mkL n) (mkC n cap)] 27)
  revert hfin c0 c1 hsw
  generalize (((W2.setCell ⟨w.heap.size, 0, none⟩ (.bool (mkN false n))).setCell ⟨w.heap.size, 1, none⟩ (.slice (mkA ao n) (mkL n) (mkC n cap))).alloc (.cells #[.bool (mkN false n), .slice (mkA ao n) (mkL n) (mkC n cap)] 27)) = W4
  intro hfin c0 c1 hsw
  have HSW := Lib.hid hsw
  clear hsw
  refine bodyPost_ret (v := .tuple #[.agg #[.bool (mkN false n), .slice (mkA ao n) (mkL n) (mkC n cap)], .bool (mkK n)]) (by simp [results, Tryz.results24, go_sem, c0, c1]) rfl ?_
  exact numRes_made hfin HAB.out HSG.out (fun _ => HSW.out.mono (by omega))

/-- num.Parse. -/
theorem parse_any (s : ByteArray) (w : World) : Calls Tryz.prog 24 #[.string s] w (ParseRes w (parseZ s)) := by
  by_cases h : decB (cutT s) = true
  · by_cases hn : cutN s = true
    · by_cases hz : isZ (cutT s) = true
      · have e : parseZ s = none := by unfold parseZ; rw [if_neg (by rw [hn, hz]; simp)]
        rw [e]
        exact parse_minus s w h hn hz
      · have e : parseZ s = some (-((decV 0 (cutT s).data.toList : Nat) : Int)) := by
          unfold parseZ; rw [if_pos ⟨h, fun h => hz h.2⟩, if_pos hn]
        rw [e]
        exact parse_neg s w h hn (fun _ => by simpa using hz) _ rfl
    · have e : parseZ s = some ((decV 0 (cutT s).data.toList : Nat) : Int) := by
        unfold parseZ; rw [if_pos ⟨h, fun h => hn h.1⟩, if_neg hn]
      rw [e]
      exact parse_pos s w h (by simpa using hn) (fun h => by cases h) _ rfl
  · have e : parseZ s = none := by unfold parseZ; rw [if_neg (fun h' => h h'.1)]
    rw [e]
    exact parse_bad s w (by simpa using h)

end Go.Proofs.YtdgmjmckeeeljaaGreatDoor
