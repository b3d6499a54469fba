/- Contracts of num's texts: parsed. Contract of num: Parse. No condition. Contract of num's texts: groups. Contract of num's texts: groups. Contracts of the reference: trim, signed. Contract of the reference: Made, for any slice of ints. Contracts: a strings.Builder of this dump. Contract: strconv.FormatUint to the base 10, below 10^9. Decimal texts by groups of nine digits: the groups, the last one first, each but the first filled with zeros, are the text. Contract of num.Text, for a right Num. Premise: the table uint64pow10 is laid in the world. What the rows' condition gives: the table of powers of ten; and a world that meets it. No condition. Contract of num.Text, for a right Num. Premise: the table uint64pow10 is laid in the world. Contract of num.Text, for a right Num. Premise: the table uint64pow10 is laid in the world. -/
import Derived.Test.YtdgmjmckeeeljaaGreatDoorGi3
import Derived.Test.YtdgmjmckeeeljaaGreatDoorGi2
import Derived.Laws.OwnMore
import Derived.OwnWalk
import Derived.Lib.AppendIntMem
import Derived.Test.YtdgmjmckeeeljaaGreatDoorRows
import Derived.LaidLaws
import Derived.LaidHandle
import Derived.Lib.LaidTab
import Derived.Deep.DeepLaidRun
import Derived.Stop.LaidErr
namespace Go.Proofs.YtdgmjmckeeeljaaGreatDoor
open Go.RowKit

/-- What digits spell, on from acc. -/
def decV (acc : Nat) (l : List UInt8) : Nat := l.foldl (fun a b => a * 10 + (b.toNat - 48)) acc

theorem decV_acc (acc : Nat) (l : List UInt8) : decV acc l = acc * 10 ^ l.length + decV 0 l := by
  induction l generalizing acc with
  | nil => simp [decV]
  | cons b r ih =>
    have h1 : decV acc (b :: r) = decV (acc * 10 + (b.toNat - 48)) r := rfl
    have h2 : decV 0 (b :: r) = decV (0 * 10 + (b.toNat - 48)) r := rfl
    rw [h1, h2, ih, ih (0 * 10 + (b.toNat - 48)), List.length_cons, Nat.pow_succ]
    simp only [Nat.add_mul, Nat.zero_mul, Nat.zero_add, Nat.mul_assoc, Nat.mul_comm 10, Nat.add_assoc]

theorem decV_append (acc : Nat) (l r : List UInt8) : decV acc (l ++ r) = decV (decV acc l) r := List.foldl_append

theorem decV_lt (l : List UInt8) (h : l.all digB = true) : decV 0 l < 10 ^ l.length := by
  induction l with
  | nil => simp [decV]
  | cons b r ih =>
    simp only [List.all_cons, Bool.and_eq_true] at h
    have h1 : decV 0 (b :: r) = decV (0 * 10 + (b.toNat - 48)) r := rfl
    have h2 := h.1
    unfold digB at h2
    simp only [Bool.and_eq_true, decide_eq_true_eq] at h2
    rw [h1, decV_acc, List.length_cons, Nat.pow_succ]
    have := ih h.2
    have h3 : (0 * 10 + (b.toNat - 48)) * 10 ^ r.length ≤ 9 * 10 ^ r.length := Nat.mul_le_mul_right _ (by omega)
    omega

theorem parseM_dec (l : List UInt8) (acc : Nat) (h : l.all digB = true) (hl : (acc + 1) * 10 ^ l.length ≤ 1000000000) : Lib.parseUintM 4294967295 acc l = .ok (decV acc l) := by
  induction l generalizing acc with
  | nil => rfl
  | cons b r ih =>
    simp only [List.all_cons, Bool.and_eq_true] at h
    have h2 := h.1
    unfold digB at h2
    simp only [Bool.and_eq_true, decide_eq_true_eq] at h2
    rw [List.length_cons, Nat.pow_succ] at hl
    have hp : 1 ≤ 10 ^ r.length := Nat.pow_pos (by omega)
    have hx : (acc + 1) * 10 * 10 ^ r.length ≤ 1000000000 := by
      rw [Nat.mul_assoc, Nat.mul_comm 10]; exact hl
    have hy : (acc + 1) * 10 * 1 ≤ (acc + 1) * 10 * 10 ^ r.length := Nat.mul_le_mul_left _ hp
    unfold Lib.parseUintM
    rw [if_pos h2, if_neg (by omega), if_neg (by omega)]
    refine ih _ h.2 (Nat.le_trans (Nat.mul_le_mul_right _ ?_) hx)
    omega

theorem parseB_dec (l : List UInt8) (h0 : l ≠ []) (h : l.all digB = true) (hl : l.length ≤ 9) : Lib.parseUintB 32 l = .ok (decV 0 l) := by
  unfold Lib.parseUintB
  rw [if_neg h0]
  refine parseM_dec l 0 h ?_
  have := Nat.pow_le_pow_right (n := 10) (by omega) hl
  omega

theorem list_extract (t : ByteArray) (a b : Nat) : (t.extract a b).data.toList = (t.data.toList.drop a).take (b - a) := by
  rw [ByteArray.data_extract, Array.toList_extract, List.extract_eq_take_drop]

theorem ten_fit (x k : Nat) (h : x < 10 ^ k) : (digs x).length ≤ k :=
  digs_length_le.2 (Nat.lt_of_lt_of_le h (Nat.pow_le_pow_left (by omega) _))

/-- The loop of parsed: what is read, and what is left. -/
structure ParI (w : World) (full : List UInt8) (wr : World) (t : ByteArray) (v : Value) (d : Nat) : Prop where
  sum : d * 10 ^ t.size + decV 0 t.data.toList = decV 0 full
  all : t.data.toList.all digB = true
  len : t.size ≤ 2467
  whole : d = 0 ∨ t.size % 9 = 0
  sl : Sw w.heap.size wr v (digs d)
  below : Below w.heap.size w wr

theorem digs_group (d n : Nat) (h : (digs d).length ≤ n) : (digs (d * 1000000000)).length ≤ n + 1 := digs_length_le.2 (by
  rw [Nat.pow_succ]
  have h1 := digs_length_le.1 h
  have h2 : 0 < 4294967296 ^ n := Nat.pow_pos (by omega)
  calc d * 1000000000 ≤ 4294967296 ^ n * 1000000000 := Nat.mul_le_mul_right _ (Nat.le_of_lt h1)
    _ < 4294967296 ^ n * 4294967296 := Nat.mul_lt_mul_of_pos_left (by omega) h2)

/-- A round of parsed: what its first group spells. -/
theorem ParI.step {w wr W : World} {full : List UInt8} {t : ByteArray} {v v' : Value} {d g k : Nat} (h : ParI w full wr t v d) (hk : k = (t.size - 1) % 9 + 1) (h0 : 0 < t.size) (hg : g = decV 0 (t.data.toList.take k))
    (hs : Sw w.heap.size W v' (digs (d * 1000000000 + g))) (hb : Below w.heap.size w W) : ParI w full W (t.extract k t.size) v' (d * 1000000000 + g) := by
  have hlen : t.data.toList.length = t.size := by rw [Array.length_toList]; rfl
  have hkt : k ≤ t.size := by have := Nat.mod_le (t.size - 1) 9; omega
  have he : (t.extract k t.size).data.toList = t.data.toList.drop k := by
    rw [list_extract]
    exact List.take_of_length_le (by rw [List.length_drop]; omega)
  have hsz : (t.extract k t.size).size = t.size - k := by
    have : (t.extract k t.size).size = (t.extract k t.size).data.toList.length := by rw [Array.length_toList]; rfl
    rw [this, he, List.length_drop, hlen]
  refine ⟨?_, ?_, by rw [hsz]; have := h.len; omega, ?_, hs, hb⟩
  · rw [hsz, he, ← h.sum]
    have hsplit : decV 0 t.data.toList = g * 10 ^ (t.size - k) + decV 0 (t.data.toList.drop k) := by
      conv => lhs; rw [← List.take_append_drop k t.data.toList]
      rw [decV_append, decV_acc, ← hg, List.length_drop, hlen]
    rw [hsplit, Nat.add_mul, Nat.add_assoc]
    congr 1
    rcases h.whole with h9 | h9
    · simp [h9]
    · have : k = 9 := by omega
      subst this
      have e : t.size = 9 + (t.size - 9) := by omega
      conv => rhs; rw [e, Nat.pow_add, ← Nat.mul_assoc]
  · rw [he]
    have := h.all
    rw [List.all_eq_true] at this ⊢
    exact fun x hx => this x (List.mem_of_mem_drop hx)
  · right; rw [hsz]; omega

theorem ParI.group {w wr : World} {full : List UInt8} {t : ByteArray} {v : Value} {d k : Nat} (h : ParI w full wr t v d) (hk : k = (t.size - 1) % 9 + 1) (h0 : 0 < t.size) :
    decV 0 (t.data.toList.take k) < 1000000000 ∧ Lib.parseUintB 32 (t.extract 0 k).data.toList = .ok (decV 0 (t.data.toList.take k)) := by
  have hlen : t.data.toList.length = t.size := by rw [Array.length_toList]; rfl
  have hall : (t.data.toList.take k).all digB = true := by
    have := h.all
    rw [List.all_eq_true] at this ⊢
    exact fun x hx => this x (List.mem_of_mem_take hx)
  have hl : (t.data.toList.take k).length ≤ 9 := by rw [List.length_take]; omega
  constructor
  · refine Nat.lt_of_lt_of_le (decV_lt _ hall) ?_
    exact Nat.pow_le_pow_right (n := 10) (by omega) hl
  · rw [list_extract, List.drop_zero, Nat.sub_zero]
    refine parseB_dec _ ?_ hall hl
    intro e
    have : (t.data.toList.take k).length = 0 := by rw [e]; rfl
    rw [List.length_take] at this
    omega

set_option maxRecDepth 10000 in
set_option maxHeartbeats 1000000 in
theorem parsed_any (s : ByteArray) (w : World) (h1 : s.size ≤ 2467) (h2 : s.data.toList.all digB = true) :
    Calls Tryz.prog 65 #[.string s] w (NewDigs w (decV 0 s.data.toList)) := by
  have h0 : ParI w s.data.toList w s (.slice none 0 0) 0 := ⟨by rw [Nat.zero_mul, Nat.zero_add], h2, h1, .inl rfl, by rw [digs_zero]; exact Sw.nil _ _ _ _, Below.refl _ _⟩
  have H0 := Lib.hid h0
  obtain ⟨D, hD⟩ : ∃ D, D = decV 0 s.data.toList := ⟨_, rfl⟩
  obtain ⟨full, hf⟩ : ∃ full, full = s.data.toList := ⟨_, rfl⟩
  rw [← hf] at H0 hD
  rw [← hf, ← hD]
  have HD := Lib.hid hD
  have hfit : (digs D).length ≤ 2467 := by
    have := ten_fit _ _ (decV_lt _ h2)
    rw [Array.length_toList] at this
    rw [hD, hf]
    exact Nat.le_trans this h1
  have HF := Lib.hid hfit
  clear h0 h2 hf hD hfit
  go_enter Tryz.func65, Tryz.ntmps65
  go_wp2
  go_loopw [0, 3] (fun sv dv wr => ∃ t d, sv = .string t ∧ t.size ≤ 2467 ∧ Hid (ParI w full wr t dv d)) (fun sv _ _ => match sv with | .string t => t.size | _ => 0)
  case atStart => exact ⟨s, 0, rfl, h1, H0⟩
  case round =>
    obtain ⟨t, d, rfl, ht, HI⟩ := hrel
    by_cases hz : t.size = 0
    · have hd : d = D := by
        have := HI.out.sum
        have he : t.data.toList = [] := List.eq_nil_of_length_eq_zero (by rw [Array.length_toList]; exact hz)
        rw [he, hz, Nat.pow_zero, Nat.mul_one, ← HD.out] at this
        exact this
      subst hd
      go_wp2
      go_ret
      exact ⟨_, rfl, HI.out.sl, HI.out.below⟩
    · have hp : 0 < t.size := by omega
      obtain ⟨g, hg⟩ : ∃ g, g = decV 0 (t.data.toList.take ((t.size - 1) % 9 + 1)) := ⟨_, rfl⟩
      obtain ⟨hg1, hg2⟩ := HI.out.group rfl hp
      have hex : (t.extract 0 ((t.size - 1) % 9 + 1)).size ≤ 9223372036854775806 := by
        rw [ByteArray.size_extract]; omega
      rw [← hg] at hg1 hg2
      have HPU : Hid (∀ W, Calls Tryz.prog 97 #[.string (t.extract 0 ((t.size - 1) % 9 + 1)), .int .i64 10, .int .i64 32] W fun e w' => e = .returned (.tuple #[.int .u64 g, .nilIface]) ∧ Below W.heap.size W w') := fun W =>
        (Tryz.strconv_ParseUint_10_at32_ok _ hex g hg2 W).mono fun e w' h => ⟨h.1, by
          rcases h.2 with rfl | rfl
          · exact Below.refl _ _
          · exact Lib.bytesWorld_below _ _ _⟩
      have hle : d ≤ D := by
        have h3 := HI.out.sum
        rw [← HD.out] at h3
        have : d * 1 ≤ d * 10 ^ t.size := Nat.mul_le_mul_left _ (Nat.pow_pos (by omega))
        omega
      have hl1 : (digs d).length ≤ 2467 := Nat.le_trans (digs_mono hle) HF.out
      have hl2 : (digs (d * 1000000000)).length ≤ 2468 := digs_group d 2467 hl1
      have HTM : Hid (∀ W v1 v2, Sl W v1 (digs d) → Sl W v2 [1000000000] → Calls Tryz.prog 69 #[v1, v2] W (NewDigs W (d * 1000000000))) := fun W v1 v2 h3 h4 => by
        have := times_any h3 h4 (by omega) (by simp)
        rw [val_digs, show val [1000000000] = 1000000000 from rfl] at this
        exact this
      have HPL : Hid (∀ W v1 v2, Sl W v1 (digs (d * 1000000000)) → Sl W v2 [g] → Calls Tryz.prog 45 #[v1, v2] W (NewDigs W (d * 1000000000 + g))) := fun W v1 v2 h3 h4 => by
        have := plus_any h3 h4 (by omega) (by simp)
        rw [val_digs, show val [g] = g by simp [val]] at this
        exact this
      have HST : Hid (∀ W v', Sw w.heap.size W v' (digs (d * 1000000000 + g)) → Below w.heap.size w W → ParI w full W (t.extract ((t.size - 1) % 9 + 1) t.size) v' (d * 1000000000 + g)) := fun W v' h3 h4 => HI.out.step rfl hp hg h3 h4
      have HIs := Lib.hid HI.out.sl.sl
      have HIb := Lib.hid HI.out.below
      have hg4 : g < 4294967296 := by omega
      clear hg hg2 hex hle hl1 hl2 hg1
      go_wp2_with (first | (go_at_call 97; refine (HPU.out _).mono ?_; rintro e W1 ⟨rfl, hb1⟩) | (go_at_call 69; refine (HTM.out _ _ _ ((HIs.out.below hb1).below (by go_grown)) (sl_one _ 1000000000 (by omega)).sl).mono ?_; rintro e W2 ⟨v2, rfl, hs2, hb2⟩) | (go_at_call 45; refine (HPL.out _ _ _ (hs2.sl.below (by go_grown)) (sl_one _ g hg4).sl).mono ?_; rintro e W3 ⟨v3, rfl, hs3, hb3⟩))
      have q0 := HIb.out.size
      have q1 := hb1.size
      have q2 := hb2.size
      have q3 := hb3.size
      simp at q2 q3
      have r1 : Below w.heap.size w W1 := HIb.out.trans (hb1.mono q0)
      have r2 : Below w.heap.size w W2 := (r1.trans (by go_grown)).trans (hb2.mono (by simp; omega))
      have r3 : Below w.heap.size w W3 := (r2.trans (by go_grown)).trans (hb3.mono (by simp; omega))
      have HN := Lib.hid (HST.out W3 v3 (hs3.mono (by simp; omega)) r3)
      go_roundw
      case rel => exact ⟨_, _, rfl, by rw [ByteArray.size_extract]; omega, HN⟩
      case measure => simp only [ByteArray.size_extract]; omega

end Go.Proofs.YtdgmjmckeeeljaaGreatDoor

namespace Go.Proofs.YtdgmjmckeeeljaaGreatDoor
open Go.RowKit

def isZ (t : ByteArray) : Bool := t.data.toList == [48]
def cutT (s : ByteArray) : ByteArray := ⟨(Lib.trimPrefix s.data.toList [45]).toArray⟩
def cutN (s : ByteArray) : Bool := Lib.hasPrefix s.data.toList [45]

/-- What a text stands for. -/
def parseZ (s : ByteArray) : Option Int :=
  if decB (cutT s) = true ∧ ¬(cutN s = true ∧ isZ (cutT s) = true) then some (if cutN s = true then -((decV 0 (cutT s).data.toList : Nat) : Int) else ((decV 0 (cutT s).data.toList : Nat) : Int)) else none

def ParseRes (w : World) : Option Int → Ending → World → Prop
  | none, e, w' => e = .returned (.tuple #[.agg #[.bool false, .slice none 0 0], .bool false]) ∧ Below w.heap.size w w'
  | some z, e, w' => NumRes w z e w'

theorem eql_zero (t : ByteArray) : binOp BinOp.eql 9 (.string t) (.string ⟨#[48]⟩) = (pure (.bool (isZ t)) : Sem Value) := by
  rw [binOp_string_eql, ByteArray.toList_eq, ByteArray.toList_eq]
  rfl

theorem decV_pos (t : ByteArray) (h : decB t = true) (hz : isZ t = false) : 0 < decV 0 t.data.toList := by
  unfold decB at h
  simp only [Bool.and_eq_true, Bool.or_eq_true, decide_eq_true_eq] at h
  obtain ⟨⟨⟨h1, _⟩, h3⟩, h4⟩ := h
  have hlen : t.data.toList.length = t.size := by rw [Array.length_toList]; rfl
  unfold isZ at hz
  rw [beq_eq_false_iff_ne] at hz
  match hm : t.data.toList with
  | [] => rw [hm] at hlen; exact absurd hlen.symm h1
  | b :: r =>
    rw [hm] at h3 h4 hlen hz
    simp only [List.all_cons, Bool.and_eq_true] at h4
    have h5 := h4.1
    unfold digB at h5
    simp only [Bool.and_eq_true, decide_eq_true_eq] at h5
    have h6 : b.toNat ≠ 48 := by
      rcases h3 with h3 | h3
      · exact h3
      · intro hb
        apply hz
        have hr : r = [] := List.eq_nil_of_length_eq_zero (by simp at hlen; omega)
        rw [hr, show b = 48 from UInt8.toNat_inj.1 hb]
    have h7 : decV 0 (b :: r) = decV (0 * 10 + (b.toNat - 48)) r := rfl
    rw [h7, decV_acc]
    have h8 : 1 ≤ (0 * 10 + (b.toNat - 48)) * 10 ^ r.length := Nat.mul_pos (by omega) (Nat.pow_pos (by omega))
    omega

set_option maxRecDepth 10000 in
set_option maxHeartbeats 1000000 in
theorem parse_bad (s : ByteArray) (w : World) (h : decB (cutT s) = false) : Calls Tryz.prog 24 #[.string s] w (ParseRes w none) := by
  have HCP : Hid (∀ W, Calls Tryz.prog 63 #[.string s, .string ⟨#[45]⟩] W fun e w' => e = .returned (.tuple #[.string (cutT s), .bool (cutN s)]) ∧ w' = W) := fun W => Tryz.strings_CutPrefix s _ W
  have HDC : Hid (∀ W, Calls Tryz.prog 64 #[.string (cutT s)] W (SameRes W false)) := fun W => by have := decimal_any (cutT s) W; rwa [h] at this
  obtain ⟨t, ht⟩ : ∃ t, t = cutT s := ⟨_, rfl⟩
  obtain ⟨neg, hn⟩ : ∃ neg, neg = cutN s := ⟨_, rfl⟩
  rw [← ht] at HCP HDC
  rw [← hn] at HCP
  clear ht hn h
  go_enter Tryz.func24, Tryz.ntmps24
  go_wp2_with (first | (go_at_call 63; refine (HCP.out _).mono ?_; rintro e w' ⟨rfl, rfl⟩) | (go_at_call 64; refine (HDC.out _).mono ?_; rintro e W1 ⟨rfl, hb1⟩; have hr := (resbox_new w).below hb1; obtain ⟨r0, r1, f0, f1⟩ := hr.cells; obtain ⟨q0, q1⟩ := hr.stored (.bool false) (.slice none 0 0)))
  refine bodyPost_ret (v := .tuple #[.agg #[.bool false, .slice none 0 0], .bool false]) (by simp [results, Tryz.results24, go_sem, q0, q1]) rfl ?_
  refine ⟨rfl, ?_⟩
  have hs := hb1.size
  simp at hs
  exact ((Below.trans (by go_grown) (hb1.mono (by simp))).setCell (by simp) _).setCell (by simp) _

set_option maxRecDepth 10000 in
set_option maxHeartbeats 1000000 in
theorem parse_minus (s : ByteArray) (w : World) (h : decB (cutT s) = true) (hn : cutN s = true) (hz : isZ (cutT s) = true) : Calls Tryz.prog 24 #[.string s] w (ParseRes w none) := by
  have HCP : Hid (∀ W, Calls Tryz.prog 63 #[.string s, .string ⟨#[45]⟩] W fun e w' => e = .returned (.tuple #[.string (cutT s), .bool (cutN s)]) ∧ w' = W) := fun W => Tryz.strings_CutPrefix s _ W
  have HDC : Hid (∀ W, Calls Tryz.prog 64 #[.string (cutT s)] W (SameRes W true)) := fun W => by have := decimal_any (cutT s) W; rwa [h] at this
  have hzz := eql_zero (cutT s)
  rw [hz] at hzz
  rw [hn] at HCP
  obtain ⟨t, ht⟩ : ∃ t, t = cutT s := ⟨_, rfl⟩
  rw [← ht] at HCP HDC hzz
  clear ht hn h hz
  go_enter Tryz.func24, Tryz.ntmps24
  go_wp2_with (first | (go_at_call 63; refine (HCP.out _).mono ?_; rintro e w' ⟨rfl, rfl⟩) | (go_at_call 64; refine (HDC.out _).mono ?_; rintro e W1 ⟨rfl, hb1⟩; have hr := (resbox_new w).below hb1; obtain ⟨r0, r1, f0, f1⟩ := hr.cells; obtain ⟨q0, q1⟩ := hr.stored (.bool false) (.slice none 0 0)))
  refine bodyPost_ret (v := .tuple #[.agg #[.bool false, .slice none 0 0], .bool false]) (by simp [results, Tryz.results24, go_sem, q0, q1]) rfl ?_
  refine ⟨rfl, ?_⟩
  have hs := hb1.size
  simp at hs
  exact ((Below.trans (by go_grown) (hb1.mono (by simp))).setCell (by simp) _).setCell (by simp) _

theorem decB_fit (t : ByteArray) (h : decB t = true) : t.size ≤ 2467 ∧ t.data.toList.all digB = true := by
  unfold decB at h
  simp only [Bool.and_eq_true, decide_eq_true_eq] at h
  exact ⟨h.1.1.2, h.2⟩

set_option maxRecDepth 10000 in
set_option maxHeartbeats 1000000 in
theorem parse_neg (s : ByteArray) (w : World) (h : decB (cutT s) = true) (hn : cutN s = true) (hz : true = true → isZ (cutT s) = false) (v : Nat) (hv : v = decV 0 (cutT s).data.toList) : Calls Tryz.prog 24 #[.string s] w (NumRes w (-((v : Nat) : Int))) := by
  have HCP : Hid (∀ W, Calls Tryz.prog 63 #[.string s, .string ⟨#[45]⟩] W fun e w' => e = .returned (.tuple #[.string (cutT s), .bool (cutN s)]) ∧ w' = W) := fun W => Tryz.strings_CutPrefix s _ W
  have HDC : Hid (∀ W, Calls Tryz.prog 64 #[.string (cutT s)] W (SameRes W true)) := fun W => by have := decimal_any (cutT s) W; rwa [h] at this
  obtain ⟨n, hnl⟩ : ∃ n, n = (digs v).length := ⟨_, rfl⟩
  have HPA : Hid (∀ W, Calls Tryz.prog 65 #[.string (cutT s)] W fun e w' => ∃ ao cap, e = .returned (.slice ao n cap) ∧ Sw W.heap.size w' (.slice ao n cap) (digs v) ∧ Below W.heap.size W w') := fun W => by
    obtain ⟨h1, h2⟩ := decB_fit _ h
    refine (parsed_any _ W h1 h2).mono ?_
    rintro e w' ⟨x, rfl, hs, hb⟩
    rw [← hv] at hs
    obtain ⟨ao, cap, rfl⟩ := hs.sl.mk'
    rw [← hnl] at hs ⊢
    exact ⟨_, _, rfl, hs, hb⟩
  have hzz := eql_zero (cutT s)
  have hsg : (-((v : Nat) : Int)) ≠ 0 → true = decide ((-((v : Nat) : Int)) < 0) := by have := decV_pos _ h (hz rfl); rw [← hv] at this; intro _; symm; rw [decide_eq_true_eq]; omega
  have hab : n = (digs (-((v : Nat) : Int)).natAbs).length := by rw [hnl]; congr 2 <;> omega
  have had : digs v = digs (-((v : Nat) : Int)).natAbs := by congr 1 <;> omega
  rw [hz rfl] at hzz
  rw [hn] at HCP
  obtain ⟨t, ht⟩ : ∃ t, t = cutT s := ⟨_, rfl⟩
  obtain ⟨z, hzd⟩ : ∃ z : Int, z = -((v : Nat) : Int) := ⟨_, rfl⟩
  rw [← ht] at HCP HDC HPA hzz
  rw [← hzd] at hsg hab had ⊢
  rw [had] at HPA
  have HSG := Lib.hid hsg
  have HAB := Lib.hid hab
  clear ht hn h hz hzd hsg hab had hv hnl
  go_enter Tryz.func24, Tryz.ntmps24
  go_wp2_with (first | (go_at_call 63; refine (HCP.out _).mono ?_; rintro e w' ⟨rfl, rfl⟩) | (go_at_call 64; refine (HDC.out _).mono ?_; rintro e W1 ⟨rfl, hb1⟩) | (go_at_call 65; refine (HPA.out _).mono ?_; rintro e W2 ⟨ao, cap, rfl, hs2, hb2⟩; have hr := ((resbox_new w).below hb1).below hb2; obtain ⟨r0, r1, f0, f1⟩ := hr.cells; have hz1 := hr.lt; have hz2 := Nat.le_of_lt hz1) | (go_at_call 47; refine (made_any _ _ _ _ _).mono ?_; rintro e W3 ⟨rfl, rfl⟩))
  have q0 := hb1.size
  have q1 := hb2.size
  simp at q0
  have b1 : Below w.heap.size w W1 := Below.trans (by go_grown) (hb1.mono (by simp))
  have b2 : Below w.heap.size w W2 := b1.trans (hb2.mono (by omega))
  have hfin : Below w.heap.size w (((W2.setCell ⟨w.heap.size, 0, none⟩ (.bool (mkN true n))).setCell ⟨w.heap.size, 1, none⟩ (.slice (mkA ao n) (mkL n) (mkC n cap))).alloc (.cells #[.bool (mkN true n), .slice (mkA ao n) (mkL n) (mkC n cap)] 27)) :=
    ((b2.setCell (by simp) _).setCell (by simp) _).alloc (by simp; omega) _
  obtain ⟨c0, c1⟩ := res_cells hr (.bool (mkN true n)) (.slice (mkA ao n) (mkL n) (mkC n cap)) (.cells #[.bool (mkN true n), .slice (mkA ao n) (mkL n) (mkC n cap)] 27)
  have hsw := hs2.after (g := w.heap.size) (by omega) (.bool (mkN true n)) (.slice (mkA ao n) (mkL n) (mkC n cap)) (.cells #[.bool (mkN true n), .slice (mkA ao n) (mkL n) (mkC n cap)] 27)
  revert hfin c0 c1 hsw
  generalize (((W2.setCell ⟨w.heap.size, 0, none⟩ (.bool (mkN true n))).setCell ⟨w.heap.size, 1, none⟩ (.slice (mkA ao n) (mkL n) (mkC n cap))).alloc (.cells #[.bool (mkN true n), .slice (mkA ao n) (mkL n) (mkC n cap)] 27)) = W4
  intro hfin c0 c1 hsw
  have HSW := Lib.hid hsw
  clear hsw
  refine bodyPost_ret (v := .tuple #[.agg #[.bool (mkN true n), .slice (mkA ao n) (mkL n) (mkC n cap)], .bool (mkK n)]) (by simp [results, Tryz.results24, go_sem, c0, c1]) rfl ?_
  exact numRes_made hfin HAB.out HSG.out (fun _ => HSW.out.mono (by omega))

set_option maxRecDepth 10000 in
set_option maxHeartbeats 1000000 in
theorem parse_pos (s : ByteArray) (w : World) (h : decB (cutT s) = true) (hn : cutN s = false) (hz : false = true → isZ (cutT s) = false) (v : Nat) (hv : v = decV 0 (cutT s).data.toList) : Calls Tryz.prog 24 #[.string s] w (NumRes w (((v : Nat) : Int))) := by
  have HCP : Hid (∀ W, Calls Tryz.prog 63 #[.string s, .string ⟨#[45]⟩] W fun e w' => e = .returned (.tuple #[.string (cutT s), .bool (cutN s)]) ∧ w' = W) := fun W => Tryz.strings_CutPrefix s _ W
  have HDC : Hid (∀ W, Calls Tryz.prog 64 #[.string (cutT s)] W (SameRes W true)) := fun W => by have := decimal_any (cutT s) W; rwa [h] at this
  obtain ⟨n, hnl⟩ : ∃ n, n = (digs v).length := ⟨_, rfl⟩
  have HPA : Hid (∀ W, Calls Tryz.prog 65 #[.string (cutT s)] W fun e w' => ∃ ao cap, e = .returned (.slice ao n cap) ∧ Sw W.heap.size w' (.slice ao n cap) (digs v) ∧ Below W.heap.size W w') := fun W => by
    obtain ⟨h1, h2⟩ := decB_fit _ h
    refine (parsed_any _ W h1 h2).mono ?_
    rintro e w' ⟨x, rfl, hs, hb⟩
    rw [← hv] at hs
    obtain ⟨ao, cap, rfl⟩ := hs.sl.mk'
    rw [← hnl] at hs ⊢
    exact ⟨_, _, rfl, hs, hb⟩
  have hzz := eql_zero (cutT s)
  have hsg : (((v : Nat) : Int)) ≠ 0 → false = decide ((((v : Nat) : Int)) < 0) := by intro _; symm; rw [decide_eq_false_iff_not]; omega
  have hab : n = (digs (((v : Nat) : Int)).natAbs).length := by rw [hnl]; congr 2 <;> omega
  have had : digs v = digs (((v : Nat) : Int)).natAbs := by congr 1 <;> omega
  clear hzz
  rw [hn] at HCP
  obtain ⟨t, ht⟩ : ∃ t, t = cutT s := ⟨_, rfl⟩
  obtain ⟨z, hzd⟩ : ∃ z : Int, z = ((v : Nat) : Int) := ⟨_, rfl⟩
  rw [← ht] at HCP HDC HPA
  rw [← hzd] at hsg hab had ⊢
  rw [had] at HPA
  have HSG := Lib.hid hsg
  have HAB := Lib.hid hab
  clear ht hn h hz hzd hsg hab had hv hnl
  go_enter Tryz.func24, Tryz.ntmps24
  go_wp2_with (first | (go_at_call 63; refine (HCP.out _).mono ?_; rintro e w' ⟨rfl, rfl⟩) | (go_at_call 64; refine (HDC.out _).mono ?_; rintro e W1 ⟨rfl, hb1⟩) | (go_at_call 65; refine (HPA.out _).mono ?_; rintro e W2 ⟨ao, cap, rfl, hs2, hb2⟩; have hr := ((resbox_new w).below hb1).below hb2; obtain ⟨r0, r1, f0, f1⟩ := hr.cells; have hz1 := hr.lt; have hz2 := Nat.le_of_lt hz1) | (go_at_call 47; refine (made_any _ _ _ _ _).mono ?_; rintro e W3 ⟨rfl, rfl⟩))
  have q0 := hb1.size
  have q1 := hb2.size
  simp at q0
  have b1 : Below w.heap.size w W1 := Below.trans (by go_grown) (hb1.mono (by simp))
  have b2 : Below w.heap.size w W2 := b1.trans (hb2.mono (by omega))
  have hfin : Below w.heap.size w (((W2.setCell ⟨w.heap.size, 0, none⟩ (.bool (mkN false n))).setCell ⟨w.heap.size, 1, none⟩ (.slice (mkA ao n) (mkL n) (mkC n cap))).alloc (.cells #[.bool (mkN false n), .slice (mkA ao n) (mkL n) (mkC n cap)] 27)) :=
    ((b2.setCell (by simp) _).setCell (by simp) _).alloc (by simp; omega) _
  obtain ⟨c0, c1⟩ := res_cells hr (.bool (mkN false n)) (.slice (mkA ao n) (mkL n) (mkC n cap)) (.cells #[.bool (mkN false n), .slice (mkA ao n) (mkL n) (mkC n cap)] 27)
  have hsw := hs2.after (g := w.heap.size) (by omega) (.bool (mkN false n)) (.slice (mkA ao n) (mkL n) (mkC n cap)) (.cells #[.bool (mkN false n), .slice (mkA ao n) (mkL n) (mkC n cap)] 27)
  revert hfin c0 c1 hsw
  generalize (((W2.setCell ⟨w.heap.size, 0, none⟩ (.bool (mkN false n))).setCell ⟨w.heap.size, 1, none⟩ (.slice (mkA ao n) (mkL n) (mkC n cap))).alloc (.cells #[.bool (mkN false n), .slice (mkA ao n) (mkL n) (mkC n cap)] 27)) = W4
  intro hfin c0 c1 hsw
  have HSW := Lib.hid hsw
  clear hsw
  refine bodyPost_ret (v := .tuple #[.agg #[.bool (mkN false n), .slice (mkA ao n) (mkL n) (mkC n cap)], .bool (mkK n)]) (by simp [results, Tryz.results24, go_sem, c0, c1]) rfl ?_
  exact numRes_made hfin HAB.out HSG.out (fun _ => HSW.out.mono (by omega))

/-- num.Parse. -/
theorem parse_any (s : ByteArray) (w : World) : Calls Tryz.prog 24 #[.string s] w (ParseRes w (parseZ s)) := by
  by_cases h : decB (cutT s) = true
  · by_cases hn : cutN s = true
    · by_cases hz : isZ (cutT s) = true
      · have e : parseZ s = none := by unfold parseZ; rw [if_neg (by rw [hn, hz]; simp)]
        rw [e]
        exact parse_minus s w h hn hz
      · have e : parseZ s = some (-((decV 0 (cutT s).data.toList : Nat) : Int)) := by
          unfold parseZ; rw [if_pos ⟨h, fun h => hz h.2⟩, if_pos hn]
        rw [e]
        exact parse_neg s w h hn (fun _ => by simpa using hz) _ rfl
    · have e : parseZ s = some ((decV 0 (cutT s).data.toList : Nat) : Int) := by
        unfold parseZ; rw [if_pos ⟨h, fun h => hn h.1⟩, if_neg hn]
      rw [e]
      exact parse_pos s w h (by simpa using hn) (fun h => by cases h) _ rfl
  · have e : parseZ s = none := by unfold parseZ; rw [if_neg (fun h' => h h'.1)]
    rw [e]
    exact parse_bad s w (by simpa using h)

end Go.Proofs.YtdgmjmckeeeljaaGreatDoor

namespace Go.Proofs.YtdgmjmckeeeljaaGreatDoor
open Go.RowKit

/-- The digits to the base 10^9, at least one, the lowest first. -/
def grp (x : Nat) : List Nat := if x < 1000000000 then [x] else x % 1000000000 :: grp (x / 1000000000)
termination_by x
decreasing_by exact Nat.div_lt_self (by omega) (by omega)

theorem grp_step (x : Nat) : grp x = x % 1000000000 :: (if x / 1000000000 = 0 then [] else grp (x / 1000000000)) := by
  rw [grp]
  by_cases h : x < 1000000000
  · rw [if_pos h, if_pos (by omega), Nat.mod_eq_of_lt h]
  · rw [if_neg h, if_neg (by omega)]

theorem grp_len : ∀ (k x : Nat), x < 1000000000 ^ (k + 1) → (grp x).length ≤ k + 1
  | 0, x, h => by rw [grp, if_pos (by simpa using h)]; simp
  | k + 1, x, h => by
    rw [grp]
    by_cases h0 : x < 1000000000
    · rw [if_pos h0]; simp
    · rw [if_neg h0, List.length_cons]
      have := grp_len k (x / 1000000000) (by rw [Nat.div_lt_iff_lt_mul (by omega)]; rwa [Nat.pow_succ] at h)
      omega

theorem grp_bd (x : Nat) : ∀ d ∈ grp x, d < 1000000000 := by
  induction x using Nat.strongRecOn with
  | _ x ih =>
    intro d hd
    rw [grp] at hd
    by_cases h : x < 1000000000
    · rw [if_pos h] at hd
      simp at hd; omega
    · rw [if_neg h] at hd
      rcases List.mem_cons.1 hd with rfl | hd
      · exact Nat.mod_lt _ (by omega)
      · exact ih _ (Nat.div_lt_self (by omega) (by omega)) d hd

theorem Sw.keptNe {B : Nat} {W W' : World} {ao : Option Addr} {n cap : Nat} {ds : List Nat} {row : Option Nat} (h : Sw B W (.slice ao n cap) ds) (hg : W.grownBy W' row) (hne : ∀ b off, ao = some ⟨b, off, none⟩ → row ≠ some b) : Sw B W' (.slice ao n cap) ds := by
  have hb : ∀ b off, ao = some ⟨b, off, none⟩ → b < W.heap.size → W'.heap[b]? = W.heap[b]? := fun b off e hl => hg.block b hl (fun e' => hne b off e e'.symm)
  refine ⟨⟨h.sl.bd, h.sl.len, ?_⟩, ?_⟩
  · rcases h.sl.is with h1 | ⟨b, off, cap', hv, hc, hcl⟩
    · exact .inl h1
    · refine .inr ⟨b, off, cap', hv, hc, fun j hj => ?_⟩
      have := hb b off (by cases hv; rfl) (block_lt_of_cell (hcl j hj))
      rw [← hcl j hj]
      simp [World.cell?, this]
  · intro ao' n' cap' hv hn
    cases hv
    obtain ⟨b, off, e1, e2, e3⟩ := h.own _ _ _ rfl hn
    obtain ⟨b', off', e4, _, hlt, hcl⟩ := h.sl.at hn
    rw [e1] at e4
    cases e4
    refine ⟨b, off, e1, e2, fun j hj => ?_⟩
    have := hb b off e1 hlt
    rw [← e3 j hj]
    simp [World.frozen?, this]

/-- What holds at the head of the loop of groups. -/
structure GrpI (w : World) (B1 : Nat) (x : Nat) (ao : Option Addr) (cap : Nat) (wr : World) (y n : Nat) (lv : Value) (k : Nat) : Prop where
  rest : Sw w.heap.size wr (.slice ao n cap) (digs y)
  len : n = (digs y).length
  le : y ≤ x
  own : ∃ gs, gs.length = k ∧ wr.ownsRow B1 59 1 lv k (gs.map u32v) ∧ gs ++ (if y = 0 then [] else grp y) = grp x
  below : Below w.heap.size w wr
  big : B1 ≤ wr.heap.size

/-- The rest is divided once more. -/
theorem GrpI.cut {w wr W : World} {B1 x y n k cap : Nat} {ao : Option Addr} {lv : Value} (h : GrpI w B1 x ao cap wr y n lv k) (hB : w.heap.size ≤ B1) (hbl : Below w.heap.size wr W) (hk : ∀ g, g < wr.heap.size → (∀ b off, ao = some ⟨b, off, none⟩ → b ≠ g) → W.heap[g]? = wr.heap[g]?) (hao : ∀ b off, ao = some ⟨b, off, none⟩ → b < B1) :
    ∃ gs, gs.length = k ∧ W.ownsRow B1 59 1 lv k (gs.map u32v) ∧ gs ++ (if y = 0 then [] else grp y) = grp x := by
  obtain ⟨gs, h1, h2, h3⟩ := h.own
  refine ⟨gs, h1, ?_, h3⟩
  refine ⟨h2.1, ?_⟩
  rcases h2.2 with h4 | ⟨g, c, cur, e1, e2, e3, e4⟩
  · exact .inl h4
  · refine .inr ⟨g, c, cur, e1, e2, ?_, e4⟩
    rw [hk g (Array.getElem?_eq_some_iff.1 e3).1 (fun b off e => by have := hao b off e; omega)]
    exact e3

end Go.Proofs.YtdgmjmckeeeljaaGreatDoor

namespace Go.Proofs.YtdgmjmckeeeljaaGreatDoor
open Go.RowKit

/-- The slice lies in a row of digits. -/
def Ty59 (w : World) (ao : Option Addr) : Prop := ∀ bb off, ao = some ⟨bb, off, none⟩ → ∃ cs f, w.heap[bb]? = some (.cells cs 59 f)

theorem grp_len2 {x n : Nat} (h : (digs x).length ≤ n) (h0 : n ≠ 0) : (grp x).length ≤ 2 * n := by
  have h1 := digs_length_le.1 h
  have h2 : 4294967296 ^ n ≤ (1000000000 ^ 2) ^ n := Nat.pow_le_pow_left (by omega) n
  rw [← Nat.pow_mul] at h2
  have h3 := grp_len (2 * n - 1) x (by
    rw [show 2 * n - 1 + 1 = 2 * n by omega]
    exact Nat.lt_of_lt_of_le h1 h2)
  omega

theorem grp_pos (x : Nat) : 1 ≤ (grp x).length := by
  rw [grp_step]; simp

/-- The first group is cut off. -/
theorem grpI_start {w W1 W2 : World} {x cap n0 b0 off0 : Nat} {ds : List Nat} (hb1 : Below w.heap.size w W1) (hb2 : Below w.heap.size W1 W2) (hs : Sw w.heap.size W2 (.slice (some ⟨b0, off0, none⟩) n0 cap) ds) (hv : val ds = x / 1000000000) {n : Nat} (hn : n = (digs (val ds)).length) :
    GrpI w W1.heap.size x (some ⟨b0, off0, none⟩) cap (W2.alloc (.cells #[.int .u32 ((x % 1000000000 : Nat) : Int)] 59)) (x / 1000000000) n (.slice (some ⟨W2.heap.size, 0, none⟩) 1 1) 1 := by
  have h1 := hb1.size
  have h2 := hb2.size
  have hbb : Below w.heap.size w W2 := hb1.trans hb2
  refine ⟨?_, by rw [hn, hv], Nat.div_le_self _ _, ⟨[x % 1000000000], rfl, ?_, (grp_step x).symm⟩, hbb.alloc (by omega) _, by simp; omega⟩
  · have hal : Below W2.heap.size W2 (W2.alloc (.cells #[.int .u32 ((x % 1000000000 : Nat) : Int)] 59)) := (Below.refl _ _).alloc (Nat.le_refl _) _
    have := (hs.below hal).trim
    rw [hv] at this hn
    rw [hn]
    exact this
  · exact World.ownsRow_lit (base := W1.heap.size) (size := 1) W2 #[.int .u32 ((x % 1000000000 : Nat) : Int)] 1 (by omega) (by decide) rfl

/-- A round of groups. -/
theorem GrpI.step {w wr W2 W3 : World} {B1 x y n k cap b0 off0 m : Nat} {lv v' : Value} {ds : List Nat} (h : GrpI w B1 x (some ⟨b0, off0, none⟩) cap wr y n lv k) (hy : y ≠ 0) (hb0 : b0 < B1) (hB : w.heap.size ≤ B1) (hs : Sw w.heap.size W2 (.slice (some ⟨b0, off0, none⟩) n cap) ds) (hv : val ds = y / 1000000000) (hbl : Below w.heap.size wr W2)
    (hm : m = (digs (val ds)).length) (hw : ∀ gs, gs.length = k → gs ++ (y % 1000000000 :: (if y / 1000000000 = 0 then [] else grp (y / 1000000000))) = grp x → W3.ownsRow B1 59 1 v' (k + 1) ((gs ++ [y % 1000000000]).map u32v)) (hg : (W2.alloc (.cells #[.int .u32 ((y % 1000000000 : Nat) : Int)] 59)).grownBy W3 lv.ownBlock) (hlv : ∀ b, lv.ownBlock = some b → B1 ≤ b) :
    GrpI w B1 x (some ⟨b0, off0, none⟩) cap W3 (y / 1000000000) m v' (k + 1) := by
  have h2 := hbl.size
  have hal : Below W2.heap.size W2 (W2.alloc (.cells #[.int .u32 ((y % 1000000000 : Nat) : Int)] 59)) := (Below.refl _ _).alloc (Nat.le_refl _) _
  have h3 := hg.size
  have h4 := h.below.size
  simp at h3
  obtain ⟨gs, e1, _, e3⟩ := h.own
  rw [if_neg hy, grp_step y] at e3
  refine ⟨?_, by rw [hm, hv], Nat.le_trans (Nat.div_le_self _ _) h.le, ⟨gs ++ [y % 1000000000], by simp [e1], hw gs e1 e3, by rw [List.append_assoc]; exact e3⟩, ?_, by have := h.big; omega⟩
  · have := ((hs.below hal).keptNe hg (fun b off e => by cases e; intro e'; have := hlv _ e'; omega)).trim
    rw [hv] at this hm
    rw [hm]
    exact this
  · exact ((h.below.trans hbl).trans (hal.mono (by omega))).grown hg (by simp; omega) (fun r e => Nat.le_trans hB (hlv r e))

set_option maxRecDepth 10000 in
set_option maxHeartbeats 2000000 in
theorem groups_pos {w : World} {v : Value} {x : Nat} (h : Sl w v (digs x)) (hl : (digs x).length ≤ 256) (h0 : x ≠ 0) :
    Calls Tryz.prog 57 #[v] w fun e w' => ∃ ao cap, e = .returned (.slice ao (grp x).length cap) ∧ Sw w.heap.size w' (.slice ao (grp x).length cap) (grp x) ∧ Below w.heap.size w w' ∧ Ty59 w' ao := by
  have hn0 : (digs x).length ≠ 0 := fun e => h0 (digs_inj (by rw [digs_zero]; exact List.eq_nil_of_length_eq_zero e))
  have HCL : Hid (∀ W, Sl W v (digs x) → Calls Tryz.prog 74 #[v] W fun e w' => ∃ b off cap, e = .returned (.slice (some ⟨b, off, none⟩) (digs x).length cap) ∧ Sw W.heap.size w' (.slice (some ⟨b, off, none⟩) (digs x).length cap) (digs x) ∧ Below W.heap.size W w' ∧ b < w'.heap.size) := fun W hW => (clone_any hW (by omega)).mono fun e w' ⟨ao, cap, e1, e2, e3⟩ => by
    obtain ⟨b, off, rfl, _, hlt, _⟩ := e2.sl.at hn0
    exact ⟨b, off, cap, e1, e2, e3, hlt⟩
  obtain ⟨G, hG⟩ : ∃ G, G = grp x := ⟨_, rfl⟩
  have hG2 : G.length ≤ 512 := by rw [hG]; exact Nat.le_trans (grp_len2 hl (by omega)) (by omega)
  have HGL := Lib.hid hG
  have HCU : Hid (∀ W b off n cap y, Sw w.heap.size W (.slice (some ⟨b, off, none⟩) n cap) (digs y) → n ≤ 256 → w.heap.size ≤ W.heap.size → Calls Tryz.prog 75 #[.slice (some ⟨b, off, none⟩) n cap, .int .u32 1000000000] W fun e w' => e = .returned (.int .u32 (y % 1000000000 : Nat)) ∧ (∃ ds, val ds = y / 1000000000 ∧ Sw w.heap.size w' (.slice (some ⟨b, off, none⟩) n cap) ds) ∧ Below w.heap.size W w' ∧ (∀ g, g < W.heap.size → (∀ b' off', (some ⟨b, off, none⟩ : Option Addr) = some ⟨b', off', none⟩ → b' ≠ g) → w'.heap[g]? = W.heap[g]?)) := fun W b off n cap y h1 h2 h3 => (cut_kept _ n cap _ 1000000000 h1 (by omega) (by omega) (by omega) h3).mono fun e w' hh => by
    rw [val_digs] at hh
    obtain ⟨q1, ⟨ds, _, q2, q3⟩, q4⟩ := hh
    exact ⟨q1, ⟨ds, q2, q3⟩, q4⟩
  obtain ⟨n0, hn⟩ : ∃ n, n = (digs x).length := ⟨_, rfl⟩
  rw [← hn] at hl hn0 HCL
  rw [← hG]
  have HN := Lib.hid hn
  clear hn hG
  go_enter Tryz.func57, Tryz.ntmps57
  go_wp2_with (first | (go_at_call 74; refine (HCL.out _ h).mono ?_; rintro e W1 ⟨b0, off0, cap, rfl, hs1, hb1, hlt⟩) | (go_at_call 75; refine (HCU.out _ _ _ _ _ _ hs1 hl hb1.size).mono ?_; rintro e W2 ⟨rfl, ⟨ds, hv, hs2⟩, hb2, hk2⟩; have HV := Lib.hid hv; clear hv; obtain ⟨m, hm⟩ : ∃ m, m = (digs (val ds)).length := ⟨_, rfl⟩) | (go_at_call 76; refine (trim_any _ _ _ (hs2.sl.below (by go_grown))).mono ?_; rintro e w' ⟨rfl, rfl⟩; rw [← hm]))
  subst hm
  have hst := grpI_start hb1 hb2 hs2 HV.out rfl
  rw [show ((x % 1000000000 : Nat) : Int) = ((x % 1000000000 : Nat) : Int) from rfl] at hst
  have HST := Lib.hid hst
  obtain ⟨B1, hB1⟩ : ∃ B1, B1 = W1.heap.size := ⟨_, rfl⟩
  rw [← hB1] at HST
  have hBw : w.heap.size ≤ B1 := by rw [hB1]; exact hb1.size
  have hb0B : b0 < B1 := by rw [hB1]; exact hlt
  have HA : Hid (∀ W y n m k lv W2 ds, GrpI w B1 x (some ⟨b0, off0, none⟩) cap W y n lv k → y ≠ 0 → Sw w.heap.size W2 (.slice (some ⟨b0, off0, none⟩) n cap) ds → val ds = y / 1000000000 → Below w.heap.size W W2 → m = (digs (val ds)).length → ∀ v' W3, (∀ gs, gs.length = k → gs ++ (y % 1000000000 :: (if y / 1000000000 = 0 then [] else grp (y / 1000000000))) = grp x → W3.ownsRow B1 59 1 v' (k + 1) ((gs ++ [y % 1000000000]).map u32v)) → (W2.alloc (.cells #[.int .u32 ((y % 1000000000 : Nat) : Int)] 59)).grownBy W3 lv.ownBlock → (∀ b, lv.ownBlock = some b → B1 ≤ b) → GrpI w B1 x (some ⟨b0, off0, none⟩) cap W3 (y / 1000000000) m v' (k + 1)) :=
    fun W y n m k lv W2 ds h1 h2 h3 h4 h5 h6 v' W3 h7 h8 h9 => h1.step h2 hb0B hBw h3 h4 h5 h6 h7 h8 h9
  obtain ⟨i0, hi, hz0, hz1, hz2⟩ := info_parts Tryz.info59
  have hW1s := hb1.size
  clear hst hs2 hs1 hb2 hk2 hn0
  go_loopw [3, 4] (fun rv lv wr => ∃ y n k ao c, rv = .slice (some ⟨b0, off0, none⟩) n cap ∧ lv = .slice ao k c ∧ k ≤ 512 ∧ n ≤ 256 ∧ Hid (GrpI w B1 x (some ⟨b0, off0, none⟩) cap wr y n lv k)) (fun _ lv _ => match lv with | .slice _ k _ => 1024 - k | _ => 1025)
  case atStart => exact ⟨_, _, 1, _, _, rfl, rfl, by omega, by rw [HV.out]; exact Nat.le_trans (digs_mono (Nat.div_le_self _ _)) (by rw [← HN.out]; exact hl), HST⟩
  case round =>
    obtain ⟨y, n, k, ao, c, rfl, rfl, hk, hn, HI⟩ := hrel
    by_cases hz : n = 0
    · subst hz
      have hy : y = 0 := digs_inj (by rw [digs_zero]; exact List.eq_nil_of_length_eq_zero HI.out.len.symm)
      obtain ⟨gs, e1, e2, e3⟩ := HI.out.own
      rw [if_pos hy, List.append_nil, ← HGL.out] at e3
      subst e3
      rw [← e1] at e2 ⊢
      have e7 : Ty59 wr ao := fun bb off e => by
        rcases e2.2 with ⟨h1, _⟩ | ⟨g, _, cur, h1, _, h2, _⟩
        · injection h1 with q1
          rw [q1] at e
          cases e
        · injection h1 with q1
          rw [q1] at e
          cases e
          exact ⟨_, _, h2⟩
      obtain ⟨ao', cap', e4, e5⟩ := sw_of_owns (by intro d hd; have := grp_bd x d (by rw [← HGL.out]; exact hd); omega) e2
      cases e4
      have HE5 := Lib.hid (e5.mono hBw)
      have HE6 := Lib.hid HI.out.below
      have HE7 := Lib.hid e7
      clear e1 e2 e5 e7
      go_wp2
      go_ret
      exact ⟨_, _, rfl, HE5.out, HE6.out, HE7.out⟩
    · have hy : y ≠ 0 := fun e => hz (by rw [HI.out.len, e, digs_zero]; rfl)
      have hpos : 0 < (n : Int) := by omega
      go_wp2_with (first | (go_at_call 75; refine (HCU.out _ _ _ _ _ _ HI.out.rest hn HI.out.below.size).mono ?_; rintro e W2' ⟨rfl, ⟨ds', hv, hs2⟩, hb2, hk2⟩; have HV' := Lib.hid hv; clear hv; obtain ⟨m', hm⟩ : ∃ m, m = (digs (val ds')).length := ⟨_, rfl⟩; obtain ⟨gs, g1, g2, g3⟩ := HI.out.cut hBw hb2 hk2 (fun b off e => by cases e; exact hb0B)) | (at_builtin; refine wpList_append_own _ rfl _ _ 25 rfl B1 59 i0 (.int .u32 0) 1 4 Tryz.underlying25 hi hz0 hz1 hz2 rfl (by decide) _ _ _ rfl (g2.alloc _) ⟨W2'.heap.size, 0, none⟩ 1 1 [.int .u32 ((y % 1000000000 : Nat) : Int)] rfl rfl (cell_one_new _ _ _) (fun x hx => by simp at hx; subst hx; rfl) (by unfold maxLen; omega) (by omega) (by have := HI.out.big; have := hb2.size; simp; omega) ?_; intro v' w3 hown' hgrow3 hnil3; have hlv : ∀ b, (Value.slice ao k c).ownBlock = some b → B1 ≤ b := fun b e => (g2.lt b e).1; have hs3 := (hs2.below ((Below.refl _ _).alloc (Nat.le_refl _) _)).keptNe hgrow3 (fun b off e => by cases e; intro e'; have := hlv _ e'; omega)) | (go_at_call 76; refine (trim_any _ _ _ hs3.sl).mono ?_; rintro e w' ⟨rfl, rfl⟩; rw [← hm]))
      subst hm
      have hk1 : k + 1 ≤ 512 := by
        have := congrArg List.length g3
        rw [if_neg hy, List.length_append, g1, ← HGL.out] at this
        have := grp_pos y
        omega
      have hnl : (digs (val ds')).length ≤ 256 := by
        rw [HV'.out]
        exact Nat.le_trans (digs_mono (Nat.le_trans (Nat.div_le_self _ _) HI.out.le)) (by rw [← HN.out]; exact hl)
      have hG := HA.out _ y n _ k _ W2' ds' HI.out hy hs2 HV'.out hb2 rfl v' w' (fun gs' e1 e2 => by
        have e3 : gs' = gs := List.append_cancel_right (e2.trans (by rw [← g3, if_neg hy, grp_step y]))
        rw [e3, List.map_append]
        exact hown') hgrow3 hlv
      have HG := Lib.hid hG
      obtain ⟨ao2, c2, rfl⟩ : ∃ ao2 c2, v' = .slice ao2 (k + 1) c2 := by
        rcases hown'.2 with ⟨_, e⟩ | ⟨g, cc, _, e, _⟩
        · omega
        · exact ⟨_, _, e⟩
      clear hG hown' hgrow3 hs3 hs2
      go_roundw
      case rel => exact ⟨_, _, k + 1, _, _, rfl, rfl, hk1, hnl, HG⟩
      case measure => simp only []; omega

set_option maxRecDepth 10000 in
set_option maxHeartbeats 1000000 in
theorem groups_zero {w : World} {v : Value} (h : Sl w v (digs 0)) :
    Calls Tryz.prog 57 #[v] w fun e w' => ∃ ao cap, e = .returned (.slice ao (grp 0).length cap) ∧ Sw w.heap.size w' (.slice ao (grp 0).length cap) (grp 0) ∧ Below w.heap.size w w' ∧ Ty59 w' ao := by
  have eg : grp 0 = [0] := by rw [grp]; rfl
  rw [eg]
  rw [digs_zero] at h
  have HCL : Hid (∀ W, Sl W v [] → Calls Tryz.prog 74 #[v] W fun e w' => ∃ ao cap, e = .returned (.slice ao 0 cap) ∧ Sw W.heap.size w' (.slice ao 0 cap) [] ∧ Below W.heap.size W w') := fun W hW => clone_any hW (by simp)
  have HCU : Hid (∀ W ao cap, Sw w.heap.size W (.slice ao 0 cap) [] → w.heap.size ≤ W.heap.size → Calls Tryz.prog 75 #[.slice ao 0 cap, .int .u32 1000000000] W fun e w' => e = .returned (.int .u32 0) ∧ Below w.heap.size W w') := fun W ao cap h1 h2 => (cut_kept ao 0 cap [] 1000000000 h1 (by omega) (by omega) (by omega) h2).mono fun e w' hh => ⟨hh.1, hh.2.2.1⟩
  have HTR : Hid (∀ W ao cap, Calls Tryz.prog 76 #[.slice ao 0 cap] W fun e w' => e = .returned (.slice ao 0 cap) ∧ w' = W) := fun W ao cap => by
    have := trim_any ao 0 cap (Sl.nil W ao cap)
    rwa [show val [] = 0 from rfl, digs_zero] at this
  clear eg
  go_enter Tryz.func57, Tryz.ntmps57
  go_wp2_with (first | (go_at_call 74; refine (HCL.out _ h).mono ?_; rintro e W1 ⟨ao, cap, rfl, hs1, hb1⟩) | (go_at_call 75; refine (HCU.out _ _ _ hs1 hb1.size).mono ?_; rintro e W2 ⟨rfl, hb2⟩) | (go_at_call 76; refine (HTR.out _ _ _).mono ?_; rintro e w' ⟨rfl, rfl⟩))
  refine wp_loop_rounds 1 ?_
  rw [rounds_succ]
  go_wp2
  go_ret
  have h1 := hb1.size
  have h2 := hb2.size
  exact ⟨_, _, rfl, (sl_one W2 0 (by omega)).mono (by omega), (hb1.trans hb2).alloc (by omega) _, fun bb off e => by cases e; exact ⟨_, _, heap_alloc_new _ _⟩⟩

/-- num.groups of at most 256 digits. -/
theorem groups_any {w : World} {v : Value} {x : Nat} (h : Sl w v (digs x)) (hl : (digs x).length ≤ 256) :
    Calls Tryz.prog 57 #[v] w fun e w' => ∃ ao cap, e = .returned (.slice ao (grp x).length cap) ∧ Sw w.heap.size w' (.slice ao (grp x).length cap) (grp x) ∧ Below w.heap.size w w' ∧ Ty59 w' ao := by
  by_cases h0 : x = 0
  · subst h0
    exact groups_zero h
  · exact groups_pos h hl h0

end Go.Proofs.YtdgmjmckeeeljaaGreatDoor

namespace Go.Proofs.YtdgmjmckeeeljaaGreatDoor
open Go.RowKit

set_option maxHeartbeats 400000 in
theorem rtrim_any {w : World} {ds : List Nat} (ao : Option Addr) (n cap : Nat) (h : Sl w (.slice ao n cap) ds) :
    Calls Tryz.prog 55 #[.slice ao n cap] w fun e w' => e = .returned (.slice ao (digs (val ds)).length cap) ∧ w' = w := by
  obtain ⟨hb, hl, h⟩ := h
  unfold maxLen at hl
  rcases h with ⟨rfl, ao', cap', hv⟩ | ⟨b, off, cap', hv, hc, hcl⟩
  · cases hv
    simp only [val, digs_zero, List.length_nil]
    go_enter Tryz.func55, Tryz.ntmps55
    go_wp2
    go_rounds 1
    go_ret
    exact ⟨rfl, rfl⟩
  · cases hv
    have hst := trim_stop hb
    have htk := @trim_step ds
    obtain ⟨m, hm⟩ : ∃ m, m = (digs (val ds)).length := ⟨_, rfl⟩
    rw [← hm] at hst ⊢
    have hml : m ≤ ds.length := by rw [hm]; exact (take_trim hb).2
    clear hb hm
    have HST := Lib.hid hst
    clear hst
    have HTK := Lib.hid htk
    clear htk
    have HCL := Lib.hid hcl
    clear hcl
    go_enter Tryz.func55, Tryz.ntmps55
    go_wp2
    go_loop [3] (fun n => ∃ k : Nat, k ≤ ds.length ∧ n = .int .i64 k ∧ Hid (val (ds.take k) = val ds)) (fun n => (intOf n).toNat)
    case atStart => exact ⟨ds.length, Nat.le_refl _, rfl, by simp [Hid]⟩
    case round =>
      obtain ⟨k, hk, rfl, hv⟩ := hrel
      cases k with
      | zero =>
        have e0 := HST.out 0 (by omega) hv.out (.inl rfl)
        subst e0
        go_wp2
        go_ret
        exact ⟨rfl, rfl⟩
      | succ k =>
        have hcc := HCL.out k (by omega)
        obtain ⟨x, hx⟩ : ∃ x, x = ds.getD k 0 := ⟨_, rfl⟩
        rw [← hx] at hcc
        by_cases h0 : x = 0
        · have hv' := HTK.out k hk hv.out (by omega)
          have HV' := Lib.hid hv'
          clear hv' hv hx
          subst h0
          go_wp2
          go_round
          case rel => exact ⟨k, by omega, by go_num, HV'⟩
          case measure => simp [intOf]
        · have e0 := HST.out (k + 1) hk hv.out (.inr (by rw [Nat.add_sub_cancel, ← hx]; exact h0))
          clear hx
          subst e0
          go_wp2
          go_ret
          exact ⟨rfl, rfl⟩


set_option maxRecDepth 10000 in
set_option maxHeartbeats 1000000 in
theorem rsigned_big {w : World} {v : Value} {ds : List Nat} (neg : Bool) (h : Sl w v ds) (hn : 256 < (digs (val ds)).length) : Calls Tryz.prog 36 #[.bool neg, v] w (NumRes w (if neg = true then -((val ds : Nat) : Int) else ((val ds : Nat) : Int))) := by
  obtain ⟨z, hz⟩ : ∃ z : Int, z = if neg = true then -((val ds : Nat) : Int) else ((val ds : Nat) : Int) := ⟨_, rfl⟩
  have hza : z.natAbs = val ds := by rw [hz]; split <;> omega
  rw [← hz]
  obtain ⟨ao, cap, rfl⟩ := h.mk'
  have HTR : Hid (∀ W, Sl W (.slice ao ds.length cap) ds → Calls Tryz.prog 55 #[.slice ao ds.length cap] W fun e w' => e = .returned (.slice ao (digs (val ds)).length cap) ∧ w' = W) := fun W h => rtrim_any _ _ _ h
  obtain ⟨n, hnn⟩ : ∃ n, n = (digs (val ds)).length := ⟨_, rfl⟩
  obtain ⟨m, hm⟩ : ∃ m, m = ds.length := ⟨_, rfl⟩
  have hf : fitsB z.natAbs = false := by rw [hza]; unfold fitsB; simp; omega
  rw [← hnn] at HTR hn
  rw [← hm] at HTR h ⊢
  have hr := resbox_new w
  obtain ⟨r0, r1, f0, f1⟩ := hr.cells
  obtain ⟨q0, q1⟩ := hr.stored (.bool false) (.slice none 0 0)
  clear hnn hm hz hza
  go_enter Tryz.func36, Tryz.ntmps36
  go_wp2_with (go_at_call 55; refine (HTR.out _ (h.below (by go_grown))).mono ?_; rintro e w' ⟨rfl, rfl⟩)
  refine bodyPost_ret (v := .tuple #[.agg #[.bool false, .slice none 0 0], .bool false]) (by simp [results, Tryz.results36, go_sem, q0, q1]) rfl ?_
  exact numRes_no hf (by go_grown)

set_option maxRecDepth 10000 in
set_option maxHeartbeats 1000000 in
theorem rsigned_zero {w : World} {v : Value} {ds : List Nat} (neg : Bool) (h : Sl w v ds) (hn : val ds = 0) : Calls Tryz.prog 36 #[.bool neg, v] w (NumRes w 0) := by
  obtain ⟨ao, cap, rfl⟩ := h.mk'
  have HTR : Hid (∀ W, Sl W (.slice ao ds.length cap) ds → Calls Tryz.prog 55 #[.slice ao ds.length cap] W fun e w' => e = .returned (.slice ao 0 cap) ∧ w' = W) := fun W h => by
    have := rtrim_any _ _ _ h
    rwa [hn, digs_zero] at this
  obtain ⟨m, hm⟩ : ∃ m, m = ds.length := ⟨_, rfl⟩
  rw [← hm] at HTR h ⊢
  have hr := resbox_new w
  obtain ⟨r0, r1, f0, f1⟩ := hr.cells
  obtain ⟨q0, q1⟩ := hr.stored (.bool false) (.slice none 0 0)
  clear hm hn
  go_enter Tryz.func36, Tryz.ntmps36
  go_wp2_with (go_at_call 55; refine (HTR.out _ (h.below (by go_grown))).mono ?_; rintro e w' ⟨rfl, rfl⟩)
  refine bodyPost_ret (v := .tuple #[.agg #[.bool false, .slice none 0 0], .bool true]) (by simp [results, Tryz.results36, go_sem, q0, q1]) rfl ?_
  have hf : fitsB (Int.natAbs 0) = true := by show decide ((digs 0).length ≤ 256) = true; rw [digs_zero]; rfl
  exact numRes_yes hf (by go_grown) rfl (by rw [show digs (Int.natAbs 0) = [] from digs_zero]; exact Sw.nil _ _ _ _)

set_option maxRecDepth 10000 in
set_option maxHeartbeats 1000000 in
theorem rsigned_ok {w : World} {v : Value} {ds : List Nat} (neg : Bool) (h : Sl w v ds) (hn : (digs (val ds)).length ≤ 256) (h0 : val ds ≠ 0) : Calls Tryz.prog 36 #[.bool neg, v] w (NumRes w (if neg = true then -((val ds : Nat) : Int) else ((val ds : Nat) : Int))) := by
  obtain ⟨z, hz⟩ : ∃ z : Int, z = if neg = true then -((val ds : Nat) : Int) else ((val ds : Nat) : Int) := ⟨_, rfl⟩
  have hza : z.natAbs = val ds := by rw [hz]; split <;> omega
  have hsg : neg = decide (z < 0) := by
    rw [hz]
    cases neg with
    | true => rw [if_pos rfl]; symm; rw [decide_eq_true_eq]; omega
    | false => rw [if_neg (by simp)]; symm; rw [decide_eq_false_iff_not]; omega
  rw [← hz]
  obtain ⟨ao, cap, rfl⟩ := h.mk'
  have HTR : Hid (∀ W, Sl W (.slice ao ds.length cap) ds → Calls Tryz.prog 55 #[.slice ao ds.length cap] W fun e w' => e = .returned (.slice ao (digs (val ds)).length cap) ∧ w' = W) := fun W h => rtrim_any _ _ _ h
  have hst := h.trim
  obtain ⟨xs, hxs⟩ : ∃ xs, xs = digs (val ds) := ⟨_, rfl⟩
  have hxn : xs.length ≠ 0 := fun e => h0 (digs_inj (by rw [digs_zero, ← hxs]; exact List.eq_nil_of_length_eq_zero e))
  rw [← hxs] at HTR hn hst
  obtain ⟨n, hnn⟩ : ∃ n, n = xs.length := ⟨_, rfl⟩
  obtain ⟨m, hm⟩ : ∃ m, m = ds.length := ⟨_, rfl⟩
  have hf : fitsB z.natAbs = true := by rw [hza]; unfold fitsB; rw [← hxs]; simpa using hn
  rw [← hnn] at HTR hn hst hxn
  rw [← hm] at HTR h ⊢
  obtain ⟨b, off, rfl, hcap, hlt, hcl⟩ := hst.at hxn
  have HXS := Lib.hid hxs
  have HNN := Lib.hid hnn
  have HZA := Lib.hid hza
  have HCL := Lib.hid hcl
  have HBD := Lib.hid hst.bd
  have HR := Lib.hid (resbox_new w)
  have HOW : Hid (((w.alloc (.cells #[.bool false, .slice none 0 0] 27)).alloc (.cells #[] 59)).ownsRow (w.heap.size + 1) 59 1 (.slice (some ⟨w.heap.size + 1, 0, none⟩) 0 0) 0 []) := by
    have := World.ownsRow_lit (base := w.heap.size + 1) (size := 1) (e := 59) (w.alloc (.cells #[.bool false, .slice none 0 0] 27)) #[] 0 (by simp) (by decide) rfl
    refine Lib.hid ?_
    simpa using this
  have HNW : Hid (∀ j u, (xs.map u32v)[j]? = some u → ((w.alloc (.cells #[.bool false, .slice none 0 0] 27)).alloc (.cells #[] 59)).cell? ((⟨b, off, none⟩ : Addr).add j) = some u) := Lib.hid fun j u hj => by
    rw [List.getElem?_map] at hj
    have hjl : j < xs.length := by
      rcases Nat.lt_or_ge j xs.length with h | h
      · exact h
      · rw [List.getElem?_eq_none h] at hj; cases hj
    have hcj := HCL.out j hjl
    rw [List.getElem?_eq_getElem hjl] at hj
    simp only [Option.map_some, Option.some.injEq] at hj
    have hb : Below w.heap.size w ((w.alloc (.cells #[.bool false, .slice none 0 0] 27)).alloc (.cells #[] 59)) := by go_grown
    have := cell_later hb hcj
    rw [← hj]
    have ea : ((⟨b, off, none⟩ : Addr).add j) = ⟨b, off + j, none⟩ := by simp [Addr.add]
    rw [ea]
    refine Eq.trans this ?_
    simp [List.getD, List.getElem?_eq_getElem hjl, u32v]
  obtain ⟨i0, hi, hz0, hz1, hz2⟩ := info_parts Tryz.info59
  have hpos : ((n : Int) == 0) = false := by simp; omega
  clear hnn hm hz hza hxs hcl h0
  go_enter Tryz.func36, Tryz.ntmps36
  go_wp2_with (first | (go_at_call 55; refine (HTR.out _ (h.below (by go_grown))).mono ?_; rintro e w' ⟨rfl, rfl⟩) | (at_builtin; go_must (refine wpList_append_own _ rfl _ _ 25 rfl (w.heap.size + 1) 59 i0 (.int .u32 0) 1 4 Tryz.underlying25 hi hz0 hz1 hz2 rfl (by decide) (.slice (some ⟨w.heap.size + 1, 0, none⟩) 0 0) 0 [] rfl HOW.out ⟨b, off, none⟩ n cap (xs.map u32v) rfl (by simp; exact HNN.out.symm) HNW.out (fun x hx => by obtain ⟨d, _, rfl⟩ := List.mem_map.1 hx; rfl) (by unfold maxLen; omega) (by omega) (by simp) ?_; intro v' w3 hown' hgrow3 hnil3; have hr3 : ResBox w3 w.heap.size := (hgrow3.block _ (by simp; omega) (by simp [Value.ownBlock])).trans (((Below.refl _ _).alloc (Nat.le_refl _) _ : Below (w.alloc (.cells #[.bool false, .slice none 0 0] 27)).heap.size _ _).block _ (by simp) |>.trans HR.out); obtain ⟨r0, r1, f0, f1⟩ := hr3.cells; obtain ⟨ao', cap', rfl, hs3⟩ := sw_of_owns HBD.out (show w3.ownsRow (w.heap.size + 1) 59 1 v' xs.length (xs.map u32v) by rw [← HNN.out]; simpa using hown'))))
  obtain ⟨q0, q1⟩ := hr3.stored (.bool (decide (z < 0))) (.slice ao' xs.length cap')
  have hb3 : Below w.heap.size w w3 := by
    have h1 : Below w.heap.size w ((w.alloc (.cells #[.bool false, .slice none 0 0] 27)).alloc (.cells #[] 59)) := by go_grown
    exact h1.grown hgrow3 (by simp; omega) (fun r e => by simp [Value.ownBlock] at e; omega)
  have hsw := (hs3.after2 (g := w.heap.size) (by omega) (.bool (decide (z < 0))) (.slice ao' xs.length cap')).mono (B' := w.heap.size) (by omega)
  refine bodyPost_ret (v := .tuple #[.agg #[.bool (decide (z < 0)), .slice ao' xs.length cap'], .bool true]) (by simp [results, Tryz.results36, go_sem, q0, q1]) rfl ?_
  exact numRes_yes hf ((hb3.setCell (by simp) _).setCell (by simp) _) rfl (by rw [HZA.out, ← HXS.out]; exact hsw)

/-- signed of the reference. -/
theorem rsigned_any {w : World} {v : Value} {ds : List Nat} (neg : Bool) (h : Sl w v ds) : Calls Tryz.prog 36 #[.bool neg, v] w (NumRes w (if neg = true then -((val ds : Nat) : Int) else ((val ds : Nat) : Int))) := by
  by_cases h0 : val ds = 0
  · have e : (if neg = true then -((val ds : Nat) : Int) else ((val ds : Nat) : Int)) = 0 := by rw [h0]; split <;> rfl
    rw [e]
    exact rsigned_zero neg h h0
  · by_cases hn : (digs (val ds)).length ≤ 256
    · exact rsigned_ok neg h hn h0
    · exact rsigned_big neg h (by omega)

end Go.Proofs.YtdgmjmckeeeljaaGreatDoor

namespace Go.Proofs.YtdgmjmckeeeljaaGreatDoor
open Go.RowKit

/-- A slice that reads as ints. -/
def Li (w : World) (v : Value) (zs : List Int) : Prop := ∃ ao cap, v = .slice ao zs.length cap ∧ zs.length ≤ cap ∧ zs.length ≤ maxLen ∧ (zs.length ≠ 0 → ∃ b off, ao = some ⟨b, off, none⟩ ∧ ∀ j, j < zs.length → w.cell? ⟨b, off + j, none⟩ = some (.int .i64 (zs.getD j 0)))

structure MadI (w : World) (B : Nat) (wr : World) (dv : Value) (j : Nat) : Prop where
  own : ∃ ds, ds.length = j ∧ Bd ds ∧ wr.ownsRow B 59 1 dv j (ds.map u32v)
  below : Below w.heap.size w wr
  box : ResBox wr w.heap.size
  big : B ≤ wr.heap.size

theorem Bd.append1 {ds : List Nat} (h : Bd ds) {r : Nat} (hr : r < 4294967296) : Bd (ds ++ [r]) := fun d hd => by
  rcases List.mem_append.1 hd with h1 | h1
  · exact h d h1
  · simp at h1; omega

set_option maxRecDepth 10000 in
set_option maxHeartbeats 1000000 in
theorem made11_any {w : World} {v : Value} {zs : List Int} (h : Li w v zs) :
    Calls Tryz.prog 11 #[v] w fun e w' => ∃ x z, e = .returned x ∧ Nu w' x z ∧ (digs z.natAbs).length ≤ 6 ∧ Below w.heap.size w w' := by
  obtain ⟨ao, cap, rfl, hc, hm, hcell⟩ := h
  obtain ⟨n, hn⟩ : ∃ n, n = zs.length := ⟨_, rfl⟩
  rw [← hn] at hc hm hcell ⊢
  have hbase : w.heap.size + 1 ≤ (w.alloc (.cells #[.bool false, .slice none 0 0] 27)).heap.size := by simp
  have HI0 : Hid (MadI w (w.heap.size + 1) (w.alloc (.cells #[.bool false, .slice none 0 0] 27)) (.slice none 0 0) 0) := Lib.hid ⟨⟨[], rfl, bd_nil, World.ownsRow_nil _ _ _ _⟩, by go_grown, resbox_new w, hbase⟩
  obtain ⟨i0, hi, hz0, hz1, hz2⟩ := info_parts Tryz.info59
  unfold maxLen at hm
  clear hn hbase
  go_enter Tryz.func11, Tryz.ntmps11
  go_wp2
  go_loopw [3, 4] (fun dv kv wr => ∃ j dao dc, dv = .slice dao j dc ∧ kv = .int .i64 ((j + 1 : Nat) : Int) ∧ j ≤ 6 ∧ Hid (MadI w (w.heap.size + 1) wr dv j)) (fun _ kv _ => 8 - (intOf kv).toNat)
  case atStart => exact ⟨0, none, 0, rfl, rfl, by omega, HI0⟩
  case round =>
    obtain ⟨j, dao, dc, rfl, rfl, hj, HI⟩ := hrel
    by_cases h1 : j + 1 < n ∧ j + 1 < 7
    · obtain ⟨h1, h2⟩ := h1
      obtain ⟨b, off, rfl, hcl⟩ := hcell (by omega)
      obtain ⟨z, hz⟩ : ∃ z, z = zs.getD (j + 1) 0 := ⟨_, rfl⟩
      have hx := cell_later HI.out.below (hcl (j + 1) (by omega))
      rw [← hz] at hx
      clear hz hcl hcell
      obtain ⟨ds, g1, g2, g3⟩ := HI.out.own
      obtain ⟨r, hr⟩ : ∃ r : Nat, z % 4294967296 = (r : Int) := ⟨(z % 4294967296).toNat, by omega⟩
      have hr4 : r < 4294967296 := by omega
      have HIB := Lib.hid HI.out.big
      go_wp2_with (at_builtin; go_must (refine wpList_append_own _ rfl _ _ 25 rfl (w.heap.size + 1) 59 i0 (.int .u32 0) 1 4 Tryz.underlying25 hi hz0 hz1 hz2 rfl (by decide) (.slice dao j dc) j (ds.map u32v) rfl (g3.alloc _) ⟨wr.heap.size, 0, none⟩ 1 1 [.int .u32 (r : Int)] rfl rfl (cell_one_new _ _ _) (fun x hx => by simp at hx; subst hx; rfl) (by unfold maxLen; omega) (by omega) (by have := HIB.out; simp; omega) ?_; intro v' w3 hown' hgrow3 hnil3))
      have hown2 : w3.ownsRow (w.heap.size + 1) 59 1 v' (j + 1) ((ds ++ [r]).map u32v) := by
        rw [List.map_append]
        exact hown'
      have hlv : ∀ b, (Value.slice dao j dc).ownBlock = some b → w.heap.size + 1 ≤ b := fun b e => (g3.lt b e).1
      have hgs := hgrow3.size
      simp at hgs
      have hblt := HI.out.box.lt
      have HN : Hid (MadI w (w.heap.size + 1) w3 v' (j + 1)) := Lib.hid ⟨⟨ds ++ [r], by simp [g1], Bd.append1 g2 hr4, hown2⟩,
        (HI.out.below.alloc (by have := HI.out.below.size; omega) _).grown hgrow3 (by simp; omega) (fun r e => by have := hlv r e; omega),
        (hgrow3.block _ (by simp; omega) (fun e => by have := hlv _ e.symm; omega)).trans ((Below.heap_alloc wr _ _ hblt).trans HI.out.box), by have := HIB.out; omega⟩
      obtain ⟨ao2, c2, rfl⟩ : ∃ ao2 c2, v' = .slice ao2 (j + 1) c2 := by
        rcases hown2.2 with ⟨_, e⟩ | ⟨g, cc, _, e, _⟩
        · omega
        · exact ⟨_, _, e⟩
      clear hown' hown2 hgrow3 hgs
      go_roundw
      case rel => exact ⟨j + 1, _, _, rfl, by go_num, by omega, HN⟩
      case measure => simp [intOf]; omega
    · obtain ⟨ds, g1, g2, g3⟩ := HI.out.own
      rw [← g1] at g3
      obtain ⟨dao', dc', e4, e5⟩ := sw_of_owns g2 g3
      rw [g1] at e4
      cases e4
      rw [g1] at e5
      have hsl := e5.sl
      have hd6 : (digs (val ds)).length ≤ 6 := Nat.le_trans (take_trim g2).2 (by omega)
      have HSI : Hid (∀ W neg, Sl W (.slice dao j dc) ds → Calls Tryz.prog 36 #[.bool neg, .slice dao j dc] W fun e w' => ∃ (z : Int) (neg' : Bool) (ao : Option Addr) (n c : Nat), e = .returned (.tuple #[.agg #[.bool neg', .slice ao n c], .bool true]) ∧ (neg' = decide (z < 0) ∧ Sw W.heap.size w' (.slice ao n c) (digs z.natAbs) ∧ (digs z.natAbs).length ≤ 6) ∧ Below W.heap.size W w') := fun W neg h => by
        have hza : (if neg = true then -((val ds : Nat) : Int) else ((val ds : Nat) : Int)).natAbs = val ds := by split <;> omega
        have hf : fitsB (if neg = true then -((val ds : Nat) : Int) else ((val ds : Nat) : Int)).natAbs = true := by
          rw [hza]; unfold fitsB; simp; omega
        refine (rsigned_any neg h).mono ?_
        rintro e w' ⟨neg', ao2, n2, c2, rfl, hb2, hyes, -⟩
        obtain ⟨h1, h2⟩ := hyes hf
        exact ⟨_, neg', ao2, n2, c2, by rw [hf], ⟨h1, h2, by rw [hza]; exact hd6⟩, hb2⟩
      have HBX := Lib.hid HI.out.box
      have HBL := Lib.hid HI.out.below
      clear g1 g2 g3 e5 hd6 HI0 HI hz0 hz1 hz2 hi
      by_cases hn0 : n = 0
      · subst hn0
        go_wp2_with (go_at_call 36; refine (HSI.out _ _ hsl).mono ?_; rintro e W2 ⟨z, neg', ao2, n2, c2, rfl, hres, hb2⟩; have HRS := Lib.hid hres; clear hres; have hr2 := HBX.out.below hb2; obtain ⟨r0, r1, f0, f1⟩ := hr2.cells; have hz1' := hr2.lt; have hz2' := Nat.le_of_lt hz1')
        obtain ⟨c0, c1⟩ := res_cells hr2 (.bool neg') (.slice ao2 n2 c2) (.cells #[.bool neg', .slice ao2 n2 c2] 27)
        have hsz := HBL.out.size
        have hsz2 := hb2.size
        have hfin : Below w.heap.size w (((W2.setCell ⟨w.heap.size, 0, none⟩ (.bool neg')).setCell ⟨w.heap.size, 1, none⟩ (.slice ao2 n2 c2)).alloc (.cells #[.bool neg', .slice ao2 n2 c2] 27)) :=
          (((HBL.out.trans (hb2.mono hsz)).setCell (by simp) _).setCell (by simp) _).alloc (by simp; omega) _
        have hgt := HBX.out.lt
        have hsw := HRS.out.2.1.after (g := w.heap.size) hgt (.bool neg') (.slice ao2 n2 c2) (.cells #[.bool neg', .slice ao2 n2 c2] 27)
        revert hfin c0 c1 hsw
        generalize (((W2.setCell ⟨w.heap.size, 0, none⟩ (.bool neg')).setCell ⟨w.heap.size, 1, none⟩ (.slice ao2 n2 c2)).alloc (.cells #[.bool neg', .slice ao2 n2 c2] 27)) = W4
        intro c0 c1 hfin hsw
        have HSW := Lib.hid hsw
        clear hsw
        refine bodyPost_ret (v := .agg #[.bool neg', .slice ao2 n2 c2]) (by simp [results, Tryz.results11, go_sem, c0, c1]) rfl ?_
        exact ⟨_, z, rfl, ⟨.slice ao2 n2 c2, by rw [← HRS.out.1], HSW.out.sl, by have := HRS.out.2.2; omega⟩, HRS.out.2.2, hfin⟩
      · obtain ⟨b, off, rfl, hcl⟩ := hcell hn0
        have hx := cell_later HBL.out (hcl 0 (by omega))
        obtain ⟨z0, hz⟩ : ∃ z0, z0 = zs.getD 0 0 := ⟨_, rfl⟩
        rw [← hz, Nat.add_zero] at hx
        clear hz hcl hcell
        have hn1 : 0 < n := by omega
        by_cases h3 : j + 1 < n
        · have h4 : j = 6 := by omega
          subst h4
          go_wp2_with (go_at_call 36; refine (HSI.out _ _ hsl).mono ?_; rintro e W2 ⟨z, neg', ao2, n2, c2, rfl, hres, hb2⟩; have HRS := Lib.hid hres; clear hres; have hr2 := HBX.out.below hb2; obtain ⟨r0, r1, f0, f1⟩ := hr2.cells; have hz1' := hr2.lt; have hz2' := Nat.le_of_lt hz1')
          obtain ⟨c0, c1⟩ := res_cells hr2 (.bool neg') (.slice ao2 n2 c2) (.cells #[.bool neg', .slice ao2 n2 c2] 27)
          have hsz := HBL.out.size
          have hsz2 := hb2.size
          have hfin : Below w.heap.size w (((W2.setCell ⟨w.heap.size, 0, none⟩ (.bool neg')).setCell ⟨w.heap.size, 1, none⟩ (.slice ao2 n2 c2)).alloc (.cells #[.bool neg', .slice ao2 n2 c2] 27)) :=
            (((HBL.out.trans (hb2.mono hsz)).setCell (by simp) _).setCell (by simp) _).alloc (by simp; omega) _
          have hgt := HBX.out.lt
          have hsw := HRS.out.2.1.after (g := w.heap.size) hgt (.bool neg') (.slice ao2 n2 c2) (.cells #[.bool neg', .slice ao2 n2 c2] 27)
          revert hfin c0 c1 hsw
          generalize (((W2.setCell ⟨w.heap.size, 0, none⟩ (.bool neg')).setCell ⟨w.heap.size, 1, none⟩ (.slice ao2 n2 c2)).alloc (.cells #[.bool neg', .slice ao2 n2 c2] 27)) = W4
          intro c0 c1 hfin hsw
          have HSW := Lib.hid hsw
          clear hsw
          refine bodyPost_ret (v := .agg #[.bool neg', .slice ao2 n2 c2]) (by simp [results, Tryz.results11, go_sem, c0, c1]) rfl ?_
          exact ⟨_, z, rfl, ⟨.slice ao2 n2 c2, by rw [← HRS.out.1], HSW.out.sl, by have := HRS.out.2.2; omega⟩, HRS.out.2.2, hfin⟩
        · have h4 : n ≤ j + 1 := by omega
          go_wp2_with (go_at_call 36; refine (HSI.out _ _ hsl).mono ?_; rintro e W2 ⟨z, neg', ao2, n2, c2, rfl, hres, hb2⟩; have HRS := Lib.hid hres; clear hres; have hr2 := HBX.out.below hb2; obtain ⟨r0, r1, f0, f1⟩ := hr2.cells; have hz1' := hr2.lt; have hz2' := Nat.le_of_lt hz1')
          obtain ⟨c0, c1⟩ := res_cells hr2 (.bool neg') (.slice ao2 n2 c2) (.cells #[.bool neg', .slice ao2 n2 c2] 27)
          have hsz := HBL.out.size
          have hsz2 := hb2.size
          have hfin : Below w.heap.size w (((W2.setCell ⟨w.heap.size, 0, none⟩ (.bool neg')).setCell ⟨w.heap.size, 1, none⟩ (.slice ao2 n2 c2)).alloc (.cells #[.bool neg', .slice ao2 n2 c2] 27)) :=
            (((HBL.out.trans (hb2.mono hsz)).setCell (by simp) _).setCell (by simp) _).alloc (by simp; omega) _
          have hgt := HBX.out.lt
          have hsw := HRS.out.2.1.after (g := w.heap.size) hgt (.bool neg') (.slice ao2 n2 c2) (.cells #[.bool neg', .slice ao2 n2 c2] 27)
          revert hfin c0 c1 hsw
          generalize (((W2.setCell ⟨w.heap.size, 0, none⟩ (.bool neg')).setCell ⟨w.heap.size, 1, none⟩ (.slice ao2 n2 c2)).alloc (.cells #[.bool neg', .slice ao2 n2 c2] 27)) = W4
          intro c0 c1 hfin hsw
          have HSW := Lib.hid hsw
          clear hsw
          refine bodyPost_ret (v := .agg #[.bool neg', .slice ao2 n2 c2]) (by simp [results, Tryz.results11, go_sem, c0, c1]) rfl ?_
          exact ⟨_, z, rfl, ⟨.slice ao2 n2 c2, by rw [← HRS.out.1], HSW.out.sl, by have := HRS.out.2.2; omega⟩, HRS.out.2.2, hfin⟩

end Go.Proofs.YtdgmjmckeeeljaaGreatDoor

namespace Go.Proofs.YtdgmjmckeeeljaaGreatDoor
open Go.RowKit

set_option maxHeartbeats 1000000 in
set_option maxRecDepth 100000 in
theorem copyCheck_used (b : Nat) (w : World) (h0 : w.cell? ⟨b, 0, none⟩ = some (.pointer (some ⟨b, 0, none⟩))) :
    Calls Tryz.prog 89 #[.pointer (some ⟨b, 0, none⟩)] w fun e w' => e = .returned (.tuple #[]) ∧ w' = w := by
  obtain ⟨j, hj, _⟩ := Option.map_eq_some_iff.1 Tryz.Builder_Extra_105.sizeBuilder
  go_enter Tryz.func89, Tryz.ntmps89
  go_wp2
  rw [Lib.run_neq_ptr_same w _ Tryz.underlying71 hj]
  go_wp2
  go_end0
  exact ⟨rfl, rfl⟩

set_option maxHeartbeats 1000000 in
set_option maxRecDepth 100000 in
theorem copyCheck_fresh (b : Nat) (w : World) (h0 : w.cell? ⟨b, 0, none⟩ = some (.pointer none)) (hsh : w.shape? b = some (73, 2)) (hfz : w.frozen? ⟨b, 0, none⟩ = false) :
    Calls Tryz.prog 89 #[.pointer (some ⟨b, 0, none⟩)] w fun e w' => e = .returned (.tuple #[]) ∧ w' = w.setCell ⟨b, 0, none⟩ (.pointer (some ⟨b, 0, none⟩)) := by
  obtain ⟨j, hj, hjs⟩ := Option.map_eq_some_iff.1 Tryz.Builder_Extra_105.sizeBuilder
  go_enter Tryz.func89, Tryz.ntmps89
  go_wp2
  rw [Lib.run_to_unsafe w ⟨b, 0, none⟩ Tryz.underlying71 Tryz.underlying122 hj (by rw [hjs]; decide) hsh (Nat.zero_lt_succ 1)]
  simp only [Result.andThen]
  rw [Oper.upon_value]
  go_wp2
  rw [run_callFunc_extern Tryz.func109 (by kernel_rfl) (by kernel_rfl) (by kernel_rfl) (e := Extern.AbiNoEscape.same) (by kernel_rfl)]
  rw [Lib.run_noEscape]
  simp only [Result.andThen]
  rw [Oper.upon_value]
  go_wp2
  rw [Lib.run_from_unsafe w ⟨b, 0, none⟩ Tryz.underlying122 Tryz.underlying71 hj hsh Tryz.Builder_Extra_105.liesBuilder]
  simp only [Result.andThen]
  rw [Oper.upon_value]
  go_wp2
  go_end0
  exact ⟨rfl, rfl⟩

/-- Every block but the builder's own and rows of bytes is as it was. -/
def KeptT (b : Nat) (w w' : World) : Prop := ∀ (g : Nat) (o : Obj), w.heap[g]? = some o → (∀ cs f, o ≠ .cells cs 5 f) → g ≠ b → w'.heap[g]? = some o

theorem KeptT.refl (b : Nat) (w : World) : KeptT b w w := fun _ _ h _ _ => h
theorem KeptT.trans {b : Nat} {w w1 w2 : World} (h : KeptT b w w1) (k : KeptT b w1 w2) : KeptT b w w2 := fun g o h1 h2 h3 => k g o (h g o h1 h2 h3) h2 h3
theorem KeptT.below {b : Nat} {w w' : World} (h : Below w.heap.size w w') : KeptT b w w' := fun g o h1 _ _ => (h.block g (Array.getElem?_eq_some_iff.1 h1).1).trans h1
theorem KeptT.setCell (b o : Nat) (w : World) (v : Value) : KeptT b w (w.setCell ⟨b, o, none⟩ v) := fun g o' h1 _ h3 => (heap_setCell_other _ _ _ _ (by simpa using h3)).trans h1
theorem KeptT.grown {b B n : Nat} {w w' : World} {row : Value} {bs : List Value} (hown : w.ownsRow B 5 1 row n bs) (hg : w.grownBy w' row.ownBlock) : KeptT b w w' := by
  intro g o h1 h2 _
  refine (hg.block g (Array.getElem?_eq_some_iff.1 h1).1 fun e => ?_).trans h1
  rcases hown.2 with ⟨rfl, _⟩ | ⟨g', cap, cur, rfl, _, hgg, _⟩
  · simp [Value.ownBlock] at e
  · simp only [Value.ownBlock, Option.some.injEq] at e
    subst e
    rw [hgg] at h1
    cases h1
    exact h2 _ _ rfl

theorem copyCheck_any (B b : Nat) (bs : List Value) (w : World) (h : Lib.IsBuilder 73 5 B b bs w) :
    Calls Tryz.prog 89 #[.pointer (some ⟨b, 0, none⟩)] w fun e w' => e = .returned (.tuple #[]) ∧ (Lib.BuilderAt 73 5 B b (.pointer (some ⟨b, 0, none⟩)) bs w' ∧ Below B w w' ∧ KeptT b w w') := by
  rcases h with h | h
  · refine (copyCheck_fresh b w h.cell0 h.shape h.frozen0).mono ?_
    rintro e w' ⟨rfl, rfl⟩
    exact ⟨rfl, h.used _, (Below.refl B w).setCell (p := ⟨b, 0, none⟩) h.1 _, KeptT.setCell b 0 w _⟩
  · refine (copyCheck_used b w h.cell0).mono ?_
    rintro e w' ⟨rfl, rfl⟩
    exact ⟨rfl, h, Below.refl B _, KeptT.refl _ _⟩

theorem slice_of_owns {W : World} {B : Nat} {e : TypeId} {size n : Nat} {v : Value} {xs : List Value} (h : W.ownsRow B e size v n xs) : ∃ ao m cap, v = .slice ao m cap := by
  rcases h.2 with ⟨hv, _⟩ | ⟨g, cap, cur, hv, _⟩
  · exact ⟨_, _, _, hv⟩
  · exact ⟨_, _, _, hv⟩

/-- A used builder, looked at: its own block, and the row of its bytes. -/
theorem builder_parts {b : Nat} {W W' : World} {row : Value} (hbk : W.heap[b]? = some (.cells #[.pointer (some ⟨b, 0, none⟩), row] 73 (0, 0))) (hg : W.grownBy W' row.ownBlock) (hne : row.ownBlock ≠ some b) :
    W'.heap[b]? = some (.cells #[.pointer (some ⟨b, 0, none⟩), row] 73 (0, 0)) ∧ W'.cell? ⟨b, 0, none⟩ = some (.pointer (some ⟨b, 0, none⟩)) ∧ W'.cell? ⟨b, 1, none⟩ = some row ∧ W'.frozen? ⟨b, 1, none⟩ = false := by
  have hlt := (Array.getElem?_eq_some_iff.1 hbk).1
  have h := (hg.block b hlt (fun e => hne e.symm)).trans hbk
  refine ⟨h, ?_, ?_, frozen_of_row W' _ _ _ _ h⟩ <;> rw [cell_of_row W' _ _ _ _ _ h] <;> rfl

set_option maxHeartbeats 1000000 in
set_option maxRecDepth 100000 in
theorem writeString_any (B b : Nat) (bs : List Value) (s : ByteArray) (w : World) (h : Lib.IsBuilder 73 5 B b bs w) (hlen : bs.length + s.size ≤ 140737488355328) (hBw : B ≤ w.heap.size) :
    Calls Tryz.prog 60 #[.pointer (some ⟨b, 0, none⟩), .string s] w fun e w' => e = .returned (.tuple #[.int .i64 s.size, .nilIface]) ∧ Lib.BuilderAt 73 5 B b (.pointer (some ⟨b, 0, none⟩)) (bs ++ Lib.strCells s) w' ∧ Below B w w' ∧ KeptT b w w' := by
  obtain ⟨i0, hi, hz0, hz1, hz2⟩ := info_parts Tryz.Builder_Extra_105.infoByte
  have HC := Lib.hid (copyCheck_any B b bs w h)
  clear h
  go_enter Tryz.func60, Tryz.ntmps60
  go_wp2_with (go_at_call 89; refine HC.out.mono ?_)
  rintro e w1 ⟨rfl, h1, hb1, hk1⟩
  obtain ⟨hB, row, hbk, hown, hne⟩ := h1
  have c0 : w1.cell? ⟨b, 0, none⟩ = some (.pointer (some ⟨b, 0, none⟩)) := by
    rw [cell_of_row w1 _ _ _ _ _ hbk]; rfl
  have c1 : w1.cell? ⟨b, 1, none⟩ = some row := by
    rw [cell_of_row w1 _ _ _ _ _ hbk]; rfl
  have hs1 := hb1.size
  go_wp2_with (at_builtin; go_must (refine Lib.wpList_append_own_string _ rfl _ _ 56 9 rfl B 5 i0 Tryz.underlying56 Tryz.underlying9 hi hz0 hz1 hz2 _ _ _ rfl hown s rfl (by unfold maxLen; omega) (by omega) (by omega) ?_; intro v' w2 hown' hgrow _; obtain ⟨hb2, d0, d1, f1⟩ := builder_parts hbk hgrow hne; obtain ⟨ao, n', cap, rfl⟩ := slice_of_owns hown'))
  go_returns
  refine ⟨rfl, Lib.BuilderAt.put (T := 73) (e := 5) hB hb2 (bs' := bs ++ Lib.strCells s) (by simpa [Lib.strCells_length] using hown') Tryz.Builder_Extra_105.neB5, ?_, (hk1.trans (KeptT.grown hown hgrow)).trans (KeptT.setCell b 1 _ _)⟩
  exact (hb1.grown hgrow (by omega) (fun k hk => (hown.lt k hk).1)).setCell (p := ⟨b, 1, none⟩) hB _

set_option maxHeartbeats 1000000 in
set_option maxRecDepth 100000 in
theorem writeByte_any (B b : Nat) (bs : List Value) (c : Int) (w : World) (h : Lib.IsBuilder 73 5 B b bs w) (hlen : bs.length + 1 ≤ 140737488355328) (hBw : B ≤ w.heap.size) :
    Calls Tryz.prog 56 #[.pointer (some ⟨b, 0, none⟩), .int .u8 c] w fun e w' => e = .returned .nilIface ∧ Lib.BuilderAt 73 5 B b (.pointer (some ⟨b, 0, none⟩)) (bs ++ [.int .u8 c]) w' ∧ Below B w w' ∧ KeptT b w w' := by
  obtain ⟨i0, hi, hz0, hz1, hz2⟩ := info_parts Tryz.Builder_Extra_105.infoByte
  have HC := Lib.hid (copyCheck_any B b bs w h)
  clear h
  go_enter Tryz.func56, Tryz.ntmps56
  go_wp2_with (go_at_call 89; refine HC.out.mono ?_)
  rintro e w1 ⟨rfl, h1, hb1, hk1⟩
  obtain ⟨hB, row, hbk, hown, hne⟩ := h1
  have c0 : w1.cell? ⟨b, 0, none⟩ = some (.pointer (some ⟨b, 0, none⟩)) := by
    rw [cell_of_row w1 _ _ _ _ _ hbk]; rfl
  have c1 : w1.cell? ⟨b, 1, none⟩ = some row := by
    rw [cell_of_row w1 _ _ _ _ _ hbk]; rfl
  have hs1 := hb1.size
  have hbk2 : (w1.alloc (.cells #[.int .u8 c] 5)).heap[b]? = some (.cells #[.pointer (some ⟨b, 0, none⟩), row] 73 (0, 0)) := (Below.heap_alloc w1 _ b (Array.getElem?_eq_some_iff.1 hbk).1).trans hbk
  go_wp2_with (at_builtin; go_must (refine wpList_append_own _ rfl _ _ 56 rfl B 5 i0 (.int .u8 0) 1 1 Tryz.underlying56 hi hz0 hz1 hz2 rfl (by decide) _ _ _ rfl (hown.alloc _) ⟨w1.heap.size, 0, none⟩ 1 1 [.int .u8 c] rfl rfl (cell_one_new _ _ _) (fun x hx => by simp at hx; subst hx; rfl) (by unfold maxLen; omega) (by omega) (by simp; omega) ?_; intro v' w2 hown' hgrow _; obtain ⟨hb2, d0, d1, f1⟩ := builder_parts hbk2 hgrow hne; obtain ⟨ao, n', cap, rfl⟩ := slice_of_owns hown'))
  go_returns
  refine ⟨rfl, Lib.BuilderAt.put (T := 73) (e := 5) hB hb2 (bs' := bs ++ [.int .u8 c]) (by simpa using hown') Tryz.Builder_Extra_105.neB5, ?_, ((hk1.trans (KeptT.below (by go_grown))).trans (KeptT.grown (hown.alloc _) hgrow)).trans (KeptT.setCell b 1 _ _)⟩
  exact ((hb1.alloc (by omega) _).grown hgrow (by simp; omega) (fun k hk => (hown.lt k hk).1)).setCell (p := ⟨b, 1, none⟩) hB _

end Go.Proofs.YtdgmjmckeeeljaaGreatDoor

namespace Go.Proofs.YtdgmjmckeeeljaaGreatDoor
open Go.RowKit Go.Sort Go.Lib Go.Shelf

set_option maxHeartbeats 1000000 in
set_option maxRecDepth 10000 in
theorem fmt_small (u : Nat) (h : u < 100) (w : World) : Calls Tryz.prog 91 #[.int .u64 u, .int .i64 10] w fun e w' => e = .returned (.string ⟨(Lib.decDigits u).toArray⟩) ∧ w' = w := by
  have HS := Lib.hid (fun W => Tryz.internal_strconv_small u h W)
  go_enter Tryz.func91, Tryz.ntmps91
  go_wp2_with (go_at_call 110; refine (HS.out _).mono ?_; rintro e w' ⟨rfl, rfl⟩)
  go_ret
  exact ⟨rfl, rfl⟩

set_option maxHeartbeats 2000000 in
set_option maxRecDepth 10000 in
theorem fmt_big (u : Nat) (h : 100 ≤ u) (hu : u < 18446744073709551616) (w : World) (htab : Lib.TabIs Tryz.prog w "internal/strconv.uint64pow10" .u64 Lib.pow10Tab) : Calls Tryz.prog 91 #[.int .u64 u, .int .i64 10] w fun e w' => e = .returned (.string ⟨(Lib.decDigits u).toArray⟩) ∧ Below w.heap.size w w' := by
  obtain ⟨nd, hnd⟩ : ∃ nd, nd = Lib.nDigits u := ⟨_, rfl⟩
  have h20 : nd ≤ 20 := by rw [hnd]; have := Lib.numDigits_eq u (by omega) hu; split at this <;> omega
  have hND := Lib.hid (fun W htab => Tryz.internal_strconv_numDigits u (by omega) hu W htab)
  have hH := Lib.holds_zero0 w 125 nd (by omega)
  have hfmt := Tryz.internal_strconv_formatBase10 w.heap.size 0 24 u (Array.replicate nd 0) (w.alloc (.cells Lib.zeros24 125)) hH (by rw [Array.size_replicate, hnd]; exact Lib.lt_pow_nDigits u) hu (by rw [Array.size_replicate]; omega)
  rw [Array.size_replicate] at hfmt
  have hsl : ∀ W, (Instr.sliceAt 125 (.pointer (some ⟨w.heap.size, 0, none⟩)) none (some (.int .i64 (nd : Int))) none).run Tryz.prog W = .ok (.slice (some ⟨w.heap.size, 0, none⟩) nd 24) W := fun W => by
    have hal : Tryz.prog.arrayLen 125 = 24 := by kernel_rfl
    rw [run_sliceAt_array_h W 125 ⟨w.heap.size, 0, none⟩ (by kernel_rfl) .i64 (nd : Int) (by omega) (by rw [hal]; omega)]
    go_simp
  rw [← hnd] at hND
  have HH := Lib.hid hH
  have HF := Lib.hid hfmt
  have HNN := Lib.hid hnd
  clear hH hfmt hnd
  go_enter Tryz.func91, Tryz.ntmps91
  go_wp2_with (go_at_call 111; refine (hND.out _ (Lib.tabIs_alloc htab _)).mono ?_; rintro e w' ⟨rfl, rfl⟩)
  refine HF.out.mono ?_
  rintro e w' ⟨rfl, k, v', dk, rfl, hF⟩
  have hb : Below w.heap.size w ((putRow (fun (b : UInt8) => Value.int .u8 (b.toNat : Int)) (w.alloc (.cells Lib.zeros24 125)) w.heap.size 0 dk).drewN k) := by
    obtain ⟨os, e⟩ := Lib.fin_at w (.cells Lib.zeros24 125) dk k 0
    rw [e]
    exact Lib.below_grow _ _ (Nat.le_refl _) _ _
  have hcv : (convert 56 9 (.slice (some ⟨w.heap.size, 0, none⟩) nd 24)).run Tryz.prog ((putRow (fun (b : UInt8) => Value.int .u8 (b.toNat : Int)) (w.alloc (.cells Lib.zeros24 125)) w.heap.size 0 dk).drewN k) = .ok (.string ⟨(Lib.decDigits u).toArray⟩) ((putRow (fun (b : UInt8) => Value.int .u8 (b.toNat : Int)) (w.alloc (.cells Lib.zeros24 125)) w.heap.size 0 dk).drewN k) := by
    have hl : (Lib.decDigits u).length = nd := by rw [Lib.decDigits_length]; exact HNN.out.symm
    have hF' := hF
    rw [HNN.out] at hF'
    have hc := run_convert_bytes_back (P := Tryz.prog) ((putRow (fun (b : UInt8) => Value.int .u8 (b.toNat : Int)) (w.alloc (.cells Lib.zeros24 125)) w.heap.size 0 dk).drewN k) 56 9 5 ⟨w.heap.size, 0, none⟩ 24 (Lib.decDigits u) Tryz.underlying56 Tryz.underlying5 Tryz.underlying9 (fun j hj => by
      rw [Lib.row_is_numeral hF' j hj, Lib.add_plain, World.cell?_drewN]
      exact cell?_putRow (fun (b : UInt8) => Value.int .u8 (b.toNat : Int)) _ w.heap.size 0 _ dk HH.out (by rw [hF.size, Array.size_replicate]) j (by rw [hF.size]; omega))
    rw [hl] at hc
    exact hc
  revert hb hcv
  generalize (putRow (fun (b : UInt8) => Value.int .u8 (b.toNat : Int)) (w.alloc (.cells Lib.zeros24 125)) w.heap.size 0 dk).drewN k = W4
  intro hb hcv
  go_wp2
  go_ret
  exact ⟨rfl, hb⟩

set_option maxRecDepth 10000 in
/-- strconv.FormatUint to the base 10. -/
theorem fmt_any (u : Nat) (hu : u < 18446744073709551616) (w : World) (htab : Lib.TabIs Tryz.prog w "internal/strconv.uint64pow10" .u64 Lib.pow10Tab) : Calls Tryz.prog 59 #[.int .u64 u, .int .i64 10] w fun e w' => e = .returned (.string ⟨(Lib.decDigits u).toArray⟩) ∧ Below w.heap.size w w' := by
  have H : Hid (∀ W, Lib.TabIs Tryz.prog W "internal/strconv.uint64pow10" .u64 Lib.pow10Tab → Calls Tryz.prog 91 #[.int .u64 u, .int .i64 10] W fun e w' => e = .returned (.string ⟨(Lib.decDigits u).toArray⟩) ∧ Below W.heap.size W w') := fun W ht => by
    by_cases h : u < 100
    · exact (fmt_small u h W).mono fun e w' hh => ⟨hh.1, by rw [hh.2]; exact Below.refl _ _⟩
    · exact fmt_big u (by omega) hu W ht
  go_enter Tryz.func59, Tryz.ntmps59
  go_wp2_with (go_at_call 91; refine (H.out _ htab).mono ?_; rintro e w' ⟨rfl, hb⟩)
  go_ret
  exact ⟨rfl, hb⟩

end Go.Proofs.YtdgmjmckeeeljaaGreatDoor

namespace Go.Proofs.YtdgmjmckeeeljaaGreatDoor
open Go.Lib

/-- k decimal digits. -/
def pad : Nat → Nat → List UInt8
  | 0, _ => []
  | k + 1, g => pad k (g / 10) ++ [UInt8.ofNat (48 + g % 10)]

theorem repeatL_snoc (k : Nat) (b : UInt8) : repeatL [b] (k + 1) = repeatL [b] k ++ [b] := by
  induction k with
  | zero => rfl
  | succ k ih =>
    show [b] ++ repeatL [b] (k + 1) = ([b] ++ repeatL [b] k) ++ [b]
    rw [ih, List.append_assoc]

theorem pad_zero (k : Nat) : pad k 0 = repeatL [48] k := by
  induction k with
  | zero => rfl
  | succ k ih =>
    rw [repeatL_snoc, ← ih]
    rfl

theorem dec_ge {u : Nat} (h : ¬ u < 10) : decDigits u = decDigits (u / 10) ++ [UInt8.ofNat (48 + u % 10)] := by
  rw [decDigits, dif_neg h]

theorem pad_fill : ∀ (k g : Nat), g < 10 ^ (k + 1) → repeatL [48] (k + 1 - (decDigits g).length) ++ decDigits g = pad (k + 1) g
  | k, g, hg => by
    by_cases h : g < 10
    · rw [decDigits_one h]
      show repeatL [48] (k + 1 - 1) ++ _ = pad k (g / 10) ++ [UInt8.ofNat (48 + g % 10)]
      rw [Nat.add_sub_cancel, Nat.div_eq_of_lt h, Nat.mod_eq_of_lt h, pad_zero]
    · cases k with
      | zero => simp at hg; omega
      | succ k =>
        have ih := pad_fill k (g / 10) (by rw [Nat.div_lt_iff_lt_mul (by omega)]; rwa [Nat.pow_succ] at hg)
        rw [dec_ge h, List.length_append, List.length_singleton]
        show _ = pad (k + 1) (g / 10) ++ [UInt8.ofNat (48 + g % 10)]
        rw [← ih, List.append_assoc]
        congr 2
        omega

theorem dec_split : ∀ (k x : Nat), x / 10 ^ k ≠ 0 → decDigits x = decDigits (x / 10 ^ k) ++ pad k (x % 10 ^ k)
  | 0, x, _ => by simp [pad]
  | k + 1, x, h => by
    have hp : 10 ^ (k + 1) = 10 * 10 ^ k := by rw [Nat.pow_succ, Nat.mul_comm]
    rw [hp, ← Nat.div_div_eq_div_mul] at h
    have hx : ¬ x < 10 := fun hx => h (by rw [Nat.div_eq_of_lt hx, Nat.zero_div])
    have ih := dec_split k (x / 10) h
    rw [dec_ge hx, ih, hp, ← Nat.div_div_eq_div_mul]
    show _ = _ ++ (pad k (x % (10 * 10 ^ k) / 10) ++ [UInt8.ofNat (48 + x % (10 * 10 ^ k) % 10)])
    rw [Nat.mod_mul_right_div_self, Nat.mod_mul_right_mod, List.append_assoc]

/-- The text of groups, the lowest first. -/
def grpText : List Nat → List UInt8
  | [] => []
  | [g] => decDigits g
  | g :: r => grpText r ++ (repeatL [48] (9 - (decDigits g).length) ++ decDigits g)

theorem grpText_grp (x : Nat) : grpText (grp x) = decDigits x := by
  induction x using Nat.strongRecOn with
  | _ x ih =>
    rw [grp]
    by_cases h : x < 1000000000
    · rw [if_pos h]; rfl
    · rw [if_neg h]
      have h0 : x / 1000000000 ≠ 0 := by omega
      have hi := ih (x / 1000000000) (Nat.div_lt_self (by omega) (by omega))
      have hs := dec_split 9 x (by simpa using h0)
      have hf := pad_fill 8 (x % 1000000000) (Nat.mod_lt _ (by omega))
      simp only [show (10 : Nat) ^ 9 = 1000000000 from rfl] at hs
      rw [hs, ← hi, ← hf]
      rw [grp_step (x / 1000000000)]
      rfl

end Go.Proofs.YtdgmjmckeeeljaaGreatDoor

namespace Go.Proofs.YtdgmjmckeeeljaaGreatDoor
open Go.RowKit Go.Shelf
attribute [local go_sem] Oper.semAt_some

/-- The table that FormatUint reads is laid. -/
abbrev Tab (w : World) : Prop := Lib.TabIs Tryz.prog w "internal/strconv.uint64pow10" .u64 Lib.pow10Tab

theorem tab_kept {w W : World} (h : Tab w) (hk : ∀ (g : Nat) (o : Obj), w.heap[g]? = some o → o.isCells = true → g < w.heap.size → W.heap[g]? = some o) : Tab W := by
  unfold Tab Lib.TabIs World.var? at h ⊢
  cases hg : Tryz.prog.globalNamed "internal/strconv.uint64pow10" with
  | none => rw [hg] at h; cases h
  | some g =>
    rw [hg] at h
    simp only [Option.bind_some] at h ⊢
    cases ho : w.heap[g]? with
    | none => rw [ho] at h; cases h
    | some o =>
      rw [ho] at h
      cases o with
      | cells cs t f =>
        rw [hk g _ ho rfl (Array.getElem?_eq_some_iff.1 ho).1]
        exact h
      | _ => cases h

theorem tab_below {w W : World} (h : Tab w) (hb : Below w.heap.size w W) : Tab W := tab_kept h fun g _ h1 _ h2 => (hb.block g h2).trans h1

/-- Bytes as cells. -/
def chars (l : List UInt8) : List Value := l.map fun b => Value.int .u8 b.toNat
theorem chars_append (a b : List UInt8) : chars (a ++ b) = chars a ++ chars b := by simp [chars]
theorem chars_str (l : List UInt8) : Lib.strCells ⟨l.toArray⟩ = chars l := rfl

/-- A builder holds what it held, where all cells are as they were. -/
theorem builder_kept {B b : Nat} {p : Value} {bs : List Value} {w W : World} (h : Lib.BuilderAt 73 5 B b p bs w) (hk : ∀ (g : Nat) (o : Obj), w.heap[g]? = some o → o.isCells = true → W.heap[g]? = some o) : Lib.BuilderAt 73 5 B b p bs W := by
  obtain ⟨hB, v, hb, hown, hne⟩ := h
  refine ⟨hB, v, hk _ _ hb rfl, ⟨hown.1, ?_⟩, hne⟩
  rcases hown.2 with h1 | ⟨g, cap, cur, h1, h2, h3, h4⟩
  · exact .inl h1
  · exact .inr ⟨g, cap, cur, h1, h2, hk _ _ h3 rfl, h4⟩

theorem isBuilder_kept {B b : Nat} {bs : List Value} {w W : World} (h : Lib.IsBuilder 73 5 B b bs w) (hk : ∀ (g : Nat) (o : Obj), w.heap[g]? = some o → o.isCells = true → W.heap[g]? = some o) : Lib.IsBuilder 73 5 B b bs W :=
  h.imp (fun h => builder_kept h hk) (fun h => builder_kept h hk)

theorem isBuilder_below {B b : Nat} {bs : List Value} {w W : World} (h : Lib.IsBuilder 73 5 B b bs w) (hb : Below w.heap.size w W) : Lib.IsBuilder 73 5 B b bs W :=
  isBuilder_kept h fun g _ h1 _ => (hb.block g (Array.getElem?_eq_some_iff.1 h1).1).trans h1

/-- What holds when k groups are written. -/
structure TxI (B0 b g : Nat) (w : World) (ao : Option Addr) (cap : Nat) (L : List Nat) (pre : List UInt8) (k : Nat) (W : World) : Prop where
  c : W.heap[g]? = some (.cells #[.slice ao L.length cap] 25 (0, 0))
  sl : Sl W (.slice ao L.length cap) L
  ty : ∀ bb off, ao = some ⟨bb, off, none⟩ → ∃ cs f t, t ≠ 5 ∧ bb ≠ b ∧ W.heap[bb]? = some (.cells cs t f)
  bd : Lib.IsBuilder 73 5 B0 b (chars (pre ++ grpText (L.drop (L.length - k)))) W
  tab : Tab W
  bl : Below B0 w W

theorem txI_kept {B0 b g : Nat} {w W W' : World} {ao : Option Addr} {cap : Nat} {L : List Nat} {pre : List UInt8} {k : Nat} (h : TxI B0 b g w ao cap L pre k W) (hk : ∀ (g : Nat) (o : Obj), W.heap[g]? = some o → o.isCells = true → W'.heap[g]? = some o) (hb : Below B0 w W') : TxI B0 b g w ao cap L pre k W' := by
  refine ⟨hk _ _ h.c rfl, ⟨h.sl.bd, h.sl.len, ?_⟩, fun bb off e => ?_, isBuilder_kept h.bd hk, tab_kept h.tab (fun g o h1 h2 _ => hk g o h1 h2), hb⟩
  · rcases h.sl.is with h1 | ⟨bb, off, cap', hv, hc, hcl⟩
    · exact .inl h1
    · refine .inr ⟨bb, off, cap', hv, hc, fun j hj => ?_⟩
      cases hv
      obtain ⟨cs, f, t, _, _, ho⟩ := h.ty bb off rfl
      rw [← hcl j hj]
      exact World.cell?_of_block (a := ⟨bb, off + j, none⟩) ((hk _ _ ho rfl).trans ho.symm)
  · obtain ⟨cs, f, t, h1, h2, ho⟩ := h.ty bb off e
    exact ⟨cs, f, t, h1, h2, hk _ _ ho rfl⟩

theorem txI_own {B0 b g : Nat} {w : World} {ao : Option Addr} {cap : Nat} {L : List Nat} {pre : List UInt8} {w0 : World} (h0 : B0 ≤ w.heap.size) (h1 : w.heap.size ≤ w0.heap.size) : OwnFrom w0.heap.size (TxI B0 b g w ao cap L pre) := by
  intro k W W' row hs hg hr
  refine txI_kept hs (fun q o hq hc => ?_) (hs.bl.grown hg (Nat.le_trans h0 hs.bl.size) (fun r e => Nat.le_trans (Nat.le_trans h0 h1) (hr r e).1))
  refine (hg.block q (Array.getElem?_eq_some_iff.1 hq).1 fun e => ?_).trans hq
  obtain ⟨_, o', ho', hc'⟩ := hr q e.symm
  rw [hq] at ho'
  cases ho'
  rw [hc] at hc'
  cases hc'

theorem grpText_drop {L : List Nat} {k : Nat} (hk : k < L.length) (h0 : k ≠ 0) : grpText (L.drop (L.length - (k + 1))) = grpText (L.drop (L.length - k)) ++ (Lib.repeatL [48] (9 - (Lib.decDigits (L.getD (L.length - 1 - k) 0)).length) ++ Lib.decDigits (L.getD (L.length - 1 - k) 0)) := by
  have h1 : L.length - (k + 1) < L.length := by omega
  rw [List.drop_eq_getElem_cons h1, show L.length - (k + 1) + 1 = L.length - k by omega]
  have h2 : L.getD (L.length - 1 - k) 0 = L[L.length - (k + 1)] := by
    rw [show L.length - 1 - k = L.length - (k + 1) by omega]
    simp [List.getD, h1]
  rw [h2]
  have h3 : L.length - k < L.length := by omega
  rw [List.drop_eq_getElem_cons h3]
  rfl

theorem grpText_first {L : List Nat} (h : 0 < L.length) : grpText (L.drop (L.length - 1)) = Lib.decDigits (L.getD (L.length - 1) 0) := by
  have h1 : L.length - 1 < L.length := by omega
  rw [List.drop_eq_getElem_cons h1, show L.length - 1 + 1 = L.length by omega, List.drop_length]
  simp [List.getD, h1, grpText]

end Go.Proofs.YtdgmjmckeeeljaaGreatDoor

namespace Go.Proofs.YtdgmjmckeeeljaaGreatDoor
open Go.RowKit

/-- What the rows list. -/
abbrev laidL : List (String × DataW Unit) := Rows.numIntsRow.laid

theorem pow10_data : Rows.laid_internal_strconv_uint64pow10 (H := Unit) = Lib.tabData .u64 Lib.pow10Tab := by rfl
theorem pow10_named : Tryz.prog.globalNamed "internal/strconv.uint64pow10" = some 1 := by kernel_rfl

theorem tab_of_laid {W : World} (h : laidMetH Tryz.prog laidL W) : Tab W := by
  have h1 : laidMet Tryz.prog laidL W := h
  have h2 := h1.tail.tail
  rw [pow10_data] at h2
  exact Lib.tabIs_of_head pow10_named (by kernel_rfl) Tryz.underlying137 Tryz.underlying69 (by kernel_rfl) (by kernel_rfl) h2

/-- The cells of plain data. -/
def dataCells : DataW Unit → Array Value
  | .agg ds => (ds.map fun d => match d with | .lit (.int k z) => Value.int k z | _ => undef).toArray
  | _ => #[]

abbrev rangeS : ByteArray := ⟨#[118, 97, 108, 117, 101, 32, 111, 117, 116, 32, 111, 102, 32, 114, 97, 110, 103, 101]⟩
abbrev syntaxS : ByteArray := ⟨#[105, 110, 118, 97, 108, 105, 100, 32, 115, 121, 110, 116, 97, 120]⟩

noncomputable def low : Nat := (World.holding Tryz.prog default ⟨#[], #[], []⟩).heap.size

/-- A world that meets the condition: the settled one, the variables laid. -/
noncomputable def laidWorld (os : Os) : World :=
  let w0 := World.holding Tryz.prog os ⟨#[.cells #[.string rangeS] 153, .cells #[.string syntaxS] 153], #[], []⟩
  let put (g : Nat) (cs : Array Value) (h : Array Obj) : Array Obj := h.modify g fun
    | .cells _ t frozen => .cells cs t frozen
    | o => o
  { w0 with heap := put 5 (dataCells Rows.laid_math_bits_deBruijn32tab) (put 6 (dataCells Rows.laid_math_bits_deBruijn64tab) (put 1 (dataCells Rows.laid_internal_strconv_uint64pow10)
      (put 4 #[.iface 151 (.pointer (some ⟨low, 0, none⟩))] (put 3 #[.iface 151 (.pointer (some ⟨low + 1, 0, none⟩))] w0.heap)))) }

theorem laidWorld_met (os : Os) (args : Array Value) : laidMetH Tryz.prog laidL ((laidWorld os).forCall (fun _ _ => 0) ⟨#[], args, []⟩).memory :=
  (laidMet_of_run3 8 (by kernel_rfl) (by kernel_rfl) (by kernel_rfl) : laidMet Tryz.prog laidL ((laidWorld os).forCall (fun _ _ => 0) ⟨#[], args, []⟩).memory)

end Go.Proofs.YtdgmjmckeeeljaaGreatDoor

namespace Go.Proofs.YtdgmjmckeeeljaaGreatDoor
open Go.RowKit Go.Shelf
attribute [local go_sem] Oper.semAt_some

theorem pad_len : ∀ k g, (pad k g).length = k
  | 0, _ => rfl
  | k + 1, g => by simp [pad, pad_len k]

theorem dec_len9 {g : Nat} (h : g < 1000000000) : (Lib.decDigits g).length ≤ 9 := by
  have := congrArg List.length (pad_fill 8 g (by simpa using h))
  rw [List.length_append, pad_len] at this
  omega

theorem rep_len (k : Nat) (b : UInt8) : (Lib.repeatL [b] k).length = k := by
  induction k with
  | zero => rfl
  | succ k ih => rw [repeatL_snoc, List.length_append, ih]; rfl

theorem grpText_len : ∀ L : List Nat, (∀ d ∈ L, d < 1000000000) → (grpText L).length ≤ 9 * L.length
  | [], _ => by simp [grpText]
  | [g], h => by
    have := dec_len9 (h g (by simp))
    simpa [grpText] using this
  | g :: a :: r, h => by
    have h1 := grpText_len (a :: r) (fun d hd => h d (List.mem_cons_of_mem _ hd))
    have h2 := dec_len9 (h g (by simp))
    show (grpText (a :: r) ++ (Lib.repeatL [48] (9 - (Lib.decDigits g).length) ++ Lib.decDigits g)).length ≤ _
    rw [List.length_append, List.length_append, rep_len]
    simp only [List.length_cons] at h1 ⊢
    omega

/-- What holds when k groups are written. -/
structure TxJ (w : World) (b g g' : Nat) (ao : Option Addr) (cap : Nat) (L : List Nat) (pre : List UInt8) (k : Nat) (W : World) : Prop where
  c : W.heap[g]? = some (.cells #[.slice ao L.length cap] 25 (0, 0))
  c' : W.heap[g']? = some (.cells #[.slice ao L.length cap] 25 (0, 0))
  sl : Sl W (.slice ao L.length cap) L
  ty : Ty59 W ao
  bd : Lib.IsBuilder 73 5 w.heap.size b (chars (pre ++ grpText (L.drop (L.length - k)))) W
  bl : Below w.heap.size w W

theorem Sl.row59 {W W' : World} {ao : Option Addr} {n cap : Nat} {L : List Nat} (h : Sl W (.slice ao n cap) L) (ht : Ty59 W ao) (hk : ∀ (g : Nat) (o : Obj), W.heap[g]? = some o → (∃ cs f, o = .cells cs 59 f) → W'.heap[g]? = some o) : Sl W' (.slice ao n cap) L ∧ Ty59 W' ao := by
  refine ⟨⟨h.bd, h.len, ?_⟩, fun bb off e => ?_⟩
  · rcases h.is with h1 | ⟨bb, off, cap', hv, hc, hcl⟩
    · exact .inl h1
    · refine .inr ⟨bb, off, cap', hv, hc, fun j hj => ?_⟩
      cases hv
      obtain ⟨cs, f, ho⟩ := ht bb off rfl
      rw [← hcl j hj]
      exact World.cell?_of_block (a := ⟨bb, off + j, none⟩) ((hk _ _ ho ⟨_, _, rfl⟩).trans ho.symm)
  · obtain ⟨cs, f, ho⟩ := ht bb off e
    exact ⟨cs, f, hk _ _ ho ⟨_, _, rfl⟩⟩

theorem txJ_kept {w W W' : World} {b g g' : Nat} {ao : Option Addr} {cap : Nat} {L : List Nat} {pre : List UInt8} {k : Nat} (h : TxJ w b g g' ao cap L pre k W) (hk : ∀ (g : Nat) (o : Obj), W.heap[g]? = some o → o.isCells = true → W'.heap[g]? = some o) (hb : Below w.heap.size w W') : TxJ w b g g' ao cap L pre k W' := by
  obtain ⟨h1, h2⟩ := h.sl.row59 h.ty (W' := W') (fun g o ho hx => by obtain ⟨cs, f, rfl⟩ := hx; exact hk g _ ho rfl)
  exact ⟨hk _ _ h.c rfl, hk _ _ h.c' rfl, h1, h2, isBuilder_kept h.bd hk, hb⟩

theorem txJ_own {w : World} {b g g' : Nat} {ao : Option Addr} {cap : Nat} {L : List Nat} {pre : List UInt8} {B : Nat} (hB : w.heap.size ≤ B) : OwnFrom B (TxJ w b g g' ao cap L pre) := by
  intro k W W' row hs hg hr
  refine txJ_kept hs (fun q o hq hc => ?_) (hs.bl.grown hg hs.bl.size (fun r e => Nat.le_trans hB (hr r e).1))
  refine (hg.block q (Array.getElem?_eq_some_iff.1 hq).1 fun e => ?_).trans hq
  obtain ⟨_, o', ho', hc'⟩ := hr q e.symm
  rw [hq] at ho'
  cases ho'
  rw [hc] at hc'
  cases hc'

/-- The builder's own block is a builder's. -/
theorem builder_ty {B b : Nat} {bs : List Value} {W : World} (h : Lib.IsBuilder 73 5 B b bs W) : ∃ cs, W.heap[b]? = some (.cells cs 73 (0, 0)) := by
  rcases h with ⟨_, v, hb, _⟩ | ⟨_, v, hb, _⟩
  · exact ⟨_, hb⟩
  · exact ⟨_, hb⟩

/-- A round: what is not the builder's is as it was. -/
theorem txJ_step {w W W' : World} {b g g' : Nat} {ao : Option Addr} {cap : Nat} {L : List Nat} {pre : List UInt8} {k : Nat} (h : TxJ w b g g' ao cap L pre k W) (hk : KeptT b W W') (hb : Below w.heap.size W W')
    (hd : Lib.IsBuilder 73 5 w.heap.size b (chars (pre ++ grpText (L.drop (L.length - (k + 1))))) W') : TxJ w b g g' ao cap L pre (k + 1) W' := by
  obtain ⟨cs0, hb0⟩ := builder_ty h.bd
  have hne : ∀ q cs t f, W.heap[q]? = some (.cells cs t f) → t ≠ 73 → q ≠ b := fun q cs t f hq ht e => by
    subst e
    rw [hb0] at hq
    cases hq
    exact ht rfl
  obtain ⟨h1, h2⟩ := h.sl.row59 h.ty (W' := W') (fun q o ho hx => by
    obtain ⟨cs, f, rfl⟩ := hx
    exact hk q _ ho (fun cs f e => by cases e) (hne q _ _ _ ho (by decide)))
  exact ⟨hk _ _ h.c (fun cs f e => by cases e) (hne _ _ _ _ h.c (by decide)), hk _ _ h.c' (fun cs f e => by cases e) (hne _ _ _ _ h.c' (by decide)), h1, h2, hd, h.bl.trans hb⟩

theorem keeps_of_keptT {B b : Nat} {W W' : World} {cs0 : Array Value} (hb0 : W.heap[b]? = some (.cells cs0 73 (0, 0))) (hk : KeptT b W W') (hs : W.heap.size ≤ W'.heap.size) : KeepsFrom B W W' :=
  ⟨hs, fun q o _ hq hc => hk q o hq (fun cs f e => by subst e; cases hc) (fun e => by subst e; rw [hb0] at hq; cases hq; cases hc)⟩

/-- A fresh builder. -/
theorem builder_fresh (w W : World) (h : w.heap.size ≤ W.heap.size) : Lib.IsBuilder 73 5 w.heap.size W.heap.size (chars []) (W.alloc (.cells #[.pointer none, .slice none 0 0] 73)) :=
  .inl ⟨h, .slice none 0 0, heap_alloc_new _ _, ⟨rfl, .inl ⟨rfl, rfl⟩⟩, by simp [Value.ownBlock]⟩

/-- The text of a number. -/
def txt (a : Int) : List UInt8 := (if a < 0 then [45] else []) ++ Lib.decDigits a.natAbs

end Go.Proofs.YtdgmjmckeeeljaaGreatDoor

namespace Go.Proofs.YtdgmjmckeeeljaaGreatDoor
open Go.RowKit Go.Shelf
attribute [local go_sem] Oper.semAt_some

theorem isB {B b : Nat} {bs : List Value} {W : World} (h : Lib.BuilderAt 73 5 B b (.pointer (some ⟨b, 0, none⟩)) bs W) : Lib.IsBuilder 73 5 B b bs W := .inr h

set_option maxRecDepth 100000 in
set_option maxHeartbeats 4000000 in
theorem text_any {w : World} {v : Value} {a : Int} (hN : Nu w v a) (htab : Tab w) : Calls Tryz.prog 23 #[v] w fun e w' => e = .returned (.string ⟨(txt a).toArray⟩) ∧ Below w.heap.size w w' := by
  obtain ⟨s, rfl, hs, hl⟩ := hN
  have hr := rightB_digs a hl
  obtain ⟨x, hx⟩ : ∃ x, x = a.natAbs := ⟨_, rfl⟩
  rw [← hx] at hs hl hr
  obtain ⟨ao0, cap0, hsv⟩ := hs.mk'
  obtain ⟨n0, hn0⟩ : ∃ n, n = (digs x).length := ⟨_, rfl⟩
  rw [← hn0] at hsv
  subst hsv
  refine (callsIn_wide (n := 5)).1 ?_
  have w32 : Fence.wide.fn 32 := trivial
  have w56 : Fence.wide.fn 56 := trivial
  have w57 : Fence.wide.fn 57 := trivial
  have w58 : Fence.wide.fn 58 := trivial
  have w59 : Fence.wide.fn 59 := trivial
  have w60 : Fence.wide.fn 60 := trivial
  have w61 : Fence.wide.fn 61 := trivial
  have w62 : Fence.wide.fn 62 := trivial
  obtain ⟨neg, hneg⟩ : ∃ neg, neg = decide (a < 0) := ⟨_, rfl⟩
  rw [← hneg] at hr ⊢
  have H32 : Hid (∀ k W, Below w.heap.size w W → CallsIn Fence.wide k Tryz.prog 32 #[.agg #[.bool neg, .slice ao0 n0 cap0]] W fun e w' => e = .returned (.bool true) ∧ Below W.heap.size W w') := fun k W hW => callsIn_wide.2 ((right_any neg (hs.below hW) (by omega)).mono fun e w' h => by
    rw [hr] at h
    exact ⟨h.1, by rw [h.2]; exact (Below.refl _ _).alloc (Nat.le_refl _) _⟩)
  have H57 : Hid (∀ k W, Below w.heap.size w W → CallsIn Fence.wide k Tryz.prog 57 #[.slice ao0 n0 cap0] W fun e w' => ∃ ao cap, e = .returned (.slice ao (grp x).length cap) ∧ Sl w' (.slice ao (grp x).length cap) (grp x) ∧ Below W.heap.size W w' ∧ Ty59 w' ao) := fun k W hW => callsIn_wide.2 ((groups_any (hs.below hW) hl).mono fun e w' ⟨ao, cap, h1, h2, h3, h4⟩ => ⟨ao, cap, h1, h2.sl, h3, h4⟩)
  have H56 : Hid (∀ k B b bs W, Lib.IsBuilder 73 5 B b bs W → bs.length + 1 ≤ 140737488355328 → B ≤ W.heap.size → CallsIn Fence.wide k Tryz.prog 56 #[.pointer (some ⟨b, 0, none⟩), .int .u8 45] W fun e w' => e = .returned .nilIface ∧ Lib.BuilderAt 73 5 B b (.pointer (some ⟨b, 0, none⟩)) (bs ++ [.int .u8 45]) w' ∧ Below B W w' ∧ KeptT b W w') := fun k B b bs W h1 h2 h3 => callsIn_wide.2 (writeByte_any B b bs 45 W h1 h2 h3)
  obtain ⟨L, hL⟩ : ∃ L, L = grp x := ⟨_, rfl⟩
  have hLb : ∀ d ∈ L, d < 1000000000 := by rw [hL]; exact grp_bd x
  have hL1 : 1 ≤ L.length := by rw [hL]; exact grp_pos x
  have hL2 : L.length ≤ 514 := by
    rw [hL]
    by_cases h0 : (digs x).length = 0
    · have : x = 0 := digs_inj (by rw [digs_zero]; exact List.eq_nil_of_length_eq_zero h0)
      rw [this, grp]; simp
    · have := grp_len2 hl (by omega)
      omega
  rw [← hL] at H57
  obtain ⟨pre, hpre⟩ : ∃ pre : List UInt8, pre = if a < 0 then [45] else [] := ⟨_, rfl⟩
  have hpl : pre.length ≤ 1 := by rw [hpre]; split <;> simp
  obtain ⟨res, hres⟩ : ∃ res : ByteArray, res = ⟨(txt a).toArray⟩ := ⟨_, rfl⟩
  rw [← hres]
  have HRES : Hid (res = ⟨(pre ++ grpText L).toArray⟩) := by
    rw [hres, hL, grpText_grp, hpre, hx]
    rfl
  obtain ⟨nL, hnL⟩ : ∃ nL, nL = L.length := ⟨_, rfl⟩
  rw [← hnL] at H57 hL1 hL2
  have HNL := Lib.hid hnL
  have HLB := Lib.hid hLb
  have HTAB := Lib.hid htab
  have HNEG := Lib.hid hneg
  have HPRE := Lib.hid hpre
  clear hs hl hr hx hn0 hneg hL hLb hpre hres hnL htab
  refine callsIn_of_wp_marks Tryz.func23 rfl trivial ?_ rfl
  simp only [Tryz.ntmps23, List.size_toArray, List.length_cons, List.length_nil, Nat.reduceAdd, Nat.reduceSub, Array.replicate_succ, Array.replicate_zero, List.push_toArray, List.append_toArray, List.nil_append, List.cons_append]
  cases neg
  · have hpr : pre = [] := by rw [HPRE.out, if_neg (by have := HNEG.out; simpa using this)]
    have HPR := Lib.hid hpr
    clear hpr
    gi_wp2_with (first | (gi_at_call 32; refine (H32.out _ _ (by go_grown)).mono ?_; rintro e w1 ⟨rfl, hb1⟩; have r1 : w1.heap[w.heap.size]? = some (.cells #[.bool false, .slice ao0 n0 cap0] 27 (0, 0)) := (hb1.block w.heap.size (by simp)).trans (heap_alloc_new _ _); have hb1' : Below w.heap.size w w1 := ((Below.refl _ w).alloc (Nat.le_refl _) _).trans (hb1.mono (by simp)); have hlt1 : w.heap.size < w1.heap.size := (Array.getElem?_eq_some_iff.1 r1).1; have r2 : (w1.alloc (.cells #[.pointer none, .slice none 0 0] 73)).heap[w.heap.size]? = some (.cells #[.bool false, .slice ao0 n0 cap0] 27 (0, 0)) := (Below.heap_alloc _ _ _ hlt1).trans r1; have c0 : (w1.alloc (.cells #[.pointer none, .slice none 0 0] 73)).cell? ⟨w.heap.size, 0, none⟩ = some (.bool false) := (cell_of_row _ _ _ _ _ _ r2).trans rfl; have c1 : (w1.alloc (.cells #[.pointer none, .slice none 0 0] 73)).cell? ⟨w.heap.size, 1, none⟩ = some (.slice ao0 n0 cap0) := (cell_of_row _ _ _ _ _ _ r2).trans rfl; have hfr := builder_fresh w w1 (Nat.le_of_lt hlt1); have HFR := Lib.hid hfr; have HB1 : Hid (Below w.heap.size w (w1.alloc (.cells #[.pointer none, .slice none 0 0] 73))) := Lib.hid (hb1'.alloc (Nat.le_of_lt hlt1) _); have HR2 := Lib.hid r2; have HL1 := Lib.hid hlt1; clear hb1 r1 hb1' hlt1 r2 hfr) | (gi_at_call 57; refine (H57.out _ _ HB1.out).mono ?_; rintro e w3 ⟨ao, cap, rfl, hsl, hb3, hty⟩; have HSL := Lib.hid hsl; have HTY := Lib.hid hty; have HB3 := Lib.hid (HB1.out.trans (hb3.mono HB1.out.size)); have HBD3 := Lib.hid (isBuilder_below HFR.out hb3); clear hsl hb3 hty) | (gi_at_call 58; refine (backward_in Fence.wide _ w58 rfl _ _ _ _).mono ?_; rintro e w' ⟨rfl, rfl⟩))
    have hI0 : TxJ w w1.heap.size w3.heap.size (w3.heap.size + 1) ao cap L pre 0 ((w3.alloc (.cells #[.slice ao nL cap] 25)).alloc (.cells #[.slice ao nL cap] 25)) := by
      have e0 : pre ++ grpText (L.drop (L.length - 0)) = [] := by rw [HPR.out, Nat.sub_zero, List.drop_length]; rfl
      have hbb : Below w3.heap.size w3 ((w3.alloc (.cells #[.slice ao nL cap] 25)).alloc (.cells #[.slice ao nL cap] 25)) := by go_grown
      have k2 := heap_alloc_new (w3.alloc (.cells #[.slice ao nL cap] 25)) (.cells #[.slice ao nL cap] 25)
      rw [World.size_alloc] at k2
      obtain ⟨q1, q2⟩ := HSL.out.row59 HTY.out (W' := ((w3.alloc (.cells #[.slice ao nL cap] 25)).alloc (.cells #[.slice ao nL cap] 25))) (fun q o ho _ => (hbb.block q (Array.getElem?_eq_some_iff.1 ho).1).trans ho)
      rw [HNL.out] at q1 q2 k2 hbb ⊢
      refine ⟨(Below.heap_alloc _ _ _ (by simp)).trans (heap_alloc_new _ _), k2, q1, q2, ?_, HB3.out.trans (hbb.mono HB3.out.size)⟩
      rw [e0]
      exact isBuilder_below HBD3.out hbb
    have HI0 := Lib.hid hI0
    have HS3 := Lib.hid HB3.out.size
    clear hI0
    refine rangeFunc_counts rfl (by omega) (gf := 90) (lb := #[.pointer (some ⟨w3.heap.size + 1, 0, none⟩)]) rfl trivial (enters_of Tryz.func90 (by kernel_rfl) rfl)
      (backward_counts Fence.wide 4 trivial rfl (by omega) (w3.heap.size + 1) ao cap L (by rw [← HNL.out]; omega) (TxJ w w1.heap.size w3.heap.size (w3.heap.size + 1) ao cap L pre) (fun k W h => by rw [cell_of_row _ _ _ _ _ _ h.c']; rfl) (fun k W h hk => ?hcell)) (fun _ => rfl)
      (txJ_own (by have := HS3.out; simp; omega)) HI0.out
      (fun k => { tmps := #[.agg #[.bool false, .slice ao0 n0 cap0], .pointer (some ⟨w.heap.size, 0, none⟩), .string ⟨#[]⟩, .pointer (some ⟨w1.heap.size, 0, none⟩), .pointer (some ⟨w3.heap.size, 0, none⟩), .int .i64 ((L.length - 1 - k : Nat) : Int), .int .u32 ((L.getD (L.length - 1 - k) 0 : Nat) : Int), undef, .agg #[.bool false, .slice ao0 n0 cap0], .bool true, .bool false, .pointer (some ⟨w.heap.size, 0, none⟩), .bool false, undef, .pointer (some ⟨w.heap.size, 1, none⟩), .slice ao0 n0 cap0, .slice ao nL cap, .slice ao nL cap, .func (.func 90) #[] #[.pointer (some ⟨w3.heap.size + 1, 0, none⟩)], .int .i64 ((L.length - 1 - k : Nat) : Int), .int .u32 ((L.getD (L.length - 1 - k) 0 : Nat) : Int), undef, undef, undef, undef, undef, undef, undef, undef, undef, undef, undef, undef, undef, undef, undef, undef], defers := [] }) ?assign ?body ?done
    case hcell =>
      obtain ⟨b, off, e, _, _, hcl⟩ := h.sl.at (by rw [← HNL.out]; omega)
      exact ⟨b, off, e, hcl _ (by omega)⟩
    case assign =>
      intro y k W K hK
      obtain ⟨i, hi⟩ : ∃ i, i = L.length - 1 - k := ⟨_, rfl⟩
      obtain ⟨u, hu⟩ : ∃ u, u = L.getD (L.length - 1 - k) 0 := ⟨_, rfl⟩
      unfold backArgs
      rw [← hu, ← hi] at hK ⊢
      clear hi hu
      gi_wp2
      exact hK
    case body =>
      intro y k W hk hI
      obtain ⟨i, hi⟩ : ∃ i, i = L.length - 1 - k := ⟨_, rfl⟩
      obtain ⟨u, hu⟩ : ∃ u, u = L.getD (L.length - 1 - k) 0 := ⟨_, rfl⟩
      rw [← hu, ← hi]
      have hil : i < L.length := by omega
      have hub : u < 1000000000 := by
        rw [hu, ← hi, show L.getD i 0 = L[i] by simp [List.getD, hil]]
        exact HLB.out _ (List.getElem_mem hil)
      obtain ⟨D, hD⟩ : ∃ D : ByteArray, D = ⟨(Lib.decDigits u).toArray⟩ := ⟨_, rfl⟩
      obtain ⟨nd, hnd⟩ : ∃ nd, nd = (Lib.decDigits u).length := ⟨_, rfl⟩
      have hDs : D.size = nd := by rw [hD, hnd]; simp [ByteArray.size]
      have hnd9 : nd ≤ 9 := by rw [hnd]; exact dec_len9 hub
      obtain ⟨Z, hZ⟩ : ∃ Z : ByteArray, Z = ⟨(Lib.repeatL [48] (9 - nd)).toArray⟩ := ⟨_, rfl⟩
      have hZs : Z.size = 9 - nd := by rw [hZ]; simp [ByteArray.size, rep_len]
      have HF : Hid (∀ k W, Tab W → CallsIn Fence.wide k Tryz.prog 59 #[.int .u64 u, .int .i64 10] W fun e w' => e = .returned (.string D) ∧ Below W.heap.size W w') := fun k W ht => callsIn_wide.2 (by rw [hD]; exact fmt_any u (by omega) W ht)
      have HRP : Hid (∀ k W, CallsIn Fence.wide k Tryz.prog 61 #[.string ⟨#[48]⟩, .int .i64 (9 - (nd : Int))] W fun e w' => e = .returned (.string Z) ∧ Below W.heap.size W w') := fun k W => callsIn_wide.2 (by
        have := Tryz.strings_Repeat ⟨#[48]⟩ (9 - nd) W (by omega) (by show 1 * (9 - nd) ≤ _; omega)
        rw [show ((9 - nd : Nat) : Int) = 9 - (nd : Int) by omega] at this
        rw [hZ]; exact this)
      have H60 : Hid (∀ k bs s W, Lib.IsBuilder 73 5 w.heap.size w1.heap.size bs W → bs.length + s.size ≤ 140737488355328 → w.heap.size ≤ W.heap.size → CallsIn Fence.wide k Tryz.prog 60 #[.pointer (some ⟨w1.heap.size, 0, none⟩), .string s] W fun e w' => e = .returned (.tuple #[.int .i64 s.size, .nilIface]) ∧ Lib.BuilderAt 73 5 w.heap.size w1.heap.size (.pointer (some ⟨w1.heap.size, 0, none⟩)) (bs ++ Lib.strCells s) w' ∧ Below w.heap.size W w' ∧ KeptT w1.heap.size W w') := fun k bs s W h1 h2 h3 => callsIn_wide.2 (writeString_any w.heap.size w1.heap.size bs s W h1 h2 h3)
      have hc : W.cell? ⟨w3.heap.size, 0, none⟩ = some (.slice ao nL cap) := by rw [cell_of_row _ _ _ _ _ _ hI.c, ← HNL.out]; rfl
      have hln1 : (chars (pre ++ grpText (L.drop (L.length - k)))).length ≤ 9000 := by
        have h1 := grpText_len (L.drop (L.length - k)) (fun d hd => HLB.out d (List.mem_of_mem_drop hd))
        rw [List.length_drop] at h1
        have h2 := HNL.out
        simp only [chars, List.length_map, List.length_append]
        omega
      have htb := tab_below HTAB.out hI.bl
      obtain ⟨cs0, hb0⟩ := builder_ty hI.bd
      have HBW := Lib.hid hI.bl.size
      have HB0 := Lib.hid hb0
      have HTB := Lib.hid htb
      have HI := Lib.hid hI
      have HBD := Lib.hid hI.bd
      have HKT := Lib.hid (KeptT.refl w1.heap.size W)
      have HBL := Lib.hid (Below.refl w.heap.size W)
      have HU := Lib.hid hu
      have HII := Lib.hid hi
      have HD := Lib.hid hD
      have HZ := Lib.hid hZ
      have HND := Lib.hid hnd
      have hnl := HNL.out
      have HKL := Lib.hid hk
      by_cases hk0 : k = 0
      · have hik : i = nL - 1 := by omega
        have hi2 : ¬ ((i : Int) < (nL : Int) - 1) := by omega
        have HLN := Lib.hid hln1
        have HK0 := Lib.hid hk0
        clear hln1 htb hb0 hI hu hi hD hZ hnd hnl hk hk0 hik HI0
        gi_wp2_with (first | (gi_at_call 59; refine (CallsIn.inRound y (HF.out _ _ HTB.out)).mono ?_; rintro e w4 ⟨rfl, hb⟩; have hc4 : w4.cell? ⟨w3.heap.size, 0, none⟩ = some (.slice ao nL cap) := cell_later hb hc; have HBD := Lib.hid (isBuilder_below HBD.out hb); have HKT := Lib.hid (HKT.out.trans (KeptT.below hb)); have HBL := Lib.hid (HBL.out.trans (hb.mono (Nat.le_trans HBW.out HBL.out.size))); clear hb) | (gi_at_call 60; refine (CallsIn.inRound y (H60.out _ _ D _ HBD.out (by have := HLN.out; rw [hDs]; omega) (Nat.le_trans HBW.out HBL.out.size))).mono ?_; rintro e w7 ⟨rfl, hbd, hb, hk⟩; have HBD := Lib.hid (isB hbd); have HKT := Lib.hid (HKT.out.trans hk); have HBL := Lib.hid (HBL.out.trans hb); clear hb hbd hk))
        refine ⟨keeps_of_keptT HB0.out HKT.out HBL.out.size, txJ_step HI.out HKT.out HBL.out ?_⟩
        have h1 := HBD.out
        rw [HK0.out, Nat.sub_zero, List.drop_length, HD.out, chars_str, ← chars_append] at h1
        rw [HK0.out, Nat.zero_add, grpText_first (by rw [← HNL.out]; omega)]
        have h2 := HU.out
        rw [HK0.out, Nat.sub_zero] at h2
        rw [← h2]
        simpa [grpText] using h1
      · have hi2 : (i : Int) < (nL : Int) - 1 := by omega
        have HLN1 := Lib.hid hln1
        have HK0 := Lib.hid hk0
        clear hln1 htb hb0 hI hu hi hD hZ hnd hnl hk hk0 HI0
        gi_wp2_with (first | (gi_at_call 59; refine (CallsIn.inRound y (HF.out _ _ HTB.out)).mono ?_; rintro e w4 ⟨rfl, hb⟩; have hc4 : w4.cell? ⟨w3.heap.size, 0, none⟩ = some (.slice ao nL cap) := cell_later hb hc; have HBD := Lib.hid (isBuilder_below HBD.out hb); have HKT := Lib.hid (HKT.out.trans (KeptT.below hb)); have HBL := Lib.hid (HBL.out.trans (hb.mono (Nat.le_trans HBW.out HBL.out.size))); clear hb) | (gi_at_call 61; refine (CallsIn.inRound y (HRP.out _ _)).mono ?_; rintro e w5 ⟨rfl, hb⟩; have HBD := Lib.hid (isBuilder_below HBD.out hb); have HKT := Lib.hid (HKT.out.trans (KeptT.below hb)); have HBL := Lib.hid (HBL.out.trans (hb.mono (Nat.le_trans HBW.out HBL.out.size))); clear hb) | (gi_at_call 60; refine (CallsIn.inRound y (H60.out _ _ _ _ HBD.out (by first | (rw [hZs]; have := HLN1.out; omega) | (rw [List.length_append, hDs, show (Lib.strCells Z).length = Z.size from Lib.strCells_length Z, hZs]; have := HLN1.out; omega)) (Nat.le_trans HBW.out HBL.out.size))).mono ?_; rintro e w6 ⟨rfl, hbd, hb, hk⟩; have HBD := Lib.hid (isB hbd); have HKT := Lib.hid (HKT.out.trans hk); have HBL := Lib.hid (HBL.out.trans hb); clear hb hbd hk))
        refine ⟨keeps_of_keptT HB0.out HKT.out HBL.out.size, txJ_step HI.out HKT.out HBL.out ?_⟩
        have h1 := HBD.out
        rw [HD.out, HZ.out, chars_str, chars_str, ← chars_append, ← chars_append] at h1
        rw [grpText_drop HKL.out HK0.out, ← HU.out, ← HND.out, ← List.append_assoc, ← List.append_assoc]
        exact h1
    case done =>
      intro D W hD hI hK
      have hbd := hI.bd
      rw [Nat.sub_self, List.drop_zero] at hbd
      obtain ⟨cs0, hb0⟩ := builder_ty hI.bd
      have hne : some D ≠ some w1.heap.size := fun e => by
        cases e
        rw [hb0] at hK
        cases hK
      have H62 : Hid (∀ k, CallsIn Fence.wide k Tryz.prog 62 #[.pointer (some ⟨w1.heap.size, 0, none⟩)] W fun e w' => e = .returned (.string res) ∧ Below w.heap.size W w' ∧ Lib.OthersKept 5 (some w1.heap.size) W w') := fun k => callsIn_wide.2 ((Any.Builder_String_any_k Tryz.lays169 Tryz.Builder_Extra_169 w.heap.size w1.heap.size (pre ++ grpText L) W (Lib.IsBuilderF.of hbd) hI.bl.size).mono fun e w' h => ⟨by rw [HRES.out]; exact h.1, h.2.2.1, h.2.2.2⟩)
      have HBL := Lib.hid hI.bl
      have HK := Lib.hid hK
      have HNE := Lib.hid hne
      clear hI hK hbd hb0 HI0 hne
      gi_wp2_with (gi_at_call 62; refine (H62.out _).mono ?_; rintro e w4 ⟨rfl, hb, hok⟩)
      have hK4 := hok _ _ HK.out HNE.out (fun c f e => by cases e)
      refine ⟨by simp, .inl ⟨_, _, rfl, run_takeDeferred hK4, ?_⟩⟩
      refine ⟨_, results_tmp rfl _ _ _, rfl, ?_⟩
      exact (HBL.out.trans hb).grown (grownBy_putObj' _ D _) (by have := HBL.out.size; have := hb.size; omega) (fun k e => by cases e; have := HS3.out; simp at hD; omega)
  · have hpr : pre = [45] := by rw [HPRE.out, if_pos (by have := HNEG.out; simpa using this)]
    have HPR := Lib.hid hpr
    clear hpr
    gi_wp2_with (first | (gi_at_call 32; refine (H32.out _ _ (by go_grown)).mono ?_; rintro e w1 ⟨rfl, hb1⟩; have r1 : w1.heap[w.heap.size]? = some (.cells #[.bool true, .slice ao0 n0 cap0] 27 (0, 0)) := (hb1.block w.heap.size (by simp)).trans (heap_alloc_new _ _); have hb1' : Below w.heap.size w w1 := ((Below.refl _ w).alloc (Nat.le_refl _) _).trans (hb1.mono (by simp)); have hlt1 : w.heap.size < w1.heap.size := (Array.getElem?_eq_some_iff.1 r1).1; have r2 : (w1.alloc (.cells #[.pointer none, .slice none 0 0] 73)).heap[w.heap.size]? = some (.cells #[.bool true, .slice ao0 n0 cap0] 27 (0, 0)) := (Below.heap_alloc _ _ _ hlt1).trans r1; have c0 : (w1.alloc (.cells #[.pointer none, .slice none 0 0] 73)).cell? ⟨w.heap.size, 0, none⟩ = some (.bool true) := (cell_of_row _ _ _ _ _ _ r2).trans rfl; have c1 : (w1.alloc (.cells #[.pointer none, .slice none 0 0] 73)).cell? ⟨w.heap.size, 1, none⟩ = some (.slice ao0 n0 cap0) := (cell_of_row _ _ _ _ _ _ r2).trans rfl; have hfr := builder_fresh w w1 (Nat.le_of_lt hlt1); have HFR := Lib.hid hfr; have HB1 : Hid (Below w.heap.size w (w1.alloc (.cells #[.pointer none, .slice none 0 0] 73))) := Lib.hid (hb1'.alloc (Nat.le_of_lt hlt1) _); have HR2 := Lib.hid r2; have HL1 := Lib.hid hlt1; clear hb1 r1 hb1' hlt1 r2 hfr) | (gi_at_call 56; refine (H56.out _ w.heap.size _ _ _ HFR.out (by simp [chars]) HB1.out.size).mono ?_; rintro e w2 ⟨rfl, hbd, hb2, hk2⟩; have r3 := hk2 _ _ HR2.out (fun cs f e => by cases e) (by have := HL1.out; omega); have c3 : w2.cell? ⟨w.heap.size, 1, none⟩ = some (.slice ao0 n0 cap0) := (cell_of_row _ _ _ _ _ _ r3).trans rfl; have HBD : Hid (Lib.IsBuilder 73 5 w.heap.size w1.heap.size (chars [45]) w2) := Lib.hid (.inr hbd); have HB2 := Lib.hid (HB1.out.trans hb2); clear hbd hb2 hk2 r3) | (gi_at_call 57; refine (H57.out _ _ HB2.out).mono ?_; rintro e w3 ⟨ao, cap, rfl, hsl, hb3, hty⟩; have HSL := Lib.hid hsl; have HTY := Lib.hid hty; have HB3 := Lib.hid (HB2.out.trans (hb3.mono HB2.out.size)); have HBD3 := Lib.hid (isBuilder_below HBD.out hb3); clear hsl hb3 hty) | (gi_at_call 58; refine (backward_in Fence.wide _ w58 rfl _ _ _ _).mono ?_; rintro e w' ⟨rfl, rfl⟩))
    have hI0 : TxJ w w1.heap.size w3.heap.size (w3.heap.size + 1) ao cap L pre 0 ((w3.alloc (.cells #[.slice ao nL cap] 25)).alloc (.cells #[.slice ao nL cap] 25)) := by
      have e0 : pre ++ grpText (L.drop (L.length - 0)) = [45] := by rw [HPR.out, Nat.sub_zero, List.drop_length]; rfl
      have hbb : Below w3.heap.size w3 ((w3.alloc (.cells #[.slice ao nL cap] 25)).alloc (.cells #[.slice ao nL cap] 25)) := by go_grown
      have k2 := heap_alloc_new (w3.alloc (.cells #[.slice ao nL cap] 25)) (.cells #[.slice ao nL cap] 25)
      rw [World.size_alloc] at k2
      obtain ⟨q1, q2⟩ := HSL.out.row59 HTY.out (W' := ((w3.alloc (.cells #[.slice ao nL cap] 25)).alloc (.cells #[.slice ao nL cap] 25))) (fun q o ho _ => (hbb.block q (Array.getElem?_eq_some_iff.1 ho).1).trans ho)
      rw [HNL.out] at q1 q2 k2 hbb ⊢
      refine ⟨(Below.heap_alloc _ _ _ (by simp)).trans (heap_alloc_new _ _), k2, q1, q2, ?_, HB3.out.trans (hbb.mono HB3.out.size)⟩
      rw [e0]
      exact isBuilder_below HBD3.out hbb
    have HI0 := Lib.hid hI0
    have HS3 := Lib.hid HB3.out.size
    clear hI0
    refine rangeFunc_counts rfl (by omega) (gf := 90) (lb := #[.pointer (some ⟨w3.heap.size + 1, 0, none⟩)]) rfl trivial (enters_of Tryz.func90 (by kernel_rfl) rfl)
      (backward_counts Fence.wide 4 trivial rfl (by omega) (w3.heap.size + 1) ao cap L (by rw [← HNL.out]; omega) (TxJ w w1.heap.size w3.heap.size (w3.heap.size + 1) ao cap L pre) (fun k W h => by rw [cell_of_row _ _ _ _ _ _ h.c']; rfl) (fun k W h hk => ?hcell)) (fun _ => rfl)
      (txJ_own (by have := HS3.out; simp; omega)) HI0.out
      (fun k => { tmps := #[.agg #[.bool true, .slice ao0 n0 cap0], .pointer (some ⟨w.heap.size, 0, none⟩), .string ⟨#[]⟩, .pointer (some ⟨w1.heap.size, 0, none⟩), .pointer (some ⟨w3.heap.size, 0, none⟩), .int .i64 ((L.length - 1 - k : Nat) : Int), .int .u32 ((L.getD (L.length - 1 - k) 0 : Nat) : Int), undef, .agg #[.bool true, .slice ao0 n0 cap0], .bool true, .bool false, .pointer (some ⟨w.heap.size, 0, none⟩), .bool true, .nilIface, .pointer (some ⟨w.heap.size, 1, none⟩), .slice ao0 n0 cap0, .slice ao nL cap, .slice ao nL cap, .func (.func 90) #[] #[.pointer (some ⟨w3.heap.size + 1, 0, none⟩)], .int .i64 ((L.length - 1 - k : Nat) : Int), .int .u32 ((L.getD (L.length - 1 - k) 0 : Nat) : Int), undef, undef, undef, undef, undef, undef, undef, undef, undef, undef, undef, undef, undef, undef, undef, undef], defers := [] }) ?assign ?body ?done
    case hcell =>
      obtain ⟨b, off, e, _, _, hcl⟩ := h.sl.at (by rw [← HNL.out]; omega)
      exact ⟨b, off, e, hcl _ (by omega)⟩
    case assign =>
      intro y k W K hK
      obtain ⟨i, hi⟩ : ∃ i, i = L.length - 1 - k := ⟨_, rfl⟩
      obtain ⟨u, hu⟩ : ∃ u, u = L.getD (L.length - 1 - k) 0 := ⟨_, rfl⟩
      unfold backArgs
      rw [← hu, ← hi] at hK ⊢
      clear hi hu
      gi_wp2
      exact hK
    case body =>
      intro y k W hk hI
      obtain ⟨i, hi⟩ : ∃ i, i = L.length - 1 - k := ⟨_, rfl⟩
      obtain ⟨u, hu⟩ : ∃ u, u = L.getD (L.length - 1 - k) 0 := ⟨_, rfl⟩
      rw [← hu, ← hi]
      have hil : i < L.length := by omega
      have hub : u < 1000000000 := by
        rw [hu, ← hi, show L.getD i 0 = L[i] by simp [List.getD, hil]]
        exact HLB.out _ (List.getElem_mem hil)
      obtain ⟨D, hD⟩ : ∃ D : ByteArray, D = ⟨(Lib.decDigits u).toArray⟩ := ⟨_, rfl⟩
      obtain ⟨nd, hnd⟩ : ∃ nd, nd = (Lib.decDigits u).length := ⟨_, rfl⟩
      have hDs : D.size = nd := by rw [hD, hnd]; simp [ByteArray.size]
      have hnd9 : nd ≤ 9 := by rw [hnd]; exact dec_len9 hub
      obtain ⟨Z, hZ⟩ : ∃ Z : ByteArray, Z = ⟨(Lib.repeatL [48] (9 - nd)).toArray⟩ := ⟨_, rfl⟩
      have hZs : Z.size = 9 - nd := by rw [hZ]; simp [ByteArray.size, rep_len]
      have HF : Hid (∀ k W, Tab W → CallsIn Fence.wide k Tryz.prog 59 #[.int .u64 u, .int .i64 10] W fun e w' => e = .returned (.string D) ∧ Below W.heap.size W w') := fun k W ht => callsIn_wide.2 (by rw [hD]; exact fmt_any u (by omega) W ht)
      have HRP : Hid (∀ k W, CallsIn Fence.wide k Tryz.prog 61 #[.string ⟨#[48]⟩, .int .i64 (9 - (nd : Int))] W fun e w' => e = .returned (.string Z) ∧ Below W.heap.size W w') := fun k W => callsIn_wide.2 (by
        have := Tryz.strings_Repeat ⟨#[48]⟩ (9 - nd) W (by omega) (by show 1 * (9 - nd) ≤ _; omega)
        rw [show ((9 - nd : Nat) : Int) = 9 - (nd : Int) by omega] at this
        rw [hZ]; exact this)
      have H60 : Hid (∀ k bs s W, Lib.IsBuilder 73 5 w.heap.size w1.heap.size bs W → bs.length + s.size ≤ 140737488355328 → w.heap.size ≤ W.heap.size → CallsIn Fence.wide k Tryz.prog 60 #[.pointer (some ⟨w1.heap.size, 0, none⟩), .string s] W fun e w' => e = .returned (.tuple #[.int .i64 s.size, .nilIface]) ∧ Lib.BuilderAt 73 5 w.heap.size w1.heap.size (.pointer (some ⟨w1.heap.size, 0, none⟩)) (bs ++ Lib.strCells s) w' ∧ Below w.heap.size W w' ∧ KeptT w1.heap.size W w') := fun k bs s W h1 h2 h3 => callsIn_wide.2 (writeString_any w.heap.size w1.heap.size bs s W h1 h2 h3)
      have hc : W.cell? ⟨w3.heap.size, 0, none⟩ = some (.slice ao nL cap) := by rw [cell_of_row _ _ _ _ _ _ hI.c, ← HNL.out]; rfl
      have hln1 : (chars (pre ++ grpText (L.drop (L.length - k)))).length ≤ 9000 := by
        have h1 := grpText_len (L.drop (L.length - k)) (fun d hd => HLB.out d (List.mem_of_mem_drop hd))
        rw [List.length_drop] at h1
        have h2 := HNL.out
        simp only [chars, List.length_map, List.length_append]
        omega
      have htb := tab_below HTAB.out hI.bl
      obtain ⟨cs0, hb0⟩ := builder_ty hI.bd
      have HBW := Lib.hid hI.bl.size
      have HB0 := Lib.hid hb0
      have HTB := Lib.hid htb
      have HI := Lib.hid hI
      have HBD := Lib.hid hI.bd
      have HKT := Lib.hid (KeptT.refl w1.heap.size W)
      have HBL := Lib.hid (Below.refl w.heap.size W)
      have HU := Lib.hid hu
      have HII := Lib.hid hi
      have HD := Lib.hid hD
      have HZ := Lib.hid hZ
      have HND := Lib.hid hnd
      have hnl := HNL.out
      have HKL := Lib.hid hk
      by_cases hk0 : k = 0
      · have hik : i = nL - 1 := by omega
        have hi2 : ¬ ((i : Int) < (nL : Int) - 1) := by omega
        have HLN := Lib.hid hln1
        have HK0 := Lib.hid hk0
        clear hln1 htb hb0 hI hu hi hD hZ hnd hnl hk hk0 hik HI0
        gi_wp2_with (first | (gi_at_call 59; refine (CallsIn.inRound y (HF.out _ _ HTB.out)).mono ?_; rintro e w4 ⟨rfl, hb⟩; have hc4 : w4.cell? ⟨w3.heap.size, 0, none⟩ = some (.slice ao nL cap) := cell_later hb hc; have HBD := Lib.hid (isBuilder_below HBD.out hb); have HKT := Lib.hid (HKT.out.trans (KeptT.below hb)); have HBL := Lib.hid (HBL.out.trans (hb.mono (Nat.le_trans HBW.out HBL.out.size))); clear hb) | (gi_at_call 60; refine (CallsIn.inRound y (H60.out _ _ D _ HBD.out (by have := HLN.out; rw [hDs]; omega) (Nat.le_trans HBW.out HBL.out.size))).mono ?_; rintro e w7 ⟨rfl, hbd, hb, hk⟩; have HBD := Lib.hid (isB hbd); have HKT := Lib.hid (HKT.out.trans hk); have HBL := Lib.hid (HBL.out.trans hb); clear hb hbd hk))
        refine ⟨keeps_of_keptT HB0.out HKT.out HBL.out.size, txJ_step HI.out HKT.out HBL.out ?_⟩
        have h1 := HBD.out
        rw [HK0.out, Nat.sub_zero, List.drop_length, HD.out, chars_str, ← chars_append] at h1
        rw [HK0.out, Nat.zero_add, grpText_first (by rw [← HNL.out]; omega)]
        have h2 := HU.out
        rw [HK0.out, Nat.sub_zero] at h2
        rw [← h2]
        simpa [grpText] using h1
      · have hi2 : (i : Int) < (nL : Int) - 1 := by omega
        have HLN1 := Lib.hid hln1
        have HK0 := Lib.hid hk0
        clear hln1 htb hb0 hI hu hi hD hZ hnd hnl hk hk0 HI0
        gi_wp2_with (first | (gi_at_call 59; refine (CallsIn.inRound y (HF.out _ _ HTB.out)).mono ?_; rintro e w4 ⟨rfl, hb⟩; have hc4 : w4.cell? ⟨w3.heap.size, 0, none⟩ = some (.slice ao nL cap) := cell_later hb hc; have HBD := Lib.hid (isBuilder_below HBD.out hb); have HKT := Lib.hid (HKT.out.trans (KeptT.below hb)); have HBL := Lib.hid (HBL.out.trans (hb.mono (Nat.le_trans HBW.out HBL.out.size))); clear hb) | (gi_at_call 61; refine (CallsIn.inRound y (HRP.out _ _)).mono ?_; rintro e w5 ⟨rfl, hb⟩; have HBD := Lib.hid (isBuilder_below HBD.out hb); have HKT := Lib.hid (HKT.out.trans (KeptT.below hb)); have HBL := Lib.hid (HBL.out.trans (hb.mono (Nat.le_trans HBW.out HBL.out.size))); clear hb) | (gi_at_call 60; refine (CallsIn.inRound y (H60.out _ _ _ _ HBD.out (by first | (rw [hZs]; have := HLN1.out; omega) | (rw [List.length_append, hDs, show (Lib.strCells Z).length = Z.size from Lib.strCells_length Z, hZs]; have := HLN1.out; omega)) (Nat.le_trans HBW.out HBL.out.size))).mono ?_; rintro e w6 ⟨rfl, hbd, hb, hk⟩; have HBD := Lib.hid (isB hbd); have HKT := Lib.hid (HKT.out.trans hk); have HBL := Lib.hid (HBL.out.trans hb); clear hb hbd hk))
        refine ⟨keeps_of_keptT HB0.out HKT.out HBL.out.size, txJ_step HI.out HKT.out HBL.out ?_⟩
        have h1 := HBD.out
        rw [HD.out, HZ.out, chars_str, chars_str, ← chars_append, ← chars_append] at h1
        rw [grpText_drop HKL.out HK0.out, ← HU.out, ← HND.out, ← List.append_assoc, ← List.append_assoc]
        exact h1
    case done =>
      intro D W hD hI hK
      have hbd := hI.bd
      rw [Nat.sub_self, List.drop_zero] at hbd
      obtain ⟨cs0, hb0⟩ := builder_ty hI.bd
      have hne : some D ≠ some w1.heap.size := fun e => by
        cases e
        rw [hb0] at hK
        cases hK
      have H62 : Hid (∀ k, CallsIn Fence.wide k Tryz.prog 62 #[.pointer (some ⟨w1.heap.size, 0, none⟩)] W fun e w' => e = .returned (.string res) ∧ Below w.heap.size W w' ∧ Lib.OthersKept 5 (some w1.heap.size) W w') := fun k => callsIn_wide.2 ((Any.Builder_String_any_k Tryz.lays169 Tryz.Builder_Extra_169 w.heap.size w1.heap.size (pre ++ grpText L) W (Lib.IsBuilderF.of hbd) hI.bl.size).mono fun e w' h => ⟨by rw [HRES.out]; exact h.1, h.2.2.1, h.2.2.2⟩)
      have HBL := Lib.hid hI.bl
      have HK := Lib.hid hK
      have HNE := Lib.hid hne
      clear hI hK hbd hb0 HI0 hne
      gi_wp2_with (gi_at_call 62; refine (H62.out _).mono ?_; rintro e w4 ⟨rfl, hb, hok⟩)
      have hK4 := hok _ _ HK.out HNE.out (fun c f e => by cases e)
      refine ⟨by simp, .inl ⟨_, _, rfl, run_takeDeferred hK4, ?_⟩⟩
      refine ⟨_, results_tmp rfl _ _ _, rfl, ?_⟩
      exact (HBL.out.trans hb).grown (grownBy_putObj' _ D _) (by have := HBL.out.size; have := hb.size; omega) (fun k e => by cases e; have := HS3.out; simp at hD; omega)

end Go.Proofs.YtdgmjmckeeeljaaGreatDoor
