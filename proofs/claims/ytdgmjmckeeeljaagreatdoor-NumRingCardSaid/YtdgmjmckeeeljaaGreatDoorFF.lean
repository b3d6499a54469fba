/- Contracts of num's texts: parsed. -/
import Derived.Test.YtdgmjmckeeeljaaGreatDoorEE
import Derived.Test.YtdgmjmckeeeljaaGreatDoorS
namespace Go.Proofs.YtdgmjmckeeeljaaGreatDoor
open Go.RowKit

/-- What digits spell, on from acc. -/
def decV (acc : Nat) (l : List UInt8) : Nat := l.foldl (fun a b => a * 10 + (b.toNat - 48)) acc

theorem decV_acc (acc : Nat) (l : List UInt8) : decV acc l = acc * 10 ^ l.length + decV 0 l := by
  induction l generalizing acc with
  | nil => simp [decV]
  | cons b r ih =>
    have h1 : decV acc (b :: r) = decV (acc * 10 + (b.toNat - 48)) r := rfl
    have h2 : decV 0 (b :: r) = decV (0 * 10 + (b.toNat - 48)) r := rfl
    rw [h1, h2, ih, ih (0 * 10 + (b.toNat - 48)), List.length_cons, Nat.pow_succ]
    simp only [Nat.add_mul, Nat.zero_mul, Nat.zero_add, Nat.mul_assoc, Nat.mul_comm 10, Nat.add_assoc]

theorem decV_append (acc : Nat) (l r : List UInt8) : decV acc (l ++ r) = decV (decV acc l) r := List.foldl_append

theorem decV_lt (l : List UInt8) (h : l.all digB = true) : decV 0 l < 10 ^ l.length := by
  induction l with
  | nil => simp [decV]
  | cons b r ih =>
    simp only [List.all_cons, Bool.and_eq_true] at h
    have h1 : decV 0 (b :: r) = decV (0 * 10 + (b.toNat - 48)) r := rfl
    have h2 := h.1
    unfold digB at h2
    simp only [Bool.and_eq_true, decide_eq_true_eq] at h2
    rw [h1, decV_acc, List.length_cons, Nat.pow_succ]
    have := ih h.2
    have h3 : (0 * 10 + (b.toNat - 48)) * 10 ^ r.length ≤ 9 * 10 ^ r.length := Nat.mul_le_mul_right _ (by omega)
    omega

theorem parseM_dec (l : List UInt8) (acc : Nat) (h : l.all digB = true) (hl : (acc + 1) * 10 ^ l.length ≤ 1000000000) : Lib.parseUintM 4294967295 acc l = .ok (decV acc l) := by
  induction l generalizing acc with
  | nil => rfl
  | cons b r ih =>
    simp only [List.all_cons, Bool.and_eq_true] at h
    have h2 := h.1
    unfold digB at h2
    simp only [Bool.and_eq_true, decide_eq_true_eq] at h2
    rw [List.length_cons, Nat.pow_succ] at hl
    have hp : 1 ≤ 10 ^ r.length := Nat.pow_pos (by omega)
    have hx : (acc + 1) * 10 * 10 ^ r.length ≤ 1000000000 := by
      rw [Nat.mul_assoc, Nat.mul_comm 10]; exact hl
    have hy : (acc + 1) * 10 * 1 ≤ (acc + 1) * 10 * 10 ^ r.length := Nat.mul_le_mul_left _ hp
    unfold Lib.parseUintM
    rw [if_pos h2, if_neg (by omega), if_neg (by omega)]
    refine ih _ h.2 (Nat.le_trans (Nat.mul_le_mul_right _ ?_) hx)
    omega

theorem parseB_dec (l : List UInt8) (h0 : l ≠ []) (h : l.all digB = true) (hl : l.length ≤ 9) : Lib.parseUintB 32 l = .ok (decV 0 l) := by
  unfold Lib.parseUintB
  rw [if_neg h0]
  refine parseM_dec l 0 h ?_
  have := Nat.pow_le_pow_right (n := 10) (by omega) hl
  omega

theorem list_extract (t : ByteArray) (a b : Nat) : (t.extract a b).data.toList = (t.data.toList.drop a).take (b - a) := by
  rw [ByteArray.data_extract, Array.toList_extract, List.extract_eq_take_drop]

theorem ten_fit (x k : Nat) (h : x < 10 ^ k) : (digs x).length ≤ k :=
  digs_length_le.2 (Nat.lt_of_lt_of_le h (Nat.pow_le_pow_left (by omega) _))

/-- The loop of parsed: what is read, and what is left. -/
structure ParI (w : World) (full : List UInt8) (wr : World) (t : ByteArray) (v : Value) (d : Nat) : Prop where
  sum : d * 10 ^ t.size + decV 0 t.data.toList = decV 0 full
  all : t.data.toList.all digB = true
  len : t.size ≤ 2467
  whole : d = 0 ∨ t.size % 9 = 0
  sl : Sw w.heap.size wr v (digs d)
  below : Below w.heap.size w wr

theorem digs_group (d n : Nat) (h : (digs d).length ≤ n) : (digs (d * 1000000000)).length ≤ n + 1 := digs_length_le.2 (by
  rw [Nat.pow_succ]
  have h1 := digs_length_le.1 h
  have h2 : 0 < 4294967296 ^ n := Nat.pow_pos (by omega)
  calc d * 1000000000 ≤ 4294967296 ^ n * 1000000000 := Nat.mul_le_mul_right _ (Nat.le_of_lt h1)
    _ < 4294967296 ^ n * 4294967296 := Nat.mul_lt_mul_of_pos_left (by omega) h2)

/-- A round of parsed: what its first group spells. -/
theorem ParI.step {w wr W : World} {full : List UInt8} {t : ByteArray} {v v' : Value} {d g k : Nat} (h : ParI w full wr t v d) (hk : k = (t.size - 1) % 9 + 1) (h0 : 0 < t.size) (hg : g = decV 0 (t.data.toList.take k))
    (hs : Sw w.heap.size W v' (digs (d * 1000000000 + g))) (hb : Below w.heap.size w W) : ParI w full W (t.extract k t.size) v' (d * 1000000000 + g) := by
  have hlen : t.data.toList.length = t.size := by rw [Array.length_toList]; rfl
  have hkt : k ≤ t.size := by have := Nat.mod_le (t.size - 1) 9; omega
  have he : (t.extract k t.size).data.toList = t.data.toList.drop k := by
    rw [list_extract]
    exact List.take_of_length_le (by rw [List.length_drop]; omega)
  have hsz : (t.extract k t.size).size = t.size - k := by
    have : (t.extract k t.size).size = (t.extract k t.size).data.toList.length := by rw [Array.length_toList]; rfl
    rw [this, he, List.length_drop, hlen]
  refine ⟨?_, ?_, by rw [hsz]; have := h.len; omega, ?_, hs, hb⟩
  · rw [hsz, he, ← h.sum]
    have hsplit : decV 0 t.data.toList = g * 10 ^ (t.size - k) + decV 0 (t.data.toList.drop k) := by
      conv => lhs; rw [← List.take_append_drop k t.data.toList]
      rw [decV_append, decV_acc, ← hg, List.length_drop, hlen]
    rw [hsplit, Nat.add_mul, Nat.add_assoc]
    congr 1
    rcases h.whole with h9 | h9
    · simp [h9]
    · have : k = 9 := by omega
      subst this
      have e : t.size = 9 + (t.size - 9) := by omega
      conv => rhs; rw [e, Nat.pow_add, ← Nat.mul_assoc]
  · rw [he]
    have := h.all
    rw [List.all_eq_true] at this ⊢
    exact fun x hx => this x (List.mem_of_mem_drop hx)
  · right; rw [hsz]; omega

theorem ParI.group {w wr : World} {full : List UInt8} {t : ByteArray} {v : Value} {d k : Nat} (h : ParI w full wr t v d) (hk : k = (t.size - 1) % 9 + 1) (h0 : 0 < t.size) :
    decV 0 (t.data.toList.take k) < 1000000000 ∧ Lib.parseUintB 32 (t.extract 0 k).data.toList = .ok (decV 0 (t.data.toList.take k)) := by
  have hlen : t.data.toList.length = t.size := by rw [Array.length_toList]; rfl
  have hall : (t.data.toList.take k).all digB = true := by
    have := h.all
    rw [List.all_eq_true] at this ⊢
    exact fun x hx => this x (List.mem_of_mem_take hx)
  have hl : (t.data.toList.take k).length ≤ 9 := by rw [List.length_take]; omega
  constructor
  · refine Nat.lt_of_lt_of_le (decV_lt _ hall) ?_
    exact Nat.pow_le_pow_right (n := 10) (by omega) hl
  · rw [list_extract, List.drop_zero, Nat.sub_zero]
    refine parseB_dec _ ?_ hall hl
    intro e
    have : (t.data.toList.take k).length = 0 := by rw [e]; rfl
    rw [List.length_take] at this
    omega

set_option maxRecDepth 10000 in
set_option maxHeartbeats 1000000 in
theorem parsed_any (s : ByteArray) (w : World) (h1 : s.size ≤ 2467) (h2 : s.data.toList.all digB = true) :
    Calls Tryz.prog 65 #[.string s] w (NewDigs w (decV 0 s.data.toList)) := by
  have h0 : ParI w s.data.toList w s (.slice none 0 0) 0 := ⟨by rw [Nat.zero_mul, Nat.zero_add], h2, h1, .inl rfl, by rw [digs_zero]; exact Sw.nil _ _ _ _, Below.refl _ _⟩
  have H0 := Lib.hid h0
  obtain ⟨D, hD⟩ : ∃ D, D = decV 0 s.data.toList := ⟨_, rfl⟩
  obtain ⟨full, hf⟩ : ∃ full, full = s.data.toList := ⟨_, rfl⟩
  rw [← hf] at H0 hD
  rw [← hf, ← hD]
  have HD := Lib.hid hD
  have hfit : (digs D).length ≤ 2467 := by
    have := ten_fit _ _ (decV_lt _ h2)
    rw [Array.length_toList] at this
    rw [hD, hf]
    exact Nat.le_trans this h1
  have HF := Lib.hid hfit
  clear h0 h2 hf hD hfit
  go_enter Tryz.func65, Tryz.ntmps65
  go_wp2
  go_loopw [0, 3] (fun sv dv wr => ∃ t d, sv = .string t ∧ t.size ≤ 2467 ∧ Hid (ParI w full wr t dv d)) (fun sv _ _ => match sv with | .string t => t.size | _ => 0)
  case atStart => exact ⟨s, 0, rfl, h1, H0⟩
  case round =>
    obtain ⟨t, d, rfl, ht, HI⟩ := hrel
    by_cases hz : t.size = 0
    · have hd : d = D := by
        have := HI.out.sum
        have he : t.data.toList = [] := List.eq_nil_of_length_eq_zero (by rw [Array.length_toList]; exact hz)
        rw [he, hz, Nat.pow_zero, Nat.mul_one, ← HD.out] at this
        exact this
      subst hd
      go_wp2
      go_ret
      exact ⟨_, rfl, HI.out.sl, HI.out.below⟩
    · have hp : 0 < t.size := by omega
      obtain ⟨g, hg⟩ : ∃ g, g = decV 0 (t.data.toList.take ((t.size - 1) % 9 + 1)) := ⟨_, rfl⟩
      obtain ⟨hg1, hg2⟩ := HI.out.group rfl hp
      have hex : (t.extract 0 ((t.size - 1) % 9 + 1)).size ≤ 9223372036854775806 := by
        rw [ByteArray.size_extract]; omega
      rw [← hg] at hg1 hg2
      have HPU : Hid (∀ W, Calls Tryz.prog 97 #[.string (t.extract 0 ((t.size - 1) % 9 + 1)), .int .i64 10, .int .i64 32] W fun e w' => e = .returned (.tuple #[.int .u64 g, .nilIface]) ∧ Below W.heap.size W w') := fun W =>
        (Tryz.strconv_ParseUint_10_at32_ok _ hex g hg2 W).mono fun e w' h => ⟨h.1, by
          rcases h.2 with rfl | rfl
          · exact Below.refl _ _
          · exact Lib.bytesWorld_below _ _ _⟩
      have hle : d ≤ D := by
        have h3 := HI.out.sum
        rw [← HD.out] at h3
        have : d * 1 ≤ d * 10 ^ t.size := Nat.mul_le_mul_left _ (Nat.pow_pos (by omega))
        omega
      have hl1 : (digs d).length ≤ 2467 := Nat.le_trans (digs_mono hle) HF.out
      have hl2 : (digs (d * 1000000000)).length ≤ 2468 := digs_group d 2467 hl1
      have HTM : Hid (∀ W v1 v2, Sl W v1 (digs d) → Sl W v2 [1000000000] → Calls Tryz.prog 69 #[v1, v2] W (NewDigs W (d * 1000000000))) := fun W v1 v2 h3 h4 => by
        have := times_any h3 h4 (by omega) (by simp)
        rw [val_digs, show val [1000000000] = 1000000000 from rfl] at this
        exact this
      have HPL : Hid (∀ W v1 v2, Sl W v1 (digs (d * 1000000000)) → Sl W v2 [g] → Calls Tryz.prog 45 #[v1, v2] W (NewDigs W (d * 1000000000 + g))) := fun W v1 v2 h3 h4 => by
        have := plus_any h3 h4 (by omega) (by simp)
        rw [val_digs, show val [g] = g by simp [val]] at this
        exact this
      have HST : Hid (∀ W v', Sw w.heap.size W v' (digs (d * 1000000000 + g)) → Below w.heap.size w W → ParI w full W (t.extract ((t.size - 1) % 9 + 1) t.size) v' (d * 1000000000 + g)) := fun W v' h3 h4 => HI.out.step rfl hp hg h3 h4
      have HIs := Lib.hid HI.out.sl.sl
      have HIb := Lib.hid HI.out.below
      have hg4 : g < 4294967296 := by omega
      clear hg hg2 hex hle hl1 hl2 hg1
      go_wp2_with (first | (go_at_call 97; refine (HPU.out _).mono ?_; rintro e W1 ⟨rfl, hb1⟩) | (go_at_call 69; refine (HTM.out _ _ _ ((HIs.out.below hb1).below (by go_grown)) (sl_one _ 1000000000 (by omega)).sl).mono ?_; rintro e W2 ⟨v2, rfl, hs2, hb2⟩) | (go_at_call 45; refine (HPL.out _ _ _ (hs2.sl.below (by go_grown)) (sl_one _ g hg4).sl).mono ?_; rintro e W3 ⟨v3, rfl, hs3, hb3⟩))
      have q0 := HIb.out.size
      have q1 := hb1.size
      have q2 := hb2.size
      have q3 := hb3.size
      simp at q2 q3
      have r1 : Below w.heap.size w W1 := HIb.out.trans (hb1.mono q0)
      have r2 : Below w.heap.size w W2 := (r1.trans (by go_grown)).trans (hb2.mono (by simp; omega))
      have r3 : Below w.heap.size w W3 := (r2.trans (by go_grown)).trans (hb3.mono (by simp; omega))
      have HN := Lib.hid (HST.out W3 v3 (hs3.mono (by simp; omega)) r3)
      go_roundw
      case rel => exact ⟨_, _, rfl, by rw [ByteArray.size_extract]; omega, HN⟩
      case measure => simp only [ByteArray.size_extract]; omega

end Go.Proofs.YtdgmjmckeeeljaaGreatDoor
