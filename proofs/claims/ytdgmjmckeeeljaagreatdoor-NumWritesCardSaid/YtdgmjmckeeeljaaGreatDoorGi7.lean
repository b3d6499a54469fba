/- What NumDigits says of texts and of binary digits, as facts about numbers alone. No condition beyond those that each states. Contracts of the reference: bit. Condition: the place is within the digits. Contracts of the reference: without. Condition: at most 1000 digits. Contracts of the reference: word. Condition: at most 2 digits. Contracts at numbers that are not right: Add, Mul of num and of the reference. Contracts at numbers that are not right: Cmp of num and of the reference, Sub of the reference. Contracts at numbers that are not right: Sub of num. Contracts at numbers that are not right: Sub of the reference where the first is not right. Contracts: Int of the reference; Int of both where the number is not right. Numbers that are right, or not: what both sides answer. The law's 'adds', walked: both sides answer alike, whatever the two numbers are. The law's 'cut' and 'raised', walked. The law's 'cut' at 20 digits, walked. The law's 'raised', walked. The reference's Text: division of digits by ten; a copy of digits. -/
import Derived.Lib.SlBytesRow
import Derived.Test.YtdgmjmckeeeljaaGreatDoorGi5
import Derived.Test.YtdgmjmckeeeljaaGreatDoorGi6
import Derived.Deep.CutRange
import Derived.Deep.RegionHeld3
import Derived.Laws.MakeOwn
import Derived.Laws.OwnMore
import Derived.Laws.AppendOwnNone
import Derived.Test.YtdgmjmckeeeljaaGreatDoorGi4
namespace Go.Proofs.YtdgmjmckeeeljaaGreatDoor
open Go.RowKit Go.Lib

theorem dec_snoc {a d : Nat} (ha : a ≠ 0) (hd : d < 10) : decDigits (a * 10 + d) = decDigits a ++ [UInt8.ofNat (48 + d)] := by
  rw [dec_ge (by omega), show (a * 10 + d) / 10 = a by omega, show (a * 10 + d) % 10 = d by omega]

theorem dig_nat {d : Nat} (hd : d < 10) : (UInt8.ofNat (48 + d)).toNat = 48 + d := by
  rw [UInt8.toNat_ofNat']
  omega

theorem dec_ne (u : Nat) : decDigits u ≠ [] := by
  by_cases h : u < 10
  · rw [decDigits_one h]; simp
  · rw [dec_ge h]; simp

theorem dig_digB {d : Nat} (hd : d < 10) : digB (UInt8.ofNat (48 + d)) = true := by
  unfold digB
  rw [dig_nat hd]
  simp
  omega

theorem dec_digB (u : Nat) : (decDigits u).all digB = true := by
  induction u using Nat.strongRecOn with
  | _ u ih =>
    by_cases h : u < 10
    · rw [decDigits_one h]
      simp only [List.all_cons, List.all_nil, Bool.and_true]
      exact dig_digB h
    · rw [dec_ge h, List.all_append, ih (u / 10) (by omega)]
      simp only [List.all_cons, List.all_nil, Bool.and_true, Bool.true_and]
      exact dig_digB (by omega)

theorem dec_val (u : Nat) : decV 0 (decDigits u) = u := by
  induction u using Nat.strongRecOn with
  | _ u ih =>
    by_cases h : u < 10
    · rw [decDigits_one h]
      show 0 * 10 + ((UInt8.ofNat (48 + u)).toNat - 48) = u
      rw [dig_nat h]
      omega
    · rw [dec_ge h, decV_append, ih (u / 10) (by omega)]
      show u / 10 * 10 + ((UInt8.ofNat (48 + u % 10)).toNat - 48) = u
      rw [dig_nat (by omega)]
      omega

theorem dec_head (u : Nat) (h0 : u ≠ 0) : ((decDigits u).getD 0 0).toNat ≠ 48 := by
  induction u using Nat.strongRecOn with
  | _ u ih =>
    by_cases h : u < 10
    · rw [decDigits_one h]
      show (UInt8.ofNat (48 + u)).toNat ≠ 48
      rw [dig_nat h]
      omega
    · have hl : 0 < (decDigits (u / 10)).length := List.length_pos_iff.2 (dec_ne _)
      rw [dec_ge h, List.getD_eq_getElem?_getD, List.getElem?_append_left hl, ← List.getD_eq_getElem?_getD]
      exact ih (u / 10) (by omega) (by omega)

theorem dec_len : ∀ (k u : Nat), u < 10 ^ (k + 1) → (decDigits u).length ≤ k + 1
  | 0, u, h => by rw [decDigits_one (by simpa using h)]; simp
  | k + 1, u, h => by
    by_cases h2 : u < 10
    · rw [decDigits_one h2]; simp
    · rw [dec_ge h2, List.length_append, List.length_singleton]
      have := dec_len k (u / 10) (by rw [Nat.div_lt_iff_lt_mul (by omega)]; rwa [Nat.pow_succ] at h)
      omega

theorem dec_one {u : Nat} (h : (decDigits u).length = 1) : u < 10 := by
  by_cases h2 : u < 10
  · exact h2
  · rw [dec_ge h2, List.length_append, List.length_singleton] at h
    have := List.length_pos_iff.2 (dec_ne (u / 10))
    omega

theorem dec_minus (u : Nat) : (decDigits u).getD 0 0 ≠ 45 := by
  have h := dec_digB u
  match hm : decDigits u with
  | [] => exact absurd hm (dec_ne u)
  | b :: r =>
    rw [hm] at h
    simp only [List.all_cons, Bool.and_eq_true] at h
    have h5 := h.1
    unfold digB at h5
    simp only [Bool.and_eq_true, decide_eq_true_eq] at h5
    show b ≠ 45
    intro e
    subst e
    exact absurd h5.1 (by decide)

set_option exponentiation.threshold 3000 in
theorem decB_dec (u : Nat) (h : u < 10 ^ 2467) : decB ⟨(decDigits u).toArray⟩ = true := by
  have hl := dec_len 2466 u h
  have hp := List.length_pos_iff.2 (dec_ne u)
  have hs : (⟨(decDigits u).toArray⟩ : ByteArray).size = (decDigits u).length := rfl
  unfold decB
  rw [hs]
  simp only [Bool.and_eq_true, Bool.or_eq_true, decide_eq_true_eq]
  refine ⟨⟨⟨by omega, by omega⟩, ?_⟩, dec_digB u⟩
  by_cases h0 : u = 0
  · right; rw [h0, decDigits_one (by omega)]; rfl
  · left; exact dec_head u h0

theorem pre_minus (l : List UInt8) : hasPrefix (45 :: l) [45] = true ∧ trimPrefix (45 :: l) [45] = l := by
  have h : hasPrefix (45 :: l) [45] = true := by
    unfold hasPrefix
    rw [List.isPrefixOf, beq_self_eq_true]
    rfl
  refine ⟨h, ?_⟩
  unfold trimPrefix
  rw [if_pos h]
  rfl

theorem pre_none (l : List UInt8) (h0 : l ≠ []) (h : l.getD 0 0 ≠ 45) : hasPrefix l [45] = false ∧ trimPrefix l [45] = l := by
  have e : hasPrefix l [45] = false := by
    match l, h0, h with
    | b :: r, _, h =>
      have h : b ≠ 45 := h
      unfold hasPrefix
      rw [List.isPrefixOf, beq_eq_false_iff_ne.2 (Ne.symm h)]
      rfl
  refine ⟨e, ?_⟩
  unfold trimPrefix
  rw [e]
  rfl

set_option exponentiation.threshold 3000 in
theorem parse_txt (a : Int) (h : a.natAbs < 10 ^ 2467) : parseZ ⟨(txt a).toArray⟩ = some a := by
  have hd := decB_dec a.natAbs h
  by_cases ha : a < 0
  · have e : txt a = 45 :: decDigits a.natAbs := by unfold txt; rw [if_pos ha]; rfl
    have h1 : cutT ⟨(45 :: decDigits a.natAbs).toArray⟩ = ⟨(decDigits a.natAbs).toArray⟩ := by
      unfold cutT
      rw [show (⟨(45 :: decDigits a.natAbs).toArray⟩ : ByteArray).data.toList = 45 :: decDigits a.natAbs from rfl, (pre_minus _).2]
    have h2 : cutN ⟨(45 :: decDigits a.natAbs).toArray⟩ = true := (pre_minus _).1
    have h3 : isZ ⟨(decDigits a.natAbs).toArray⟩ = false := by
      unfold isZ
      rw [beq_eq_false_iff_ne]
      intro e
      have e : decDigits a.natAbs = [48] := e
      have := dec_head a.natAbs (by omega)
      rw [e] at this
      exact this rfl
    unfold parseZ
    rw [e, h1, h2, h3, hd]
    simp only [true_and, Bool.false_eq_true, and_false, not_false_eq_true, if_true]
    rw [dec_val]
    congr 1
    omega
  · have e : txt a = decDigits a.natAbs := by unfold txt; rw [if_neg ha]; rfl
    have hn := pre_none _ (dec_ne a.natAbs) (dec_minus a.natAbs)
    have h1 : cutT ⟨(decDigits a.natAbs).toArray⟩ = ⟨(decDigits a.natAbs).toArray⟩ := by
      unfold cutT
      rw [show (⟨(decDigits a.natAbs).toArray⟩ : ByteArray).data.toList = decDigits a.natAbs from rfl, hn.2]
    have h2 : cutN ⟨(decDigits a.natAbs).toArray⟩ = false := hn.1
    unfold parseZ
    rw [e, h1, h2, hd]
    simp only [Bool.false_eq_true, false_and, not_false_eq_true, and_self, if_true, if_false]
    rw [dec_val]
    congr 1
    omega

theorem pow_bits (k : Nat) : 4294967296 ^ k = 2 ^ (32 * k) := by rw [Nat.pow_mul]

/-- The number of binary digits of a number other than 0. -/
theorem bits_bounds {n : Nat} (h0 : n ≠ 0) (hl : (digs n).length ≤ 256) (neg : Bool) (L : Nat) (hL : bitsB neg (digs n) = L) : 1 ≤ L ∧ 2 ^ (L - 1) ≤ n ∧ n < 2 ^ L := by
  have hne : digs n ≠ [] := by rw [digs_pos h0]; simp
  obtain ⟨m, hm⟩ : ∃ m, (digs n).length = m + 1 := ⟨(digs n).length - 1, by have := List.length_pos_iff.2 hne; omega⟩
  have hlast := digs_last n
  rw [List.getLast?_eq_getElem?, hm, Nat.add_sub_cancel] at hlast
  obtain ⟨d, hd⟩ : ∃ d, d = (digs n).getD m 0 := ⟨_, rfl⟩
  have hd0 : d ≠ 0 := by
    intro e
    apply hlast
    rw [List.getElem?_eq_getElem (by omega)]
    rw [List.getD_eq_getElem?_getD, List.getElem?_eq_getElem (by omega)] at hd
    rw [← e, hd]
    rfl
  have hr : rightB neg (digs n) = true := by
    unfold rightB
    rw [if_neg hne, hm, Nat.add_sub_cancel, ← hd]
    simp only [Bool.and_eq_true, decide_eq_true_eq]
    exact ⟨by omega, hd0⟩
  unfold bitsB at hL
  rw [if_neg hne, if_pos hr, hm, Nat.add_sub_cancel, ← hd] at hL
  have hdl : d < 4294967296 := by rw [hd, digs_getD]; exact Nat.mod_lt _ (by omega)
  obtain ⟨b1, b2, b3⟩ := bitLenAux_bounds 64 d (by omega) hd0
  have hL : 32 * m + bitLenAux 64 d = L := hL
  obtain ⟨c, hc⟩ : ∃ c, c = bitLenAux 64 d := ⟨_, rfl⟩
  rw [← hc] at b1 b2 b3 hL
  have hn : n = n % 4294967296 ^ m + 4294967296 ^ m * d := by
    have h1 : n / 4294967296 ^ m = d := by
      rw [hd, digs_getD]
      rw [Nat.mod_eq_of_lt]
      rw [Nat.div_lt_iff_lt_mul (Nat.pow_pos (by omega)), Nat.mul_comm, ← Nat.pow_succ]
      exact digs_length_le.1 (by omega)
    have := Nat.mod_add_div n (4294967296 ^ m)
    rw [h1] at this
    exact this.symm
  have hm2 : n % 4294967296 ^ m < 4294967296 ^ m := Nat.mod_lt _ (Nat.pow_pos (by omega))
  rw [pow_bits] at hn hm2
  obtain ⟨P, hP⟩ : ∃ P, P = 2 ^ (32 * m) := ⟨_, rfl⟩
  obtain ⟨R, hR⟩ : ∃ R, R = n % P := ⟨_, rfl⟩
  rw [← hP, ← hR] at hn hm2
  refine ⟨by omega, ?_, ?_⟩
  · rw [← hL, show 32 * m + c - 1 = 32 * m + (c - 1) by omega, Nat.pow_add, ← hP]
    have := Nat.mul_le_mul_left P b2
    omega
  · rw [← hL, Nat.pow_add, ← hP]
    have h1 : P * (d + 1) ≤ P * 2 ^ c := Nat.mul_le_mul_left P b3
    rw [Nat.mul_succ] at h1
    omega

theorem bits_unique {n i j : Nat} (h1 : 2 ^ (i - 1) ≤ n) (h2 : n < 2 ^ i) (h3 : 2 ^ (j - 1) ≤ n) (h4 : n < 2 ^ j) (hi : 1 ≤ i) (hj : 1 ≤ j) : i = j := by
  rcases Nat.lt_trichotomy i j with h | h | h
  · have := Nat.pow_le_pow_right (n := 2) (by omega) (show i ≤ j - 1 by omega)
    omega
  · exact h
  · have := Nat.pow_le_pow_right (n := 2) (by omega) (show j ≤ i - 1 by omega)
    omega

/-- Bits of a product. -/
theorem bits_mul {n m i j k : Nat} (hi : 1 ≤ i ∧ 2 ^ (i - 1) ≤ n ∧ n < 2 ^ i) (hj : 1 ≤ j ∧ 2 ^ (j - 1) ≤ m ∧ m < 2 ^ j) (hk : 1 ≤ k ∧ 2 ^ (k - 1) ≤ n * m ∧ n * m < 2 ^ k) : k = i + j ∨ k = i + j - 1 := by
  have h1 : 2 ^ (i + j - 2) ≤ n * m := by
    have := Nat.mul_le_mul hi.2.1 hj.2.1
    rwa [← Nat.pow_add, show i - 1 + (j - 1) = i + j - 2 by omega] at this
  have h2 : n * m < 2 ^ (i + j) := by
    rw [Nat.pow_add]
    exact Nat.mul_lt_mul'' hi.2.2 hj.2.2
  rcases Nat.lt_trichotomy k (i + j - 1) with h | h | h
  · have := Nat.pow_le_pow_right (n := 2) (by omega) (show k ≤ i + j - 2 by omega)
    omega
  · exact .inr h
  · rcases Nat.lt_or_ge (i + j) k with h3 | h3
    · have := Nat.pow_le_pow_right (n := 2) (by omega) (show i + j ≤ k - 1 by omega)
      omega
    · left; omega

theorem dec_minus_txt (U : Nat) : txt (U : Int) = decDigits U := by
  unfold txt
  rw [if_neg (by omega)]
  rfl
theorem txt_next {U D : Nat} (h : U ≠ 0) (hD : D < 10) : txt ((U : Int) * 10 + (D : Int)) = txt (U : Int) ++ [UInt8.ofNat (48 + D)] := by
  rw [show (U : Int) * 10 + (D : Int) = ((U * 10 + D : Nat) : Int) by omega, dec_minus_txt, dec_minus_txt, dec_snoc h hD]
theorem txt_dig {D : Nat} (hD : D < 10) : txt (D : Int) = [UInt8.ofNat (48 + D)] := by
  rw [dec_minus_txt, decDigits_one hD]
theorem txt_zero : txt 0 = [48] := by
  rw [show (0 : Int) = ((0 : Nat) : Int) from rfl, dec_minus_txt, decDigits_one (by omega)]
  rfl
theorem txt_neg {A : Int} (h : A < 0) : txt A = 45 :: txt (A.natAbs : Int) := by
  rw [dec_minus_txt]
  unfold txt
  rw [if_pos h]
  rfl
set_option exponentiation.threshold 3000 in
theorem six_dec {n : Nat} (h : n < 4294967296 ^ 6) : n < 10 ^ 2467 := by
  have h1 : 4294967296 ^ 6 ≤ (10 ^ 10) ^ 6 := Nat.pow_le_pow_left (by decide) 6
  rw [← Nat.pow_mul] at h1
  have h2 : 10 ^ (10 * 6) ≤ 10 ^ 2467 := Nat.pow_le_pow_right (by decide) (by decide)
  exact Nat.lt_of_lt_of_le h (Nat.le_trans h1 h2)
theorem parse_back {A : Int} (h : A.natAbs < 4294967296 ^ 6) : parseZ ⟨(txt A).toArray⟩ = some A := parse_txt A (six_dec h)

theorem conv_one {W : World} {g D : Nat} {TD : ByteArray} (hD : D < 10) (hT : (⟨#[UInt8.ofNat (48 + D)]⟩ : ByteArray) = TD) (hg : W.heap[g]? = some (.cells #[.int .u8 (48 + (D : Int))] 5 (0, 0))) : (convert 56 9 (.slice (some ⟨g, 0, none⟩) 1 1)).run Tryz.prog W = .ok (.string TD) W := by
  subst hT
  have h : Lib.Bytes W g 0 ⟨#[UInt8.ofNat (48 + D)]⟩ := fun i hi => by
    have hi : i < 1 := hi
    obtain rfl : i = 0 := by omega
    rw [cell_of_row _ _ _ _ _ _ hg]
    show some (Value.int .u8 (48 + (D : Int))) = some (Value.int .u8 (((UInt8.ofNat (48 + D)).toNat : Nat) : Int))
    rw [dig_nat hD]
    rfl
  exact Lib.run_convert_whole (P := Tryz.prog) W 56 5 9 Tryz.underlying56 Tryz.underlying5 Tryz.underlying9 g 0 ⟨#[UInt8.ofNat (48 + D)]⟩ h 1
set_option exponentiation.threshold 3000 in
theorem txt_size {U : Nat} (h : U < 4294967296 ^ 6) : (⟨(txt (U : Int)).toArray⟩ : ByteArray).size < 10000 := by
  have := dec_len 2466 U (six_dec h)
  show (txt (U : Int)).toArray.size < 10000
  rw [dec_minus_txt, List.size_toArray]
  omega
theorem str_room {A B : ByteArray} (h1 : A.size < 10000) (h2 : B.size < 10000) : ¬ 9223372036854775807 < A.size + B.size := by omega

theorem nu_len {W : World} {neg : Bool} {ao : Option Addr} {n cap : Nat} {z : Int} (h : Nu W (.agg #[.bool neg, .slice ao n cap]) z) : n = (digs z.natAbs).length := by
  obtain ⟨s, e, hs, hl⟩ := h
  injection e with e
  simp only [Array.mk.injEq, List.cons.injEq, and_true] at e
  obtain ⟨_, rfl⟩ := e
  exact hs.size
theorem nu_sign {W : World} {neg : Bool} {s : Value} {z : Int} (h : Nu W (.agg #[.bool neg, s]) z) : neg = decide (z < 0) := by
  obtain ⟨s', e, hs, hl⟩ := h
  injection e with e
  simp only [Array.mk.injEq, List.cons.injEq, and_true] at e
  obtain ⟨e1, _⟩ := e
  cases e1
  rfl
theorem zero_digit {U D : Nat} {TA TD TB : ByteArray} {TN NX : Int} (hD : D < 10) (hU : U = 0) (h1 : (⟨(txt (U : Int)).toArray⟩ : ByteArray) = TA) (h2 : (⟨#[UInt8.ofNat (48 + D)]⟩ : ByteArray) = TD) (h3 : (⟨(txt NX).toArray⟩ : ByteArray) = TB) (h4 : NX = TN + (D : Int)) (h5 : TN = (U : Int) * 10) :
    (TA ++ TD).size = 2 ∧ (TA ++ TD).extract (min (1 : Int) 2).toNat 2 = TB := by
  subst hU
  rw [show ((0 : Nat) : Int) = 0 from rfl, txt_zero] at h1
  rw [h5, show ((0 : Nat) : Int) * 10 = 0 from rfl, Int.zero_add] at h4
  rw [h4, txt_dig hD] at h3
  subst h1 h2 h3
  exact ⟨rfl, rfl⟩
theorem some_digit {U D : Nat} {TA TD TB : ByteArray} {TN NX : Int} (hD : D < 10) (hU : U ≠ 0) (h1 : (⟨(txt (U : Int)).toArray⟩ : ByteArray) = TA) (h2 : (⟨#[UInt8.ofNat (48 + D)]⟩ : ByteArray) = TD) (h3 : (⟨(txt NX).toArray⟩ : ByteArray) = TB) (h4 : NX = TN + (D : Int)) (h5 : TN = (U : Int) * 10) :
    TA ++ TD = TB := by
  rw [h4, h5, txt_next hU hD] at h3
  subst h1 h2 h3
  apply ByteArray.ext
  simp

theorem parse_txt_yes (W : World) {A : Int} {TX : ByteArray} (h : A.natAbs < 4294967296 ^ 6) (e : (⟨(txt A).toArray⟩ : ByteArray) = TX) : Calls Tryz.prog 24 #[.string TX] W (YesN W A) := by
  subst e
  refine (parse_any _ W).mono fun e w' hp => ?_
  rw [parse_back h] at hp
  exact NumRes.yes hp (decide_eq_true (Nat.le_trans (digs_length_le.2 h) (by omega)))
theorem neg_text {A : Int} {U : Nat} {TA TX : ByteArray} (h : A < 0) (hU : U = A.natAbs) (h1 : (⟨(txt (U : Int)).toArray⟩ : ByteArray) = TA) (h2 : (⟨(txt A).toArray⟩ : ByteArray) = TX) : (⟨#[45]⟩ : ByteArray) ++ TA = TX := by
  rw [txt_neg h, ← hU] at h2
  subst h1 h2
  apply ByteArray.ext
  simp
theorem b_drew (w : World) : Below w.heap.size w w.drew := ⟨rfl, rfl, rfl, Nat.le_refl _, fun _ _ => rfl⟩

theorem bits_facts {A : Int} {K : Nat} (h : A.natAbs < 4294967296 ^ 6) (h0 : ¬ A = 0) (hK : bitsB (decide (A < 0)) (digs A.natAbs) = K) : 1 ≤ K ∧ 2 ^ (K - 1) ≤ A.natAbs ∧ A.natAbs < 2 ^ K :=
  bits_bounds (by omega) (Nat.le_trans (digs_length_le.2 h) (by omega)) _ _ hK
theorem bits_least {U K : Nat} (b2 : 2 ^ (K - 1) ≤ U) (h : U < 4294967296 ^ 6) (b1 : 1 ≤ K) : K ≤ 192 := by
  have h1 : 2 ^ (K - 1) < 2 ^ 192 := by
    have e : (4294967296 : Nat) ^ 6 = 2 ^ 192 := by decide
    rw [e] at h
    exact Nat.lt_of_le_of_lt b2 h
  have := (Nat.pow_lt_pow_iff_right (show 1 < 2 by omega)).1 h1
  omega
theorem bits_prod {A B M : Int} {KA KB : Nat} (hA : A.natAbs < 4294967296 ^ 6) (hB : B.natAbs < 4294967296 ^ 6) (a0 : ¬ A = 0) (b0 : ¬ B = 0) (hM : M = A * B) (hKA : KA = bitsB (decide (A < 0)) (digs A.natAbs)) (hKB : KB = bitsB (decide (B < 0)) (digs B.natAbs)) :
    bitsB (decide (M < 0)) (digs M.natAbs) = KA + KB ∨ bitsB (decide (M < 0)) (digs M.natAbs) = KA + KB - 1 := by
  have ha := bits_facts hA a0 hKA.symm
  have hb := bits_facts hB b0 hKB.symm
  have e : M.natAbs = A.natAbs * B.natAbs := by rw [hM, Int.natAbs_mul]
  have hm0 : M.natAbs ≠ 0 := by rw [e]; exact Nat.mul_ne_zero (by omega) (by omega)
  have hml : M.natAbs < 4294967296 ^ 12 := by
    rw [e, show (4294967296 : Nat) ^ 12 = 4294967296 ^ 6 * 4294967296 ^ 6 from by rw [← Nat.pow_add]]
    exact Nat.mul_lt_mul'' hA hB
  have hm := bits_bounds hm0 (Nat.le_trans (digs_length_le.2 hml) (by omega)) (decide (M < 0)) _ rfl
  rw [e] at hm ⊢
  exact bits_mul ha hb hm
theorem prod_len {A B M : Int} {l : Nat} (hl : l = (digs M.natAbs).length) (hM : M = A * B) (a0 : ¬ A = 0) (b0 : ¬ B = 0) : l ≠ 0 := by
  intro e
  rw [hl] at e
  have : M.natAbs = 0 := digs_inj (by rw [List.eq_nil_of_length_eq_zero e, digs_zero])
  rw [hM, Int.natAbs_mul] at this
  rcases Nat.mul_eq_zero.1 this with h | h <;> omega
theorem fits_two {k : Nat} (h : k ≤ 250) : fitsB ((2 : Int) ^ k).natAbs = true := by
  refine decide_eq_true (Nat.le_trans ((digs_length_le (k := 8)).2 ?_) (by omega))
  rw [Int.natAbs_pow, show (4294967296 : Nat) = 2 ^ 32 from rfl, ← Nat.pow_mul]
  exact Nat.pow_lt_pow_right (by decide) (by omega)
theorem nat_lt_pow {u k : Nat} (h : u < 2 ^ k) : (u : Int) < 2 ^ k := by exact_mod_cast h
theorem nat_pow_le {u k : Nat} (h : 2 ^ k ≤ u) : (2 : Int) ^ k ≤ (u : Int) := by exact_mod_cast h
theorem cmp_less {w : World} {x y : Value} {a b : Int} (hx : Nu w x a) (hy : Nu w y b) (h : a < b) : Calls Tryz.prog 31 #[x, y] w fun e w' => e = .returned (.int .i64 (-1)) ∧ Below w.heap.size w w' := by
  have := cmp_any hx hy
  rwa [show cmpZ a b = -1 by unfold cmpZ; rw [if_pos h]] at this
theorem cmp_ge {a b : Int} (h : b ≤ a) : 0 ≤ cmpZ a b := by
  unfold cmpZ
  rw [if_neg (by omega)]
  split <;> decide

end Go.Proofs.YtdgmjmckeeeljaaGreatDoor

namespace Go.Proofs.YtdgmjmckeeeljaaGreatDoor
open Go.RowKit

theorem bit_of (V x q r k : Nat) (hx : x = V / 4294967296 ^ q % 4294967296) (hr : r < 32) (hk : k = 32 * q + r) : bits .and .u32 ((x : Int) / 2 ^ r) 1 = ((V / 2 ^ k % 2 : Nat) : Int) := by
  have e1 : (x : Int) / 2 ^ r = ((x / 2 ^ r : Nat) : Int) := by rw [Int.natCast_ediv, Int.natCast_pow]; rfl
  have h1 : x / 2 ^ r ≤ x := Nat.div_le_self _ _
  have hx4 : x < 4294967296 := by rw [hx]; exact Nat.mod_lt _ (by omega)
  rw [e1, show (1 : Int) = ((1 : Nat) : Int) from rfl, u32_and_nat _ _ (by omega) (by omega), Nat.and_one_is_mod]
  congr 1
  have e2 : (4294967296 : Nat) = 2 ^ r * 2 ^ (32 - r) := by rw [← Nat.pow_add, show r + (32 - r) = 32 by omega]
  have e3 : x / 2 ^ r = V / 4294967296 ^ q / 2 ^ r % 2 ^ (32 - r) := by
    rw [hx]
    conv => lhs; arg 1; arg 2; rw [e2]
    rw [Nat.mod_mul_right_div_self]
  rw [e3, Nat.mod_mod_of_dvd _ ⟨2 ^ (32 - r - 1), by rw [← Nat.pow_succ']; congr 1; omega⟩, Nat.div_div_eq_div_mul, hk, pow_bits, ← Nat.pow_add]

set_option maxRecDepth 10000 in
set_option maxHeartbeats 1000000 in
theorem bit83_any {w : World} {v : Value} {ds : List Nat} (h : Sl w v ds) (k : Nat) (hk : k < 32 * ds.length) (hl : ds.length ≤ 1000) :
    Calls Tryz.prog 83 #[v, .int .i64 k] w fun e w' => e = .returned (.int .u32 (val ds / 2 ^ k % 2 : Nat)) ∧ w' = w := by
  obtain ⟨ao, cap, rfl⟩ := h.mk'
  obtain ⟨b, off, rfl, hcap, hbs, hcl⟩ := h.at (by omega)
  obtain ⟨q, hq⟩ : ∃ q, q = k / 32 := ⟨_, rfl⟩
  obtain ⟨r, hr⟩ : ∃ r, r = k % 32 := ⟨_, rfl⟩
  have hc := hcl q (by omega)
  have hx4 : ds.getD q 0 < 4294967296 := by rw [val_digit h.bd]; exact Nat.mod_lt _ (by omega)
  obtain ⟨x, hx⟩ : ∃ x, x = ds.getD q 0 := ⟨_, rfl⟩
  rw [← hx] at hc hx4
  obtain ⟨n, hn⟩ : ∃ n, n = ds.length := ⟨_, rfl⟩
  rw [← hn] at hk hl hcap ⊢
  obtain ⟨T, hT⟩ : ∃ T, T = val ds / 2 ^ k % 2 := ⟨_, rfl⟩
  have HT := Lib.hid hT
  rw [← hT]
  have f1 : (k : Int).tdiv 32 = (q : Int) := by rw [hq]; rfl
  have f2 : (k : Int).tmod 32 = (r : Int) := by rw [hr]; rfl
  have hq2 : q < n := by omega
  have hr2 : r < 32 := by omega
  have HXX : Hid (x = val ds / 4294967296 ^ q % 4294967296) := Lib.hid (by rw [hx]; exact val_digit h.bd q)
  have HQ := Lib.hid hq
  have HR := Lib.hid hr
  clear hcl hx hq hr hT hn h
  go_enter Tryz.func83, Tryz.ntmps83
  go_wp2
  go_ret
  refine ⟨?_, rfl⟩
  show Ending.returned (.int .u32 _) = _
  rw [bit_of (val ds) x q r k HXX.out hr2 (by have := HQ.out; have := HR.out; omega), ← HT.out]

end Go.Proofs.YtdgmjmckeeeljaaGreatDoor

namespace Go.Proofs.YtdgmjmckeeeljaaGreatDoor
open Go.RowKit

def WithA (w : World) (T q m n : Nat) (ov kv : Value) (wr : World) : Prop :=
  ∃ (j k : Nat) (ds : List Nat) (ao : Option Addr) (cap : Nat), ov = .slice ao j cap ∧ kv = .int .i64 k ∧ k = q + j ∧ j ≤ m ∧ ds.length = j ∧ val ds = T % 4294967296 ^ j ∧ OwD w wr (.slice ao j cap) ds

theorem withA_step {ds : List Nat} {j d T : Nat} (h : val ds = T % 4294967296 ^ j) (hl : ds.length = j) (hd : d = T / 4294967296 ^ j % 4294967296) : val (ds ++ [d]) = T % 4294967296 ^ (j + 1) := by
  rw [val_append, hl, mod_step T, ← hd, h]
  simp only [val, Nat.mul_zero, Nat.add_zero]

/-- The digit of the shifted number. -/
theorem withA_digit (V q r j by' x y t : Nat) (hr : r < 32) (hby : by' = 32 * q + r) (hx : x = V / 4294967296 ^ (q + j) % 4294967296) (hy : y = V / 4294967296 ^ (q + j + 1) % 4294967296) (ht : t = x + y * 4294967296) :
    t / 2 ^ r % 4294967296 = V / 2 ^ by' / 4294967296 ^ j % 4294967296 := by
  obtain ⟨W, hW⟩ : ∃ W, W = V / 4294967296 ^ (q + j) := ⟨_, rfl⟩
  rw [Nat.pow_succ, ← Nat.div_div_eq_div_mul, ← hW] at hy
  rw [← hW] at hx
  have e1 : t = W % 18446744073709551616 := by omega
  have e2 : (18446744073709551616 : Nat) = 2 ^ r * 2 ^ (64 - r) := by rw [← Nat.pow_add, show r + (64 - r) = 64 by omega]
  have e3 : t / 2 ^ r = W / 2 ^ r % 2 ^ (64 - r) := by
    rw [e1]
    conv => lhs; arg 1; arg 2; rw [e2]
    rw [Nat.mod_mul_right_div_self]
  have e4 : (4294967296 : Nat) ∣ 2 ^ (64 - r) := ⟨2 ^ (32 - r), by rw [show (4294967296 : Nat) = 2 ^ 32 from rfl, ← Nat.pow_add]; congr 1; omega⟩
  rw [e3, Nat.mod_mod_of_dvd _ e4, hW, Nat.div_div_eq_div_mul, Nat.div_div_eq_div_mul, hby, pow_bits, pow_bits, ← Nat.pow_add, ← Nat.pow_add]
  congr 3
  omega

set_option maxRecDepth 10000 in
set_option maxHeartbeats 4000000 in
theorem without81_any {w : World} {va : Value} {xs : List Nat} (ha : Sl w va xs) (hla : xs.length ≤ 1000) (s : Nat) (hs : s ≤ 1000000) : Calls Tryz.prog 81 #[va, .int .i64 s] w (NewDigs w (val xs / 2 ^ s)) := by
  obtain ⟨aa, ca, rfl⟩ := ha.mk'
  obtain ⟨la, hla'⟩ : ∃ n, n = xs.length := ⟨_, rfl⟩
  obtain ⟨q, hq⟩ : ∃ q, q = s / 32 := ⟨_, rfl⟩
  obtain ⟨r, hr⟩ : ∃ r, r = s % 32 := ⟨_, rfl⟩
  obtain ⟨T, hT⟩ : ∃ T, T = val xs / 2 ^ s := ⟨_, rfl⟩
  have HA := Lib.hid ha
  have HLA := Lib.hid hla'
  have HXD : Hid (∀ k, xs.getD k 0 = val xs / 4294967296 ^ k % 4294967296) := Lib.hid fun k => val_digit ha.bd k
  have f1 : (s : Int).tdiv 32 = (q : Int) := by rw [hq]; rfl
  have f2 : (s : Int).tmod 32 = (r : Int) := by rw [hr]; rfl
  have hr2 : r < 32 := by omega
  have hss : s = 32 * q + r := by omega
  have hql : q ≤ 40000 := by omega
  have HSS := Lib.hid hss
  have HT := Lib.hid hT
  have hend : ∀ j, la ≤ q + j → T < 4294967296 ^ j := fun j hj => by
    have hv := val_lt ha.bd
    rw [hT, Nat.div_lt_iff_lt_mul (Nat.pow_pos (by omega)), hss, pow_bits, ← Nat.pow_add]
    rw [pow_bits] at hv
    exact Nat.lt_of_lt_of_le hv (Nat.pow_le_pow_right (by omega) (by omega))
  have HEND := Lib.hid hend
  rw [← hla'] at hla HA ⊢
  rw [← hT]
  obtain ⟨i0, hi, hz0, hz1, hz2⟩ := info_parts Tryz.info59
  clear ha hla' hq hr hT hss hend
  go_enter Tryz.func81, Tryz.ntmps81
  go_wp2
  go_loopw [5, 6] (fun ov kv wr => WithA w T q (la - q) la ov kv wr) (fun _ kv _ => (la - intOf kv).toNat)
  case atStart => exact ⟨0, q, [], none, 0, rfl, by go_num, rfl, by omega, rfl, by simp [val, Nat.mod_one], owD_start w⟩
  case round =>
    obtain ⟨j, k, ds, ao, cap, rfl, rfl, hkj, hj, hl, hv, hO⟩ := hrel
    have HKJ := Lib.hid hkj
    clear hkj
    have HO := Lib.hid hO
    have HL := Lib.hid hl
    have HBS := Lib.hid hO.bl.size
    have HOO : Hid (wr.ownsRow w.heap.size 59 1 (.slice ao j cap) j (ds.map u32v)) := Lib.hid (by have := hO.own; rw [hl] at this; exact this)
    by_cases hlt : k < la
    · have hatA := at_any (HA.out.below hO.bl) k (by omega)
      have hatB := at_any (HA.out.below hO.bl) (k + 1) (by omega)
      have ex := HXD.out k
      have ey := HXD.out (k + 1)
      obtain ⟨x, hx⟩ : ∃ x, x = xs.getD k 0 := ⟨_, rfl⟩
      obtain ⟨y, hy⟩ : ∃ y, y = xs.getD (k + 1) 0 := ⟨_, rfl⟩
      rw [← hx] at hatA ex
      rw [← hy] at hatB ey
      have hx4 : x < 4294967296 := by rw [ex]; exact Nat.mod_lt _ (by omega)
      have hy4 : y < 4294967296 := by rw [ey]; exact Nat.mod_lt _ (by omega)
      obtain ⟨t, ht⟩ : ∃ t, t = x + y * 4294967296 := ⟨_, rfl⟩
      obtain ⟨d, hd⟩ : ∃ d, d = t / 2 ^ r % 4294967296 := ⟨_, rfl⟩
      have hd4 : d < 4294967296 := by rw [hd]; exact Nat.mod_lt _ (by omega)
      have hdd : d = T / 4294967296 ^ j % 4294967296 := by
        rw [hd, HT.out]
        exact withA_digit (val xs) q r j s x y t hr2 HSS.out (by rw [ex, HKJ.out]) (by rw [ey, HKJ.out]) ht
      have HS := Lib.hid (withA_step hv hl hdd)
      have fd : (t : Int) / 2 ^ r % 4294967296 = (d : Int) := by rw [hd, Int.natCast_emod, Int.natCast_ediv, Int.natCast_pow]; rfl
      have wt : IntKind.u64.wrap ((x : Int) + (y : Int) * 4294967296) = (t : Int) := by rw [IntKind.wrap_u64]; omega
      have hj1 : Hid (j + 1 ≤ la - q) := Lib.hid (by have := HKJ.out; omega)
      have ek : ((k + 1 : Nat) : Int) = (k : Int) + 1 := rfl
      rw [ek] at hatB
      clear hv hO hl hx hy ex ey ht hd hdd
      go_wp2_with (first | (go_at_call 84; (first | (with_reducible refine hatA.mono ?_) | (with_reducible refine hatB.mono ?_) | (refine hatB.mono ?_)); rintro e w' ⟨rfl, hw'⟩; subst w') | (at_builtin; go_must (refine wpList_append_own _ rfl _ _ 25 rfl w.heap.size 59 i0 (.int .u32 0) 1 4 Tryz.underlying25 hi hz0 hz1 hz2 rfl (by decide) (.slice ao j cap) j (ds.map u32v) rfl (HOO.out.alloc _) ⟨wr.heap.size, 0, none⟩ 1 1 [.int .u32 (d : Int)] rfl rfl (cell_one_new _ _ _) (fun x hx => by simp at hx; subst hx; rfl) (by unfold maxLen; omega) (by omega) (by have := HBS.out; simp; omega) ?_; intro v' w3 hown' hgrow3 hnil3; obtain ⟨HP, ao2, c2, rfl⟩ := owD_push HO.out HL.out hd4 hown' hgrow3; have HPP := Lib.hid HP; clear hown' hgrow3 hnil3 HP)))
      have hln : (ds ++ [d]).length = j + 1 := by rw [List.length_append, HL.out]; rfl
      go_roundw
      case rel => exact ⟨j + 1, k + 1, ds ++ [d], ao2, c2, by go_num, by go_num, by have := HKJ.out; omega, hj1.out, hln, HS.out, HPP.out⟩
      case measure => simp [intOf]; omega
    · have hlt2 := HEND.out j (by rw [← HKJ.out]; omega)
      have hend2 : val ds = T := by rw [hv, Nat.mod_eq_of_lt hlt2]
      obtain ⟨ao3, c3, e3, e4⟩ := sw_of_owns hO.bd hO.own
      rw [hl] at e3
      cases e3
      have ht := rtrim_any _ _ _ e4.sl
      have hu := e4.trim
      rw [hend2] at ht hu
      have HU := Lib.hid hu
      clear hv hO hend2 hl hu e4 hlt2
      go_wp2_with (go_at_call 55; (with_reducible refine ht.mono ?_); rintro e w' ⟨rfl, hw'⟩; subst w')
      go_ret
      exact ⟨_, rfl, HU.out, HO.out.bl⟩

end Go.Proofs.YtdgmjmckeeeljaaGreatDoor

namespace Go.Proofs.YtdgmjmckeeeljaaGreatDoor
open Go.RowKit

set_option maxRecDepth 10000 in
set_option maxHeartbeats 1000000 in
theorem word73_any {w : World} {v : Value} {ds : List Nat} (h : Sl w v ds) (hl : ds.length ≤ 2) :
    Calls Tryz.prog 73 #[v] w fun e w' => e = .returned (.int .u64 (val ds : Nat)) ∧ w' = w := by
  obtain ⟨ao, cap, rfl⟩ := h.mk'
  match ds, hl with
  | [], _ =>
    clear h
    simp only [List.length_nil]
    go_enter Tryz.func73, Tryz.ntmps73
    go_wp2
    go_rounds 1
    go_ret
    exact ⟨rfl, rfl⟩
  | [x], _ =>
    obtain ⟨b, off, rfl, hcap, hbs, hcl⟩ := h.at (by simp)
    have hc := hcl 0 (by simp)
    have hx : x < 4294967296 := h.bd x (by simp)
    have ev : val [x] = x := by simp [val]
    rw [ev]
    simp only [List.getD_cons_zero, Nat.add_zero, List.length_cons, List.length_nil, Nat.zero_add] at hc hcap ⊢
    clear hcl ev h
    go_enter Tryz.func73, Tryz.ntmps73
    go_wp2
    go_rounds 2
    go_ret
    exact ⟨rfl, rfl⟩
  | [x, y], _ =>
    obtain ⟨b, off, rfl, hcap, hbs, hcl⟩ := h.at (by simp)
    have hc := hcl 0 (by simp)
    have hc1 := hcl 1 (by simp)
    have hx : x < 4294967296 := h.bd x (by simp)
    have hy : y < 4294967296 := h.bd y (by simp)
    have ev : val [x, y] = x + 4294967296 * y := by simp [val]
    rw [ev]
    simp only [List.getD_cons_zero, List.getD_cons_succ, Nat.add_zero, List.length_cons, List.length_nil, Nat.zero_add, Nat.reduceAdd] at hc hc1 hcap ⊢
    clear hcl ev h
    obtain ⟨t, ht⟩ : ∃ t, t = x + 4294967296 * y := ⟨_, rfl⟩
    have wt : IntKind.u64.wrap ((x : Int) + (y : Int) * 4294967296) = (t : Int) := by rw [IntKind.wrap_u64]; omega
    have HT := Lib.hid ht
    rw [← ht]
    clear ht
    go_enter Tryz.func73, Tryz.ntmps73
    go_wp2
    go_rounds 3
    go_ret
    exact ⟨rfl, rfl⟩

end Go.Proofs.YtdgmjmckeeeljaaGreatDoor

namespace Go.Proofs.YtdgmjmckeeeljaaGreatDoor
open Go.RowKit

/-- No number, and false. -/
def NumNo (w : World) (e : Ending) (w' : World) : Prop := e = .returned (.tuple #[.agg #[.bool false, .slice none 0 0], .bool false]) ∧ Below w.heap.size w w'

set_option maxRecDepth 10000 in
set_option maxHeartbeats 1000000 in
theorem add28_no {w : World} {na nb : Bool} {sa sb : Value} {xs ys : List Nat} (ha : Sl w sa xs) (hb : Sl w sb ys) (hla : xs.length ≤ 1000) (hlb : ys.length ≤ 1000) (h : rightB na xs = false ∨ rightB nb ys = false) :
    Calls Tryz.prog 28 #[.agg #[.bool na, sa], .agg #[.bool nb, sb]] w (NumNo w) := by
  have HR1 := Lib.hid (fun W (h : Sl W sa xs) => right_any na h (by omega))
  have HR2 := Lib.hid (fun W (h : Sl W sb ys) => right_any nb h (by omega))
  obtain ⟨p, hp⟩ : ∃ p, p = rightB na xs := ⟨_, rfl⟩
  obtain ⟨q, hq⟩ : ∃ q, q = rightB nb ys := ⟨_, rfl⟩
  rw [← hp] at HR1 h
  rw [← hq] at HR2 h
  have HA := Lib.hid ha
  have HB := Lib.hid hb
  clear hp hq ha hb
  cases p
  · go_enter Tryz.func28, Tryz.ntmps28
    go_wp2_with (go_at_call 32; refine (HR1.out _ (HA.out.below (by go_grown))).mono ?_; rintro e w' ⟨rfl, rfl⟩)
    go_returns
    exact ⟨rfl, by go_grown⟩
  · obtain rfl : q = false := by simpa using h
    go_enter Tryz.func28, Tryz.ntmps28
    go_wp2_with (first | (go_at_call_of 32 (Value.agg #[.bool na, sa]); (with_reducible refine (HR1.out _ (HA.out.below (by go_grown))).mono ?_); rintro e w' ⟨rfl, rfl⟩) | (go_at_call_of 32 (Value.agg #[.bool nb, sb]); (with_reducible refine (HR2.out _ (HB.out.below (by go_grown))).mono ?_); rintro e w' ⟨rfl, rfl⟩))
    go_returns
    exact ⟨rfl, by go_grown⟩

set_option maxRecDepth 10000 in
set_option maxHeartbeats 1000000 in
theorem mul30_no {w : World} {na nb : Bool} {sa sb : Value} {xs ys : List Nat} (ha : Sl w sa xs) (hb : Sl w sb ys) (hla : xs.length ≤ 1000) (hlb : ys.length ≤ 1000) (h : rightB na xs = false ∨ rightB nb ys = false) :
    Calls Tryz.prog 30 #[.agg #[.bool na, sa], .agg #[.bool nb, sb]] w (NumNo w) := by
  have HR1 := Lib.hid (fun W (h : Sl W sa xs) => right_any na h (by omega))
  have HR2 := Lib.hid (fun W (h : Sl W sb ys) => right_any nb h (by omega))
  obtain ⟨p, hp⟩ : ∃ p, p = rightB na xs := ⟨_, rfl⟩
  obtain ⟨q, hq⟩ : ∃ q, q = rightB nb ys := ⟨_, rfl⟩
  rw [← hp] at HR1 h
  rw [← hq] at HR2 h
  have HA := Lib.hid ha
  have HB := Lib.hid hb
  clear hp hq ha hb
  cases p
  · go_enter Tryz.func30, Tryz.ntmps30
    go_wp2_with (go_at_call 32; refine (HR1.out _ (HA.out.below (by go_grown))).mono ?_; rintro e w' ⟨rfl, rfl⟩)
    go_returns
    exact ⟨rfl, by go_grown⟩
  · obtain rfl : q = false := by simpa using h
    go_enter Tryz.func30, Tryz.ntmps30
    go_wp2_with (first | (go_at_call_of 32 (Value.agg #[.bool na, sa]); (with_reducible refine (HR1.out _ (HA.out.below (by go_grown))).mono ?_); rintro e w' ⟨rfl, rfl⟩) | (go_at_call_of 32 (Value.agg #[.bool nb, sb]); (with_reducible refine (HR2.out _ (HB.out.below (by go_grown))).mono ?_); rintro e w' ⟨rfl, rfl⟩))
    go_returns
    exact ⟨rfl, by go_grown⟩

set_option maxRecDepth 10000 in
set_option maxHeartbeats 1000000 in
theorem add37_no {w : World} {na nb : Bool} {sa sb : Value} {xs ys : List Nat} (ha : Sl w sa xs) (hb : Sl w sb ys) (hla : xs.length ≤ 1000) (hlb : ys.length ≤ 1000) (h : rightB na xs = false ∨ rightB nb ys = false) :
    Calls Tryz.prog 37 #[.agg #[.bool na, sa], .agg #[.bool nb, sb]] w (NumNo w) := by
  have HR1 := Lib.hid (fun W (h : Sl W sa xs) => right41_any na h (by omega))
  have HR2 := Lib.hid (fun W (h : Sl W sb ys) => right41_any nb h (by omega))
  obtain ⟨p, hp⟩ : ∃ p, p = rightB na xs := ⟨_, rfl⟩
  obtain ⟨q, hq⟩ : ∃ q, q = rightB nb ys := ⟨_, rfl⟩
  rw [← hp] at HR1 h
  rw [← hq] at HR2 h
  have HA := Lib.hid ha
  have HB := Lib.hid hb
  clear hp hq ha hb
  cases p
  · go_enter Tryz.func37, Tryz.ntmps37
    go_wp2_with (go_at_call 41; refine (HR1.out _ (HA.out.below (by go_grown))).mono ?_; rintro e w' ⟨rfl, rfl⟩)
    go_returns
    exact ⟨rfl, by go_grown⟩
  · obtain rfl : q = false := by simpa using h
    go_enter Tryz.func37, Tryz.ntmps37
    go_wp2_with (first | (go_at_call_of 41 (Value.agg #[.bool na, sa]); (with_reducible refine (HR1.out _ (HA.out.below (by go_grown))).mono ?_); rintro e w' ⟨rfl, rfl⟩) | (go_at_call_of 41 (Value.agg #[.bool nb, sb]); (with_reducible refine (HR2.out _ (HB.out.below (by go_grown))).mono ?_); rintro e w' ⟨rfl, rfl⟩))
    go_returns
    exact ⟨rfl, by go_grown⟩

set_option maxRecDepth 10000 in
set_option maxHeartbeats 1000000 in
theorem mul39_no {w : World} {na nb : Bool} {sa sb : Value} {xs ys : List Nat} (ha : Sl w sa xs) (hb : Sl w sb ys) (hla : xs.length ≤ 1000) (hlb : ys.length ≤ 1000) (h : rightB na xs = false ∨ rightB nb ys = false) :
    Calls Tryz.prog 39 #[.agg #[.bool na, sa], .agg #[.bool nb, sb]] w (NumNo w) := by
  have HR1 := Lib.hid (fun W (h : Sl W sa xs) => right41_any na h (by omega))
  have HR2 := Lib.hid (fun W (h : Sl W sb ys) => right41_any nb h (by omega))
  obtain ⟨p, hp⟩ : ∃ p, p = rightB na xs := ⟨_, rfl⟩
  obtain ⟨q, hq⟩ : ∃ q, q = rightB nb ys := ⟨_, rfl⟩
  rw [← hp] at HR1 h
  rw [← hq] at HR2 h
  have HA := Lib.hid ha
  have HB := Lib.hid hb
  clear hp hq ha hb
  cases p
  · go_enter Tryz.func39, Tryz.ntmps39
    go_wp2_with (go_at_call 41; refine (HR1.out _ (HA.out.below (by go_grown))).mono ?_; rintro e w' ⟨rfl, rfl⟩)
    go_returns
    exact ⟨rfl, by go_grown⟩
  · obtain rfl : q = false := by simpa using h
    go_enter Tryz.func39, Tryz.ntmps39
    go_wp2_with (first | (go_at_call_of 41 (Value.agg #[.bool na, sa]); (with_reducible refine (HR1.out _ (HA.out.below (by go_grown))).mono ?_); rintro e w' ⟨rfl, rfl⟩) | (go_at_call_of 41 (Value.agg #[.bool nb, sb]); (with_reducible refine (HR2.out _ (HB.out.below (by go_grown))).mono ?_); rintro e w' ⟨rfl, rfl⟩))
    go_returns
    exact ⟨rfl, by go_grown⟩

end Go.Proofs.YtdgmjmckeeeljaaGreatDoor

namespace Go.Proofs.YtdgmjmckeeeljaaGreatDoor
open Go.RowKit

set_option maxRecDepth 10000 in
set_option maxHeartbeats 1000000 in
theorem cmp31_no {w : World} {na nb : Bool} {sa sb : Value} {xs ys : List Nat} (ha : Sl w sa xs) (hb : Sl w sb ys) (hla : xs.length ≤ 1000) (hlb : ys.length ≤ 1000) (h : rightB na xs = false ∨ rightB nb ys = false) :
    Calls Tryz.prog 31 #[.agg #[.bool na, sa], .agg #[.bool nb, sb]] w fun e w' => e = .returned (.int .i64 0) ∧ Below w.heap.size w w' := by
  have HR1 := Lib.hid (fun W (h : Sl W sa xs) => right_any na h (by omega))
  have HR2 := Lib.hid (fun W (h : Sl W sb ys) => right_any nb h (by omega))
  obtain ⟨p, hp⟩ : ∃ p, p = rightB na xs := ⟨_, rfl⟩
  obtain ⟨q, hq⟩ : ∃ q, q = rightB nb ys := ⟨_, rfl⟩
  rw [← hp] at HR1 h
  rw [← hq] at HR2 h
  have HA := Lib.hid ha
  have HB := Lib.hid hb
  clear hp hq ha hb
  cases p
  · go_enter Tryz.func31, Tryz.ntmps31
    go_wp2_with (go_at_call 32; refine (HR1.out _ (HA.out.below (by go_grown))).mono ?_; rintro e w' ⟨rfl, rfl⟩)
    go_returns
    exact ⟨rfl, by go_grown⟩
  · obtain rfl : q = false := by simpa using h
    go_enter Tryz.func31, Tryz.ntmps31
    go_wp2_with (first | (go_at_call_of 32 (Value.agg #[.bool na, sa]); (with_reducible refine (HR1.out _ (HA.out.below (by go_grown))).mono ?_); rintro e w' ⟨rfl, rfl⟩) | (go_at_call_of 32 (Value.agg #[.bool nb, sb]); (with_reducible refine (HR2.out _ (HB.out.below (by go_grown))).mono ?_); rintro e w' ⟨rfl, rfl⟩))
    go_returns
    exact ⟨rfl, by go_grown⟩

set_option maxRecDepth 10000 in
set_option maxHeartbeats 1000000 in
theorem cmp43_no {w : World} {na nb : Bool} {sa sb : Value} {xs ys : List Nat} (ha : Sl w sa xs) (hb : Sl w sb ys) (hla : xs.length ≤ 1000) (hlb : ys.length ≤ 1000) (h : rightB na xs = false ∨ rightB nb ys = false) :
    Calls Tryz.prog 43 #[.agg #[.bool na, sa], .agg #[.bool nb, sb]] w fun e w' => e = .returned (.int .i64 0) ∧ Below w.heap.size w w' := by
  have HR1 := Lib.hid (fun W (h : Sl W sa xs) => right41_any na h (by omega))
  have HR2 := Lib.hid (fun W (h : Sl W sb ys) => right41_any nb h (by omega))
  obtain ⟨p, hp⟩ : ∃ p, p = rightB na xs := ⟨_, rfl⟩
  obtain ⟨q, hq⟩ : ∃ q, q = rightB nb ys := ⟨_, rfl⟩
  rw [← hp] at HR1 h
  rw [← hq] at HR2 h
  have HA := Lib.hid ha
  have HB := Lib.hid hb
  clear hp hq ha hb
  cases p
  · go_enter Tryz.func43, Tryz.ntmps43
    go_wp2_with (go_at_call 41; refine (HR1.out _ (HA.out.below (by go_grown))).mono ?_; rintro e w' ⟨rfl, rfl⟩)
    go_returns
    exact ⟨rfl, by go_grown⟩
  · obtain rfl : q = false := by simpa using h
    go_enter Tryz.func43, Tryz.ntmps43
    go_wp2_with (first | (go_at_call_of 41 (Value.agg #[.bool na, sa]); (with_reducible refine (HR1.out _ (HA.out.below (by go_grown))).mono ?_); rintro e w' ⟨rfl, rfl⟩) | (go_at_call_of 41 (Value.agg #[.bool nb, sb]); (with_reducible refine (HR2.out _ (HB.out.below (by go_grown))).mono ?_); rintro e w' ⟨rfl, rfl⟩))
    go_returns
    exact ⟨rfl, by go_grown⟩

theorem rightB_flip {nb : Bool} {ys : List Nat} (h : rightB nb ys = false) (hn : ys ≠ []) : rightB (!nb) ys = false := by
  unfold rightB at h ⊢
  rw [if_neg hn] at h ⊢
  exact h

set_option maxRecDepth 10000 in
set_option maxHeartbeats 1000000 in
theorem sub38_nob {w : World} {na nb : Bool} {sa sb : Value} {ys : List Nat} (hb : Sl w sb ys) (hlb : ys.length ≤ 1000) (h : rightB nb ys = false) :
    Calls Tryz.prog 38 #[.agg #[.bool na, sa], .agg #[.bool nb, sb]] w (NumNo w) := by
  have HR2 := Lib.hid (fun W (h : Sl W sb ys) => right41_any nb h (by omega))
  rw [h] at HR2
  have HB := Lib.hid hb
  clear hb h
  go_enter Tryz.func38, Tryz.ntmps38
  go_wp2_with (go_at_call 41; refine (HR2.out _ (HB.out.below (by go_grown))).mono ?_; rintro e w' ⟨rfl, rfl⟩)
  go_returns
  exact ⟨rfl, by go_grown⟩

end Go.Proofs.YtdgmjmckeeeljaaGreatDoor

namespace Go.Proofs.YtdgmjmckeeeljaaGreatDoor
open Go.RowKit

set_option maxRecDepth 10000 in
set_option maxHeartbeats 1000000 in
theorem sub29_no {w : World} {na nb : Bool} {sa sb : Value} {xs ys : List Nat} (ha : Sl w sa xs) (hb : Sl w sb ys) (hla : xs.length ≤ 1000) (hlb : ys.length ≤ 1000) (h : rightB na xs = false ∨ rightB nb ys = false) :
    Calls Tryz.prog 29 #[.agg #[.bool na, sa], .agg #[.bool nb, sb]] w (NumNo w) := by
  obtain ⟨ab, cb, rfl⟩ := hb.mk'
  by_cases h0 : ys = []
  · subst h0
    simp only [List.length_nil] at hb ⊢
    have HADD : Hid (∀ W, Below w.heap.size w W → Calls Tryz.prog 28 #[.agg #[.bool na, sa], .agg #[.bool nb, .slice ab 0 cb]] W (NumNo W)) := Lib.hid fun W hW => add28_no (ha.below hW) (hb.below hW) hla (by simp) h
    clear ha hb h
    go_enter Tryz.func29, Tryz.ntmps29
    go_wp2_with fail
    have hr : ResBox (((w.alloc (.cells #[.bool na, sa] 27)).alloc (.cells #[.bool nb, .slice ab 0 cb] 27)).alloc (.cells #[.bool false, .slice none 0 0] 27)) (w.heap.size + 1 + 1) := (heap_three w _ _ _).2.2
    have hbl : Below w.heap.size w (((w.alloc (.cells #[.bool na, sa] 27)).alloc (.cells #[.bool nb, .slice ab 0 cb] 27)).alloc (.cells #[.bool false, .slice none 0 0] 27)) := by go_grown
    have hadd := HADD.out _ hbl
    revert hr hbl hadd
    generalize ((w.alloc (.cells #[.bool na, sa] 27)).alloc (.cells #[.bool nb, .slice ab 0 cb] 27)).alloc (.cells #[.bool false, .slice none 0 0] 27) = W0
    intro hr hbl hadd
    refine hadd.mono ?_
    rintro e W1 ⟨rfl, hb1⟩
    have hr1 := hr.below hb1
    obtain ⟨r0, r1, f0, f1⟩ := hr1.cells
    obtain ⟨q0, q1⟩ := hr1.stored (.bool false) (.slice none 0 0)
    have hfin : Below w.heap.size w ((W1.setCell ⟨w.heap.size + 1 + 1, 0, none⟩ (.bool false)).setCell ⟨w.heap.size + 1 + 1, 1, none⟩ (.slice none 0 0)) := ((hbl.trans (hb1.mono hbl.size)).setCell (by simp; omega) _).setCell (by simp; omega) _
    have HF := Lib.hid hfin
    clear hfin hr hr1 hbl hb1
    go_wp2
    refine bodyPost_ret (v := .tuple #[.agg #[.bool false, .slice none 0 0], .bool false]) (by simp [results, Tryz.results29, go_sem, q0, q1]) rfl ?_
    exact ⟨rfl, HF.out⟩
  · have HADD : Hid (∀ W, Below w.heap.size w W → Calls Tryz.prog 28 #[.agg #[.bool na, sa], .agg #[.bool (!nb), .slice ab ys.length cb]] W (NumNo W)) := Lib.hid fun W hW => add28_no (ha.below hW) (hb.below hW) hla hlb (h.elim .inl (fun h => .inr (rightB_flip h h0)))
    obtain ⟨m, hm⟩ : ∃ m, m = ys.length := ⟨_, rfl⟩
    have hpos : 0 < (m : Int) := by
      rcases Nat.eq_zero_or_pos ys.length with h | h
      · exact absurd (List.eq_nil_of_length_eq_zero h) h0
      · omega
    rw [← hm] at HADD hlb ⊢
    clear ha hb h h0 hm
    go_enter Tryz.func29, Tryz.ntmps29
    go_wp2_with fail
    have hr : ResBox (((w.alloc (.cells #[.bool na, sa] 27)).alloc (.cells #[.bool !nb, .slice ab m cb] 27)).alloc (.cells #[.bool false, .slice none 0 0] 27)) (w.heap.size + 1 + 1) := (heap_three w _ _ _).2.2
    have hbl : Below w.heap.size w (((w.alloc (.cells #[.bool na, sa] 27)).alloc (.cells #[.bool !nb, .slice ab m cb] 27)).alloc (.cells #[.bool false, .slice none 0 0] 27)) := by go_grown
    have hadd := HADD.out _ hbl
    revert hr hbl hadd
    generalize ((w.alloc (.cells #[.bool na, sa] 27)).alloc (.cells #[.bool !nb, .slice ab m cb] 27)).alloc (.cells #[.bool false, .slice none 0 0] 27) = W0
    intro hr hbl hadd
    refine hadd.mono ?_
    rintro e W1 ⟨rfl, hb1⟩
    have hr1 := hr.below hb1
    obtain ⟨r0, r1, f0, f1⟩ := hr1.cells
    obtain ⟨q0, q1⟩ := hr1.stored (.bool false) (.slice none 0 0)
    have hfin : Below w.heap.size w ((W1.setCell ⟨w.heap.size + 1 + 1, 0, none⟩ (.bool false)).setCell ⟨w.heap.size + 1 + 1, 1, none⟩ (.slice none 0 0)) := ((hbl.trans (hb1.mono hbl.size)).setCell (by simp; omega) _).setCell (by simp; omega) _
    have HF := Lib.hid hfin
    clear hfin hr hr1 hbl hb1
    go_wp2
    refine bodyPost_ret (v := .tuple #[.agg #[.bool false, .slice none 0 0], .bool false]) (by simp [results, Tryz.results29, go_sem, q0, q1]) rfl ?_
    exact ⟨rfl, HF.out⟩

end Go.Proofs.YtdgmjmckeeeljaaGreatDoor

namespace Go.Proofs.YtdgmjmckeeeljaaGreatDoor
open Go.RowKit

structure BoxG (W : World) (B : Nat) (na nb : Bool) (sa sb : Value) : Prop where
  a0 : W.cell? ⟨B, 0, none⟩ = some (.bool na)
  a1 : W.cell? ⟨B, 1, none⟩ = some sa
  b0 : W.cell? ⟨B + 1, 0, none⟩ = some (.bool nb)
  b1 : W.cell? ⟨B + 1, 1, none⟩ = some sb
  r : W.heap[B + 1 + 1]? = some (.cells #[.bool false, .slice none 0 0] 27 (0, 0))

theorem BoxG.below {W W' : World} {B : Nat} {na nb : Bool} {sa sb : Value} (h : BoxG W B na nb sa sb) (hb : Below W.heap.size W W') : BoxG W' B na nb sa sb :=
  ⟨cell_later hb h.a0, cell_later hb h.a1, cell_later hb h.b0, cell_later hb h.b1, (hb.block _ (Array.getElem?_eq_some_iff.1 h.r).1).trans h.r⟩

theorem BoxG.keep {W W' : World} {B : Nat} {na nb : Bool} {sa sb : Value} (h : BoxG W B na nb sa sb) (hb : Below (B + 1 + 1) W W') :
    W'.cell? ⟨B, 0, none⟩ = some (.bool na) ∧ W'.cell? ⟨B, 1, none⟩ = some sa ∧ W'.cell? ⟨B + 1, 0, none⟩ = some (.bool nb) ∧ W'.cell? ⟨B + 1, 1, none⟩ = some sb :=
  ⟨(hb.cell (p := ⟨B, 0, none⟩) (by simp; omega)).trans h.a0, (hb.cell (p := ⟨B, 1, none⟩) (by simp; omega)).trans h.a1, (hb.cell (p := ⟨B + 1, 0, none⟩) (by simp)).trans h.b0, (hb.cell (p := ⟨B + 1, 1, none⟩) (by simp)).trans h.b1⟩

theorem BoxG.lt {W : World} {B : Nat} {na nb : Bool} {sa sb : Value} (h : BoxG W B na nb sa sb) : B + 1 + 1 < W.heap.size := (Array.getElem?_eq_some_iff.1 h.r).1
theorem BoxG.cells {W : World} {B : Nat} {na nb : Bool} {sa sb : Value} (h : BoxG W B na nb sa sb) :
    W.cell? ⟨B + 1 + 1, 0, none⟩ = some (.bool false) ∧ W.cell? ⟨B + 1 + 1, 1, none⟩ = some (.slice none 0 0) ∧ W.frozen? ⟨B + 1 + 1, 0, none⟩ = false ∧ W.frozen? ⟨B + 1 + 1, 1, none⟩ = false := by
  refine ⟨?_, ?_, frozen_of_row W _ _ _ _ h.r, frozen_of_row W _ _ _ _ h.r⟩ <;> rw [cell_of_row W _ _ _ _ _ h.r] <;> rfl

theorem boxG_new {w W : World} {na nb : Bool} {sa sb : Value}
    (h : Below (w.heap.size + 1 + 1 + 1) (((w.alloc (.cells #[.bool na, sa] 27)).alloc (.cells #[.bool nb, sb] 27)).alloc (.cells #[.bool false, .slice none 0 0] 27)) W) : BoxG W w.heap.size na nb sa sb := by
  obtain ⟨h1, h2, h3⟩ := heap_three w (.cells #[.bool na, sa] 27) (.cells #[.bool nb, sb] 27) (.cells #[.bool false, .slice none 0 0] 27)
  rw [← h.block _ (by omega)] at h1 h2 h3
  have hw : Below w.heap.size w W := ((((Below.refl _ w).alloc (Nat.le_refl _) _).alloc (by simp) _).alloc (by simp; omega) _).trans (h.mono (by omega))
  refine ⟨?_, ?_, ?_, ?_, h3⟩
  · rw [cell_of_row W _ _ _ _ _ h1]; rfl
  · rw [cell_of_row W _ _ _ _ _ h1]; rfl
  · rw [cell_of_row W _ _ _ _ _ h2]; rfl
  · rw [cell_of_row W _ _ _ _ _ h2]; rfl

theorem rightB_neg {nb : Bool} {ys : List Nat} (h : rightB nb ys = true) : rightB (!nb && decide (0 < ys.length)) ys = true := by
  by_cases h0 : ys = []
  · subst h0; simp [rightB]
  · unfold rightB at h ⊢
    rw [if_neg h0] at h ⊢
    exact h

set_option maxRecDepth 10000 in
set_option maxHeartbeats 1000000 in
theorem sub38_noa {w : World} {na nb : Bool} {sa sb : Value} {xs ys : List Nat} (ha : Sl w sa xs) (hb : Sl w sb ys) (hla : xs.length ≤ 1000) (hlb : ys.length ≤ 256) (h : rightB na xs = false) (rb : rightB nb ys = true) :
    Calls Tryz.prog 38 #[.agg #[.bool na, sa], .agg #[.bool nb, sb]] w (NumNo w) := by
  obtain ⟨ab, cb, rfl⟩ := hb.mk'
  obtain ⟨m, hm⟩ : ∃ m, m = ys.length := ⟨_, rfl⟩
  have R2 : ∀ W, Sl W (.slice ab m cb) ys → Calls Tryz.prog 41 #[.agg #[.bool nb, .slice ab m cb]] W fun e w' => e = .returned (.bool true) ∧ w' = W.alloc (.cells #[.bool nb, .slice ab m cb] 27) := fun W h => by have := right41_any nb h (by omega); rwa [rb] at this
  have HR2 := Lib.hid R2
  rw [← hm] at hb hlb ⊢
  have HNG : Hid (∀ W, Calls Tryz.prog 72 #[.agg #[.bool nb, .slice ab m cb]] W fun e w' => e = .returned (.agg #[.bool (!nb && decide (0 < m)), .slice ab m cb]) ∧ Below W.heap.size W w') := Lib.hid fun W => negated72_any W nb ab m cb hlb
  obtain ⟨nn, hn2⟩ : ∃ nn, nn = (!nb && decide (0 < m)) := ⟨_, rfl⟩
  rw [← hn2] at HNG
  have HAD : Hid (∀ W, Below w.heap.size w W → Calls Tryz.prog 37 #[.agg #[.bool na, sa], .agg #[.bool nn, .slice ab m cb]] W (NumNo W)) := Lib.hid fun W hW => add37_no (ha.below hW) (hb.below hW) hla (by omega) (.inl h)
  have HB := Lib.hid hb
  clear R2 rb hm hn2 ha hb h
  go_enter Tryz.func38, Tryz.ntmps38
  go_wp2_with (go_at_call 41; refine (HR2.out _ (HB.out.below (by go_grown))).mono ?_; rintro e w' ⟨rfl, rfl⟩)
  have HB3 : BoxG ((((w.alloc (.cells #[.bool na, sa] 27)).alloc (.cells #[.bool nb, .slice ab m cb] 27)).alloc (.cells #[.bool false, .slice none 0 0] 27)).alloc (.cells #[.bool nb, .slice ab m cb] 27)) w.heap.size na nb sa (.slice ab m cb) :=
    boxG_new (by go_grown)
  have HBL : Below w.heap.size w ((((w.alloc (.cells #[.bool na, sa] 27)).alloc (.cells #[.bool nb, .slice ab m cb] 27)).alloc (.cells #[.bool false, .slice none 0 0] 27)).alloc (.cells #[.bool nb, .slice ab m cb] 27)) := by go_grown
  revert HB3 HBL
  generalize ((((w.alloc (.cells #[.bool na, sa] 27)).alloc (.cells #[.bool nb, .slice ab m cb] 27)).alloc (.cells #[.bool false, .slice none 0 0] 27)).alloc (.cells #[.bool nb, .slice ab m cb] 27)) = W
  intro HB3 HBL
  have a0 := HB3.a0
  have a1 := HB3.a1
  have b0 := HB3.b0
  have b1 := HB3.b1
  go_region_held3 (fun w' => w'.cell? ⟨w.heap.size, 0, none⟩ = some (.bool na) ∧ w'.cell? ⟨w.heap.size, 1, none⟩ = some sa ∧ w'.cell? ⟨w.heap.size + 1, 0, none⟩ = some (.bool nb) ∧ w'.cell? ⟨w.heap.size + 1, 1, none⟩ = some (.slice ab m cb))
      (first | (exact HB3.keep (by go_grown)) | (exact HB3.keep hbw) | (exact HB3.keep hbw2) | (exact HB3.keep (hbw2.setCell (by simp) _)))
      ((first | (go_at_call 72; refine (HNG.out _).mono ?_; rintro e w1 ⟨rfl, hb1⟩; have hb1' : Below W.heap.size W w1 := Below.trans (by go_grown) hb1; have hbw := hb1'.mono (Nat.le_of_lt HB3.lt)) | (go_at_call 37; refine (HAD.out _ (HBL.trans (hb1'.mono HBL.size))).mono ?_; rintro e w2 ⟨rfl, hb2⟩; have hb2' : Below W.heap.size W w2 := Below.trans hb1' (hb2.mono (by have := hb1'.size; omega)); have HB2 := HB3.below hb2'; obtain ⟨r2, r3, f2, f3⟩ := HB2.cells; have hz2 := HB2.lt; have hbw2 := hb2'.mono (Nat.le_of_lt HB3.lt); have hbw20 := Nat.le_of_lt hz2)))
  have hfin : Below w.heap.size w ((w2.setCell ⟨w.heap.size + 1 + 1, 0, none⟩ (.bool false)).setCell ⟨w.heap.size + 1 + 1, 1, none⟩ (.slice none 0 0)) :=
    ((HBL.trans (hb2'.mono (by have := HB3.lt; omega))).setCell (by simp; omega) _).setCell (by simp; omega) _
  obtain ⟨q0, q1⟩ := (show ResBox w2 (w.heap.size + 1 + 1) from HB2.r).stored (.bool false) (.slice none 0 0)
  go_wp2
  refine bodyPost_ret (v := .tuple #[.agg #[.bool false, .slice none 0 0], .bool false]) (by simp [results, Tryz.results38, go_sem, q0, q1]) rfl ?_
  exact ⟨rfl, hfin⟩

end Go.Proofs.YtdgmjmckeeeljaaGreatDoor

namespace Go.Proofs.YtdgmjmckeeeljaaGreatDoor
open Go.RowKit

set_option maxRecDepth 10000 in
set_option maxHeartbeats 1000000 in
theorem int40_pos {w : World} {sa : Value} (x : Nat) (ha : Sl w sa (digs x)) (la : (digs x).length ≤ 256) (h : x < 9223372036854775808) :
    Calls Tryz.prog 40 #[.agg #[.bool false, sa]] w (IntRes w (x) true) := by
  have ra : ∀ W, Sl W sa (digs x) → Calls Tryz.prog 41 #[.agg #[.bool false, sa]] W fun e w' => e = .returned (.bool true) ∧ w' = W.alloc (.cells #[.bool false, sa] 27) := fun W h => by
    have := right41_any false h (by omega)
    have e : rightB false (digs x) = true := rightB_of _ _ (fun h => by cases h) la
    rwa [e] at this
  have HR := Lib.hid ra
  clear ra
  obtain ⟨aa, ca, rfl⟩ := ha.mk'
  obtain ⟨n, hn⟩ : ∃ n, n = (digs x).length := ⟨_, rfl⟩
  have hv := val_digs x
  rw [← hn] at ha ⊢
  rw [← hn] at HR
  have h2 : n ≤ 2 := by rw [hn]; exact digs_word (by omega)
  have WD : Hid (∀ W, Sl W (.slice aa n ca) (digs x) → Calls Tryz.prog 73 #[.slice aa n ca] W fun e w' => e = .returned (.int .u64 (x : Nat)) ∧ w' = W) := fun W h => by
    have := word73_any h (by omega)
    rwa [hv] at this
  have HL := Lib.hid la
  have HN := Lib.hid hn
  have hb := lss_big x h
  have HW := Lib.hid (IntWalk.wrap64_in (x : Int) (by omega))
  clear hn la hv h
  go_enter Tryz.func40, Tryz.ntmps40
  go_wp2_with (first | (go_at_call 41; refine (HR.out _ (ha.below (by go_grown))).mono ?_; rintro e w' ⟨rfl, rfl⟩) | (go_at_call 73; refine (WD.out _ (ha.below (by go_grown))).mono ?_; rintro e w' ⟨rfl, rfl⟩))
  go_returns
  refine ⟨?_, by go_grown⟩
  show Ending.returned (.tuple #[.int .i64 (wrap64 (x : Int)), .bool true]) = _
  rw [HW.out]

set_option maxRecDepth 10000 in
set_option maxHeartbeats 1000000 in
theorem int40_neg {w : World} {sa : Value} (x : Nat) (ha : Sl w sa (digs x)) (la : (digs x).length ≤ 256) (h : x ≤ 9223372036854775808) (h0 : x ≠ 0) :
    Calls Tryz.prog 40 #[.agg #[.bool true, sa]] w (IntRes w (-(x : Int)) true) := by
  have ra : ∀ W, Sl W sa (digs x) → Calls Tryz.prog 41 #[.agg #[.bool true, sa]] W fun e w' => e = .returned (.bool true) ∧ w' = W.alloc (.cells #[.bool true, sa] 27) := fun W h => by
    have := right41_any true h (by omega)
    have e : rightB true (digs x) = true := rightB_of _ _ (fun _ => h0) la
    rwa [e] at this
  have HR := Lib.hid ra
  clear ra
  obtain ⟨aa, ca, rfl⟩ := ha.mk'
  obtain ⟨n, hn⟩ : ∃ n, n = (digs x).length := ⟨_, rfl⟩
  have hv := val_digs x
  rw [← hn] at ha ⊢
  rw [← hn] at HR
  have h2 : n ≤ 2 := by rw [hn]; exact digs_word (by omega)
  have WD : Hid (∀ W, Sl W (.slice aa n ca) (digs x) → Calls Tryz.prog 73 #[.slice aa n ca] W fun e w' => e = .returned (.int .u64 (x : Nat)) ∧ w' = W) := fun W h => by
    have := word73_any h (by omega)
    rwa [hv] at this
  have HL := Lib.hid la
  have HN := Lib.hid hn
  obtain ⟨U, hU⟩ : ∃ U, U = IntKind.u64.wrap (-(x : Int)) := ⟨_, rfl⟩
  have hU2 : IntKind.i64.wrap U = -(x : Int) := by rw [hU]; simp only [IntKind.wrap_u64, IntKind.wrap_i64]; omega
  replace hU := hU.symm
  have hle : (x : Int) ≤ 9223372036854775808 := by omega
  clear hn la hv h h0
  go_enter Tryz.func40, Tryz.ntmps40
  go_wp2_with (first | (go_at_call 41; refine (HR.out _ (ha.below (by go_grown))).mono ?_; rintro e w' ⟨rfl, rfl⟩) | (go_at_call 73; refine (WD.out _ (ha.below (by go_grown))).mono ?_; rintro e w' ⟨rfl, rfl⟩))
  go_returns
  exact ⟨rfl, by go_grown⟩

set_option maxRecDepth 10000 in
set_option maxHeartbeats 1000000 in
theorem int40_long {w : World} {sa : Value} (x : Nat) (ha : Sl w sa (digs x)) (la : (digs x).length ≤ 256) (neg : Bool) (h0 : neg = true → x ≠ 0) (h : 2 < (digs x).length) :
    Calls Tryz.prog 40 #[.agg #[.bool neg, sa]] w (IntRes w (0) false) := by
  have ra : ∀ W, Sl W sa (digs x) → Calls Tryz.prog 41 #[.agg #[.bool neg, sa]] W fun e w' => e = .returned (.bool true) ∧ w' = W.alloc (.cells #[.bool neg, sa] 27) := fun W h => by
    have := right41_any neg h (by omega)
    have e : rightB neg (digs x) = true := rightB_of _ _ h0 la
    rwa [e] at this
  have HR := Lib.hid ra
  clear ra
  obtain ⟨aa, ca, rfl⟩ := ha.mk'
  obtain ⟨n, hn⟩ : ∃ n, n = (digs x).length := ⟨_, rfl⟩
  have hv := val_digs x
  rw [← hn] at ha ⊢
  rw [← hn] at HR
  have h2 : 2 < n := by rw [hn]; exact h
  clear hn la hv h
  go_enter Tryz.func40, Tryz.ntmps40
  go_wp2_with (first | (go_at_call 41; refine (HR.out _ (ha.below (by go_grown))).mono ?_; rintro e w' ⟨rfl, rfl⟩))
  go_returns
  exact ⟨rfl, by go_grown⟩

set_option maxRecDepth 10000 in
set_option maxHeartbeats 1000000 in
theorem int40_over {w : World} {sa : Value} (x : Nat) (ha : Sl w sa (digs x)) (la : (digs x).length ≤ 256) (h : 9223372036854775808 ≤ x) (h2' : (digs x).length ≤ 2) :
    Calls Tryz.prog 40 #[.agg #[.bool false, sa]] w (IntRes w (0) false) := by
  have ra : ∀ W, Sl W sa (digs x) → Calls Tryz.prog 41 #[.agg #[.bool false, sa]] W fun e w' => e = .returned (.bool true) ∧ w' = W.alloc (.cells #[.bool false, sa] 27) := fun W h => by
    have := right41_any false h (by omega)
    have e : rightB false (digs x) = true := rightB_of _ _ (fun h => by cases h) la
    rwa [e] at this
  have HR := Lib.hid ra
  clear ra
  obtain ⟨aa, ca, rfl⟩ := ha.mk'
  obtain ⟨n, hn⟩ : ∃ n, n = (digs x).length := ⟨_, rfl⟩
  have hv := val_digs x
  rw [← hn] at ha ⊢
  rw [← hn] at HR
  have h2 : n ≤ 2 := by rw [hn]; exact h2'
  have WD : Hid (∀ W, Sl W (.slice aa n ca) (digs x) → Calls Tryz.prog 73 #[.slice aa n ca] W fun e w' => e = .returned (.int .u64 (x : Nat)) ∧ w' = W) := fun W h => by
    have := word73_any h (by omega)
    rwa [hv] at this
  have HL := Lib.hid la
  have HN := Lib.hid hn
  have hb := lss_big' x h
  clear hn la hv h h2'
  go_enter Tryz.func40, Tryz.ntmps40
  go_wp2_with (first | (go_at_call 41; refine (HR.out _ (ha.below (by go_grown))).mono ?_; rintro e w' ⟨rfl, rfl⟩) | (go_at_call 73; refine (WD.out _ (ha.below (by go_grown))).mono ?_; rintro e w' ⟨rfl, rfl⟩))
  go_returns
  exact ⟨rfl, by go_grown⟩

set_option maxRecDepth 10000 in
set_option maxHeartbeats 1000000 in
theorem int40_under {w : World} {sa : Value} (x : Nat) (ha : Sl w sa (digs x)) (la : (digs x).length ≤ 256) (h : 9223372036854775808 < x) (h2' : (digs x).length ≤ 2) (h0 : x ≠ 0) :
    Calls Tryz.prog 40 #[.agg #[.bool true, sa]] w (IntRes w (0) false) := by
  have ra : ∀ W, Sl W sa (digs x) → Calls Tryz.prog 41 #[.agg #[.bool true, sa]] W fun e w' => e = .returned (.bool true) ∧ w' = W.alloc (.cells #[.bool true, sa] 27) := fun W h => by
    have := right41_any true h (by omega)
    have e : rightB true (digs x) = true := rightB_of _ _ (fun _ => h0) la
    rwa [e] at this
  have HR := Lib.hid ra
  clear ra
  obtain ⟨aa, ca, rfl⟩ := ha.mk'
  obtain ⟨n, hn⟩ : ∃ n, n = (digs x).length := ⟨_, rfl⟩
  have hv := val_digs x
  rw [← hn] at ha ⊢
  rw [← hn] at HR
  have h2 : n ≤ 2 := by rw [hn]; exact h2'
  have WD : Hid (∀ W, Sl W (.slice aa n ca) (digs x) → Calls Tryz.prog 73 #[.slice aa n ca] W fun e w' => e = .returned (.int .u64 (x : Nat)) ∧ w' = W) := fun W h => by
    have := word73_any h (by omega)
    rwa [hv] at this
  have HL := Lib.hid la
  have HN := Lib.hid hn
  have hle : ¬ (x : Int) ≤ 9223372036854775808 := by omega
  clear hn la hv h h2' h0
  go_enter Tryz.func40, Tryz.ntmps40
  go_wp2_with (first | (go_at_call 41; refine (HR.out _ (ha.below (by go_grown))).mono ?_; rintro e w' ⟨rfl, rfl⟩) | (go_at_call 73; refine (WD.out _ (ha.below (by go_grown))).mono ?_; rintro e w' ⟨rfl, rfl⟩))
  go_returns
  exact ⟨rfl, by go_grown⟩

/-- The reference's Int of a right number whose int there is. -/
theorem int40_yes {w : World} {x : Value} {z : Int} (hx : Nu w x z) (h1 : -9223372036854775808 ≤ z) (h2 : z ≤ 9223372036854775807) : Calls Tryz.prog 40 #[x] w (IntRes w z true) := by
  obtain ⟨sa, rfl, ha, la⟩ := hx
  by_cases h : 0 ≤ z
  · have e1 : decide (z < 0) = false := decide_eq_false (by omega)
    have e2 : ((z.natAbs : Nat) : Int) = z := by omega
    have := int40_pos z.natAbs ha la (by omega)
    rw [e2] at this
    rw [e1]
    exact this
  · have e1 : decide (z < 0) = true := decide_eq_true (by omega)
    have e2 : -((z.natAbs : Nat) : Int) = z := by omega
    have := int40_neg z.natAbs ha la (by omega) (by omega)
    rw [e2] at this
    rw [e1]
    exact this

/-- The reference's Int of a right number whose int there is none. -/
theorem int40_no {w : World} {x : Value} {z : Int} (hx : Nu w x z) (h : z < -9223372036854775808 ∨ 9223372036854775807 < z) : Calls Tryz.prog 40 #[x] w (IntRes w 0 false) := by
  obtain ⟨sa, rfl, ha, la⟩ := hx
  by_cases hl : 2 < (digs z.natAbs).length
  · exact int40_long z.natAbs ha la _ (fun h => by have := of_decide_eq_true h; omega) hl
  · by_cases h0 : 0 ≤ z
    · have e1 : decide (z < 0) = false := decide_eq_false (by omega)
      rw [e1]
      exact int40_over z.natAbs ha la (by omega) (by omega)
    · have e1 : decide (z < 0) = true := decide_eq_true (by omega)
      rw [e1]
      exact int40_under z.natAbs ha la (by omega) (by omega) (by omega)

set_option maxRecDepth 10000 in
set_option maxHeartbeats 1000000 in
theorem int26_not {w : World} {na : Bool} {sa : Value} {xs : List Nat} (ha : Sl w sa xs) (hla : xs.length ≤ 1000) (h : rightB na xs = false) :
    Calls Tryz.prog 26 #[.agg #[.bool na, sa]] w (IntRes w 0 false) := by
  have HR1 := Lib.hid (fun W (h : Sl W sa xs) => right_any na h (by omega))
  rw [h] at HR1
  have HA := Lib.hid ha
  clear ha h
  go_enter Tryz.func26, Tryz.ntmps26
  go_wp2_with (go_at_call 32; refine (HR1.out _ (HA.out.below (by go_grown))).mono ?_; rintro e w' ⟨rfl, rfl⟩)
  go_returns
  exact ⟨rfl, by go_grown⟩

set_option maxRecDepth 10000 in
set_option maxHeartbeats 1000000 in
theorem int40_not {w : World} {na : Bool} {sa : Value} {xs : List Nat} (ha : Sl w sa xs) (hla : xs.length ≤ 1000) (h : rightB na xs = false) :
    Calls Tryz.prog 40 #[.agg #[.bool na, sa]] w (IntRes w 0 false) := by
  have HR1 := Lib.hid (fun W (h : Sl W sa xs) => right41_any na h (by omega))
  rw [h] at HR1
  have HA := Lib.hid ha
  clear ha h
  go_enter Tryz.func40, Tryz.ntmps40
  go_wp2_with (go_at_call 41; refine (HR1.out _ (HA.out.below (by go_grown))).mono ?_; rintro e w' ⟨rfl, rfl⟩)
  go_returns
  exact ⟨rfl, by go_grown⟩

end Go.Proofs.YtdgmjmckeeeljaaGreatDoor

namespace Go.Proofs.YtdgmjmckeeeljaaGreatDoor
open Go.RowKit

/-- A number, and whether there is one. -/
def RetN (w : World) (ng : Bool) (ds : List Nat) (ok : Bool) (e : Ending) (w' : World) : Prop :=
  ∃ ao n cap, e = .returned (.tuple #[.agg #[.bool ng, .slice ao n cap], .bool ok]) ∧ Sl w' (.slice ao n cap) ds ∧ Below w.heap.size w w'

/-- What a result that fits is, or nothing. -/
def rnN (z : Int) : Bool := if fitsB z.natAbs = true then decide (z < 0) else false
def rnD (z : Int) : List Nat := if fitsB z.natAbs = true then digs z.natAbs else []

theorem NumRes.ret {w w' : World} {z : Int} {e : Ending} (h : NumRes w z e w') : RetN w (rnN z) (rnD z) (fitsB z.natAbs) e w' := by
  obtain ⟨neg, ao, n, cap, rfl, hb, h1, h2⟩ := h
  cases hf : fitsB z.natAbs
  · obtain ⟨rfl, rfl, rfl, rfl⟩ := h2 hf
    have e1 : rnN z = false := if_neg (by rw [hf]; simp)
    have e2 : rnD z = [] := if_neg (by rw [hf]; simp)
    rw [e1, e2]
    exact ⟨none, 0, 0, rfl, Sl.nil _ _ _, hb⟩
  · obtain ⟨rfl, hs⟩ := h1 hf
    have e1 : rnN z = decide (z < 0) := if_pos hf
    have e2 : rnD z = digs z.natAbs := if_pos hf
    rw [e1, e2]
    exact ⟨ao, n, cap, rfl, hs.sl, hb⟩

theorem NumNo.ret {w w' : World} {e : Ending} (h : NumNo w e w') : RetN w false [] false e w' := by
  obtain ⟨rfl, hb⟩ := h
  exact ⟨none, 0, 0, rfl, Sl.nil _ _ _, hb⟩

/-- Digits that are right are those of a number. -/
theorem of_right {neg : Bool} {ds : List Nat} (hb : Bd ds) (hr : rightB neg ds = true) : ∃ z : Int, ds = digs z.natAbs ∧ neg = decide (z < 0) ∧ ds.length ≤ 256 := by
  unfold rightB at hr
  by_cases h0 : ds = []
  · subst h0
    rw [if_pos rfl] at hr
    refine ⟨0, ?_, ?_, by simp⟩
    · rw [show Int.natAbs 0 = 0 from rfl, digs_zero]
    · cases neg
      · rfl
      · cases hr
  · rw [if_neg h0, Bool.and_eq_true, decide_eq_true_eq, decide_eq_true_eq] at hr
    have hl : ds.length ≠ 0 := fun h => h0 (List.eq_nil_of_length_eq_zero h)
    have hk := trim_stop hb ds.length (Nat.le_refl _) (by rw [List.take_length]) (.inr hr.2)
    have hd : digs (val ds) = ds := by
      have := (take_trim hb).1
      rw [← hk, List.take_length] at this
      exact this
    have hv : val ds ≠ 0 := fun h => by
      rw [h, digs_zero] at hd
      exact h0 hd.symm
    cases neg
    · refine ⟨(val ds : Int), ?_, ?_, hr.1⟩
      · rw [Int.natAbs_natCast, hd]
      · exact (decide_eq_false (by omega)).symm
    · refine ⟨-(val ds : Int), ?_, ?_, hr.1⟩
      · rw [Int.natAbs_neg, Int.natAbs_natCast, hd]
      · exact (decide_eq_true (by omega)).symm

/-- Both sides answer alike. -/
def Both (f g : FuncId) (na nb : Bool) (xs ys : List Nat) : Prop :=
  ∃ ng ds ok, ∀ W sa sb, Sl W sa xs → Sl W sb ys → Calls Tryz.prog f #[.agg #[.bool na, sa], .agg #[.bool nb, sb]] W (RetN W ng ds ok) ∧ Calls Tryz.prog g #[.agg #[.bool na, sa], .agg #[.bool nb, sb]] W (RetN W ng ds ok)

theorem nu_of {W : World} {sa : Value} {z : Int} (h : Sl W sa (digs z.natAbs)) (hl : (digs z.natAbs).length ≤ 256) : Nu W (.agg #[.bool (decide (z < 0)), sa]) z := ⟨sa, rfl, h, hl⟩

section
variable {na nb : Bool} {xs ys : List Nat}

theorem both_add (bx : Bd xs) (hy : Bd ys) (lx : xs.length ≤ 1000) (ly : ys.length ≤ 1000) : Both 28 37 na nb xs ys := by
  by_cases h : rightB na xs = true ∧ rightB nb ys = true
  · obtain ⟨z, rfl, rfl, hz⟩ := of_right bx h.1
    obtain ⟨y, rfl, rfl, hy'⟩ := of_right hy h.2
    exact ⟨_, _, _, fun W sa sb ha hb => ⟨(add_any (nu_of ha hz) (nu_of hb hy')).mono fun _ _ h => h.ret, (add37_any (nu_of ha hz) (nu_of hb hy')).mono fun _ _ h => h.ret⟩⟩
  · have h' : rightB na xs = false ∨ rightB nb ys = false := by
      cases h1 : rightB na xs
      · exact .inl rfl
      · cases h2 : rightB nb ys
        · exact .inr rfl
        · exact absurd ⟨h1, h2⟩ h
    exact ⟨_, _, _, fun W sa sb ha hb => ⟨(add28_no ha hb lx ly h').mono fun _ _ h => h.ret, (add37_no ha hb lx ly h').mono fun _ _ h => h.ret⟩⟩

theorem both_mul (bx : Bd xs) (hy : Bd ys) (lx : xs.length ≤ 1000) (ly : ys.length ≤ 1000) : Both 30 39 na nb xs ys := by
  by_cases h : rightB na xs = true ∧ rightB nb ys = true
  · obtain ⟨z, rfl, rfl, hz⟩ := of_right bx h.1
    obtain ⟨y, rfl, rfl, hy'⟩ := of_right hy h.2
    exact ⟨_, _, _, fun W sa sb ha hb => ⟨(mul_any (nu_of ha hz) (nu_of hb hy')).mono fun _ _ h => h.ret, (mul39_any (nu_of ha hz) (nu_of hb hy')).mono fun _ _ h => h.ret⟩⟩
  · have h' : rightB na xs = false ∨ rightB nb ys = false := by
      cases h1 : rightB na xs
      · exact .inl rfl
      · cases h2 : rightB nb ys
        · exact .inr rfl
        · exact absurd ⟨h1, h2⟩ h
    exact ⟨_, _, _, fun W sa sb ha hb => ⟨(mul30_no ha hb lx ly h').mono fun _ _ h => h.ret, (mul39_no ha hb lx ly h').mono fun _ _ h => h.ret⟩⟩

theorem both_sub (bx : Bd xs) (hy : Bd ys) (lx : xs.length ≤ 1000) (ly : ys.length ≤ 1000) : Both 29 38 na nb xs ys := by
  by_cases h : rightB na xs = true ∧ rightB nb ys = true
  · obtain ⟨z, rfl, rfl, hz⟩ := of_right bx h.1
    obtain ⟨y, rfl, rfl, hy'⟩ := of_right hy h.2
    exact ⟨_, _, _, fun W sa sb ha hb => ⟨(sub_any (nu_of ha hz) (nu_of hb hy')).mono fun _ _ h => h.ret, (sub38_any (nu_of ha hz) (nu_of hb hy')).mono fun _ _ h => h.ret⟩⟩
  · cases h2 : rightB nb ys
    · exact ⟨_, _, _, fun W sa sb ha hb => ⟨(sub29_no ha hb lx ly (.inr h2)).mono fun _ _ h => h.ret, (sub38_nob hb ly h2).mono fun _ _ h => h.ret⟩⟩
    · have h1 : rightB na xs = false := by
        cases h1 : rightB na xs
        · rfl
        · exact absurd ⟨h1, h2⟩ h
      have l2 : ys.length ≤ 256 := (of_right hy h2).choose_spec.2.2
      exact ⟨_, _, _, fun W sa sb ha hb => ⟨(sub29_no ha hb lx ly (.inl h1)).mono fun _ _ h => h.ret, (sub38_noa ha hb lx l2 h1 h2).mono fun _ _ h => h.ret⟩⟩

theorem both_int (bx : Bd xs) (lx : xs.length ≤ 1000) : ∃ (z : Int) (ok : Bool), ∀ W sa, Sl W sa xs → Calls Tryz.prog 26 #[.agg #[.bool na, sa]] W (IntRes W z ok) ∧ Calls Tryz.prog 40 #[.agg #[.bool na, sa]] W (IntRes W z ok) := by
  cases h : rightB na xs
  · exact ⟨_, _, fun W sa ha => ⟨int26_not ha lx h, int40_not ha lx h⟩⟩
  · obtain ⟨z, rfl, rfl, hz⟩ := of_right bx h
    by_cases hi : -9223372036854775808 ≤ z ∧ z ≤ 9223372036854775807
    · exact ⟨_, _, fun W sa ha => ⟨int_yes (nu_of ha hz) hi.1 hi.2, int40_yes (nu_of ha hz) hi.1 hi.2⟩⟩
    · have hj : z < -9223372036854775808 ∨ 9223372036854775807 < z := by omega
      exact ⟨_, _, fun W sa ha => ⟨int_no (nu_of ha hz) hj, int40_no (nu_of ha hz) hj⟩⟩

theorem both_cmp (bx : Bd xs) (hy : Bd ys) (lx : xs.length ≤ 1000) (ly : ys.length ≤ 1000) : ∃ c : Int, ∀ W sa sb, Sl W sa xs → Sl W sb ys →
    Calls Tryz.prog 31 #[.agg #[.bool na, sa], .agg #[.bool nb, sb]] W (fun e w' => e = .returned (.int .i64 c) ∧ Below W.heap.size W w') ∧ Calls Tryz.prog 43 #[.agg #[.bool na, sa], .agg #[.bool nb, sb]] W (fun e w' => e = .returned (.int .i64 c) ∧ Below W.heap.size W w') := by
  by_cases h : rightB na xs = true ∧ rightB nb ys = true
  · obtain ⟨z, rfl, rfl, hz⟩ := of_right bx h.1
    obtain ⟨y, rfl, rfl, hy'⟩ := of_right hy h.2
    exact ⟨_, fun W sa sb ha hb => ⟨cmp_any (nu_of ha hz) (nu_of hb hy'), cmp43_any (nu_of ha hz) (nu_of hb hy')⟩⟩
  · have h' : rightB na xs = false ∨ rightB nb ys = false := by
      cases h1 : rightB na xs
      · exact .inl rfl
      · cases h2 : rightB nb ys
        · exact .inr rfl
        · exact absurd ⟨h1, h2⟩ h
    exact ⟨_, fun W sa sb ha hb => ⟨cmp31_no ha hb lx ly h', cmp43_no ha hb lx ly h'⟩⟩
end

end Go.Proofs.YtdgmjmckeeeljaaGreatDoor

namespace Go.Proofs.YtdgmjmckeeeljaaGreatDoor
open Go.RowKit

/-- A box of a number. -/
def Bk (W : World) (g : Nat) (u v : Value) : Prop := W.heap[g]? = some (.cells #[u, v] 27 (0, 0))
theorem Bk.below {W W1 : World} {g : Nat} {u v : Value} (h : Bk W g u v) (hb : Below W.heap.size W W1) : Bk W1 g u v := (hb.block g (Array.getElem?_eq_some_iff.1 h).1).trans h
theorem Bk.cells {W : World} {g : Nat} {u v : Value} (h : Bk W g u v) : W.cell? ⟨g, 0, none⟩ = some u ∧ W.cell? ⟨g, 1, none⟩ = some v :=
  ⟨by rw [cell_of_row W _ _ _ _ _ h]; rfl, by rw [cell_of_row W _ _ _ _ _ h]; rfl⟩
theorem carryB {w W W' : World} (h : Hid (Below w.heap.size w W)) (hb : Below W.heap.size W W') : Below w.heap.size w W' := h.out.trans (hb.mono h.out.size)
theorem stepH1 {B : Nat} {w W W' : World} (h : Hid (Below B w W)) (hB : Hid (B ≤ W.heap.size)) (hb : Below W.heap.size W W') : Hid (Below B w W') ∧ Hid (B ≤ W'.heap.size) := ⟨h.out.trans (hb.mono hB.out), Nat.le_trans hB.out hb.size⟩
theorem stepHD {B : Nat} {w W W' : World} (h : Hid (Below B w W)) (hB : Hid (B ≤ W.heap.size)) (hb : Below W.drew.heap.size W.drew W') : Hid (Below B w W') ∧ Hid (B ≤ W'.heap.size) :=
  stepH1 h hB ((show Below W.heap.size W W.drew from ⟨rfl, rfl, rfl, Nat.le_refl _, fun _ _ => rfl⟩).trans hb)
theorem stepG {B : Nat} {w W V W' : World} (h : Hid (Below B w W)) (hB : Hid (B ≤ W.heap.size)) (hv : Below W.heap.size W V) (hb : Below V.heap.size V W') : Hid (Below B w W') ∧ Hid (B ≤ W'.heap.size) := stepH1 h hB (hv.trans (hb.mono hv.size))

theorem same_eq {w : World} {n : Bool} {s1 s2 : Value} {ds : List Nat} (h1 : Sl w s1 ds) (h2 : Sl w s2 ds) : Calls Tryz.prog 19 #[.agg #[.bool n, s1], .agg #[.bool n, s2]] w (SameRes w true) := by
  have h := same_any n n h1 h2
  rwa [decide_eq_true ⟨rfl, rfl⟩] at h

set_option maxRecDepth 100000 in
set_option maxHeartbeats 4000000 in
theorem adds_any {w : World} {na nb : Bool} {sa sb : Value} {xs ys : List Nat} (ha : Sl w sa xs) (hb : Sl w sb ys) (lx : xs.length ≤ 1000) (ly : ys.length ≤ 1000) :
    Calls Tryz.prog 14 #[.agg #[.bool na, sa], .agg #[.bool nb, sb]] w fun e w' => e = .returned (.bool true) ∧ Below w.heap.size w w' := by
  obtain ⟨n1, d1, o1, hadd⟩ := both_add (na := na) (nb := nb) ha.bd hb.bd lx ly
  obtain ⟨n2, d2, o2, hsub⟩ := both_sub (na := na) (nb := nb) ha.bd hb.bd lx ly
  obtain ⟨n3, d3, o3, hmul⟩ := both_mul (na := na) (nb := nb) ha.bd hb.bd lx ly
  obtain ⟨zi, oi, hint⟩ := both_int (na := na) ha.bd lx
  obtain ⟨cc, hcmp⟩ := both_cmp (na := na) (nb := nb) ha.bd hb.bd lx ly
  have HADD := Lib.hid hadd
  have HSUB := Lib.hid hsub
  have HMUL := Lib.hid hmul
  have HINT := Lib.hid hint
  have HCMP := Lib.hid hcmp
  have HR : Hid (∀ W, Sl W sa xs → Calls Tryz.prog 32 #[.agg #[.bool na, sa]] W (fun e w' => e = .returned (.bool (rightB na xs)) ∧ Below W.heap.size W w') ∧ Calls Tryz.prog 41 #[.agg #[.bool na, sa]] W (fun e w' => e = .returned (.bool (rightB na xs)) ∧ Below W.heap.size W w')) :=
    Lib.hid fun W h => ⟨(right_any na h (by omega)).mono fun e w' ⟨h1, h2⟩ => ⟨h1, by rw [h2]; go_grown⟩, (right41_any na h (by omega)).mono fun e w' ⟨h1, h2⟩ => ⟨h1, by rw [h2]; go_grown⟩⟩
  have HBI : Hid (∀ W, Sl W sa xs → Calls Tryz.prog 33 #[.agg #[.bool na, sa]] W (fun e w' => e = .returned (.int .i64 (bitsB na xs : Nat)) ∧ Below W.heap.size W w') ∧ Calls Tryz.prog 42 #[.agg #[.bool na, sa]] W (fun e w' => e = .returned (.int .i64 (bitsB na xs : Nat)) ∧ Below W.heap.size W w')) :=
    Lib.hid fun W h => ⟨bits_any na h (by omega), bits42_any na h lx⟩
  revert HR HBI
  generalize rightB na xs = rb
  generalize bitsB na xs = kb
  intro HR HBI
  clear hadd hsub hmul hint hcmp lx ly
  have HBW : Hid (Below w.heap.size w ((w.alloc (.cells #[.bool na, sa] 27)).alloc (.cells #[.bool nb, sb] 27))) := Lib.hid (by go_grown)
  have HA : Hid (Bk ((w.alloc (.cells #[.bool na, sa] 27)).alloc (.cells #[.bool nb, sb] 27)) w.heap.size (.bool na) sa) := Lib.hid ((Below.heap_alloc _ _ _ (by simp)).trans (heap_alloc_new _ _))
  have HB : Hid (Bk ((w.alloc (.cells #[.bool na, sa] 27)).alloc (.cells #[.bool nb, sb] 27)) (w.heap.size + 1) (.bool nb) sb) := Lib.hid (by
    have := heap_alloc_new (w.alloc (.cells #[.bool na, sa] 27)) (.cells #[.bool nb, sb] 27)
    rw [World.size_alloc] at this
    exact this)
  have SA := Lib.hid (ha.below HBW.out)
  have SB := Lib.hid (hb.below HBW.out)
  clear ha hb
  go_enter Tryz.func14, Tryz.ntmps14
  go_upto_region 1 with fail
  revert SB
  revert SA
  revert HB
  revert HA
  revert HBW
  generalize ((w.alloc (.cells #[.bool na, sa] 27)).alloc (.cells #[.bool nb, sb] 27)) = W0
  intro HBW HA HB SA SB
  obtain ⟨c0, c1⟩ := HA.out.cells
  obtain ⟨c2, c3⟩ := HB.out.cells
  go_upto_region 2 with (go_at_call 28; refine (HADD.out _ _ _ SA.out SB.out).1.mono ?_; rintro e wn ⟨a1, m1, k1, rfl, hs, hb⟩; have Q1 := Lib.hid hs; have HA := Lib.hid (HA.out.below hb); have HB := Lib.hid (HB.out.below hb); have SA := Lib.hid (SA.out.below hb); have SB := Lib.hid (SB.out.below hb); have HBW := Lib.hid (HBW.out.trans (hb.mono HBW.out.size)); clear hb; clear hs)
  clear c0 c1 c2 c3
  have hb : Below wn.heap.size wn (wn.alloc (.cells #[.bool n1, .slice a1 m1 k1] 27)) := by go_grown
  have HA := Lib.hid (HA.out.below hb)
  have HB := Lib.hid (HB.out.below hb)
  have SA := Lib.hid (SA.out.below hb)
  have SB := Lib.hid (SB.out.below hb)
  have Q1 := Lib.hid (Q1.out.below hb)
  have HBW := Lib.hid (HBW.out.trans (hb.mono HBW.out.size))
  have R1 : Hid (Bk (wn.alloc (.cells #[.bool n1, .slice a1 m1 k1] 27)) wn.heap.size (.bool n1) (.slice a1 m1 k1)) := Lib.hid (heap_alloc_new _ _)
  clear hb
  revert HA
  revert HB
  revert SA
  revert SB
  revert Q1
  revert R1
  revert HBW
  generalize (wn.alloc (.cells #[.bool n1, .slice a1 m1 k1] 27)) = W1
  generalize wn.heap.size = g1
  intro HBW R1 Q1 SB SA HB HA
  obtain ⟨c0, c1⟩ := HA.out.cells
  obtain ⟨c2, c3⟩ := HB.out.cells
  go_upto_region 3 with (go_at_call 37; refine (HADD.out _ _ _ SA.out SB.out).2.mono ?_; rintro e wn ⟨a2, m2, k2, rfl, hs, hb⟩; have Q2 := Lib.hid hs; have HA := Lib.hid (HA.out.below hb); have HB := Lib.hid (HB.out.below hb); have SA := Lib.hid (SA.out.below hb); have SB := Lib.hid (SB.out.below hb); have Q1 := Lib.hid (Q1.out.below hb); have R1 := Lib.hid (R1.out.below hb); have HBW := Lib.hid (HBW.out.trans (hb.mono HBW.out.size)); clear hb; clear hs)
  clear c0 c1 c2 c3
  have hb : Below wn.heap.size wn (wn.alloc (.cells #[.bool n1, .slice a2 m2 k2] 27)) := by go_grown
  have HA := Lib.hid (HA.out.below hb)
  have HB := Lib.hid (HB.out.below hb)
  have SA := Lib.hid (SA.out.below hb)
  have SB := Lib.hid (SB.out.below hb)
  have Q1 := Lib.hid (Q1.out.below hb)
  have R1 := Lib.hid (R1.out.below hb)
  have Q2 := Lib.hid (Q2.out.below hb)
  have HBW := Lib.hid (HBW.out.trans (hb.mono HBW.out.size))
  have R2 : Hid (Bk (wn.alloc (.cells #[.bool n1, .slice a2 m2 k2] 27)) wn.heap.size (.bool n1) (.slice a2 m2 k2)) := Lib.hid (heap_alloc_new _ _)
  clear hb
  revert HA
  revert HB
  revert SA
  revert SB
  revert Q1
  revert R1
  revert Q2
  revert R2
  revert HBW
  generalize (wn.alloc (.cells #[.bool n1, .slice a2 m2 k2] 27)) = W2
  generalize wn.heap.size = g2
  intro HBW R2 Q2 R1 Q1 SB SA HB HA
  obtain ⟨c0, c1⟩ := HA.out.cells
  obtain ⟨c2, c3⟩ := HB.out.cells
  go_upto_region 4 with (go_at_call 29; refine (HSUB.out _ _ _ SA.out SB.out).1.mono ?_; rintro e wn ⟨a3, m3, k3, rfl, hs, hb⟩; have Q3 := Lib.hid hs; have HA := Lib.hid (HA.out.below hb); have HB := Lib.hid (HB.out.below hb); have SA := Lib.hid (SA.out.below hb); have SB := Lib.hid (SB.out.below hb); have Q1 := Lib.hid (Q1.out.below hb); have R1 := Lib.hid (R1.out.below hb); have Q2 := Lib.hid (Q2.out.below hb); have R2 := Lib.hid (R2.out.below hb); have HBW := Lib.hid (HBW.out.trans (hb.mono HBW.out.size)); clear hb; clear hs)
  clear c0 c1 c2 c3
  have hb : Below wn.heap.size wn (wn.alloc (.cells #[.bool n2, .slice a3 m3 k3] 27)) := by go_grown
  have HA := Lib.hid (HA.out.below hb)
  have HB := Lib.hid (HB.out.below hb)
  have SA := Lib.hid (SA.out.below hb)
  have SB := Lib.hid (SB.out.below hb)
  have Q1 := Lib.hid (Q1.out.below hb)
  have R1 := Lib.hid (R1.out.below hb)
  have Q2 := Lib.hid (Q2.out.below hb)
  have R2 := Lib.hid (R2.out.below hb)
  have Q3 := Lib.hid (Q3.out.below hb)
  have HBW := Lib.hid (HBW.out.trans (hb.mono HBW.out.size))
  have R3 : Hid (Bk (wn.alloc (.cells #[.bool n2, .slice a3 m3 k3] 27)) wn.heap.size (.bool n2) (.slice a3 m3 k3)) := Lib.hid (heap_alloc_new _ _)
  clear hb
  revert HA
  revert HB
  revert SA
  revert SB
  revert Q1
  revert R1
  revert Q2
  revert R2
  revert Q3
  revert R3
  revert HBW
  generalize (wn.alloc (.cells #[.bool n2, .slice a3 m3 k3] 27)) = W3
  generalize wn.heap.size = g3
  intro HBW R3 Q3 R2 Q2 R1 Q1 SB SA HB HA
  obtain ⟨c0, c1⟩ := HA.out.cells
  obtain ⟨c2, c3⟩ := HB.out.cells
  go_upto_region 5 with (go_at_call 38; refine (HSUB.out _ _ _ SA.out SB.out).2.mono ?_; rintro e wn ⟨a4, m4, k4, rfl, hs, hb⟩; have Q4 := Lib.hid hs; have HA := Lib.hid (HA.out.below hb); have HB := Lib.hid (HB.out.below hb); have SA := Lib.hid (SA.out.below hb); have SB := Lib.hid (SB.out.below hb); have Q1 := Lib.hid (Q1.out.below hb); have R1 := Lib.hid (R1.out.below hb); have Q2 := Lib.hid (Q2.out.below hb); have R2 := Lib.hid (R2.out.below hb); have Q3 := Lib.hid (Q3.out.below hb); have R3 := Lib.hid (R3.out.below hb); have HBW := Lib.hid (HBW.out.trans (hb.mono HBW.out.size)); clear hb; clear hs)
  clear c0 c1 c2 c3
  have hb : Below wn.heap.size wn (wn.alloc (.cells #[.bool n2, .slice a4 m4 k4] 27)) := by go_grown
  have HA := Lib.hid (HA.out.below hb)
  have HB := Lib.hid (HB.out.below hb)
  have SA := Lib.hid (SA.out.below hb)
  have SB := Lib.hid (SB.out.below hb)
  have Q1 := Lib.hid (Q1.out.below hb)
  have R1 := Lib.hid (R1.out.below hb)
  have Q2 := Lib.hid (Q2.out.below hb)
  have R2 := Lib.hid (R2.out.below hb)
  have Q3 := Lib.hid (Q3.out.below hb)
  have R3 := Lib.hid (R3.out.below hb)
  have Q4 := Lib.hid (Q4.out.below hb)
  have HBW := Lib.hid (HBW.out.trans (hb.mono HBW.out.size))
  have R4 : Hid (Bk (wn.alloc (.cells #[.bool n2, .slice a4 m4 k4] 27)) wn.heap.size (.bool n2) (.slice a4 m4 k4)) := Lib.hid (heap_alloc_new _ _)
  clear hb
  revert HA
  revert HB
  revert SA
  revert SB
  revert Q1
  revert R1
  revert Q2
  revert R2
  revert Q3
  revert R3
  revert Q4
  revert R4
  revert HBW
  generalize (wn.alloc (.cells #[.bool n2, .slice a4 m4 k4] 27)) = W4
  generalize wn.heap.size = g4
  intro HBW R4 Q4 R3 Q3 R2 Q2 R1 Q1 SB SA HB HA
  obtain ⟨c0, c1⟩ := HA.out.cells
  obtain ⟨c2, c3⟩ := HB.out.cells
  go_upto_region 6 with (go_at_call 30; refine (HMUL.out _ _ _ SA.out SB.out).1.mono ?_; rintro e wn ⟨a5, m5, k5, rfl, hs, hb⟩; have Q5 := Lib.hid hs; have HA := Lib.hid (HA.out.below hb); have HB := Lib.hid (HB.out.below hb); have SA := Lib.hid (SA.out.below hb); have SB := Lib.hid (SB.out.below hb); have Q1 := Lib.hid (Q1.out.below hb); have R1 := Lib.hid (R1.out.below hb); have Q2 := Lib.hid (Q2.out.below hb); have R2 := Lib.hid (R2.out.below hb); have Q3 := Lib.hid (Q3.out.below hb); have R3 := Lib.hid (R3.out.below hb); have Q4 := Lib.hid (Q4.out.below hb); have R4 := Lib.hid (R4.out.below hb); have HBW := Lib.hid (HBW.out.trans (hb.mono HBW.out.size)); clear hb; clear hs)
  clear c0 c1 c2 c3
  have hb : Below wn.heap.size wn (wn.alloc (.cells #[.bool n3, .slice a5 m5 k5] 27)) := by go_grown
  have HA := Lib.hid (HA.out.below hb)
  have HB := Lib.hid (HB.out.below hb)
  have SA := Lib.hid (SA.out.below hb)
  have SB := Lib.hid (SB.out.below hb)
  have Q1 := Lib.hid (Q1.out.below hb)
  have R1 := Lib.hid (R1.out.below hb)
  have Q2 := Lib.hid (Q2.out.below hb)
  have R2 := Lib.hid (R2.out.below hb)
  have Q3 := Lib.hid (Q3.out.below hb)
  have R3 := Lib.hid (R3.out.below hb)
  have Q4 := Lib.hid (Q4.out.below hb)
  have R4 := Lib.hid (R4.out.below hb)
  have Q5 := Lib.hid (Q5.out.below hb)
  have HBW := Lib.hid (HBW.out.trans (hb.mono HBW.out.size))
  have R5 : Hid (Bk (wn.alloc (.cells #[.bool n3, .slice a5 m5 k5] 27)) wn.heap.size (.bool n3) (.slice a5 m5 k5)) := Lib.hid (heap_alloc_new _ _)
  clear hb
  revert HA
  revert HB
  revert SA
  revert SB
  revert Q1
  revert R1
  revert Q2
  revert R2
  revert Q3
  revert R3
  revert Q4
  revert R4
  revert Q5
  revert R5
  revert HBW
  generalize (wn.alloc (.cells #[.bool n3, .slice a5 m5 k5] 27)) = W5
  generalize wn.heap.size = g5
  intro HBW R5 Q5 R4 Q4 R3 Q3 R2 Q2 R1 Q1 SB SA HB HA
  obtain ⟨c0, c1⟩ := HA.out.cells
  obtain ⟨c2, c3⟩ := HB.out.cells
  go_upto_region 7 with (go_at_call 39; refine (HMUL.out _ _ _ SA.out SB.out).2.mono ?_; rintro e wn ⟨a6, m6, k6, rfl, hs, hb⟩; have Q6 := Lib.hid hs; have HA := Lib.hid (HA.out.below hb); have HB := Lib.hid (HB.out.below hb); have SA := Lib.hid (SA.out.below hb); have SB := Lib.hid (SB.out.below hb); have Q1 := Lib.hid (Q1.out.below hb); have R1 := Lib.hid (R1.out.below hb); have Q2 := Lib.hid (Q2.out.below hb); have R2 := Lib.hid (R2.out.below hb); have Q3 := Lib.hid (Q3.out.below hb); have R3 := Lib.hid (R3.out.below hb); have Q4 := Lib.hid (Q4.out.below hb); have R4 := Lib.hid (R4.out.below hb); have Q5 := Lib.hid (Q5.out.below hb); have R5 := Lib.hid (R5.out.below hb); have HBW := Lib.hid (HBW.out.trans (hb.mono HBW.out.size)); clear hb; clear hs)
  clear c0 c1 c2 c3
  have hb : Below wn.heap.size wn (wn.alloc (.cells #[.bool n3, .slice a6 m6 k6] 27)) := by go_grown
  have HA := Lib.hid (HA.out.below hb)
  have HB := Lib.hid (HB.out.below hb)
  have SA := Lib.hid (SA.out.below hb)
  have SB := Lib.hid (SB.out.below hb)
  have Q1 := Lib.hid (Q1.out.below hb)
  have R1 := Lib.hid (R1.out.below hb)
  have Q2 := Lib.hid (Q2.out.below hb)
  have R2 := Lib.hid (R2.out.below hb)
  have Q3 := Lib.hid (Q3.out.below hb)
  have R3 := Lib.hid (R3.out.below hb)
  have Q4 := Lib.hid (Q4.out.below hb)
  have R4 := Lib.hid (R4.out.below hb)
  have Q5 := Lib.hid (Q5.out.below hb)
  have R5 := Lib.hid (R5.out.below hb)
  have Q6 := Lib.hid (Q6.out.below hb)
  have HBW := Lib.hid (HBW.out.trans (hb.mono HBW.out.size))
  have R6 : Hid (Bk (wn.alloc (.cells #[.bool n3, .slice a6 m6 k6] 27)) wn.heap.size (.bool n3) (.slice a6 m6 k6)) := Lib.hid (heap_alloc_new _ _)
  clear hb
  revert HA
  revert HB
  revert SA
  revert SB
  revert Q1
  revert R1
  revert Q2
  revert R2
  revert Q3
  revert R3
  revert Q4
  revert R4
  revert Q5
  revert R5
  revert Q6
  revert R6
  revert HBW
  generalize (wn.alloc (.cells #[.bool n3, .slice a6 m6 k6] 27)) = W6
  generalize wn.heap.size = g6
  intro HBW R6 Q6 R5 Q5 R4 Q4 R3 Q3 R2 Q2 R1 Q1 SB SA HB HA
  obtain ⟨c0, c1⟩ := HA.out.cells
  go_upto_region 8 with (go_at_call 26; refine (HINT.out _ _ SA.out).1.mono ?_; rintro e wn7 ⟨rfl, hb⟩; have HA := Lib.hid (HA.out.below hb); have HB := Lib.hid (HB.out.below hb); have SA := Lib.hid (SA.out.below hb); have SB := Lib.hid (SB.out.below hb); have Q1 := Lib.hid (Q1.out.below hb); have R1 := Lib.hid (R1.out.below hb); have Q2 := Lib.hid (Q2.out.below hb); have R2 := Lib.hid (R2.out.below hb); have Q3 := Lib.hid (Q3.out.below hb); have R3 := Lib.hid (R3.out.below hb); have Q4 := Lib.hid (Q4.out.below hb); have R4 := Lib.hid (R4.out.below hb); have Q5 := Lib.hid (Q5.out.below hb); have R5 := Lib.hid (R5.out.below hb); have Q6 := Lib.hid (Q6.out.below hb); have R6 := Lib.hid (R6.out.below hb); have HBW := Lib.hid (HBW.out.trans (hb.mono HBW.out.size)); clear hb)
  clear c0 c1
  obtain ⟨c0, c1⟩ := HA.out.cells
  go_upto_region 9 with (go_at_call 40; refine (HINT.out _ _ SA.out).2.mono ?_; rintro e wn8 ⟨rfl, hb⟩; have HA := Lib.hid (HA.out.below hb); have HB := Lib.hid (HB.out.below hb); have SA := Lib.hid (SA.out.below hb); have SB := Lib.hid (SB.out.below hb); have Q1 := Lib.hid (Q1.out.below hb); have R1 := Lib.hid (R1.out.below hb); have Q2 := Lib.hid (Q2.out.below hb); have R2 := Lib.hid (R2.out.below hb); have Q3 := Lib.hid (Q3.out.below hb); have R3 := Lib.hid (R3.out.below hb); have Q4 := Lib.hid (Q4.out.below hb); have R4 := Lib.hid (R4.out.below hb); have Q5 := Lib.hid (Q5.out.below hb); have R5 := Lib.hid (R5.out.below hb); have Q6 := Lib.hid (Q6.out.below hb); have R6 := Lib.hid (R6.out.below hb); have HBW := Lib.hid (HBW.out.trans (hb.mono HBW.out.size)); clear hb)
  clear c0 c1
  go_upto_region 11 with fail
  obtain ⟨p1, q1⟩ := R1.out.cells
  obtain ⟨p2, q2⟩ := R2.out.cells
  obtain ⟨p3, q3⟩ := R3.out.cells
  obtain ⟨p4, q4⟩ := R4.out.cells
  obtain ⟨p5, q5⟩ := R5.out.cells
  obtain ⟨p6, q6⟩ := R6.out.cells
  go_upto_region 12 with (first | (go_at_call_of 19 (Value.agg #[.bool n1, .slice a1 m1 k1]); refine (same_eq Q1.out Q2.out).mono ?_; rintro e ws ⟨rfl, hb⟩; have HA := Lib.hid (HA.out.below hb); have HB := Lib.hid (HB.out.below hb); have SA := Lib.hid (SA.out.below hb); have SB := Lib.hid (SB.out.below hb); have Q1 := Lib.hid (Q1.out.below hb); have R1 := Lib.hid (R1.out.below hb); have Q2 := Lib.hid (Q2.out.below hb); have R2 := Lib.hid (R2.out.below hb); have Q3 := Lib.hid (Q3.out.below hb); have R3 := Lib.hid (R3.out.below hb); have Q4 := Lib.hid (Q4.out.below hb); have R4 := Lib.hid (R4.out.below hb); have Q5 := Lib.hid (Q5.out.below hb); have R5 := Lib.hid (R5.out.below hb); have Q6 := Lib.hid (Q6.out.below hb); have R6 := Lib.hid (R6.out.below hb); have HBW := Lib.hid (HBW.out.trans (hb.mono HBW.out.size)); clear hb; obtain ⟨p1, q1⟩ := R1.out.cells; obtain ⟨p2, q2⟩ := R2.out.cells; obtain ⟨p3, q3⟩ := R3.out.cells; obtain ⟨p4, q4⟩ := R4.out.cells; obtain ⟨p5, q5⟩ := R5.out.cells; obtain ⟨p6, q6⟩ := R6.out.cells) | (go_at_call_of 19 (Value.agg #[.bool n2, .slice a3 m3 k3]); refine (same_eq Q3.out Q4.out).mono ?_; rintro e ws ⟨rfl, hb⟩; have HA := Lib.hid (HA.out.below hb); have HB := Lib.hid (HB.out.below hb); have SA := Lib.hid (SA.out.below hb); have SB := Lib.hid (SB.out.below hb); have Q1 := Lib.hid (Q1.out.below hb); have R1 := Lib.hid (R1.out.below hb); have Q2 := Lib.hid (Q2.out.below hb); have R2 := Lib.hid (R2.out.below hb); have Q3 := Lib.hid (Q3.out.below hb); have R3 := Lib.hid (R3.out.below hb); have Q4 := Lib.hid (Q4.out.below hb); have R4 := Lib.hid (R4.out.below hb); have Q5 := Lib.hid (Q5.out.below hb); have R5 := Lib.hid (R5.out.below hb); have Q6 := Lib.hid (Q6.out.below hb); have R6 := Lib.hid (R6.out.below hb); have HBW := Lib.hid (HBW.out.trans (hb.mono HBW.out.size)); clear hb; obtain ⟨p1, q1⟩ := R1.out.cells; obtain ⟨p2, q2⟩ := R2.out.cells; obtain ⟨p3, q3⟩ := R3.out.cells; obtain ⟨p4, q4⟩ := R4.out.cells; obtain ⟨p5, q5⟩ := R5.out.cells; obtain ⟨p6, q6⟩ := R6.out.cells) | (go_at_call_of 19 (Value.agg #[.bool n3, .slice a5 m5 k5]); refine (same_eq Q5.out Q6.out).mono ?_; rintro e ws ⟨rfl, hb⟩; have HA := Lib.hid (HA.out.below hb); have HB := Lib.hid (HB.out.below hb); have SA := Lib.hid (SA.out.below hb); have SB := Lib.hid (SB.out.below hb); have Q1 := Lib.hid (Q1.out.below hb); have R1 := Lib.hid (R1.out.below hb); have Q2 := Lib.hid (Q2.out.below hb); have R2 := Lib.hid (R2.out.below hb); have Q3 := Lib.hid (Q3.out.below hb); have R3 := Lib.hid (R3.out.below hb); have Q4 := Lib.hid (Q4.out.below hb); have R4 := Lib.hid (R4.out.below hb); have Q5 := Lib.hid (Q5.out.below hb); have R5 := Lib.hid (R5.out.below hb); have Q6 := Lib.hid (Q6.out.below hb); have R6 := Lib.hid (R6.out.below hb); have HBW := Lib.hid (HBW.out.trans (hb.mono HBW.out.size)); clear hb; obtain ⟨p1, q1⟩ := R1.out.cells; obtain ⟨p2, q2⟩ := R2.out.cells; obtain ⟨p3, q3⟩ := R3.out.cells; obtain ⟨p4, q4⟩ := R4.out.cells; obtain ⟨p5, q5⟩ := R5.out.cells; obtain ⟨p6, q6⟩ := R6.out.cells))
  have HQ : Hid (Below ws.heap.size ws ws) := Lib.hid (Below.refl _ _)
  have HZ : Hid (ws.heap.size ≤ ws.heap.size) := Lib.hid (Nat.le_refl _)
  have HKP : Hid (∀ w', Below ws.heap.size ws w' → w'.cell? ⟨w.heap.size, 0, none⟩ = some (.bool na) ∧ w'.cell? ⟨w.heap.size, 1, none⟩ = some sa ∧ w'.cell? ⟨w.heap.size + 1, 0, none⟩ = some (.bool nb) ∧ w'.cell? ⟨w.heap.size + 1, 1, none⟩ = some sb) := Lib.hid (fun w' h => ⟨(HA.out.below h).cells.1, (HA.out.below h).cells.2, (HB.out.below h).cells.1, (HB.out.below h).cells.2⟩)
  have C32 : Hid (∀ W, Below ws.heap.size ws W → Calls Tryz.prog 32 #[.agg #[.bool na, sa]] W (fun e w' => e = .returned (.bool rb) ∧ Below W.heap.size W w')) := Lib.hid fun W h => (HR.out W (SA.out.below h)).1
  have C41 : Hid (∀ W, Below ws.heap.size ws W → Calls Tryz.prog 41 #[.agg #[.bool na, sa]] W (fun e w' => e = .returned (.bool rb) ∧ Below W.heap.size W w')) := Lib.hid fun W h => (HR.out W (SA.out.below h)).2
  have C33 : Hid (∀ W, Below ws.heap.size ws W → Calls Tryz.prog 33 #[.agg #[.bool na, sa]] W (fun e w' => e = .returned (.int .i64 (kb : Nat)) ∧ Below W.heap.size W w')) := Lib.hid fun W h => (HBI.out W (SA.out.below h)).1
  have C42 : Hid (∀ W, Below ws.heap.size ws W → Calls Tryz.prog 42 #[.agg #[.bool na, sa]] W (fun e w' => e = .returned (.int .i64 (kb : Nat)) ∧ Below W.heap.size W w')) := Lib.hid fun W h => (HBI.out W (SA.out.below h)).2
  have C31 : Hid (∀ W, Below ws.heap.size ws W → Calls Tryz.prog 31 #[.agg #[.bool na, sa], .agg #[.bool nb, sb]] W (fun e w' => e = .returned (.int .i64 cc) ∧ Below W.heap.size W w')) := Lib.hid fun W h => (HCMP.out W _ _ (SA.out.below h) (SB.out.below h)).1
  have C43 : Hid (∀ W, Below ws.heap.size ws W → Calls Tryz.prog 43 #[.agg #[.bool na, sa], .agg #[.bool nb, sb]] W (fun e w' => e = .returned (.int .i64 cc) ∧ Below W.heap.size W w')) := Lib.hid fun W h => (HCMP.out W _ _ (SA.out.below h) (SB.out.below h)).2
  clear p1 q1 p2 q2 p3 q3 p4 q4 p5 q5 p6 q6
  obtain ⟨c0, c1, c2, c3⟩ := HKP.out _ HQ.out
  go_region_held3 (fun w' => w'.cell? ⟨w.heap.size, 0, none⟩ = some (.bool na) ∧ w'.cell? ⟨w.heap.size, 1, none⟩ = some sa ∧ w'.cell? ⟨w.heap.size + 1, 0, none⟩ = some (.bool nb) ∧ w'.cell? ⟨w.heap.size + 1, 1, none⟩ = some sb)
    (first | (with_reducible exact HKP.out _ HQ.out) | (exact HKP.out _ HQ.out.drew) | (refine HKP.out _ (HQ.out.trans (Below.mono (?_ : Below wq.heap.size wq _) HZ.out)); (go_grown; done)))
    ((first | (go_at_call 32; refine (C32.out _ (by first | exact HQ.out | exact HQ.out.drew)).mono ?_; rintro e wq ⟨rfl, hb⟩; (first | (have HBB := stepH1 HQ HZ hb) | (have HBB := stepHD HQ HZ hb)); have HQ := HBB.1; have HZ := HBB.2; clear HBB hb) | (go_at_call 41; refine (C41.out _ (by first | exact HQ.out | exact HQ.out.drew)).mono ?_; rintro e wq ⟨rfl, hb⟩; (first | (have HBB := stepH1 HQ HZ hb) | (have HBB := stepHD HQ HZ hb)); have HQ := HBB.1; have HZ := HBB.2; clear HBB hb) | (go_at_call 33; refine (C33.out _ (by first | exact HQ.out | exact HQ.out.drew)).mono ?_; rintro e wq ⟨rfl, hb⟩; (first | (have HBB := stepH1 HQ HZ hb) | (have HBB := stepHD HQ HZ hb)); have HQ := HBB.1; have HZ := HBB.2; clear HBB hb) | (go_at_call 42; refine (C42.out _ (by first | exact HQ.out | exact HQ.out.drew)).mono ?_; rintro e wq ⟨rfl, hb⟩; (first | (have HBB := stepH1 HQ HZ hb) | (have HBB := stepHD HQ HZ hb)); have HQ := HBB.1; have HZ := HBB.2; clear HBB hb) | (go_at_call 31; refine (C31.out _ (by first | exact HQ.out | exact HQ.out.drew)).mono ?_; rintro e wq ⟨rfl, hb⟩; (first | (have HBB := stepH1 HQ HZ hb) | (have HBB := stepHD HQ HZ hb)); have HQ := HBB.1; have HZ := HBB.2; clear HBB hb) | (go_at_call 43; refine (C43.out _ (by first | exact HQ.out | exact HQ.out.drew)).mono ?_; rintro e wq ⟨rfl, hb⟩; (first | (have HBB := stepH1 HQ HZ hb) | (have HBB := stepHD HQ HZ hb)); have HQ := HBB.1; have HZ := HBB.2; clear HBB hb)))
  go_wp2
  go_ret
  exact ⟨by simp, HBW.out.trans (HQ.out.mono HBW.out.size)⟩

end Go.Proofs.YtdgmjmckeeeljaaGreatDoor

namespace Go.Proofs.YtdgmjmckeeeljaaGreatDoor
open Go.RowKit

theorem Sl.front {w : World} {ao : Option Addr} {n cap : Nat} {ds : List Nat} (h : Sl w (.slice ao n cap) ds) (k : Nat) (hk : k ≤ n) : Sl w (.slice ao k cap) (ds.take k) := by
  have hn := h.size
  have hb : Bd (ds.take k) := fun x hx => h.bd x (List.mem_of_mem_take hx)
  have hl : (ds.take k).length = k := by rw [List.length_take]; omega
  by_cases h0 : k = 0
  · subst h0
    exact ⟨hb, by simp, .inl ⟨by simp, _, _, rfl⟩⟩
  · obtain ⟨b, off, rfl, hc, hlt, hcl⟩ := h.at (by omega)
    refine ⟨hb, by rw [hl]; have := h.len; omega, .inr ⟨b, off, cap, by rw [hl], by rw [hl]; omega, fun j hj => ?_⟩⟩
    rw [hl] at hj
    rw [getD_take ds k j hj]
    exact hcl j (by omega)

theorem box_two (W : World) (o : Obj) : W.alloc o = W.alloc o := rfl

set_option maxRecDepth 100000 in
set_option maxHeartbeats 1000000 in
theorem cut_walk (neg : Bool) (ao : Option Addr) (n cap k : Nat) (w : World) (hk : k = min n 260) (hc : n ≤ cap) (hn : n ≤ 9223372036854775807) :
    Calls Tryz.prog 13 #[.agg #[.bool neg, .slice ao n cap], .int .i64 260] w fun e w' => e = .returned (.agg #[.bool neg, .slice ao k cap]) ∧ Below w.heap.size w w' := by
  have HB : Hid (Below (w.heap.size + 1) ((w.alloc (.cells #[.bool neg, .slice ao n cap] 27)).alloc (.cells #[.bool false, .slice none 0 0] 27)) ((w.alloc (.cells #[.bool neg, .slice ao n cap] 27)).alloc (.cells #[.bool false, .slice none 0 0] 27))) := Below.refl _ _
  have HKP : Hid (∀ w', Below (w.heap.size + 1) ((w.alloc (.cells #[.bool neg, .slice ao n cap] 27)).alloc (.cells #[.bool false, .slice none 0 0] 27)) w' → w'.cell? ⟨w.heap.size, 0, none⟩ = some (.bool neg) ∧ w'.cell? ⟨w.heap.size, 1, none⟩ = some (.slice ao n cap)) := Lib.hid (fun w' h =>
    ((show Bk w' w.heap.size (.bool neg) (.slice ao n cap) from (h.block _ (by omega)).trans ((Below.heap_alloc _ _ _ (by simp)).trans (heap_alloc_new _ _))).cells))
  obtain ⟨c0, c1⟩ := HKP.out _ HB.out
  go_enter Tryz.func13, Tryz.ntmps13
  go_upto_region 1 with fail
  have hmin : min (n : Int) 260 = (k : Int) := by omega
  have k0 : (0 : Int) ≤ (k : Int) := by omega
  have k1 : (k : Int) ≤ (cap : Int) := by omega
  have k2 : k ≤ cap := by omega
  have kt : ((k : Int)).toNat = k := by omega
  clear hk
  go_region_held3 (fun w' => w'.cell? ⟨w.heap.size, 0, none⟩ = some (.bool neg) ∧ w'.cell? ⟨w.heap.size, 1, none⟩ = some (.slice ao n cap))
    (first | (with_reducible exact HKP.out _ HB.out) | (exact HKP.out _ HB.out.drew) | (exact (show Bk (World.drew ((w.alloc (.cells #[.bool neg, .slice ao n cap] 27)).alloc (.cells #[.bool neg, .slice ao k cap] 27))) w.heap.size (.bool neg) (.slice ao n cap) from (Below.heap_alloc _ _ _ (by simp)).trans (heap_alloc_new _ _)).cells))
    (fail)
  have hr : Bk (World.drew ((w.alloc (.cells #[.bool neg, .slice ao n cap] 27)).alloc (.cells #[.bool neg, .slice ao k cap] 27))) (w.heap.size + 1) (.bool neg) (.slice ao k cap) := by
    have := heap_alloc_new (w.alloc (.cells #[.bool neg, .slice ao n cap] 27)) (.cells #[.bool neg, .slice ao k cap] 27)
    rw [World.size_alloc] at this
    exact this
  have hbl : Below w.heap.size w (World.drew ((w.alloc (.cells #[.bool neg, .slice ao n cap] 27)).alloc (.cells #[.bool neg, .slice ao k cap] 27))) := Below.drew (show Below w.heap.size w ((w.alloc (.cells #[.bool neg, .slice ao n cap] 27)).alloc (.cells #[.bool neg, .slice ao k cap] 27)) by go_grown)
  have HR := Lib.hid hr
  have HBL := Lib.hid hbl
  clear hr hbl
  revert HR HBL
  generalize (World.drew ((w.alloc (.cells #[.bool neg, .slice ao n cap] 27)).alloc (.cells #[.bool neg, .slice ao k cap] 27))) = W2
  intro HR HBL
  obtain ⟨r0, r1⟩ := HR.out.cells
  go_wp2
  refine bodyPost_ret (v := .agg #[.bool neg, .slice ao k cap]) (by simp [results, Tryz.results13, go_sem, r0, r1]) rfl ⟨rfl, HBL.out⟩

/-- The law's cut of any number: the first 260 digits. -/
theorem cut13_any {w : World} {neg : Bool} {ao : Option Addr} {n cap : Nat} {ds : List Nat} (h : Sl w (.slice ao n cap) ds) :
    Calls Tryz.prog 13 #[.agg #[.bool neg, .slice ao n cap], .int .i64 260] w fun e w' => e = .returned (.agg #[.bool neg, .slice ao (min n 260) cap]) ∧ Sl w' (.slice ao (min n 260) cap) (ds.take (min n 260)) ∧ Below w.heap.size w w' := by
  have hn := h.size
  have hl := h.len
  unfold maxLen at hl
  have hc : n ≤ cap := by
    by_cases h0 : n = 0
    · omega
    · obtain ⟨_, _, _, hc, _⟩ := h.at h0
      exact hc
  exact (cut_walk neg ao n cap (min n 260) w rfl hc (by omega)).mono fun e w' ⟨h1, h2⟩ => ⟨h1, (h.front _ (Nat.min_le_left _ _)).below h2, h2⟩

end Go.Proofs.YtdgmjmckeeeljaaGreatDoor

namespace Go.Proofs.YtdgmjmckeeeljaaGreatDoor
open Go.RowKit

set_option maxRecDepth 100000 in
set_option maxHeartbeats 1000000 in
theorem cut20_walk (neg : Bool) (ao : Option Addr) (n cap k : Nat) (w : World) (hk : k = min n 20) (hc : n ≤ cap) (hn : n ≤ 9223372036854775807) :
    Calls Tryz.prog 13 #[.agg #[.bool neg, .slice ao n cap], .int .i64 20] w fun e w' => e = .returned (.agg #[.bool neg, .slice ao k cap]) ∧ Below w.heap.size w w' := by
  have HB : Hid (Below (w.heap.size + 1) ((w.alloc (.cells #[.bool neg, .slice ao n cap] 27)).alloc (.cells #[.bool false, .slice none 0 0] 27)) ((w.alloc (.cells #[.bool neg, .slice ao n cap] 27)).alloc (.cells #[.bool false, .slice none 0 0] 27))) := Below.refl _ _
  have HKP : Hid (∀ w', Below (w.heap.size + 1) ((w.alloc (.cells #[.bool neg, .slice ao n cap] 27)).alloc (.cells #[.bool false, .slice none 0 0] 27)) w' → w'.cell? ⟨w.heap.size, 0, none⟩ = some (.bool neg) ∧ w'.cell? ⟨w.heap.size, 1, none⟩ = some (.slice ao n cap)) := Lib.hid (fun w' h =>
    ((show Bk w' w.heap.size (.bool neg) (.slice ao n cap) from (h.block _ (by omega)).trans ((Below.heap_alloc _ _ _ (by simp)).trans (heap_alloc_new _ _))).cells))
  obtain ⟨c0, c1⟩ := HKP.out _ HB.out
  go_enter Tryz.func13, Tryz.ntmps13
  go_upto_region 1 with fail
  have hmin : min (n : Int) 20 = (k : Int) := by omega
  have k0 : (0 : Int) ≤ (k : Int) := by omega
  have k1 : (k : Int) ≤ (cap : Int) := by omega
  have k2 : k ≤ cap := by omega
  have kt : ((k : Int)).toNat = k := by omega
  clear hk
  go_region_held3 (fun w' => w'.cell? ⟨w.heap.size, 0, none⟩ = some (.bool neg) ∧ w'.cell? ⟨w.heap.size, 1, none⟩ = some (.slice ao n cap))
    (first | (with_reducible exact HKP.out _ HB.out) | (exact HKP.out _ HB.out.drew) | (exact (show Bk (World.drew ((w.alloc (.cells #[.bool neg, .slice ao n cap] 27)).alloc (.cells #[.bool neg, .slice ao k cap] 27))) w.heap.size (.bool neg) (.slice ao n cap) from (Below.heap_alloc _ _ _ (by simp)).trans (heap_alloc_new _ _)).cells))
    (fail)
  have hr : Bk (World.drew ((w.alloc (.cells #[.bool neg, .slice ao n cap] 27)).alloc (.cells #[.bool neg, .slice ao k cap] 27))) (w.heap.size + 1) (.bool neg) (.slice ao k cap) := by
    have := heap_alloc_new (w.alloc (.cells #[.bool neg, .slice ao n cap] 27)) (.cells #[.bool neg, .slice ao k cap] 27)
    rw [World.size_alloc] at this
    exact this
  have hbl : Below w.heap.size w (World.drew ((w.alloc (.cells #[.bool neg, .slice ao n cap] 27)).alloc (.cells #[.bool neg, .slice ao k cap] 27))) := Below.drew (show Below w.heap.size w ((w.alloc (.cells #[.bool neg, .slice ao n cap] 27)).alloc (.cells #[.bool neg, .slice ao k cap] 27)) by go_grown)
  have HR := Lib.hid hr
  have HBL := Lib.hid hbl
  clear hr hbl
  revert HR HBL
  generalize (World.drew ((w.alloc (.cells #[.bool neg, .slice ao n cap] 27)).alloc (.cells #[.bool neg, .slice ao k cap] 27))) = W2
  intro HR HBL
  obtain ⟨r0, r1⟩ := HR.out.cells
  go_wp2
  refine bodyPost_ret (v := .agg #[.bool neg, .slice ao k cap]) (by simp [results, Tryz.results13, go_sem, r0, r1]) rfl ⟨rfl, HBL.out⟩

/-- The law's cut of any number: the first 20 digits. -/
theorem cut20_any {w : World} {neg : Bool} {ao : Option Addr} {n cap : Nat} {ds : List Nat} (h : Sl w (.slice ao n cap) ds) :
    Calls Tryz.prog 13 #[.agg #[.bool neg, .slice ao n cap], .int .i64 20] w fun e w' => e = .returned (.agg #[.bool neg, .slice ao (min n 20) cap]) ∧ Sl w' (.slice ao (min n 20) cap) (ds.take (min n 20)) ∧ Below w.heap.size w w' := by
  have hn := h.size
  have hl := h.len
  unfold maxLen at hl
  have hc : n ≤ cap := by
    by_cases h0 : n = 0
    · omega
    · obtain ⟨_, _, _, hc, _⟩ := h.at h0
      exact hc
  exact (cut20_walk neg ao n cap (min n 20) w rfl hc (by omega)).mono fun e w' ⟨h1, h2⟩ => ⟨h1, (h.front _ (Nat.min_le_left _ _)).below h2, h2⟩

end Go.Proofs.YtdgmjmckeeeljaaGreatDoor

namespace Go.Proofs.YtdgmjmckeeeljaaGreatDoor
open Go.RowKit

def appN (ty : TypeId) (vs : Array Value) : Sem Value := Builtin.append_ #[25, 25] ty vs
theorem appN_rw (ty : TypeId) (vs : Array Value) : Builtin.append_ #[25, 25] ty vs = appN ty vs := rfl

theorem addr_add (b off j : Nat) : (Addr.mk b off none).add j = ⟨b, off + j, none⟩ := by
  unfold Addr.add
  by_cases hj0 : j = 0
  · subst hj0; rfl
  · rw [if_neg hj0]

/-- Zeros, and digits above them. -/
theorem raise_run {W : World} {ao : Option Addr} {n cap k : Nat} {ds : List Nat} (h : Sl W (.slice ao n cap) ds) (hn : n ≠ 0) (hl : n ≤ 1000) (hk : k ≤ 1000) {V : World} (hV : V = World.drew (W.alloc (.cells (madeCells (Value.int .u32 0).cells (k * 1)) 59))) :
    ∃ ao2 n2 cap2 w1, Sem.run Tryz.prog (appN 25 #[.slice (some ⟨W.heap.size, 0, none⟩) k k, .slice ao n cap]) V = .ok (.slice ao2 n2 cap2) w1 ∧ Sw W.heap.size w1 (.slice ao2 n2 cap2) (List.replicate k 0 ++ ds) ∧ Below W.heap.size W w1 := by
  obtain ⟨i0, hii, hz0, hz1, hz2⟩ := info_parts Tryz.info59
  obtain ⟨b, off, rfl, hcap, hlt, hcl⟩ := h.at hn
  have hbV : Below W.heap.size W V := by rw [hV]; exact Below.drew ((Below.refl _ _).alloc (Nat.le_refl _) _)
  have hds := h.size
  have hown0 : V.ownsRow W.heap.size 59 1 (.slice (some ⟨W.heap.size, 0, none⟩) k k) k ((List.replicate k 0).map u32v) := by
    have h1 := World.ownsRow_lit (base := W.heap.size) (size := 1) (e := 59) W (madeCells (Value.int .u32 0).cells (k * 1)) k (Nat.le_refl _) (by unfold maxLen; omega) (by rw [zeros_cells]; simp)
    rw [zeros_cells] at h1 hV
    rw [hV]
    have h3 : (W.alloc (.cells ((List.replicate k 0).map u32v).toArray 59)).ownsRow W.heap.size 59 1 (.slice (some ⟨W.heap.size, 0, none⟩) k k) k ((List.replicate k 0).map u32v) := by simpa using h1
    exact h3
  obtain ⟨v2, w1, hrun, hown, hgrow, _⟩ := run_append_own (P := Tryz.prog) (w := V) W.heap.size 25 25 59 i0 (.int .u32 0) 1 4 Tryz.underlying25 hii hz0 hz1 hz2 rfl (by decide) _ k _ hown0 ⟨b, off, none⟩ n cap (ds.map u32v) (by rw [List.length_map]; omega)
    (fun j u hu => by
      have hj : j < ds.length := by
        have := (List.getElem?_eq_some_iff.1 hu).1
        simpa using this
      have hc := cell_later hbV (hcl j hj)
      rw [addr_add, hc, ← hu]
      simp [u32v, List.getD, hj])
    (fun u hu => by
      simp only [List.mem_map] at hu
      obtain ⟨s, _, rfl⟩ := hu
      rfl) (by unfold maxLen; omega) (by omega) hbV.size
  rw [appN_rw] at hrun
  rw [← List.map_append] at hown
  have hlen : (List.replicate k 0 ++ ds).length = k + n := by rw [List.length_append, List.length_replicate, hds]
  rw [← hlen] at hown
  obtain ⟨ao2, cap2, rfl, hsw⟩ := sw_of_owns (fun x hx => by
    rcases List.mem_append.1 hx with hx | hx
    · rw [List.eq_of_mem_replicate hx]; omega
    · exact h.bd x hx) hown
  exact ⟨ao2, _, cap2, w1, hrun, hsw, hbV.trans ((Below.refl _ _).grown hgrow hbV.size (fun j hj => (hown0.lt j hj).1))⟩


attribute [local go_sem ↓] appN_rw

theorem make_run (k : Nat) (hk : k ≤ 1000) (W : World) : (Instr.makeSlice 25 (.int .i64 (k : Int)) (.int .i64 (k : Int))).run Tryz.prog W = .ok (.slice (some ⟨W.heap.size, 0, none⟩) k k) (W.alloc (.cells (madeCells (Value.int .u32 0).cells (k * 1)) 59)) := by
  obtain ⟨i0, hii, hz0, hz1, hz2⟩ := info_parts Tryz.info59
  have h := run_makeSlice (P := Tryz.prog) W 25 59 i0 (.int .u32 0) Tryz.underlying25 hii hz0 .i64 .i64 (k : Int) (k : Int) (by omega) (Int.le_refl _) (by rw [hz1]; simp; omega) (by rw [hz2]; omega) (by omega)
  simpa [hz1] using h

set_option maxRecDepth 100000 in
set_option maxHeartbeats 1000000 in
theorem raised_pos {w : World} {neg : Bool} {ao : Option Addr} {n cap k : Nat} {ds : List Nat} (h : Sl w (.slice ao n cap) ds) (hn : n ≠ 0) (hl : n ≤ 1000) (hk : k ≤ 1000) :
    Calls Tryz.prog 12 #[.agg #[.bool neg, .slice ao n cap], .int .i64 k] w fun e w' => ∃ ao2 n2 cap2, e = .returned (.agg #[.bool neg, .slice ao2 n2 cap2]) ∧ Sl w' (.slice ao2 n2 cap2) (List.replicate k 0 ++ ds) ∧ Below w.heap.size w w' := by
  obtain ⟨W0, hW0⟩ : ∃ W0, W0 = ((w.alloc (.cells #[.bool neg, .slice ao n cap] 27)).alloc (.cells #[.bool false, .slice none 0 0] 27)) := ⟨_, rfl⟩
  have hsz : W0.heap.size = w.heap.size + 2 := by rw [hW0]; simp
  have hbl0 : Below w.heap.size w W0 := by rw [hW0]; go_grown
  have hA : Bk W0 w.heap.size (.bool neg) (.slice ao n cap) := by rw [hW0]; exact (Below.heap_alloc _ _ _ (by simp)).trans (heap_alloc_new _ _)
  have hR : Bk W0 (w.heap.size + 1) (.bool false) (.slice none 0 0) := by
    rw [hW0]
    have := heap_alloc_new (w.alloc (.cells #[.bool neg, .slice ao n cap] 27)) (.cells #[.bool false, .slice none 0 0] 27)
    rw [World.size_alloc] at this
    exact this
  obtain ⟨ao2, n2, cap2, w1, hrun, hsl, hb1⟩ := raise_run (h.below hbl0) hn hl hk rfl
  have hmk := fun W => make_run k hk W
  revert hrun hmk
  generalize madeCells (Value.int .u32 0).cells (k * 1) = Z
  intro hrun hmk
  have hR1 := hR.below hb1
  obtain ⟨d0, d1⟩ := hR1.cells
  have f0 := frozen_of_row w1 _ 0 _ _ hR1
  have f1 := frozen_of_row w1 _ 1 _ _ hR1
  have HKP : Hid (∀ w', Below (w.heap.size + 1) W0 w' → w'.cell? ⟨w.heap.size, 0, none⟩ = some (.bool neg) ∧ w'.cell? ⟨w.heap.size, 1, none⟩ = some (.slice ao n cap)) := Lib.hid (fun w' h => (show Bk w' w.heap.size (.bool neg) (.slice ao n cap) from (h.block _ (by omega)).trans hA).cells)
  have HB0 : Hid (Below (w.heap.size + 1) W0 W0) := Below.refl _ _
  have HBZ : Hid (Below (w.heap.size + 1) W0 (World.drew (W0.alloc (.cells Z 59)))) := Lib.hid (Below.drew ((Below.refl _ _).alloc (by omega) _))
  have HB1 : Hid (Below (w.heap.size + 1) W0 w1) := Lib.hid (hb1.mono (by omega))
  have HSL := Lib.hid hsl
  have HR1 := Lib.hid hR1
  have HBW : Hid (Below w.heap.size w w1) := Lib.hid (hbl0.trans (hb1.mono (by omega)))
  have hnn : ((n : Int) == 0) = false := by simp; omega
  obtain ⟨c0, c1⟩ := HKP.out _ HB0.out
  have hz1 : w.heap.size + 1 < w1.heap.size := (Array.getElem?_eq_some_iff.1 HR1.out).1
  have hsz0 := Lib.hid hsz
  clear hsl hb1 hR1 hA hR hbl0 h hn hl hk hsz
  have HW0 := Lib.hid hW0
  clear hW0
  go_enter Tryz.func12, Tryz.ntmps12
  go_upto_region 1 with fail
  rw [← HW0.out]
  go_upto_region 3 with fail
  go_region_held3 (fun w' => w'.cell? ⟨w.heap.size, 0, none⟩ = some (.bool neg) ∧ w'.cell? ⟨w.heap.size, 1, none⟩ = some (.slice ao n cap))
    (first | (with_reducible exact HKP.out _ HB0.out) | (exact HKP.out _ HB0.out.drew) | (exact HKP.out _ HBZ.out) | (exact HKP.out _ HB1.out) | (exact HKP.out _ ((HB1.out.setCell (by simp) _).setCell (by simp) _)))
    (fail)
  have hfin : Bk ((w1.setCell ⟨w.heap.size + 1, 0, none⟩ (.bool neg)).setCell ⟨w.heap.size + 1, 1, none⟩ (.slice ao2 n2 cap2)) (w.heap.size + 1) (.bool neg) (.slice ao2 n2 cap2) := stored_two HR1.out _ _
  have hsf := HSL.out.after2 (g := w.heap.size + 1) (by have := hsz0.out; omega) (.bool neg) (.slice ao2 n2 cap2)
  have hbf : Below w.heap.size w ((w1.setCell ⟨w.heap.size + 1, 0, none⟩ (.bool neg)).setCell ⟨w.heap.size + 1, 1, none⟩ (.slice ao2 n2 cap2)) := (HBW.out.setCell (by simp) _).setCell (by simp) _
  obtain ⟨q0, q1⟩ := hfin.cells
  have HSF := Lib.hid hsf.sl
  have HBF := Lib.hid hbf
  clear hfin hsf hbf hrun hmk
  go_wp2
  refine bodyPost_ret (v := .agg #[.bool neg, .slice ao2 n2 cap2]) (by simp [results, Tryz.results12, go_sem, q0, q1]) rfl ⟨ao2, n2, cap2, rfl, HSF.out, HBF.out⟩

set_option maxRecDepth 100000 in
set_option maxHeartbeats 1000000 in
theorem raised_nil {w : World} {neg : Bool} {ao : Option Addr} {cap k : Nat} :
    Calls Tryz.prog 12 #[.agg #[.bool neg, .slice ao 0 cap], .int .i64 k] w fun e w' => e = .returned (.agg #[.bool neg, .slice ao 0 cap]) ∧ Below w.heap.size w w' := by
  go_enter Tryz.func12, Tryz.ntmps12
  go_wp2
  refine bodyPost_ret (v := .agg #[.bool neg, .slice ao 0 cap]) (by simp [results, Tryz.results12, go_sem]) rfl ⟨rfl, ?_⟩
  go_grown

/-- The law's raised number: some digits, at most k more than before. -/
theorem raised12_any {w : World} {neg : Bool} {ao : Option Addr} {n cap k : Nat} {ds : List Nat} (h : Sl w (.slice ao n cap) ds) (hl : n ≤ 256) (hk : k ≤ 256) :
    Calls Tryz.prog 12 #[.agg #[.bool neg, .slice ao n cap], .int .i64 k] w fun e w' => ∃ ao2 n2 cap2 xs, e = .returned (.agg #[.bool neg, .slice ao2 n2 cap2]) ∧ xs.length ≤ 512 ∧ Sl w' (.slice ao2 n2 cap2) xs ∧ Below w.heap.size w w' := by
  by_cases hn : n = 0
  · subst hn
    have hd : ds = [] := List.eq_nil_of_length_eq_zero h.size.symm
    exact raised_nil.mono fun e w' ⟨h1, h2⟩ => ⟨ao, 0, cap, [], h1, by simp, Sl.nil _ _ _, h2⟩
  · exact (raised_pos h hn (by omega) (by omega)).mono fun e w' ⟨a, b, c, h1, h2, h3⟩ => ⟨a, b, c, _, h1, by rw [List.length_append, List.length_replicate, ← h.size]; omega, h2, h3⟩

end Go.Proofs.YtdgmjmckeeeljaaGreatDoor

namespace Go.Proofs.YtdgmjmckeeeljaaGreatDoor
open Go.RowKit

/-- The quotient by ten, digit by digit from the highest one on, and the rest. -/
def div10 : List Nat → List Nat × Nat
  | [] => ([], 0)
  | d :: ds => (((div10 ds).2 * 4294967296 + d) / 10 :: (div10 ds).1, ((div10 ds).2 * 4294967296 + d) % 10)
theorem div10_len : ∀ ds : List Nat, (div10 ds).1.length = ds.length
  | [] => rfl
  | d :: ds => by simp [div10, div10_len ds]
theorem div10_lt : ∀ ds : List Nat, (div10 ds).2 < 10
  | [] => by simp [div10]
  | d :: ds => by simp only [div10]; omega
theorem div10_val : ∀ ds : List Nat, val (div10 ds).1 * 10 + (div10 ds).2 = val ds
  | [] => rfl
  | d :: ds => by
    have ih := div10_val ds
    simp only [div10, val]
    have h1 := Nat.div_add_mod ((div10 ds).2 * 4294967296 + d) 10
    rw [← ih]
    have h2 : 4294967296 * (val (div10 ds).1 * 10 + (div10 ds).2) = 4294967296 * val (div10 ds).1 * 10 + (div10 ds).2 * 4294967296 := by
      rw [Nat.mul_add, Nat.mul_assoc, Nat.mul_comm 4294967296 (div10 ds).2]
    rw [h2]
    omega
theorem div10_bd : ∀ ds : List Nat, Bd ds → Bd (div10 ds).1
  | [], _ => bd_nil
  | d :: ds, h => by
    have ih := div10_bd ds (fun x hx => h x (List.mem_cons_of_mem _ hx))
    have hr := div10_lt ds
    have hd := h d (List.mem_cons_self ..)
    intro x hx
    simp only [div10, List.mem_cons] at hx
    rcases hx with rfl | hx
    · omega
    · exact ih x hx
theorem div10_quo (ds : List Nat) : val (div10 ds).1 = val ds / 10 ∧ (div10 ds).2 = val ds % 10 := by
  have h1 := div10_val ds
  have h2 := div10_lt ds
  omega

theorem drop_cons' {ds : List Nat} {j : Nat} (h : j < ds.length) : ds.drop j = ds.getD j 0 :: ds.drop (j + 1) := by
  rw [List.drop_eq_getElem_cons h]
  simp [List.getD, h]

theorem div10_step {ds : List Nat} {j : Nat} (h : j < ds.length) : div10 (ds.drop j) = (((div10 (ds.drop (j + 1))).2 * 4294967296 + ds.getD j 0) / 10 :: (div10 (ds.drop (j + 1))).1, ((div10 (ds.drop (j + 1))).2 * 4294967296 + ds.getD j 0) % 10) := by
  rw [drop_cons' h, div10]

theorem half_set {ds Q : List Nat} {j q : Nat} (h : j < ds.length) : (ds.take (j + 1) ++ Q).set j q = ds.take j ++ q :: Q := by
  have hl : (ds.take j).length = j := by rw [List.length_take]; omega
  have e : ds.take (j + 1) = ds.take j ++ [ds.getD j 0] := by
    rw [List.take_add_one, List.getElem?_eq_getElem h]
    simp [List.getD, h]
  rw [e, List.append_assoc, List.set_append_right _ _ (by omega), hl, Nat.sub_self]
  rfl
theorem half_get {ds Q : List Nat} {j : Nat} (h : j < ds.length) : (ds.take (j + 1) ++ Q).getD j 0 = ds.getD j 0 := by
  have : j < (ds.take (j + 1)).length := by rw [List.length_take]; omega
  simp [List.getD, List.getElem?_append_left this, List.getElem?_take]

/-- A copy of digits. -/
theorem copy_run {W : World} {ao : Option Addr} {n cap : Nat} {ds : List Nat} (h : Sl W (.slice ao n cap) ds) (hn : n ≠ 0) (hl : n ≤ 1000) :
    ∃ ao2 cap2 w1, Sem.run Tryz.prog (appN 25 #[.slice (some ⟨W.heap.size, 0, none⟩) 0 0, .slice ao n cap]) (W.alloc (.cells #[] 59)) = .ok (.slice ao2 n cap2) w1 ∧ Sw W.heap.size w1 (.slice ao2 n cap2) ds ∧ Below W.heap.size W w1 := by
  obtain ⟨i0, hii, hz0, hz1, hz2⟩ := info_parts Tryz.info59
  obtain ⟨b, off, rfl, hcap, hlt, hcl⟩ := h.at hn
  have hbV : Below W.heap.size W (W.alloc (.cells #[] 59)) := (Below.refl _ _).alloc (Nat.le_refl _) _
  have hds := h.size
  have hown0 : (W.alloc (.cells #[] 59)).ownsRow W.heap.size 59 1 (.slice (some ⟨W.heap.size, 0, none⟩) 0 0) 0 (([] : List Nat).map u32v) := ⟨rfl, .inr ⟨W.heap.size, 0, #[], rfl, Nat.le_refl _, heap_alloc_new _ _, Nat.le_refl _, Nat.zero_le _, rfl, rfl⟩⟩
  obtain ⟨v2, w1, hrun, hown, hgrow, _⟩ := run_append_own (P := Tryz.prog) (w := W.alloc (.cells #[] 59)) W.heap.size 25 25 59 i0 (.int .u32 0) 1 4 Tryz.underlying25 hii hz0 hz1 hz2 rfl (by decide) _ 0 _ hown0 ⟨b, off, none⟩ n cap (ds.map u32v) (by rw [List.length_map]; omega)
    (fun j u hu => by
      have hj : j < ds.length := by
        have := (List.getElem?_eq_some_iff.1 hu).1
        simpa using this
      have hc := cell_later hbV (hcl j hj)
      rw [addr_add, hc, ← hu]
      simp [u32v, List.getD, hj])
    (fun u hu => by
      simp only [List.mem_map] at hu
      obtain ⟨s, _, rfl⟩ := hu
      rfl) (by unfold maxLen; omega) (by omega) hbV.size
  rw [appN_rw] at hrun
  rw [List.map_nil, List.nil_append, Nat.zero_add] at hown
  have hlen : ds.length = n := hds.symm
  rw [← hlen] at hown
  obtain ⟨ao2, cap2, rfl, hsw⟩ := sw_of_owns (fun x hx => h.bd x hx) hown
  rw [hlen] at hrun hsw
  exact ⟨ao2, cap2, w1, hrun, hsw, hbV.trans ((Below.refl _ _).grown hgrow hbV.size (fun j hj => (hown0.lt j hj).1))⟩

theorem rdec_len : ∀ (k u : Nat), u < 10 ^ (k + 1) → (Lib.decDigits u).length ≤ k + 1
  | 0, u, h => by rw [Lib.decDigits_one (by simpa using h)]; simp
  | k + 1, u, h => by
    by_cases h1 : u < 10
    · rw [Lib.decDigits_one h1]; simp
    · rw [dec_ge h1, List.length_append]
      have := rdec_len k (u / 10) (by rw [Nat.div_lt_iff_lt_mul (by omega)]; rwa [Nat.pow_succ] at h)
      simp only [List.length_singleton]
      omega

theorem dec_pow (n X : Nat) (h : X < 4294967296 ^ n) : (Lib.decDigits X).length ≤ 10 * n + 1 := by
  have h2 : 4294967296 ^ n ≤ (10 ^ 10) ^ n := Nat.pow_le_pow_left (by omega) n
  rw [← Nat.pow_mul] at h2
  have h3 : 10 ^ (10 * n) ≤ 10 ^ (10 * n + 1) := Nat.pow_le_pow_right (by omega) (by omega)
  exact rdec_len (10 * n) X (Nat.lt_of_lt_of_le h (Nat.le_trans h2 h3))

theorem dec_small {X : Nat} (h : (digs X).length ≤ 256) : (Lib.decDigits X).length ≤ 2561 := dec_pow 256 X (digs_length_le.1 h)

end Go.Proofs.YtdgmjmckeeeljaaGreatDoor
