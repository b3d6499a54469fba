/- Contracts: Ints of wire, of both sides. Condition: at most 1000 numbers. -/
import Derived.Test.YtafdjohgoopcmaaWC
namespace Go.Proofs.Ytafdjohgoopcmaa
open Go.RowKit

/-- A slice that reads as ints. -/
structure Ix (w : World) (v : Value) (l : List Int) : Prop where
  len : l.length ≤ maxLen
  fit : ∀ k, -9223372036854775808 ≤ l.getD k 0 ∧ l.getD k 0 ≤ 9223372036854775807
  is : (l = [] ∧ ∃ ao cap, v = .slice ao 0 cap) ∨ ∃ b off cap, v = .slice (some ⟨b, off, none⟩) l.length cap ∧ l.length ≤ cap ∧ b < w.heap.size ∧ ∀ j, j < l.length → w.cell? ⟨b, off + j, none⟩ = some (.int .i64 (l.getD j 0))

theorem Ix.below {w w' : World} {v : Value} {l : List Int} (h : Ix w v l) (hb : Below w.heap.size w w') : Ix w' v l := by
  obtain ⟨h1, h2, h3⟩ := h
  refine ⟨h1, h2, ?_⟩
  rcases h3 with h3 | ⟨b, off, cap, hv, hc, hlt, hl⟩
  · exact .inl h3
  · exact .inr ⟨b, off, cap, hv, hc, Nat.lt_of_lt_of_le hlt hb.size, fun j hj => cell_later hb (hl j hj)⟩

theorem Ix.mk' {w : World} {v : Value} {l : List Int} (h : Ix w v l) : ∃ ao cap, v = .slice ao l.length cap := by
  rcases h.is with ⟨rfl, ao, cap, rfl⟩ | ⟨b, off, cap, rfl, _⟩
  · exact ⟨_, _, rfl⟩
  · exact ⟨_, _, rfl⟩

theorem Ix.at {w : World} {ao : Option Addr} {n cap : Nat} {l : List Int} (h : Ix w (.slice ao n cap) l) (hn : n ≠ 0) : ∃ b off, ao = some ⟨b, off, none⟩ ∧ n = l.length ∧ n ≤ cap ∧ b < w.heap.size ∧ ∀ j, j < n → w.cell? ⟨b, off + j, none⟩ = some (.int .i64 (l.getD j 0)) := by
  rcases h.is with ⟨rfl, ao2, cap2, e⟩ | ⟨b, off, cap2, e, h1, h2, h3⟩
  · injection e with _ e2 _; exact absurd e2 hn
  · injection e with e1 e2 e3; subst e1 e2 e3; exact ⟨b, off, rfl, rfl, h1, h2, h3⟩

/-- Ints as bytes. -/
def intsL (l : List Int) : List UInt8 := (l.map fun n => leb (codeN n)).flatten
def intsB (l : List Int) : List UInt8 := leb (codeN l.length) ++ intsL l

theorem intsL_take {l : List Int} {k : Nat} (h : k < l.length) : intsL (l.take (k + 1)) = intsL (l.take k) ++ leb (codeN (l.getD k 0)) := by
  unfold intsL
  rw [List.take_add_one, List.getElem?_eq_getElem h, List.map_append, List.flatten_append]
  simp [List.getD, List.getElem?_eq_getElem h]

theorem intsL_len : ∀ (l : List Int), (∀ k, -9223372036854775808 ≤ l.getD k 0 ∧ l.getD k 0 ≤ 9223372036854775807) → (intsL l).length ≤ 10 * l.length := by
  intro l
  induction l with
  | nil => intro _; simp [intsL]
  | cons a l ih =>
    intro h
    have h0 := h 0
    have hr := ih fun k => by have := h (k + 1); simpa using this
    have := leb_len10 (codeN_lt (n := a) (by simpa using h0.1) (by simpa using h0.2))
    simp only [intsL, List.map_cons, List.flatten_cons, List.length_append, List.length_cons] at *
    omega

theorem fit_take {l : List Int} (h : ∀ k, -9223372036854775808 ≤ l.getD k 0 ∧ l.getD k 0 ≤ 9223372036854775807) (m : Nat) : ∀ k, -9223372036854775808 ≤ (l.take m).getD k 0 ∧ (l.take m).getD k 0 ≤ 9223372036854775807 := by
  intro k
  by_cases hk : k < m
  · have := h k
    simpa [List.getD, List.getElem?_take, hk] using this
  · simp [List.getD, List.getElem?_take, hk]

set_option maxRecDepth 10000 in
set_option maxHeartbeats 2000000 in
theorem rInts_any {w : World} {v : Value} {l : List Int} (h : Ix w v l) (hn : l.length ≤ 1000) :
    Calls Try.prog 35 #[v] w fun e w' => e = .returned (.string (sA (intsB l))) ∧ Below w.heap.size w w' := by
  obtain ⟨ao, cap, rfl⟩ := h.mk'
  obtain ⟨n, hnn⟩ : ∃ n, n = l.length := ⟨_, rfl⟩
  obtain ⟨R, hR⟩ : ∃ R, R = sA (intsB l) := ⟨_, rfl⟩
  have HN := Lib.hid hnn
  have HR := Lib.hid hR
  have HX := Lib.hid h
  obtain ⟨fS, hfS⟩ : ∃ fS : Int → ByteArray, fS = fun n => sA (leb (codeN n)) := ⟨_, rfl⟩
  have HF := Lib.hid hfS
  have HI : Hid (∀ (n : Int) (W : World), -9223372036854775808 ≤ n → n ≤ 9223372036854775807 → Calls Try.prog 46 #[.int .i64 n] W fun e w' => e = .returned (.string (fS n)) ∧ Below W.heap.size W w') := Lib.hid fun n W h1 h2 => by rw [hfS]; exact rInt_any n h1 h2 W
  have hfl : ∀ n : Int, -9223372036854775808 ≤ n → n ≤ 9223372036854775807 → (fS n).size ≤ 10 := fun n h1 h2 => by rw [hfS]; simp only [sA_size]; exact leb_len10 (codeN_lt h1 h2)
  have HFL := Lib.hid hfl
  have hz : (fS (n : Int)).size ≤ 10 := hfl _ (by omega) (by omega)
  rw [← hR, ← hnn]
  rw [← hnn] at hn HX
  clear hR h hnn hfS hfl
  go_enter Try.func35, Try.ntmps35
  go_wp2_with (go_at_call 46; refine (HI.out _ _ (by omega) (by omega)).mono ?_; rintro e w1 ⟨rfl, hb1⟩)
  have HB1 := Lib.hid hb1
  clear hb1
  go_loopw [3, 4] (fun sv kv wr => ∃ (k : Nat) (s : ByteArray), k ≤ n ∧ s.size ≤ 10 + 10 * k ∧ sv = .string s ∧ kv = .int .i64 (k : Nat) ∧ Hid (by' s = leb (codeN n) ++ intsL (l.take k)) ∧ Hid (Below w.heap.size w wr)) (fun _ kv _ => n - (intOf kv).toNat)
  case atStart => exact ⟨0, fS n, by omega, by omega, rfl, rfl, Lib.hid (by rw [HF.out, by_sA]; simp [intsL]), Lib.hid HB1.out⟩
  case round =>
    obtain ⟨k, s, hk, hsz, rfl, rfl, hJ, hB⟩ := hrel
    by_cases hkn : k = n
    · subst hkn
      have e1 : s = R := by
        apply by_inj
        rw [HR.out, by_sA, hJ.out, HN.out, List.take_length]; rfl
      subst e1
      go_wp2
      go_ret
      exact ⟨rfl, hB.out⟩
    · have hlt : k < n := by omega
      obtain ⟨b, off, rfl, hq, hcap, hbl, hcl⟩ := HX.out.at (by omega)
      clear hq
      have hc := cell_later hB.out (hcl k hlt)
      obtain ⟨f1, f2⟩ := HX.out.fit k
      have hJ2 : by' (s ++ fS (l.getD k 0)) = leb (codeN n) ++ intsL (l.take (k + 1)) := by
        rw [by_app, hJ.out, intsL_take (by rw [← HN.out]; omega), HF.out, by_sA, List.append_assoc]
      have hz2 := HFL.out _ f1 f2
      obtain ⟨x, hx⟩ : ∃ x, x = l.getD k 0 := ⟨_, rfl⟩
      rw [← hx] at hc f1 f2 hJ2 hz2
      have HJ2 := Lib.hid hJ2
      have HBW := Lib.hid hB.out
      clear hJ hJ2 hx hcl hB
      go_wp2_with (go_at_call 46; refine (HI.out _ _ f1 f2).mono ?_; rintro e w3 ⟨rfl, hb3⟩; have HB3 := Lib.hid (HBW.out.trans (hb3.mono HBW.out.size)); clear hb3)
      go_roundw
      case rel => exact ⟨k + 1, s ++ fS x, by omega, by rw [ByteArray.size_append]; omega, rfl, by go_num, HJ2, HB3⟩
      case measure => simp [intOf]; omega

attribute [local go_sem ↓] appB_rw

theorem addInt_S (B : Nat) (hS : ∃ q, q = B) : ∀ (W : World) (ao : Option Addr) (m cap : Nat) (xs : List UInt8) (n : Int), m = xs.length → W.ownsRow B 5 1 (.slice ao m cap) m (chars xs) → m ≤ 100000 → B ≤ W.heap.size → -9223372036854775808 ≤ n → n ≤ 9223372036854775807 →
    Calls Try.prog 49 #[.slice ao m cap, .int .i64 n] W fun e w' => ∃ ao2 cap2 m2, e = .returned (.slice ao2 m2 cap2) ∧ m2 = (xs ++ leb (codeN n)).length ∧ w'.ownsRow B 5 1 (.slice ao2 m2 cap2) m2 (chars (xs ++ leb (codeN n))) ∧ Below B W w' := by
  intro W ao m cap xs n hm h hl hB h1 h2
  subst hm
  exact (addInt_any h hl hB n h1 h2).mono fun e w' ⟨ao2, cap2, h1, h2, h3⟩ => ⟨ao2, cap2, _, h1, rfl, h2, h3⟩

set_option maxRecDepth 10000 in
set_option maxHeartbeats 2000000 in
theorem addEach_any {w : World} {v : Value} {l : List Int} (h : Ix w v l) (hn : l.length ≤ 1000) {W : World} {B : Nat} (hB : B = w.heap.size) (hW : Below B w W) {ao : Option Addr} {m cap : Nat} {xs : List UInt8} (hm : m = xs.length) (hO : W.ownsRow B 5 1 (.slice ao m cap) m (chars xs)) (hml : m ≤ 10) :
    Calls Try.prog 51 #[.slice ao m cap, v, .func (.func 49) #[] #[]] W fun e w' => ∃ ao2 cap2 m2, e = .returned (.slice ao2 m2 cap2) ∧ m2 = (xs ++ intsL l).length ∧ w'.ownsRow B 5 1 (.slice ao2 m2 cap2) m2 (chars (xs ++ intsL l)) ∧ Below B W w' := by
  obtain ⟨ao3, cap3, rfl⟩ := h.mk'
  obtain ⟨n, hnn⟩ : ∃ n, n = l.length := ⟨_, rfl⟩
  have HN := Lib.hid hnn
  have HX := Lib.hid h
  have HA := Lib.hid (addInt_S B ⟨_, rfl⟩)
  have HBB := Lib.hid hB
  have HW := Lib.hid hW
  have HM := Lib.hid hm
  have HO := Lib.hid hO
  have HIL := Lib.hid fun k => intsL_len (l.take k) (fit_take h.fit k)
  rw [← hnn]
  rw [← hnn] at hn HX
  clear h hnn hB hW hm hO
  go_enter Try.func51, Try.ntmps51
  go_wp2
  go_loopw [0, 11] (fun bv kv wr => ∃ (k m2 : Nat) (ao2 : Option Addr) (cap2 : Nat), k ≤ n ∧ m2 ≤ 10 + 10 * k ∧ bv = .slice ao2 m2 cap2 ∧ kv = .int .i64 (k : Nat) ∧ Hid (m2 = (xs ++ intsL (l.take k)).length) ∧ Hid (wr.ownsRow B 5 1 (.slice ao2 m2 cap2) m2 (chars (xs ++ intsL (l.take k)))) ∧ Hid (Below B W wr)) (fun _ kv _ => n - (intOf kv).toNat)
  case atStart => exact ⟨0, m, ao, cap, by omega, by omega, rfl, rfl, Lib.hid (by simpa [intsL] using HM.out), Lib.hid (by simpa [intsL] using HO.out), Lib.hid (Below.refl _ _)⟩
  case round =>
    obtain ⟨k, m2, ao2, cap2, hk, hm2, rfl, rfl, hJ1, hJ2, hJ3⟩ := hrel
    by_cases hkn : k = n
    · subst hkn
      have e1 : xs ++ intsL (l.take k) = xs ++ intsL l := by rw [HN.out, List.take_length]
      rw [e1] at hJ1 hJ2
      go_wp2
      go_ret
      exact ⟨_, _, _, rfl, hJ1.out, hJ2.out, hJ3.out⟩
    · have hlt : k < n := by omega
      obtain ⟨b, off, rfl, hq, hcap, hbl, hcl⟩ := HX.out.at (by omega)
      have hc := cell_later ((HW.out.trans hJ3.out).mono (Nat.le_of_eq HBB.out.symm)) (hcl k hlt)
      obtain ⟨f1, f2⟩ := HX.out.fit k
      have hB2 : B ≤ wr.heap.size := by have := hJ3.out.size; have := HW.out.size; have := HBB.out; omega
      have hA := HA.out wr ao2 m2 cap2 _ (l.getD k 0) hJ1.out hJ2.out (by omega) hB2 f1 f2
      have e1 : (xs ++ intsL (l.take k)) ++ leb (codeN (l.getD k 0)) = xs ++ intsL (l.take (k + 1)) := by rw [intsL_take (by rw [← HN.out]; omega), List.append_assoc]
      rw [e1] at hA
      have hz2 := leb_len10 (codeN_lt f1 f2)
      have hz3 : (xs ++ intsL (l.take (k + 1))).length ≤ 10 + 10 * (k + 1) := by
        rw [← e1, List.length_append, ← hJ1.out]; omega
      have HZ := Lib.hid hz3
      obtain ⟨x, hx⟩ : ∃ x, x = l.getD k 0 := ⟨_, rfl⟩
      rw [← hx] at hc hA
      have HAA := Lib.hid hA
      clear hx hcl hq e1 hz2 hz3 f1 f2 hA
      go_wp2_with (go_at_call 49; refine HAA.out.mono ?_; rintro e w3 ⟨ao4, cap4, m4, rfl, hm4, ho4, hb4⟩; have HM4 := Lib.hid hm4; have HO4 := Lib.hid ho4; have HB4 := Lib.hid (hJ3.out.trans hb4); clear hm4 ho4 hb4)
      go_roundw
      case rel => exact ⟨k + 1, m4, ao4, cap4, by omega, by rw [HM4.out]; exact HZ.out, rfl, by go_num, HM4, HO4, HB4⟩
      case measure => simp [intOf]; omega

end Go.Proofs.Ytafdjohgoopcmaa
