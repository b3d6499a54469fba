/- Two choices that follow each other, as one. -/
import Derived.Test.YtafdjohgoopcmaaLV
namespace Go.Proofs.Ytafdjohgoopcmaa
open Go.RowKit

theorem merge_above (n : Nat) (x y z : Ch) (R : List Ch) (hz : z.1.toNat = x.1.toNat + y.1.toNat) : ∀ (P : List Ch) (S : Nat), (if P.length < above n S (P ++ x :: y :: R) then above n S (P ++ x :: y :: R) - 1 else above n S (P ++ x :: y :: R)) = above n S (P ++ z :: R)
  | [], S => by
    simp only [List.nil_append, List.length_nil, above, hz]
    rw [← Nat.add_assoc]
    by_cases h1 : n < S + x.1.toNat
    · rw [if_pos h1, if_pos (show n < S + x.1.toNat + y.1.toNat by omega)]; rfl
    · rw [if_neg h1]
      by_cases h2 : n < S + x.1.toNat + y.1.toNat
      · rw [if_pos h2]; rfl
      · rw [if_neg h2]; simp
  | p :: P, S => by
    have ih := merge_above n x y z R hz P (S + p.1.toNat)
    simp only [List.cons_append, List.length_cons, above]
    by_cases h1 : n < S + p.1.toNat
    · rw [if_pos h1, if_pos h1]; simp
    · rw [if_neg h1, if_neg h1, ← ih]
      generalize above n (S + p.1.toNat) (P ++ x :: y :: R) = q
      by_cases h2 : P.length < q
      · rw [if_pos h2, if_pos (by omega)]; omega
      · rw [if_neg h2, if_neg (by omega)]

theorem merge_sum (x y z : Ch) (R : List Ch) (hx : 1 ≤ x.1) (hy : 1 ≤ y.1) (hz : z.1 = x.1 + y.1) : ∀ (P : List Ch) (S : Nat), sumV S (P ++ x :: y :: R) = sumV S (P ++ z :: R)
  | [], S => by
    simp only [List.nil_append, sumV]
    have e : S + z.1.toNat = S + x.1.toNat + y.1.toNat := by omega
    rw [e]
    by_cases h1 : addW S x.1
    · rw [if_pos h1]
      by_cases h2 : addW (S + x.1.toNat) y.1
      · rw [if_pos h2, if_pos (by unfold addW at *; omega)]
      · rw [if_neg h2, if_neg (by unfold addW at *; omega)]
    · rw [if_neg h1, if_neg (by unfold addW at *; omega)]
  | p :: P, S => by
    simp only [List.cons_append, sumV]
    by_cases h : addW S p.1
    · rw [if_pos h, if_pos h, merge_sum x y z R hx hy hz P]
    · rw [if_neg h, if_neg h]

theorem above_le (n : Nat) : ∀ (l : List Ch) (S : Nat), above n S l ≤ l.length
  | [], S => Nat.le_refl _
  | c :: l, S => by
    have := above_le n l (S + c.1.toNat)
    rw [above]
    split
    · omega
    · simp only [List.length_cons]; omega
theorem pickV_le (s : ByteArray) (k : Int) (l : List Ch) : pickV s k l ≤ l.length := by
  unfold pickV
  split
  · exact above_le _ _ _
  · omega

abbrev at3 (l : List Ch) (i : Nat) : Ch := l.getD i (0, 0, 0)

/-- What is merged when i choices are done: the choice J and the next one are joined. -/
def mg (l : List Ch) (J : Nat) : Nat → List Ch
  | 0 => []
  | i + 1 => if i = J + 1 then (mg l J i).set J ((at3 (mg l J i) J).1 + (at3 l i).1, (at3 (mg l J i) J).2) else mg l J i ++ [at3 l i]

theorem mg_join (l : List Ch) (J : Nat) : (mg l J (J + 1)).set J ((at3 (mg l J (J + 1)) J).1 + (at3 l (J + 1)).1, (at3 (mg l J (J + 1)) J).2) = mg l J (J + 1 + 1) := by
  conv => rhs; unfold mg
  rw [if_pos rfl]

theorem take_at3 {l : List Ch} {k : Nat} (h : k < l.length) : l.take (k + 1) = l.take k ++ [at3 l k] := by
  rw [List.take_add_one, List.getElem?_eq_getElem h]
  simp [at3, List.getD, h]

theorem mg_low (l : List Ch) (J : Nat) : ∀ i, i ≤ J + 1 → i ≤ l.length → mg l J i = l.take i
  | 0, _, _ => by simp [mg]
  | i + 1, h, h2 => by
    rw [mg, if_neg (by omega), mg_low l J i (by omega) (by omega), take_at3 (by omega)]

/-- The joined choice. -/
def jn (l : List Ch) (J : Nat) : Ch := ((at3 l J).1 + (at3 l (J + 1)).1, (at3 l J).2)

theorem mg_high (l : List Ch) (J : Nat) : ∀ i, J + 2 + i ≤ l.length → mg l J (J + 2 + i) = l.take J ++ jn l J :: (l.drop (J + 2)).take i
  | 0, h => by
    have e1 := mg_low l J (J + 1) (Nat.le_refl _) (by omega)
    have e2 : l.take (J + 1) = l.take J ++ [at3 l J] := take_at3 (by omega)
    have hl : (l.take J).length = J := by rw [List.length_take]; omega
    have e3 : at3 (l.take (J + 1)) J = at3 l J := by simp [at3, List.getD, List.getElem?_take]
    rw [Nat.add_zero, mg, if_pos rfl, e1, e3, e2]
    rw [List.set_append_right _ _ (by omega), hl, Nat.sub_self]
    rfl
  | i + 1, h => by
    have ih := mg_high l J i (by omega)
    rw [show J + 2 + (i + 1) = (J + 2 + i) + 1 by omega, mg, if_neg (by omega), ih]
    have hk : i < (l.drop (J + 2)).length := by rw [List.length_drop]; omega
    rw [take_at3 hk]
    have e : at3 (l.drop (J + 2)) i = at3 l (J + 2 + i) := by simp [at3, List.getD, List.getElem?_drop]
    rw [e]
    simp

theorem mg_all (l : List Ch) (J : Nat) (h : J + 2 ≤ l.length) : mg l J l.length = l.take J ++ jn l J :: l.drop (J + 2) := by
  have := mg_high l J (l.length - (J + 2)) (by omega)
  rw [show J + 2 + (l.length - (J + 2)) = l.length by omega] at this
  have e : (l.drop (J + 2)).take (l.length - (J + 2)) = l.drop (J + 2) := List.take_of_length_le (by rw [List.length_drop]; omega)
  rw [this, e]

theorem parts (l : List Ch) (J : Nat) (h : J + 2 ≤ l.length) : l = l.take J ++ at3 l J :: at3 l (J + 1) :: l.drop (J + 2) := by
  have e1 : l.take (J + 1) = l.take J ++ [at3 l J] := take_at3 (by omega)
  have e2 : l.take (J + 2) = l.take (J + 1) ++ [at3 l (J + 1)] := take_at3 (by omega)
  have e3 := List.take_append_drop (J + 2) l
  rw [e2, e1] at e3
  conv => lhs; rw [← e3]
  simp

theorem mg_len (l : List Ch) (J : Nat) : ∀ i, (mg l J i).length ≤ i
  | 0 => by simp [mg]
  | i + 1 => by
    have := mg_len l J i
    rw [mg]
    split
    · simp; omega
    · simp; omega

theorem chs_set : ∀ (l : List Ch) (J : Nat) (x : Int), J < l.length → chs (l.set J (x, (at3 l J).2)) = (chs l).set (J * 3) (.int .i64 x)
  | [], J, x, h => absurd h (by simp)
  | c :: l, 0, x, _ => rfl
  | c :: l, J + 1, x, h => by
    have ih := chs_set l J x (by simpa using h)
    have e : ∀ (c : Ch) l, chs (c :: l) = [Value.int .i64 c.1, Value.int .i64 c.2.1, Value.int .i64 c.2.2] ++ chs l := fun _ _ => rfl
    rw [List.set_cons_succ, e, e]
    have e2 : at3 (c :: l) (J + 1) = at3 l J := by simp [at3]
    rw [e2, ih, List.set_append_right _ _ (by simp; omega)]
    congr 2
    simp
    omega

/-- One weight of a slice of choices of one's own, set. -/
theorem own_weight {W : World} {B n cap : Nat} {ao : Option Addr} {l : List Ch} (h : OwC W B (.slice ao n cap) n l) {J : Nat} (hJ : J < n) (x : Int) :
    ∃ g, ao = some ⟨g, 0, none⟩ ∧ B ≤ g ∧ W.frozen? ⟨g, J * 3, none⟩ = false ∧ W.cell? ⟨g, J * 3, none⟩ = some (.int .i64 (at3 l J).1) ∧ OwC (W.setCell ⟨g, J * 3, none⟩ (.int .i64 x)) B (.slice ao n cap) n (l.set J (x, (at3 l J).2)) := by
  have hl := owC_len h
  rcases h.2 with ⟨_, h0⟩ | ⟨g, cap2, cur, hv, hB, hg, hc, hm, hs, ht⟩
  · omega
  · injection hv with h1 h2 h3
    subst h1 h3
    refine ⟨g, rfl, hB, frozen_of_row _ _ _ _ _ hg, ?_, ?_, .inr ⟨g, _, _, rfl, hB, Go.heap_setCell_same _ _ _ _ _ _ hg, hc, hm, by simpa using hs, ?_⟩⟩
    · have e : (cur.toList.take (n * 3))[J * 3]? = (chs l)[J * 3]? := by rw [ht]
      rw [List.getElem?_take_of_lt (by omega)] at e
      rw [cell_of_row _ _ _ _ _ _ hg, ← Array.getElem?_toList, e]
      exact (chs_get l J (by omega)).1
    · rw [chs_len, List.length_set]; omega
    · rw [Array.toList_setIfInBounds, List.take_set, ht, chs_set l J x (by omega)]

end Go.Proofs.Ytafdjohgoopcmaa
