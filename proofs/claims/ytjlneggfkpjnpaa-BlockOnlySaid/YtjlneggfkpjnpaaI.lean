/- Contracts of the reference: blocks, Choices. Condition: the slices read as ints, at most eight each. -/
import Derived.Test.YtjlneggfkpjnpaaH
namespace Go.Proofs.Ytjlneggfkpjnpaa
open Go.RowKit

/-- Is one of the first numbers greater than 0? -/
def posB (l : List Int) : Nat → Bool
  | 0 => false
  | k + 1 => posB l k || decide (0 < l.getD k 0)
theorem posB_any (l : List Int) : posB l l.length = l.any fun x => decide (0 < x) := by
  have h : ∀ k, k ≤ l.length → posB l k = (l.take k).any fun x => decide (0 < x) := fun k => by
    induction k with
    | zero => intro _; simp [posB]
    | succ k ih =>
      intro hk
      rw [posB, ih (by omega), List.take_add_one, List.getElem?_eq_getElem (by omega), List.any_append]
      have : k < l.length := by omega
      simp [List.getD, this]
  rw [h _ (Nat.le_refl _), List.take_length]

theorem hasB_no {r s : List Int} (h : r.length < 1 ∨ 6 < r.length ∨ s.length < 1 ∨ 3 < s.length) : hasB r s = false := by
  cases hb : hasB r s with
  | false => rfl
  | true => have := hasB_iff.1 hb; omega

set_option maxRecDepth 10000 in
set_option maxHeartbeats 2000000 in
theorem blocks_any {W : World} {ar az : Option Addr} {nr cr ns cs : Nat} {r s : List Int} (hr : Ix W (.slice ar nr cr) r) (hs : Ix W (.slice az ns cs) s) :
    Calls Try.prog 28 #[.agg #[.int .i64 0, .slice ar nr cr, .slice az ns cs, .int .i64 0, .int .i64 0, .int .i64 0]] W fun e w' => e = .returned (.bool (hasB r s)) ∧ Below W.heap.size W w' := by
  have hnr := hr.size
  have hns := hs.size
  have HB0 := Lib.hid (dbox_below W (.slice ar nr cr) (.slice az ns cs))
  by_cases hno : nr < 1 ∨ 6 < nr ∨ ns < 1 ∨ 3 < ns
  · rw [hasB_no (by rw [← hnr, ← hns]; exact hno)]
    clear hr hs hnr hns
    rcases Nat.lt_or_ge nr 1 with h1 | h1
    · clear hno
      go_enter Try.func28, Try.ntmps28
      go_wp2
      go_ret
      exact ⟨rfl, HB0.out⟩
    · rcases Nat.lt_or_ge 6 nr with h2 | h2
      · clear hno
        go_enter Try.func28, Try.ntmps28
        go_wp2
        go_ret
        exact ⟨rfl, HB0.out⟩
      · rcases Nat.lt_or_ge ns 1 with h3 | h3
        · clear hno
          go_enter Try.func28, Try.ntmps28
          go_wp2
          go_ret
          exact ⟨rfl, HB0.out⟩
        · have h4 : 3 < ns := by omega
          clear hno
          go_enter Try.func28, Try.ntmps28
          go_wp2
          go_ret
          exact ⟨rfl, HB0.out⟩
  · have h1 : 1 ≤ nr := by omega
    have h2 : nr ≤ 6 := by omega
    have h3 : 1 ≤ ns := by omega
    have h4 : ns ≤ 3 := by omega
    have HE : Hid (hasB r s = (inB 0 8 r && posB r nr && inB 1 4 s)) := Lib.hid (by
      unfold hasB hasR hasS
      rw [hnr, posB_any, decide_eq_true (show 1 ≤ r.length by omega), decide_eq_true (show r.length ≤ 6 by omega), decide_eq_true (show 1 ≤ s.length by omega), decide_eq_true (show s.length ≤ 3 by omega)]
      simp)
    have HR := Lib.hid (hr.below HB0.out)
    have HS := Lib.hid (hs.below HB0.out)
    have HNR := Lib.hid hnr
    have HNS := Lib.hid hns
    obtain ⟨R, hR⟩ : ∃ R, R = hasB r s := ⟨_, rfl⟩
    rw [← hR] at HE ⊢
    obtain ⟨k0, k1, k2, -, -, -⟩ := (dbox_is W (.slice ar nr cr) (.slice az ns cs)).cells
    clear hr hs hnr hns hno hR
    go_enter Try.func28, Try.ntmps28
    go_wp2
    go_loop [3, 4] (fun bv kv => ∃ k : Nat, k ≤ nr ∧ kv = .int .i64 (k : Nat) ∧ bv = .bool (posB r k) ∧ Hid (∀ j, j < k → 0 ≤ r.getD j 0 ∧ r.getD j 0 ≤ 8)) (fun _ kv => nr - (intOf kv).toNat)
    case atStart => exact ⟨0, by omega, rfl, rfl, Lib.hid (fun j h => by omega)⟩
    case round =>
      obtain ⟨k, hk, rfl, rfl, hJ⟩ := hrel
      by_cases hkn : k = nr
      · have E : Hid (R = (posB r nr && inB 1 4 s)) := Lib.hid (by
          rw [HE.out, inB_iff.2 fun j hj => hJ.out j (by rw [hkn, HNR.out]; exact hj)]; rfl)
        subst hkn
        obtain ⟨q, hq⟩ : ∃ q, q = posB r k := ⟨_, rfl⟩
        rw [← hq] at E ⊢
        clear hJ hq
        go_wp2
        go_loop [5] (fun kv => ∃ i : Nat, i ≤ ns ∧ kv = .int .i64 (i : Nat) ∧ Hid (∀ j, j < i → 1 ≤ s.getD j 0 ∧ s.getD j 0 ≤ 4)) (fun kv => ns - (intOf kv).toNat)
        case atStart => exact ⟨0, by omega, rfl, Lib.hid (fun j h => by omega)⟩
        case round =>
          obtain ⟨i, hi, rfl, hJ⟩ := hrel
          by_cases hin : i = ns
          · have E2 : Hid (R = q) := Lib.hid (by
              rw [E.out, inB_iff.2 fun j hj => hJ.out j (by rw [hin, HNS.out]; exact hj), Bool.and_true])
            subst hin
            clear hJ
            go_wp2
            go_ret
            exact ⟨by rw [E2.out] <;> rfl, HB0.out⟩
          · have hlt : i < ns := by omega
            obtain ⟨b, off, rfl, hq, hcap, hbl, hcl⟩ := HS.out.at (by omega)
            have hc := hcl i hlt
            by_cases hin : 1 ≤ s.getD i 0 ∧ s.getD i 0 ≤ 4
            · have HJ2 : Hid (∀ j, j < i + 1 → 1 ≤ s.getD j 0 ∧ s.getD j 0 ≤ 4) := Lib.hid fun j hj => by
                rcases Nat.lt_or_ge j i with h | h
                · exact hJ.out j h
                · rw [show j = i by omega]; exact hin
              obtain ⟨x, hx⟩ : ∃ x, x = s.getD i 0 := ⟨_, rfl⟩
              rw [← hx] at hc hin
              obtain ⟨h1, h2⟩ := hin
              clear hx hcl hq hJ
              go_wp2
              go_round
              case rel => exact ⟨i + 1, by omega, by go_num, HJ2⟩
              case measure => simp [intOf]; omega
            · have E2 : Hid (R = false) := Lib.hid (by rw [E.out, inB_no (by rw [← HNS.out]; exact hlt) hin, Bool.and_false])
              obtain ⟨x, hx⟩ : ∃ x, x = s.getD i 0 := ⟨_, rfl⟩
              rw [← hx] at hc hin
              clear hx hcl hq hJ
              by_cases h3 : x < 1
              · clear hin
                go_wp2
                go_ret
                exact ⟨by rw [E2.out] <;> rfl, HB0.out⟩
              · have h4 : 4 < x := by omega
                clear hin
                go_wp2
                go_ret
                exact ⟨by rw [E2.out] <;> rfl, HB0.out⟩
      · have hlt : k < nr := by omega
        obtain ⟨b, off, rfl, hq, hcap, hbl, hcl⟩ := HR.out.at (by omega)
        have hc := hcl k hlt
        by_cases hin : 0 ≤ r.getD k 0 ∧ r.getD k 0 ≤ 8
        · have HJ2 : Hid (∀ j, j < k + 1 → 0 ≤ r.getD j 0 ∧ r.getD j 0 ≤ 8) := Lib.hid fun j hj => by
            rcases Nat.lt_or_ge j k with h | h
            · exact hJ.out j h
            · rw [show j = k by omega]; exact hin
          have e : posB r (k + 1) = (posB r k || decide (0 < r.getD k 0)) := rfl
          have EP := Lib.hid e
          obtain ⟨x, hx⟩ : ∃ x, x = r.getD k 0 := ⟨_, rfl⟩
          rw [← hx] at hc hin EP
          obtain ⟨q, hqq⟩ : ∃ q, q = posB r k := ⟨_, rfl⟩
          rw [← hqq] at EP ⊢
          obtain ⟨h1, h2⟩ := hin
          clear hx hcl hq hJ e hqq
          cases q with
          | true =>
            go_wp2
            go_round
            case rel => exact ⟨k + 1, by omega, by go_num, by rw [EP.out] <;> rfl, HJ2⟩
            case measure => simp [intOf]; omega
          | false =>
            go_wp2
            go_round
            case rel => exact ⟨k + 1, by omega, by go_num, by rw [EP.out] <;> first | rfl | simp, HJ2⟩
            case measure => simp [intOf]; omega
        · have E2 : Hid (R = false) := Lib.hid (by rw [HE.out, inB_no (by rw [← HNR.out]; exact hlt) hin]; rfl)
          obtain ⟨x, hx⟩ : ∃ x, x = r.getD k 0 := ⟨_, rfl⟩
          rw [← hx] at hc hin
          obtain ⟨q, hqq⟩ : ∃ q, q = posB r k := ⟨_, rfl⟩
          rw [← hqq]
          clear hx hcl hq hJ hqq
          by_cases h3 : x < 0
          · clear hin
            go_wp2
            go_ret
            exact ⟨by rw [E2.out] <;> rfl, HB0.out⟩
          · have h4 : 8 < x := by omega
            clear hin
            go_wp2
            go_ret
            exact ⟨by rw [E2.out] <;> rfl, HB0.out⟩

end Go.Proofs.Ytjlneggfkpjnpaa
