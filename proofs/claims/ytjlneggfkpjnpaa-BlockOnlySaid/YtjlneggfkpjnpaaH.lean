/- Contracts of the reference: ranged, Left, Has, Same; SameInts. Condition: the slices read as ints, as choices. -/
import Derived.Test.YtjlneggfkpjnpaaG
namespace Go.Proofs.Ytjlneggfkpjnpaa
open Go.RowKit

theorem inB_no {lo hi : Int} {l : List Int} {k : Nat} (hk : k < l.length) (h : ¬ (lo ≤ l.getD k 0 ∧ l.getD k 0 ≤ hi)) : inB lo hi l = false := by
  cases hb : inB lo hi l with
  | false => rfl
  | true => exact absurd ((inB_iff.1 hb) k hk) h

set_option maxRecDepth 10000 in
set_option maxHeartbeats 1000000 in
theorem ranged_any {W : World} {v : Value} {l : List Int} (hX : Ix W v l) :
    Calls Try.prog 29 #[v] W fun e w' => e = .returned (.bool (inB 0 1048576 l)) ∧ w' = W := by
  obtain ⟨ao, cap, rfl⟩ := hX.mk'
  have hlen := hX.len
  unfold maxLen at hlen
  obtain ⟨n, hn⟩ : ∃ n, n = l.length := ⟨_, rfl⟩
  have HN := Lib.hid hn
  have HX := Lib.hid hX
  rw [← hn] at hlen HX ⊢
  clear hX hn
  go_enter Try.func29, Try.ntmps29
  go_wp2
  go_loop [3] (fun kv => ∃ k : Nat, k ≤ n ∧ kv = .int .i64 (k : Nat) ∧ Hid (∀ j, j < k → 0 ≤ l.getD j 0 ∧ l.getD j 0 ≤ 1048576)) (fun kv => n - (intOf kv).toNat)
  case atStart => exact ⟨0, by omega, rfl, Lib.hid (fun j h => by omega)⟩
  case round =>
    obtain ⟨k, hk, rfl, hJ⟩ := hrel
    by_cases hkn : k = n
    · have E : Hid (inB 0 1048576 l = true) := Lib.hid (inB_iff.2 fun j hj => hJ.out j (by rw [hkn, HN.out]; exact hj))
      subst hkn
      clear hJ
      go_wp2
      go_ret
      exact ⟨by rw [E.out] <;> rfl, rfl⟩
    · have hlt : k < n := by omega
      obtain ⟨b, off, rfl, hq, hcap, hbl, hcl⟩ := HX.out.at (by omega)
      have hc := hcl k hlt
      by_cases hin : 0 ≤ l.getD k 0 ∧ l.getD k 0 ≤ 1048576
      · have HJ2 : Hid (∀ j, j < k + 1 → 0 ≤ l.getD j 0 ∧ l.getD j 0 ≤ 1048576) := Lib.hid fun j hj => by
          rcases Nat.lt_or_ge j k with h | h
          · exact hJ.out j h
          · rw [show j = k by omega]; exact hin
        obtain ⟨x, hx⟩ : ∃ x, x = l.getD k 0 := ⟨_, rfl⟩
        rw [← hx] at hc hin
        obtain ⟨h1, h2⟩ := hin
        have h3 : ¬ x < 0 := by omega
        have h4 : ¬ 1048576 < x := by omega
        clear hx hcl hq hJ
        go_wp2
        go_round
        case rel => exact ⟨k + 1, by omega, by go_num, HJ2⟩
        case measure => simp [intOf]; omega
      · have E : Hid (inB 0 1048576 l = false) := Lib.hid (inB_no (by rw [← HN.out]; exact hlt) hin)
        obtain ⟨x, hx⟩ : ∃ x, x = l.getD k 0 := ⟨_, rfl⟩
        rw [← hx] at hc hin
        clear hx hcl hq hJ
        by_cases h3 : x < 0
        · clear hin
          go_wp2
          go_ret
          exact ⟨by rw [E.out] <;> rfl, rfl⟩
        · have h4 : 1048576 < x := by omega
          clear hin
          go_wp2
          go_ret
          exact ⟨by rw [E.out] <;> rfl, rfl⟩

set_option maxRecDepth 10000 in
set_option maxHeartbeats 1000000 in
theorem rLeft_any {W : World} {v : Value} {l : List Int} (hX : Ix W v l) (hl : l.length ≤ 1000) :
    Calls Try.prog 16 #[v] W fun e w' => e = .returned (.int .i64 (leftV l)) ∧ w' = W := by
  obtain ⟨ao, cap, rfl⟩ := hX.mk'
  have HW := Lib.hid (ranged_any hX)
  have HX := Lib.hid hX
  obtain ⟨n, hn⟩ : ∃ n, n = l.length := ⟨_, rfl⟩
  have HN := Lib.hid hn
  rw [← hn] at hl HX HW ⊢
  unfold leftV
  by_cases hin : inB 0 1048576 l = true
  · have HS := Lib.hid (sum_in hin)
    rw [if_pos hin]
    rw [hin] at HW
    obtain ⟨R, hR⟩ : ∃ R, R = l.sum := ⟨_, rfl⟩
    have HR := Lib.hid hR
    rw [← hR]
    clear hX hn hin hR
    go_enter Try.func16, Try.ntmps16
    go_wp2_with (go_at_call 29; refine HW.out.mono ?_; rintro e w1 ⟨rfl, rfl⟩)
    go_loop [3, 4] (fun sv kv => ∃ (k : Nat) (S : Int), k ≤ n ∧ 0 ≤ S ∧ S ≤ 1048576 * 1000 ∧ kv = .int .i64 (k : Nat) ∧ sv = .int .i64 S ∧ Hid (S = (l.take k).sum)) (fun _ kv => n - (intOf kv).toNat)
    case atStart => exact ⟨0, 0, by omega, by omega, by omega, rfl, rfl, Lib.hid (by simp)⟩
    case round =>
      obtain ⟨k, S, hk, hS0, hS1, rfl, rfl, hJ⟩ := hrel
      by_cases hkn : k = n
      · have e1 : S = R := by rw [hJ.out, HR.out, hkn, HN.out, List.take_length]
        subst hkn e1
        go_wp2
        go_ret
        exact ⟨rfl, rfl⟩
      · have hlt : k < n := by omega
        obtain ⟨b, off, rfl, hq, hcap, hbl, hcl⟩ := HX.out.at (by omega)
        have hc := hcl k hlt
        have hs := HS.out (k + 1) (by rw [← HN.out]; omega)
        have e := sum_take (l := l) (k := k) (by rw [← HN.out]; omega)
        rw [e, ← hJ.out] at hs
        rw [← hJ.out] at e
        obtain ⟨x, hx⟩ : ∃ x, x = l.getD k 0 := ⟨_, rfl⟩
        rw [← hx] at hc hs e
        obtain ⟨hs1, hs2⟩ := hs
        have hs3 : S + x ≤ 1048576 * 1000 := by omega
        have E := Lib.hid e
        clear hx hcl hq e hs2
        go_wp2
        go_round
        case rel => exact ⟨k + 1, S + x, by omega, hs1, hs3, by go_num, rfl, Lib.hid E.out.symm⟩
        case measure => simp [intOf]; omega
  · have hf : inB 0 1048576 l = false := by simpa using hin
    rw [if_neg hin]
    rw [hf] at HW
    clear hX hn hin hf
    go_enter Try.func16, Try.ntmps16
    go_wp2_with (go_at_call 29; refine HW.out.mono ?_; rintro e w1 ⟨rfl, rfl⟩)
    go_ret
    exact ⟨rfl, rfl⟩

attribute [local go_sem ↓] equal28

set_option maxRecDepth 10000 in
set_option maxHeartbeats 2000000 in
theorem has_any {W : World} {v : Value} {l : List Ch} (hX : Cx W v l) (x y z : Int) :
    Calls Try.prog 36 #[v, .agg #[.int .i64 x, .int .i64 y, .int .i64 z]] W fun e w' => e = .returned (.bool (decide ((x, y, z) ∈ l))) ∧ Below W.heap.size W w' := by
  obtain ⟨ao, cap, rfl⟩ := hX.mk'
  have hlen := hX.len
  unfold maxLen at hlen
  have HB0 := Lib.hid (cbox_below W (x, y, z))
  have HC0 := Lib.hid (cbox_is W (x, y, z))
  obtain ⟨n, hn⟩ : ∃ n, n = l.length := ⟨_, rfl⟩
  have HN := Lib.hid hn
  have HX := Lib.hid hX
  rw [← hn] at hlen HX ⊢
  clear hX hn
  go_enter Try.func36, Try.ntmps36
  go_wp2
  go_loopw [5] (fun kv wr => ∃ k : Nat, k ≤ n ∧ kv = .int .i64 (k : Nat) ∧ Hid (∀ j, j < k → l.getD j (0, 0, 0) ≠ (x, y, z)) ∧ Hid (Below (cbox W (x, y, z)).heap.size (cbox W (x, y, z)) wr)) (fun kv _ => n - (intOf kv).toNat)
  case atStart => exact ⟨0, by omega, rfl, Lib.hid (fun j h => by omega), Lib.hid (Below.refl _ _)⟩
  case round =>
    obtain ⟨k, hk, rfl, hJ, hB⟩ := hrel
    have HBW : Hid (Below W.heap.size W wr) := Lib.hid (HB0.out.trans (hB.out.mono (by simp)))
    by_cases hkn : k = n
    · have E : Hid (decide ((x, y, z) ∈ l) = false) := Lib.hid (decide_eq_false fun h => by
        obtain ⟨j, h1, h2⟩ := mem_getD h
        exact absurd h2 (hJ.out j (by rw [hkn, HN.out]; exact h1)))
      subst hkn
      clear hJ
      go_wp2
      go_ret
      exact ⟨by rw [E.out] <;> rfl, HBW.out⟩
    · have hlt : k < n := by omega
      obtain ⟨b, off, rfl, hcap, hbl, hcl⟩ := HX.out.at (by omega)
      obtain ⟨c0, c1, c2⟩ := hcl k hlt
      have c0 := cell_later HBW.out c0
      have c1 := cell_later HBW.out c1
      have c2 := cell_later HBW.out c2
      obtain ⟨d0, d1, d2⟩ := (HC0.out.below hB.out).cells
      have hq := eqC_iff (l.getD k (0, 0, 0)) (x, y, z)
      have hmem := getD_mem (l := l) (k := k) (by rw [← HN.out]; exact hlt)
      have HBD := Lib.hid hB.out.drew
      by_cases he : l.getD k (0, 0, 0) = (x, y, z)
      · rw [he] at c0 c1 c2 hq hmem
        simp only [decide_true] at hq
        have E : Hid (decide ((x, y, z) ∈ l) = true) := Lib.hid (decide_eq_true hmem)
        have HBD2 := Lib.hid HBW.out.drew
        clear hcl hJ hmem he
        go_wp2
        go_region
        go_wp2
        go_ret
        exact ⟨by rw [E.out] <;> rfl, HBD2.out⟩
      · have HJ2 : Hid (∀ j, j < k + 1 → l.getD j (0, 0, 0) ≠ (x, y, z)) := Lib.hid fun j hj => by
          rcases Nat.lt_or_ge j k with h | h
          · exact hJ.out j h
          · rw [show j = k by omega]; exact he
        rw [decide_eq_false he] at hq
        revert c0 c1 c2 hq
        generalize l.getD k (0, 0, 0) = q
        obtain ⟨p0, p1, p2⟩ := q
        intro c0 c1 c2 hq
        simp only at c0 c1 c2 hq
        clear hcl hJ hmem he
        go_wp2
        go_region
        go_wp2
        go_roundw
        case rel => exact ⟨k + 1, by omega, by go_num, HJ2, HBD⟩
        case measure => simp [intOf]; omega

theorem getD_ne {α : Type} {d : α} {a b : List α} (h : a.length = b.length) (he : a ≠ b) : ∃ k, k < a.length ∧ a.getD k d ≠ b.getD k d := by
  apply Classical.byContradiction
  intro hc
  apply he
  apply List.ext_getElem h
  intro k h1 h2
  apply Classical.byContradiction
  intro h3
  exact hc ⟨k, h1, by simpa [List.getD, h1, h2] using h3⟩

set_option maxRecDepth 10000 in
set_option maxHeartbeats 2000000 in
theorem same_any {w : World} {va vb : Value} {a b : List Ch} (ha : Cx w va a) (hb : Cx w vb b) : Calls Try.prog 13 #[va, vb] w fun e w' => e = .returned (.bool (decide (a = b))) ∧ Below w.heap.size w w' := by
  obtain ⟨aa, ca, rfl⟩ := ha.mk'
  obtain ⟨ab, cb, rfl⟩ := hb.mk'
  have hla := ha.len
  have hlb := hb.len
  unfold maxLen at hla hlb
  by_cases hlen : a.length = b.length
  · obtain ⟨n, hn⟩ : ∃ n, n = a.length := ⟨_, rfl⟩
    have hnb : n = b.length := by omega
    have HA := Lib.hid ha
    have HB := Lib.hid hb
    have HN := Lib.hid hn
    have HNB := Lib.hid hnb
    rw [← hn] at hla HA ⊢
    rw [← hnb] at HB ⊢
    clear hlen hlb hn hnb ha hb
    go_enter Try.func13, Try.ntmps13
    go_wp2
    go_loopw [5] (fun kv wr => ∃ k : Nat, k ≤ n ∧ kv = .int .i64 (k : Nat) ∧ Hid (∀ j, j < k → a.getD j (0, 0, 0) = b.getD j (0, 0, 0)) ∧ Hid (Below w.heap.size w wr)) (fun kv _ => n - (intOf kv).toNat)
    case atStart => exact ⟨0, by omega, rfl, Lib.hid (fun j h => by omega), Lib.hid (Below.refl _ _)⟩
    case round =>
      obtain ⟨k, hk, rfl, hJ, hBl⟩ := hrel
      by_cases hkn : k = n
      · have e1 : Hid (decide (a = b) = true) := Lib.hid (by
          rw [decide_eq_true_eq]
          apply Classical.byContradiction
          intro he
          obtain ⟨j, h1, h2⟩ := getD_ne (d := (0, 0, 0)) (by rw [← HN.out, ← HNB.out]) he
          exact h2 (hJ.out j (by rw [hkn, HN.out]; exact h1)))
        subst hkn
        clear hJ
        go_wp2
        go_ret
        exact ⟨by rw [e1.out] <;> rfl, hBl.out⟩
      · have hlt : k < n := by omega
        obtain ⟨b1, o1, rfl, hcap1, hbl1, hcl1⟩ := HA.out.at (by omega)
        obtain ⟨b2, o2, rfl, hcap2, hbl2, hcl2⟩ := HB.out.at (by omega)
        obtain ⟨c0, c1, c2⟩ := hcl1 k hlt
        obtain ⟨d0, d1, d2⟩ := hcl2 k hlt
        have c0 := cell_later hBl.out c0
        have c1 := cell_later hBl.out c1
        have c2 := cell_later hBl.out c2
        have d0 := cell_later hBl.out d0
        have d1 := cell_later hBl.out d1
        have d2 := cell_later hBl.out d2
        have hq := eqC_iff (a.getD k (0, 0, 0)) (b.getD k (0, 0, 0))
        have HBD := Lib.hid hBl.out.drew
        by_cases he : a.getD k (0, 0, 0) = b.getD k (0, 0, 0)
        · have HJ2 : Hid (∀ j, j < k + 1 → a.getD j (0, 0, 0) = b.getD j (0, 0, 0)) := Lib.hid fun j hj => by
            rcases Nat.lt_or_ge j k with h | h
            · exact hJ.out j h
            · rw [show j = k by omega]; exact he
          rw [he] at c0 c1 c2 hq
          simp only [decide_true] at hq
          revert c0 c1 c2 d0 d1 d2 hq
          generalize b.getD k (0, 0, 0) = q
          obtain ⟨p0, p1, p2⟩ := q
          intro c0 c1 c2 d0 d1 d2 hq
          simp only at c0 c1 c2 d0 d1 d2 hq
          clear he hcl1 hcl2 hJ
          go_wp2
          go_region
          go_wp2
          go_roundw
          case rel => exact ⟨k + 1, by omega, by go_num, HJ2, HBD⟩
          case measure => simp [intOf]; omega
        · have e1 : Hid (decide (a = b) = false) := Lib.hid (by
            rw [decide_eq_false_iff_not]
            intro h; rw [h] at he; exact he rfl)
          rw [decide_eq_false he] at hq
          revert c0 c1 c2 d0 d1 d2 hq
          generalize b.getD k (0, 0, 0) = q
          generalize a.getD k (0, 0, 0) = q'
          obtain ⟨p0, p1, p2⟩ := q
          obtain ⟨r0, r1, r2⟩ := q'
          intro c0 c1 c2 d0 d1 d2 hq
          simp only at c0 c1 c2 d0 d1 d2 hq
          clear hcl1 hcl2 hJ
          go_wp2
          go_region
          go_wp2
          go_ret
          exact ⟨by rw [e1.out] <;> rfl, HBD.out⟩
  · have e1 : decide (a = b) = false := by
      rw [decide_eq_false_iff_not]
      intro h; rw [h] at hlen; exact hlen rfl
    rw [e1]
    obtain ⟨n, hn⟩ : ∃ n, n = a.length := ⟨_, rfl⟩
    obtain ⟨m, hm⟩ : ∃ m, m = b.length := ⟨_, rfl⟩
    rw [← hn] at hla hlen ⊢
    rw [← hm] at hlb hlen ⊢
    have hne : ¬ (n : Int) = (m : Int) := by omega
    clear hn hm ha hb e1
    go_enter Try.func13, Try.ntmps13
    go_wp2
    go_ret
    exact ⟨rfl, Below.refl _ _⟩

set_option maxRecDepth 10000 in
set_option maxHeartbeats 2000000 in
theorem sameInts_any {w : World} {va vb : Value} {a b : List Int} (ha : Ix w va a) (hb : Ix w vb b) : Calls Try.prog 20 #[va, vb] w fun e w' => e = .returned (.bool (decide (a = b))) ∧ Below w.heap.size w w' := by
  obtain ⟨aa, ca, rfl⟩ := ha.mk'
  obtain ⟨ab, cb, rfl⟩ := hb.mk'
  have hla := ha.len
  have hlb := hb.len
  unfold maxLen at hla hlb
  by_cases hlen : a.length = b.length
  · obtain ⟨n, hn⟩ : ∃ n, n = a.length := ⟨_, rfl⟩
    have hnb : n = b.length := by omega
    have HA := Lib.hid ha
    have HB := Lib.hid hb
    have HN := Lib.hid hn
    have HNB := Lib.hid hnb
    rw [← hn] at hla HA ⊢
    rw [← hnb] at HB ⊢
    clear hlen hlb hn hnb ha hb
    go_enter Try.func20, Try.ntmps20
    go_wp2
    go_loopw [5] (fun kv wr => ∃ k : Nat, k ≤ n ∧ kv = .int .i64 (k : Nat) ∧ Hid (∀ j, j < k → a.getD j 0 = b.getD j 0) ∧ Hid (Below w.heap.size w wr)) (fun kv _ => n - (intOf kv).toNat)
    case atStart => exact ⟨0, by omega, rfl, Lib.hid (fun j h => by omega), Lib.hid (Below.refl _ _)⟩
    case round =>
      obtain ⟨k, hk, rfl, hJ, hBl⟩ := hrel
      by_cases hkn : k = n
      · have e1 : Hid (decide (a = b) = true) := Lib.hid (by
          rw [decide_eq_true_eq]
          apply Classical.byContradiction
          intro he
          obtain ⟨j, h1, h2⟩ := getD_ne (d := 0) (by rw [← HN.out, ← HNB.out]) he
          exact h2 (hJ.out j (by rw [hkn, HN.out]; exact h1)))
        subst hkn
        go_wp2
        go_ret
        exact ⟨by rw [e1.out] <;> rfl, hBl.out⟩
      · have hlt : k < n := by omega
        obtain ⟨b1, o1, rfl, hq1, hcap1, hbl1, hcl1⟩ := HA.out.at (by omega)
        obtain ⟨b2, o2, rfl, hq2, hcap2, hbl2, hcl2⟩ := HB.out.at (by omega)
        have c1 := cell_later hBl.out (hcl1 k hlt)
        have c2 := cell_later hBl.out (hcl2 k hlt)
        by_cases he : a.getD k 0 = b.getD k 0
        · have HJ2 : Hid (∀ j, j < k + 1 → a.getD j 0 = b.getD j 0) := Lib.hid fun j hj => by
            rcases Nat.lt_or_ge j k with h | h
            · exact hJ.out j h
            · rw [show j = k by omega]; exact he
          rw [← he] at c2
          obtain ⟨x, hx⟩ : ∃ x, x = a.getD k 0 := ⟨_, rfl⟩
          rw [← hx] at c1 c2
          have HBD := Lib.hid hBl.out.drew
          clear hx he hcl1 hcl2 hq1 hq2 hJ
          go_wp2
          go_region
          go_wp2
          go_roundw
          case rel => exact ⟨k + 1, by omega, by go_num, HJ2, HBD⟩
          case measure => simp [intOf]; omega
        · have e1 : Hid (decide (a = b) = false) := Lib.hid (by
            rw [decide_eq_false_iff_not]
            intro h; rw [h] at he; exact he rfl)
          obtain ⟨x, hx⟩ : ∃ x, x = a.getD k 0 := ⟨_, rfl⟩
          obtain ⟨y, hy⟩ : ∃ y, y = b.getD k 0 := ⟨_, rfl⟩
          rw [← hx] at c1 he
          rw [← hy] at c2 he
          have HBD := Lib.hid hBl.out.drew
          clear hx hy hcl1 hcl2 hq1 hq2 hJ
          go_wp2
          go_region
          go_wp2
          go_ret
          exact ⟨by rw [e1.out] <;> rfl, HBD.out⟩
  · have e1 : decide (a = b) = false := by
      rw [decide_eq_false_iff_not]
      intro h; rw [h] at hlen; exact hlen rfl
    rw [e1]
    obtain ⟨n, hn⟩ : ∃ n, n = a.length := ⟨_, rfl⟩
    obtain ⟨m, hm⟩ : ∃ m, m = b.length := ⟨_, rfl⟩
    rw [← hn] at hla hlen ⊢
    rw [← hm] at hlb hlen ⊢
    have hne : ¬ (n : Int) = (m : Int) := by omega
    clear hn hm ha hb e1
    go_enter Try.func20, Try.ntmps20
    go_wp2
    go_ret
    exact ⟨rfl, Below.refl _ _⟩

end Go.Proofs.Ytjlneggfkpjnpaa
