/- Contracts of the reference: Same, SameInts. Condition: the slices read as choices, as ints. -/
import Derived.Test.YtmpopbkhmkkhgaaE
namespace Go.Proofs.Ytmpopbkhmkkhgaa
open Go.RowKit

attribute [local go_sem ↓] equal29

theorem getD_ne {α : Type} {d : α} {a b : List α} (h : a.length = b.length) (he : a ≠ b) : ∃ k, k < a.length ∧ a.getD k d ≠ b.getD k d := by
  apply Classical.byContradiction
  intro hc
  apply he
  apply List.ext_getElem h
  intro k h1 h2
  apply Classical.byContradiction
  intro h3
  exact hc ⟨k, h1, by simpa [List.getD, h1, h2] using h3⟩

set_option maxRecDepth 10000 in
set_option maxHeartbeats 2000000 in
theorem same_any {w : World} {va vb : Value} {a b : List Ch} (ha : Cx w va a) (hb : Cx w vb b) : Calls Try.prog 16 #[va, vb] w fun e w' => e = .returned (.bool (decide (a = b))) ∧ Below w.heap.size w w' := by
  obtain ⟨aa, ca, rfl⟩ := ha.mk'
  obtain ⟨ab, cb, rfl⟩ := hb.mk'
  have hla := ha.len
  have hlb := hb.len
  unfold maxLen at hla hlb
  by_cases hlen : a.length = b.length
  · obtain ⟨n, hn⟩ : ∃ n, n = a.length := ⟨_, rfl⟩
    have hnb : n = b.length := by omega
    have HA := Lib.hid ha
    have HB := Lib.hid hb
    have HN := Lib.hid hn
    have HNB := Lib.hid hnb
    rw [← hn] at hla HA ⊢
    rw [← hnb] at HB ⊢
    clear hlen hlb hn hnb ha hb
    go_enter Try.func16, Try.ntmps16
    go_wp2
    go_loopw [5] (fun kv wr => ∃ k : Nat, k ≤ n ∧ kv = .int .i64 (k : Nat) ∧ Hid (∀ j, j < k → a.getD j (0, 0, 0) = b.getD j (0, 0, 0)) ∧ Hid (Below w.heap.size w wr)) (fun kv _ => n - (intOf kv).toNat)
    case atStart => exact ⟨0, by omega, rfl, Lib.hid (fun j h => by omega), Lib.hid (Below.refl _ _)⟩
    case round =>
      obtain ⟨k, hk, rfl, hJ, hBl⟩ := hrel
      by_cases hkn : k = n
      · have e1 : Hid (decide (a = b) = true) := Lib.hid (by
          rw [decide_eq_true_eq]
          apply Classical.byContradiction
          intro he
          obtain ⟨j, h1, h2⟩ := getD_ne (d := (0, 0, 0)) (by rw [← HN.out, ← HNB.out]) he
          exact h2 (hJ.out j (by rw [hkn, HN.out]; exact h1)))
        subst hkn
        clear hJ
        go_wp2
        go_ret
        exact ⟨by rw [e1.out] <;> rfl, hBl.out⟩
      · have hlt : k < n := by omega
        obtain ⟨b1, o1, rfl, hcap1, hbl1, hcl1⟩ := HA.out.at (by omega)
        obtain ⟨b2, o2, rfl, hcap2, hbl2, hcl2⟩ := HB.out.at (by omega)
        obtain ⟨c0, c1, c2⟩ := hcl1 k hlt
        obtain ⟨d0, d1, d2⟩ := hcl2 k hlt
        have c0 := cell_later hBl.out c0
        have c1 := cell_later hBl.out c1
        have c2 := cell_later hBl.out c2
        have d0 := cell_later hBl.out d0
        have d1 := cell_later hBl.out d1
        have d2 := cell_later hBl.out d2
        have hq := eqC_iff (a.getD k (0, 0, 0)) (b.getD k (0, 0, 0))
        have HBD := Lib.hid hBl.out.drew
        by_cases he : a.getD k (0, 0, 0) = b.getD k (0, 0, 0)
        · have HJ2 : Hid (∀ j, j < k + 1 → a.getD j (0, 0, 0) = b.getD j (0, 0, 0)) := Lib.hid fun j hj => by
            rcases Nat.lt_or_ge j k with h | h
            · exact hJ.out j h
            · rw [show j = k by omega]; exact he
          rw [he] at c0 c1 c2 hq
          simp only [decide_true] at hq
          revert c0 c1 c2 d0 d1 d2 hq
          generalize b.getD k (0, 0, 0) = q
          obtain ⟨p0, p1, p2⟩ := q
          intro c0 c1 c2 d0 d1 d2 hq
          simp only at c0 c1 c2 d0 d1 d2 hq
          clear he hcl1 hcl2 hJ
          go_wp2
          go_region
          go_wp2
          go_roundw
          case rel => exact ⟨k + 1, by omega, by go_num, HJ2, HBD⟩
          case measure => simp [intOf]; omega
        · have e1 : Hid (decide (a = b) = false) := Lib.hid (by
            rw [decide_eq_false_iff_not]
            intro h; rw [h] at he; exact he rfl)
          rw [decide_eq_false he] at hq
          revert c0 c1 c2 d0 d1 d2 hq
          generalize b.getD k (0, 0, 0) = q
          generalize a.getD k (0, 0, 0) = q'
          obtain ⟨p0, p1, p2⟩ := q
          obtain ⟨r0, r1, r2⟩ := q'
          intro c0 c1 c2 d0 d1 d2 hq
          simp only at c0 c1 c2 d0 d1 d2 hq
          clear hcl1 hcl2 hJ
          go_wp2
          go_region
          go_wp2
          go_ret
          exact ⟨by rw [e1.out] <;> rfl, HBD.out⟩
  · have e1 : decide (a = b) = false := by
      rw [decide_eq_false_iff_not]
      intro h; rw [h] at hlen; exact hlen rfl
    rw [e1]
    obtain ⟨n, hn⟩ : ∃ n, n = a.length := ⟨_, rfl⟩
    obtain ⟨m, hm⟩ : ∃ m, m = b.length := ⟨_, rfl⟩
    rw [← hn] at hla hlen ⊢
    rw [← hm] at hlb hlen ⊢
    have hne : ¬ (n : Int) = (m : Int) := by omega
    clear hn hm ha hb e1
    go_enter Try.func16, Try.ntmps16
    go_wp2
    go_ret
    exact ⟨rfl, Below.refl _ _⟩

set_option maxRecDepth 10000 in
set_option maxHeartbeats 2000000 in
theorem sameInts_any {w : World} {va vb : Value} {a b : List Int} (ha : Ix w va a) (hb : Ix w vb b) : Calls Try.prog 12 #[va, vb] w fun e w' => e = .returned (.bool (decide (a = b))) ∧ Below w.heap.size w w' := by
  obtain ⟨aa, ca, rfl⟩ := ha.mk'
  obtain ⟨ab, cb, rfl⟩ := hb.mk'
  have hla := ha.len
  have hlb := hb.len
  unfold maxLen at hla hlb
  by_cases hlen : a.length = b.length
  · obtain ⟨n, hn⟩ : ∃ n, n = a.length := ⟨_, rfl⟩
    have hnb : n = b.length := by omega
    have HA := Lib.hid ha
    have HB := Lib.hid hb
    have HN := Lib.hid hn
    have HNB := Lib.hid hnb
    rw [← hn] at hla HA ⊢
    rw [← hnb] at HB ⊢
    clear hlen hlb hn hnb ha hb
    go_enter Try.func12, Try.ntmps12
    go_wp2
    go_loopw [5] (fun kv wr => ∃ k : Nat, k ≤ n ∧ kv = .int .i64 (k : Nat) ∧ Hid (∀ j, j < k → a.getD j 0 = b.getD j 0) ∧ Hid (Below w.heap.size w wr)) (fun kv _ => n - (intOf kv).toNat)
    case atStart => exact ⟨0, by omega, rfl, Lib.hid (fun j h => by omega), Lib.hid (Below.refl _ _)⟩
    case round =>
      obtain ⟨k, hk, rfl, hJ, hBl⟩ := hrel
      by_cases hkn : k = n
      · have e1 : Hid (decide (a = b) = true) := Lib.hid (by
          rw [decide_eq_true_eq]
          apply Classical.byContradiction
          intro he
          obtain ⟨j, h1, h2⟩ := getD_ne (d := 0) (by rw [← HN.out, ← HNB.out]) he
          exact h2 (hJ.out j (by rw [hkn, HN.out]; exact h1)))
        subst hkn
        go_wp2
        go_ret
        exact ⟨by rw [e1.out] <;> rfl, hBl.out⟩
      · have hlt : k < n := by omega
        obtain ⟨b1, o1, rfl, hq1, hcap1, hbl1, hcl1⟩ := HA.out.at (by omega)
        obtain ⟨b2, o2, rfl, hq2, hcap2, hbl2, hcl2⟩ := HB.out.at (by omega)
        have c1 := cell_later hBl.out (hcl1 k hlt)
        have c2 := cell_later hBl.out (hcl2 k hlt)
        by_cases he : a.getD k 0 = b.getD k 0
        · have HJ2 : Hid (∀ j, j < k + 1 → a.getD j 0 = b.getD j 0) := Lib.hid fun j hj => by
            rcases Nat.lt_or_ge j k with h | h
            · exact hJ.out j h
            · rw [show j = k by omega]; exact he
          rw [← he] at c2
          obtain ⟨x, hx⟩ : ∃ x, x = a.getD k 0 := ⟨_, rfl⟩
          rw [← hx] at c1 c2
          have HBD := Lib.hid hBl.out.drew
          clear hx he hcl1 hcl2 hq1 hq2 hJ
          go_wp2
          go_region
          go_wp2
          go_roundw
          case rel => exact ⟨k + 1, by omega, by go_num, HJ2, HBD⟩
          case measure => simp [intOf]; omega
        · have e1 : Hid (decide (a = b) = false) := Lib.hid (by
            rw [decide_eq_false_iff_not]
            intro h; rw [h] at he; exact he rfl)
          obtain ⟨x, hx⟩ : ∃ x, x = a.getD k 0 := ⟨_, rfl⟩
          obtain ⟨y, hy⟩ : ∃ y, y = b.getD k 0 := ⟨_, rfl⟩
          rw [← hx] at c1 he
          rw [← hy] at c2 he
          have HBD := Lib.hid hBl.out.drew
          clear hx hy hcl1 hcl2 hq1 hq2 hJ
          go_wp2
          go_region
          go_wp2
          go_ret
          exact ⟨by rw [e1.out] <;> rfl, HBD.out⟩
  · have e1 : decide (a = b) = false := by
      rw [decide_eq_false_iff_not]
      intro h; rw [h] at hlen; exact hlen rfl
    rw [e1]
    obtain ⟨n, hn⟩ : ∃ n, n = a.length := ⟨_, rfl⟩
    obtain ⟨m, hm⟩ : ∃ m, m = b.length := ⟨_, rfl⟩
    rw [← hn] at hla hlen ⊢
    rw [← hm] at hlb hlen ⊢
    have hne : ¬ (n : Int) = (m : Int) := by omega
    clear hn hm ha hb e1
    go_enter Try.func12, Try.ntmps12
    go_wp2
    go_ret
    exact ⟨rfl, Below.refl _ _⟩

end Go.Proofs.Ytmpopbkhmkkhgaa
