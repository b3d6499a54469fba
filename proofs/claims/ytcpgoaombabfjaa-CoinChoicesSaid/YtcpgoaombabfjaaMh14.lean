/- Contracts of the law: same; of the reference: SameChoices. Condition: the slices read as choices, as ints. Contract of the law: sanity. No condition. -/
import Derived.Test.YtcpgoaombabfjaaMh2
import Derived.Test.YtcpgoaombabfjaaMh13
import Derived.KernelRfl
namespace Go.Proofs.Ytcpgoaombabfjaa
open Go.RowKit

attribute [local go_sem ↓] equal51

theorem getD_ne {α : Type} {d : α} {a b : List α} (h : a.length = b.length) (he : a ≠ b) : ∃ k, k < a.length ∧ a.getD k d ≠ b.getD k d := by
  apply Classical.byContradiction
  intro hc
  apply he
  apply List.ext_getElem h
  intro k h1 h2
  apply Classical.byContradiction
  intro h3
  exact hc ⟨k, h1, by simpa [List.getD, h1, h2] using h3⟩

set_option maxRecDepth 10000 in
set_option maxHeartbeats 2000000 in
theorem same_any {w : World} {va vb : Value} {a b : List Ch} (ha : Cx w va a) (hb : Cx w vb b) : Calls Try.prog 20 #[va, vb] w fun e w' => e = .returned (.bool (decide (a = b))) ∧ Below w.heap.size w w' := by
  obtain ⟨aa, ca, rfl⟩ := ha.mk'
  obtain ⟨ab, cb, rfl⟩ := hb.mk'
  have hla := ha.len
  have hlb := hb.len
  unfold maxLen at hla hlb
  by_cases hlen : a.length = b.length
  · obtain ⟨n, hn⟩ : ∃ n, n = a.length := ⟨_, rfl⟩
    have hnb : n = b.length := by omega
    have HA := Lib.hid ha
    have HB := Lib.hid hb
    have HN := Lib.hid hn
    have HNB := Lib.hid hnb
    rw [← hn] at hla HA ⊢
    rw [← hnb] at HB ⊢
    clear hlen hlb hn hnb ha hb
    go_enter Try.func20, Try.ntmps20
    go_wp2
    go_loopw [5] (fun kv wr => ∃ k : Nat, k ≤ n ∧ kv = .int .i64 (k : Nat) ∧ Hid (∀ j, j < k → a.getD j (0, 0, 0) = b.getD j (0, 0, 0)) ∧ Hid (Below w.heap.size w wr)) (fun kv _ => n - (intOf kv).toNat)
    case atStart => exact ⟨0, by omega, rfl, Lib.hid (fun j h => by omega), Lib.hid (Below.refl _ _)⟩
    case round =>
      obtain ⟨k, hk, rfl, hJ, hBl⟩ := hrel
      by_cases hkn : k = n
      · have e1 : Hid (decide (a = b) = true) := Lib.hid (by
          rw [decide_eq_true_eq]
          apply Classical.byContradiction
          intro he
          obtain ⟨j, h1, h2⟩ := getD_ne (d := (0, 0, 0)) (by rw [← HN.out, ← HNB.out]) he
          exact h2 (hJ.out j (by rw [hkn, HN.out]; exact h1)))
        subst hkn
        clear hJ
        go_wp2
        go_ret
        exact ⟨by rw [e1.out] <;> rfl, hBl.out⟩
      · have hlt : k < n := by omega
        obtain ⟨b1, o1, rfl, hcap1, hbl1, hcl1⟩ := HA.out.at (by omega)
        obtain ⟨b2, o2, rfl, hcap2, hbl2, hcl2⟩ := HB.out.at (by omega)
        obtain ⟨c0, c1, c2⟩ := hcl1 k hlt
        obtain ⟨d0, d1, d2⟩ := hcl2 k hlt
        have c0 := cell_later hBl.out c0
        have c1 := cell_later hBl.out c1
        have c2 := cell_later hBl.out c2
        have d0 := cell_later hBl.out d0
        have d1 := cell_later hBl.out d1
        have d2 := cell_later hBl.out d2
        have hq := eqC_iff (a.getD k (0, 0, 0)) (b.getD k (0, 0, 0))
        have HBD := Lib.hid hBl.out.drew
        by_cases he : a.getD k (0, 0, 0) = b.getD k (0, 0, 0)
        · have HJ2 : Hid (∀ j, j < k + 1 → a.getD j (0, 0, 0) = b.getD j (0, 0, 0)) := Lib.hid fun j hj => by
            rcases Nat.lt_or_ge j k with h | h
            · exact hJ.out j h
            · rw [show j = k by omega]; exact he
          rw [he] at c0 c1 c2 hq
          simp only [decide_true] at hq
          revert c0 c1 c2 d0 d1 d2 hq
          generalize b.getD k (0, 0, 0) = q
          obtain ⟨p0, p1, p2⟩ := q
          intro c0 c1 c2 d0 d1 d2 hq
          simp only at c0 c1 c2 d0 d1 d2 hq
          clear he hcl1 hcl2 hJ
          go_wp2
          go_region
          go_wp2
          go_roundw
          case rel => exact ⟨k + 1, by omega, by go_num, HJ2, HBD⟩
          case measure => simp [intOf]; omega
        · have e1 : Hid (decide (a = b) = false) := Lib.hid (by
            rw [decide_eq_false_iff_not]
            intro h; rw [h] at he; exact he rfl)
          rw [decide_eq_false he] at hq
          revert c0 c1 c2 d0 d1 d2 hq
          generalize b.getD k (0, 0, 0) = q
          generalize a.getD k (0, 0, 0) = q'
          obtain ⟨p0, p1, p2⟩ := q
          obtain ⟨r0, r1, r2⟩ := q'
          intro c0 c1 c2 d0 d1 d2 hq
          simp only at c0 c1 c2 d0 d1 d2 hq
          clear hcl1 hcl2 hJ
          go_wp2
          go_region
          go_wp2
          go_ret
          exact ⟨by rw [e1.out] <;> rfl, HBD.out⟩
  · have e1 : decide (a = b) = false := by
      rw [decide_eq_false_iff_not]
      intro h; rw [h] at hlen; exact hlen rfl
    rw [e1]
    obtain ⟨n, hn⟩ : ∃ n, n = a.length := ⟨_, rfl⟩
    obtain ⟨m, hm⟩ : ∃ m, m = b.length := ⟨_, rfl⟩
    rw [← hn] at hla hlen ⊢
    rw [← hm] at hlb hlen ⊢
    have hne : ¬ (n : Int) = (m : Int) := by omega
    clear hn hm ha hb e1
    go_enter Try.func20, Try.ntmps20
    go_wp2
    go_ret
    exact ⟨rfl, Below.refl _ _⟩

set_option maxRecDepth 10000 in
set_option maxHeartbeats 2000000 in
theorem sameInts_any {w : World} {va vb : Value} {a b : List Int} (ha : Ix w va a) (hb : Ix w vb b) : Calls Try.prog 17 #[va, vb] w fun e w' => e = .returned (.bool (decide (a = b))) ∧ Below w.heap.size w w' := by
  obtain ⟨aa, ca, rfl⟩ := ha.mk'
  obtain ⟨ab, cb, rfl⟩ := hb.mk'
  have hla := ha.len
  have hlb := hb.len
  unfold maxLen at hla hlb
  by_cases hlen : a.length = b.length
  · obtain ⟨n, hn⟩ : ∃ n, n = a.length := ⟨_, rfl⟩
    have hnb : n = b.length := by omega
    have HA := Lib.hid ha
    have HB := Lib.hid hb
    have HN := Lib.hid hn
    have HNB := Lib.hid hnb
    rw [← hn] at hla HA ⊢
    rw [← hnb] at HB ⊢
    clear hlen hlb hn hnb ha hb
    go_enter Try.func17, Try.ntmps17
    go_wp2
    go_loopw [5, 13] (fun _ kv wr => ∃ k : Nat, k ≤ n ∧ kv = .int .i64 (k : Nat) ∧ Hid (∀ j, j < k → a.getD j 0 = b.getD j 0) ∧ Hid (Below w.heap.size w wr)) (fun _ kv _ => n - (intOf kv).toNat)
    case atStart => exact ⟨0, by omega, rfl, Lib.hid (fun j h => by omega), Lib.hid (Below.refl _ _)⟩
    case round =>
      obtain ⟨k, hk, rfl, hJ, hBl⟩ := hrel
      by_cases hkn : k = n
      · have e1 : Hid (decide (a = b) = true) := Lib.hid (by
          rw [decide_eq_true_eq]
          apply Classical.byContradiction
          intro he
          obtain ⟨j, h1, h2⟩ := getD_ne (d := 0) (by rw [← HN.out, ← HNB.out]) he
          exact h2 (hJ.out j (by rw [hkn, HN.out]; exact h1)))
        subst hkn
        go_wp2
        go_ret
        exact ⟨by rw [e1.out] <;> rfl, hBl.out⟩
      · have hlt : k < n := by omega
        obtain ⟨b1, o1, rfl, hq1, hcap1, hbl1, hcl1⟩ := HA.out.at (by omega)
        obtain ⟨b2, o2, rfl, hq2, hcap2, hbl2, hcl2⟩ := HB.out.at (by omega)
        have c1 := cell_later hBl.out (hcl1 k hlt)
        have c2 := cell_later hBl.out (hcl2 k hlt)
        by_cases he : a.getD k 0 = b.getD k 0
        · have HJ2 : Hid (∀ j, j < k + 1 → a.getD j 0 = b.getD j 0) := Lib.hid fun j hj => by
            rcases Nat.lt_or_ge j k with h | h
            · exact hJ.out j h
            · rw [show j = k by omega]; exact he
          rw [← he] at c2
          obtain ⟨x, hx⟩ : ∃ x, x = a.getD k 0 := ⟨_, rfl⟩
          rw [← hx] at c1 c2
          have HBD := Lib.hid hBl.out.drew
          clear hx he hcl1 hcl2 hq1 hq2 hJ
          go_wp2
          go_region
          go_wp2
          go_roundw
          case rel => exact ⟨k + 1, by omega, by go_num, HJ2, HBD⟩
          case measure => simp [intOf]; omega
        · have e1 : Hid (decide (a = b) = false) := Lib.hid (by
            rw [decide_eq_false_iff_not]
            intro h; rw [h] at he; exact he rfl)
          obtain ⟨x, hx⟩ : ∃ x, x = a.getD k 0 := ⟨_, rfl⟩
          obtain ⟨y, hy⟩ : ∃ y, y = b.getD k 0 := ⟨_, rfl⟩
          rw [← hx] at c1 he
          rw [← hy] at c2 he
          have HBD := Lib.hid hBl.out.drew
          clear hx hy hcl1 hcl2 hq1 hq2 hJ
          go_wp2
          go_region
          go_wp2
          go_ret
          exact ⟨by rw [e1.out] <;> rfl, HBD.out⟩
  · have e1 : decide (a = b) = false := by
      rw [decide_eq_false_iff_not]
      intro h; rw [h] at hlen; exact hlen rfl
    rw [e1]
    obtain ⟨n, hn⟩ : ∃ n, n = a.length := ⟨_, rfl⟩
    obtain ⟨m, hm⟩ : ∃ m, m = b.length := ⟨_, rfl⟩
    rw [← hn] at hla hlen ⊢
    rw [← hm] at hlb hlen ⊢
    have hne : ¬ (n : Int) = (m : Int) := by omega
    clear hn hm ha hb e1
    go_enter Try.func17, Try.ntmps17
    go_wp2
    go_ret
    exact ⟨rfl, Below.refl _ _⟩

end Go.Proofs.Ytcpgoaombabfjaa

namespace Go.Proofs.Ytcpgoaombabfjaa
open Go.RowKit

theorem ix_three (W : World) (a b c : Int) (ha : I64 a) (hb : I64 b) (hc : I64 c) : Ix (W.alloc (.cells #[.int .i64 a, .int .i64 b, .int .i64 c] 3)) (.slice (some ⟨W.heap.size, 0, none⟩) 3 3) [a, b, c] := by
  have h := heap_alloc_new W (.cells #[.int .i64 a, .int .i64 b, .int .i64 c] 3)
  refine ⟨by simp; decide, fun k => ?_, .inr ⟨W.heap.size, 0, 3, rfl, by simp, by simp, fun j hj => ?_⟩⟩
  · rcases (show k = 0 ∨ k = 1 ∨ k = 2 ∨ 3 ≤ k by omega) with rfl | rfl | rfl | h
    · exact ha
    · exact hb
    · exact hc
    · rw [out_zero (by simpa using h)]; decide
  · rcases (show j = 0 ∨ j = 1 ∨ j = 2 by simp at hj; omega) with rfl | rfl | rfl <;> exact cell_of_row _ _ _ _ _ _ h
theorem ix_two (W : World) (a b : Int) (ha : I64 a) (hb : I64 b) : Ix (W.alloc (.cells #[.int .i64 a, .int .i64 b] 3)) (.slice (some ⟨W.heap.size, 0, none⟩) 2 2) [a, b] := by
  have h := heap_alloc_new W (.cells #[.int .i64 a, .int .i64 b] 3)
  refine ⟨by simp; decide, fun k => ?_, .inr ⟨W.heap.size, 0, 2, rfl, by simp, by simp, fun j hj => ?_⟩⟩
  · rcases (show k = 0 ∨ k = 1 ∨ 2 ≤ k by omega) with rfl | rfl | h
    · exact ha
    · exact hb
    · rw [out_zero (by simpa using h)]; decide
  · rcases (show j = 0 ∨ j = 1 by simp at hj; omega) with rfl | rfl <;> exact cell_of_row _ _ _ _ _ _ h
theorem ix_one (W : World) (a : Int) (ha : I64 a) : Ix (W.alloc (.cells #[.int .i64 a] 3)) (.slice (some ⟨W.heap.size, 0, none⟩) 1 1) [a] := by
  have h := heap_alloc_new W (.cells #[.int .i64 a] 3)
  refine ⟨by simp; decide, fun k => ?_, .inr ⟨W.heap.size, 0, 1, rfl, by simp, by simp, fun j hj => ?_⟩⟩
  · rcases (show k = 0 ∨ 1 ≤ k by omega) with rfl | h
    · exact ha
    · rw [out_zero (by simpa using h)]; decide
  · obtain rfl : j = 0 := by simp at hj; omega
    exact cell_of_row _ _ _ _ _ _ h
theorem cx_three (W : World) (a b c : Ch) (ha : I64 a.1 ∧ I64 a.2.1 ∧ I64 a.2.2) (hb : I64 b.1 ∧ I64 b.2.1 ∧ I64 b.2.2) (hc : I64 c.1 ∧ I64 c.2.1 ∧ I64 c.2.2) : Cx (W.alloc (.cells #[.int .i64 a.1, .int .i64 a.2.1, .int .i64 a.2.2, .int .i64 b.1, .int .i64 b.2.1, .int .i64 b.2.2, .int .i64 c.1, .int .i64 c.2.1, .int .i64 c.2.2] 51)) (.slice (some ⟨W.heap.size, 0, none⟩) 3 3) [a, b, c] := by
  have h := heap_alloc_new W (.cells #[.int .i64 a.1, .int .i64 a.2.1, .int .i64 a.2.2, .int .i64 b.1, .int .i64 b.2.1, .int .i64 b.2.2, .int .i64 c.1, .int .i64 c.2.1, .int .i64 c.2.2] 51)
  refine ⟨by simp; decide, fun k => ?_, .inr ⟨W.heap.size, 0, 3, rfl, by simp, by simp, fun j hj => ?_⟩⟩
  · rcases (show k = 0 ∨ k = 1 ∨ k = 2 ∨ 3 ≤ k by omega) with rfl | rfl | rfl | h
    · exact ha
    · exact hb
    · exact hc
    · rw [show [a, b, c].getD k (0, 0, 0) = (0, 0, 0) by simp [List.getD, List.getElem?_eq_none (show [a, b, c].length ≤ k by simpa using h)]]; decide
  · rcases (show j = 0 ∨ j = 1 ∨ j = 2 by simp at hj; omega) with rfl | rfl | rfl <;> exact ⟨cell_of_row _ _ _ _ _ _ h, cell_of_row _ _ _ _ _ _ h, cell_of_row _ _ _ _ _ _ h⟩

theorem i64_small {x : Int} (h : -1000 ≤ x) (h2 : x ≤ 1000) : I64 x := ⟨by omega, by omega⟩

theorem val_u1 : uneV [(1 : Int), 1, 2] [1, 0, 2] = 2 := by decide +kernel
theorem val_u2 : uneV [(1 : Int), 1, 2] [] = 0 := by decide +kernel
theorem val_u3 : uneV [(1 : Int), 1, 2] [1, 0] = 0 := by decide +kernel
theorem val_p1 : prfV [(1 : Int), 1, 2] [1, 0, 2] [] = [1] := by decide +kernel
theorem val_p2 : prfV [(1 : Int), 1, 2] [] [] = [2] := by decide +kernel
theorem val_c : chV [(1 : Int), 1, 2] [] [] 2 3 = [(2, 0, 0), (2, 0, 1), (8, 0, 2)] := by decide +kernel
theorem val_n1 : nxB [(1 : Int), 1, 2] [] 2 = true := by decide +kernel
theorem val_n2 : nxB [(1 : Int), 1, 2] [] 3 = false := by decide +kernel
theorem val_v1 : nxV [(1 : Int), 1, 2] [] 2 = [0, 0, 1] := by decide +kernel
theorem val_v2 : nxV [(1 : Int), 1, 2] [] 3 = [] := by decide +kernel

set_option maxRecDepth 10000 in
set_option maxHeartbeats 8000000 in
theorem sanity_any {W : World} : Calls Try.prog 9 #[] W fun e w' => e = .returned (.bool true) ∧ Below W.heap.size W w' := by
  have hi := ix_three W 1 1 2 (i64_small (by omega) (by omega)) (i64_small (by omega) (by omega)) (i64_small (by omega) (by omega))
  have hb3 : Below (W.alloc (.cells #[.int .i64 1, .int .i64 1, .int .i64 2] 3)).heap.size (W.alloc (.cells #[.int .i64 1, .int .i64 1, .int .i64 2] 3)) ((((W.alloc (.cells #[.int .i64 1, .int .i64 1, .int .i64 2] 3)).alloc (.cells #[.int .i64 4, .slice (some ⟨W.heap.size, 0, none⟩) 3 3, .slice none 0 0, .int .i64 0, .int .i64 2, .int .i64 3] 30)).alloc (.cells #[.int .i64 1, .int .i64 0, .int .i64 2] 3))) := ((Below.refl _ _).alloc (Nat.le_refl _) _).alloc (by simp) _
  have hr3 := hi.below hb3
  have hrow : Ix ((((W.alloc (.cells #[.int .i64 1, .int .i64 1, .int .i64 2] 3)).alloc (.cells #[.int .i64 4, .slice (some ⟨W.heap.size, 0, none⟩) 3 3, .slice none 0 0, .int .i64 0, .int .i64 2, .int .i64 3] 30)).alloc (.cells #[.int .i64 1, .int .i64 0, .int .i64 2] 3))) (.slice (some ⟨W.heap.size + 1 + 1, 0, none⟩) 3 3) [1, 0, 2] := by
    have h := ix_three ((W.alloc (.cells #[.int .i64 1, .int .i64 1, .int .i64 2] 3)).alloc (.cells #[.int .i64 4, .slice (some ⟨W.heap.size, 0, none⟩) 3 3, .slice none 0 0, .int .i64 0, .int .i64 2, .int .i64 3] 30)) 1 0 2 (i64_small (by omega) (by omega)) (i64_small (by omega) (by omega)) (i64_small (by omega) (by omega))
    rw [World.size_alloc, World.size_alloc] at h
    exact h
  have hw0 : Below W.heap.size W ((((W.alloc (.cells #[.int .i64 1, .int .i64 1, .int .i64 2] 3)).alloc (.cells #[.int .i64 4, .slice (some ⟨W.heap.size, 0, none⟩) 3 3, .slice none 0 0, .int .i64 0, .int .i64 2, .int .i64 3] 30)).alloc (.cells #[.int .i64 1, .int .i64 0, .int .i64 2] 3))) := (((Below.refl _ W).alloc (Nat.le_refl _) _).alloc (by simp) _).alloc (by simp; omega) _
  have hdb : DBox ((((W.alloc (.cells #[.int .i64 1, .int .i64 1, .int .i64 2] 3)).alloc (.cells #[.int .i64 4, .slice (some ⟨W.heap.size, 0, none⟩) 3 3, .slice none 0 0, .int .i64 0, .int .i64 2, .int .i64 3] 30)).alloc (.cells #[.int .i64 1, .int .i64 0, .int .i64 2] 3))) (W.heap.size + 1) 4 (.slice (some ⟨W.heap.size, 0, none⟩) 3 3) 2 3 := by
    have h := heap_alloc_new (W.alloc (.cells #[.int .i64 1, .int .i64 1, .int .i64 2] 3)) (.cells #[.int .i64 4, .slice (some ⟨W.heap.size, 0, none⟩) 3 3, .slice none 0 0, .int .i64 0, .int .i64 2, .int .i64 3] 30)
    rw [World.size_alloc] at h
    exact (show DBox _ _ _ _ _ _ from h).below ((Below.refl _ _).alloc (Nat.le_refl _) _)
  have HW0 := Lib.hid hw0
  have HD : Hid (∀ w, Below ((((W.alloc (.cells #[.int .i64 1, .int .i64 1, .int .i64 2] 3)).alloc (.cells #[.int .i64 4, .slice (some ⟨W.heap.size, 0, none⟩) 3 3, .slice none 0 0, .int .i64 0, .int .i64 2, .int .i64 3] 30)).alloc (.cells #[.int .i64 1, .int .i64 0, .int .i64 2] 3))).heap.size ((((W.alloc (.cells #[.int .i64 1, .int .i64 1, .int .i64 2] 3)).alloc (.cells #[.int .i64 4, .slice (some ⟨W.heap.size, 0, none⟩) 3 3, .slice none 0 0, .int .i64 0, .int .i64 2, .int .i64 3] 30)).alloc (.cells #[.int .i64 1, .int .i64 0, .int .i64 2] 3))) w → w.cell? ⟨W.heap.size + 1, 0, none⟩ = some (.int .i64 4) ∧ w.cell? ⟨W.heap.size + 1, 1, none⟩ = some (.slice (some ⟨W.heap.size, 0, none⟩) 3 3) ∧ w.cell? ⟨W.heap.size + 1, 2, none⟩ = some (.slice none 0 0) ∧ w.cell? ⟨W.heap.size + 1, 3, none⟩ = some (.int .i64 0) ∧ w.cell? ⟨W.heap.size + 1, 4, none⟩ = some (.int .i64 2) ∧ w.cell? ⟨W.heap.size + 1, 5, none⟩ = some (.int .i64 3)) := Lib.hid (fun w hb => (hdb.below hb).cells)
  have HDL : Hid (∀ w, Below ((((W.alloc (.cells #[.int .i64 1, .int .i64 1, .int .i64 2] 3)).alloc (.cells #[.int .i64 4, .slice (some ⟨W.heap.size, 0, none⟩) 3 3, .slice none 0 0, .int .i64 0, .int .i64 2, .int .i64 3] 30)).alloc (.cells #[.int .i64 1, .int .i64 0, .int .i64 2] 3))).heap.size ((((W.alloc (.cells #[.int .i64 1, .int .i64 1, .int .i64 2] 3)).alloc (.cells #[.int .i64 4, .slice (some ⟨W.heap.size, 0, none⟩) 3 3, .slice none 0 0, .int .i64 0, .int .i64 2, .int .i64 3] 30)).alloc (.cells #[.int .i64 1, .int .i64 0, .int .i64 2] 3))) w → W.heap.size + 1 < w.heap.size) := Lib.hid (fun w hb => (Array.getElem?_eq_some_iff.1 (hdb.below hb)).1)
  have HU1 : Hid (∀ w, Below ((((W.alloc (.cells #[.int .i64 1, .int .i64 1, .int .i64 2] 3)).alloc (.cells #[.int .i64 4, .slice (some ⟨W.heap.size, 0, none⟩) 3 3, .slice none 0 0, .int .i64 0, .int .i64 2, .int .i64 3] 30)).alloc (.cells #[.int .i64 1, .int .i64 0, .int .i64 2] 3))).heap.size ((((W.alloc (.cells #[.int .i64 1, .int .i64 1, .int .i64 2] 3)).alloc (.cells #[.int .i64 4, .slice (some ⟨W.heap.size, 0, none⟩) 3 3, .slice none 0 0, .int .i64 0, .int .i64 2, .int .i64 3] 30)).alloc (.cells #[.int .i64 1, .int .i64 0, .int .i64 2] 3))) w → Calls Try.prog 12 #[DV 4 (.slice (some ⟨W.heap.size, 0, none⟩) 3 3) 2 3, .slice (some ⟨W.heap.size + 1 + 1, 0, none⟩) 3 3] w fun e w' => e = .returned (.int .i64 2) ∧ Below w.heap.size w w') := Lib.hid (fun w hb => by
    have h := uneven_any (hr3.below hb) (hrow.below hb) (by decide) 4 2 3
    rwa [val_u1] at h)
  have HU2 : Hid (∀ w, Below ((((W.alloc (.cells #[.int .i64 1, .int .i64 1, .int .i64 2] 3)).alloc (.cells #[.int .i64 4, .slice (some ⟨W.heap.size, 0, none⟩) 3 3, .slice none 0 0, .int .i64 0, .int .i64 2, .int .i64 3] 30)).alloc (.cells #[.int .i64 1, .int .i64 0, .int .i64 2] 3))).heap.size ((((W.alloc (.cells #[.int .i64 1, .int .i64 1, .int .i64 2] 3)).alloc (.cells #[.int .i64 4, .slice (some ⟨W.heap.size, 0, none⟩) 3 3, .slice none 0 0, .int .i64 0, .int .i64 2, .int .i64 3] 30)).alloc (.cells #[.int .i64 1, .int .i64 0, .int .i64 2] 3))) w → Calls Try.prog 12 #[DV 4 (.slice (some ⟨W.heap.size, 0, none⟩) 3 3) 2 3, .slice none 0 0] w fun e w' => e = .returned (.int .i64 0) ∧ Below w.heap.size w w') := Lib.hid (fun w hb => by
    have h := uneven_any (hr3.below hb) (Ix.nil w) (by decide) 4 2 3
    rwa [val_u2] at h)
  have HU3 : Hid (∀ w, Below ((((W.alloc (.cells #[.int .i64 1, .int .i64 1, .int .i64 2] 3)).alloc (.cells #[.int .i64 4, .slice (some ⟨W.heap.size, 0, none⟩) 3 3, .slice none 0 0, .int .i64 0, .int .i64 2, .int .i64 3] 30)).alloc (.cells #[.int .i64 1, .int .i64 0, .int .i64 2] 3))).heap.size ((((W.alloc (.cells #[.int .i64 1, .int .i64 1, .int .i64 2] 3)).alloc (.cells #[.int .i64 4, .slice (some ⟨W.heap.size, 0, none⟩) 3 3, .slice none 0 0, .int .i64 0, .int .i64 2, .int .i64 3] 30)).alloc (.cells #[.int .i64 1, .int .i64 0, .int .i64 2] 3))) w → Calls Try.prog 12 #[DV 4 (.slice (some ⟨W.heap.size, 0, none⟩) 3 3) 2 3, .slice (some ⟨w.heap.size, 0, none⟩) 2 2] (w.alloc (.cells #[.int .i64 1, .int .i64 0] 3)) fun e w' => e = .returned (.int .i64 0) ∧ Below w.heap.size w w') := Lib.hid (fun w hb => by
    have ha : Below w.heap.size w (w.alloc (.cells #[.int .i64 1, .int .i64 0] 3)) := (Below.refl _ _).alloc (Nat.le_refl _) _
    have h := uneven_any (hr3.below (hb.trans (ha.mono hb.size))) (ix_two w 1 0 (i64_small (by omega) (by omega)) (i64_small (by omega) (by omega))) (by decide) 4 2 3
    rw [val_u3] at h
    exact h.mono fun e w' h => ⟨h.1, ha.trans (h.2.mono ha.size)⟩)
  have HP1 : Hid (∀ w, Below ((((W.alloc (.cells #[.int .i64 1, .int .i64 1, .int .i64 2] 3)).alloc (.cells #[.int .i64 4, .slice (some ⟨W.heap.size, 0, none⟩) 3 3, .slice none 0 0, .int .i64 0, .int .i64 2, .int .i64 3] 30)).alloc (.cells #[.int .i64 1, .int .i64 0, .int .i64 2] 3))).heap.size ((((W.alloc (.cells #[.int .i64 1, .int .i64 1, .int .i64 2] 3)).alloc (.cells #[.int .i64 4, .slice (some ⟨W.heap.size, 0, none⟩) 3 3, .slice none 0 0, .int .i64 0, .int .i64 2, .int .i64 3] 30)).alloc (.cells #[.int .i64 1, .int .i64 0, .int .i64 2] 3))) w → Calls Try.prog 18 #[DV 4 (.slice (some ⟨W.heap.size, 0, none⟩) 3 3) 2 3, .slice (some ⟨W.heap.size + 1 + 1, 0, none⟩) 3 3, .slice none 0 0] w fun e w' => ∃ ao cap, e = .returned (.slice ao 1 cap) ∧ Ix w' (.slice ao 1 cap) [1] ∧ Below w.heap.size w w') := Lib.hid (fun w hb => by
    have h := preferred_any (hr3.below hb) (hrow.below hb) (Ix.nil w) (by decide) 4 2 3
    rw [val_p1] at h
    refine h.mono fun e w' h => ?_
    obtain ⟨ao, n, cap, h1, h2, h3⟩ := h
    obtain rfl : n = 1 := owI_len h2
    exact ⟨ao, cap, h1, h2.ix (by omega) (fun k => by rcases (show k = 0 ∨ 1 ≤ k by omega) with rfl | h; exact i64_small (by simp) (by simp); rw [out_zero (by simpa using h)]; decide), h3⟩)
  have HP2 : Hid (∀ w, Below ((((W.alloc (.cells #[.int .i64 1, .int .i64 1, .int .i64 2] 3)).alloc (.cells #[.int .i64 4, .slice (some ⟨W.heap.size, 0, none⟩) 3 3, .slice none 0 0, .int .i64 0, .int .i64 2, .int .i64 3] 30)).alloc (.cells #[.int .i64 1, .int .i64 0, .int .i64 2] 3))).heap.size ((((W.alloc (.cells #[.int .i64 1, .int .i64 1, .int .i64 2] 3)).alloc (.cells #[.int .i64 4, .slice (some ⟨W.heap.size, 0, none⟩) 3 3, .slice none 0 0, .int .i64 0, .int .i64 2, .int .i64 3] 30)).alloc (.cells #[.int .i64 1, .int .i64 0, .int .i64 2] 3))) w → Calls Try.prog 18 #[DV 4 (.slice (some ⟨W.heap.size, 0, none⟩) 3 3) 2 3, .slice none 0 0, .slice none 0 0] w fun e w' => ∃ ao cap, e = .returned (.slice ao 1 cap) ∧ Ix w' (.slice ao 1 cap) [2] ∧ Below w.heap.size w w') := Lib.hid (fun w hb => by
    have h := preferred_any (hr3.below hb) (Ix.nil w) (Ix.nil w) (by decide) 4 2 3
    rw [val_p2] at h
    refine h.mono fun e w' h => ?_
    obtain ⟨ao, n, cap, h1, h2, h3⟩ := h
    obtain rfl : n = 1 := owI_len h2
    exact ⟨ao, cap, h1, h2.ix (by omega) (fun k => by rcases (show k = 0 ∨ 1 ≤ k by omega) with rfl | h; exact i64_small (by simp) (by simp); rw [out_zero (by simpa using h)]; decide), h3⟩)
  have HS1 : Hid (∀ w ao cap (x : Int), -1000 ≤ x → x ≤ 1000 → Ix w (.slice ao 1 cap) [x] → Calls Try.prog 17 #[.slice ao 1 cap, .slice (some ⟨w.heap.size, 0, none⟩) 1 1] (w.alloc (.cells #[.int .i64 x] 3)) fun e w' => e = .returned (.bool true) ∧ Below w.heap.size w w') := Lib.hid (fun w ao cap x h1 h2 hx => by
    have ha : Below w.heap.size w (w.alloc (.cells #[.int .i64 x] 3)) := (Below.refl _ _).alloc (Nat.le_refl _) _
    have h := sameInts_any (hx.below ha) (ix_one w x (i64_small h1 h2))
    rw [decide_eq_true rfl] at h
    exact h.mono fun e w' h => ⟨h.1, ha.trans (h.2.mono ha.size)⟩)
  have HS3 : Hid (∀ w ao cap, Ix w (.slice ao 3 cap) [0, 0, 1] → Calls Try.prog 17 #[.slice ao 3 cap, .slice (some ⟨w.heap.size, 0, none⟩) 3 3] (w.alloc (.cells #[.int .i64 0, .int .i64 0, .int .i64 1] 3)) fun e w' => e = .returned (.bool true) ∧ Below w.heap.size w w') := Lib.hid (fun w ao cap hx => by
    have ha : Below w.heap.size w (w.alloc (.cells #[.int .i64 0, .int .i64 0, .int .i64 1] 3)) := (Below.refl _ _).alloc (Nat.le_refl _) _
    have h := sameInts_any (hx.below ha) (ix_three w 0 0 1 (i64_small (by omega) (by omega)) (i64_small (by omega) (by omega)) (i64_small (by omega) (by omega)))
    rw [decide_eq_true rfl] at h
    exact h.mono fun e w' h => ⟨h.1, ha.trans (h.2.mono ha.size)⟩)
  have HC1 : Hid (∀ w, Below ((((W.alloc (.cells #[.int .i64 1, .int .i64 1, .int .i64 2] 3)).alloc (.cells #[.int .i64 4, .slice (some ⟨W.heap.size, 0, none⟩) 3 3, .slice none 0 0, .int .i64 0, .int .i64 2, .int .i64 3] 30)).alloc (.cells #[.int .i64 1, .int .i64 0, .int .i64 2] 3))).heap.size ((((W.alloc (.cells #[.int .i64 1, .int .i64 1, .int .i64 2] 3)).alloc (.cells #[.int .i64 4, .slice (some ⟨W.heap.size, 0, none⟩) 3 3, .slice none 0 0, .int .i64 0, .int .i64 2, .int .i64 3] 30)).alloc (.cells #[.int .i64 1, .int .i64 0, .int .i64 2] 3))) w → Calls Try.prog 21 #[DV 4 (.slice (some ⟨W.heap.size, 0, none⟩) 3 3) 2 3, .slice none 0 0, .slice none 0 0] w fun e w' => ∃ ao cap, e = .returned (.slice ao 3 cap) ∧ Cx w' (.slice ao 3 cap) [(2, 0, 0), (2, 0, 1), (8, 0, 2)] ∧ Below w.heap.size w w') := Lib.hid (fun w hb => by
    have h := choices_any (hr3.below hb) (Ix.nil w) (Ix.nil w) (by decide) 4 2 3 (by omega) (by omega)
    rw [show ((2 : Nat) : Int) = 2 from rfl, show ((3 : Nat) : Int) = 3 from rfl, val_c] at h
    refine h.mono fun e w' h => ?_
    obtain ⟨ao, n, cap, h1, h2, h3⟩ := h
    obtain rfl : n = 3 := owC_len h2
    refine ⟨ao, cap, h1, h2.cx (by omega) (fun k => ?_), h3⟩
    rcases (show k = 0 ∨ k = 1 ∨ k = 2 ∨ 3 ≤ k by omega) with rfl | rfl | rfl | h
    · decide
    · decide
    · decide
    · rw [show [((2 : Int), (0 : Int), (0 : Int)), (2, 0, 1), (8, 0, 2)].getD k (0, 0, 0) = (0, 0, 0) by simp [List.getD, List.getElem?_eq_none (show [((2 : Int), (0 : Int), (0 : Int)), (2, 0, 1), (8, 0, 2)].length ≤ k by simpa using h)]]; decide)
  have HN1 : Hid (∀ w, Below ((((W.alloc (.cells #[.int .i64 1, .int .i64 1, .int .i64 2] 3)).alloc (.cells #[.int .i64 4, .slice (some ⟨W.heap.size, 0, none⟩) 3 3, .slice none 0 0, .int .i64 0, .int .i64 2, .int .i64 3] 30)).alloc (.cells #[.int .i64 1, .int .i64 0, .int .i64 2] 3))).heap.size ((((W.alloc (.cells #[.int .i64 1, .int .i64 1, .int .i64 2] 3)).alloc (.cells #[.int .i64 4, .slice (some ⟨W.heap.size, 0, none⟩) 3 3, .slice none 0 0, .int .i64 0, .int .i64 2, .int .i64 3] 30)).alloc (.cells #[.int .i64 1, .int .i64 0, .int .i64 2] 3))) w → Calls Try.prog 15 #[DV 4 (.slice (some ⟨W.heap.size, 0, none⟩) 3 3) 2 3, .slice none 0 0, .int .i64 2] w fun e w' => ∃ ao cap, e = .returned (.tuple #[.slice ao 3 cap, .bool true]) ∧ Ix w' (.slice ao 3 cap) [0, 0, 1] ∧ Below w.heap.size w w') := Lib.hid (fun w hb => by
    have h := next_any (hr3.below hb) (Ix.nil w) (by decide) 4 2 3 2
    rw [val_n1, val_v1] at h
    refine h.mono fun e w' h => ?_
    obtain ⟨ao, n, cap, h1, h2, h3⟩ := h
    obtain rfl : n = 3 := owI_len h2
    refine ⟨ao, cap, h1, h2.ix (by omega) (fun k => ?_), h3⟩
    rcases (show k = 0 ∨ k = 1 ∨ k = 2 ∨ 3 ≤ k by omega) with rfl | rfl | rfl | h
    · decide
    · decide
    · decide
    · rw [out_zero (by simpa using h)]; decide)
  have HN2 : Hid (∀ w, Below ((((W.alloc (.cells #[.int .i64 1, .int .i64 1, .int .i64 2] 3)).alloc (.cells #[.int .i64 4, .slice (some ⟨W.heap.size, 0, none⟩) 3 3, .slice none 0 0, .int .i64 0, .int .i64 2, .int .i64 3] 30)).alloc (.cells #[.int .i64 1, .int .i64 0, .int .i64 2] 3))).heap.size ((((W.alloc (.cells #[.int .i64 1, .int .i64 1, .int .i64 2] 3)).alloc (.cells #[.int .i64 4, .slice (some ⟨W.heap.size, 0, none⟩) 3 3, .slice none 0 0, .int .i64 0, .int .i64 2, .int .i64 3] 30)).alloc (.cells #[.int .i64 1, .int .i64 0, .int .i64 2] 3))) w → Calls Try.prog 15 #[DV 4 (.slice (some ⟨W.heap.size, 0, none⟩) 3 3) 2 3, .slice none 0 0, .int .i64 3] w fun e w' => ∃ ao cap, e = .returned (.tuple #[.slice ao 0 cap, .bool false]) ∧ Below w.heap.size w w') := Lib.hid (fun w hb => by
    have h := next_any (hr3.below hb) (Ix.nil w) (by decide) 4 2 3 3
    rw [val_n2, val_v2] at h
    refine h.mono fun e w' h => ?_
    obtain ⟨ao, n, cap, h1, h2, h3⟩ := h
    obtain rfl : n = 0 := owI_len h2
    exact ⟨ao, cap, h1, h3⟩)
  have HSC : Hid (∀ w ao cap, Cx w (.slice ao 3 cap) [(2, 0, 0), (2, 0, 1), (8, 0, 2)] → Calls Try.prog 20 #[.slice ao 3 cap, .slice (some ⟨w.heap.size, 0, none⟩) 3 3] (w.alloc (.cells #[.int .i64 2, .int .i64 0, .int .i64 0, .int .i64 2, .int .i64 0, .int .i64 1, .int .i64 8, .int .i64 0, .int .i64 2] 51)) fun e w' => e = .returned (.bool true) ∧ Below w.heap.size w w') := Lib.hid (fun w ao cap hx => by
    have ha : Below w.heap.size w (w.alloc (.cells #[.int .i64 2, .int .i64 0, .int .i64 0, .int .i64 2, .int .i64 0, .int .i64 1, .int .i64 8, .int .i64 0, .int .i64 2] 51)) := (Below.refl _ _).alloc (Nat.le_refl _) _
    have h := same_any (hx.below ha) (cx_three w (2, 0, 0) (2, 0, 1) (8, 0, 2) (by decide) (by decide) (by decide))
    rw [decide_eq_true rfl] at h
    exact h.mono fun e w' h => ⟨h.1, ha.trans (h.2.mono ha.size)⟩)
  obtain ⟨c0, c1, c2, c3, c4, c5⟩ := hdb.cells
  have hl := (Array.getElem?_eq_some_iff.1 hdb).1
  have HB := Lib.hid (Below.refl ((((W.alloc (.cells #[.int .i64 1, .int .i64 1, .int .i64 2] 3)).alloc (.cells #[.int .i64 4, .slice (some ⟨W.heap.size, 0, none⟩) 3 3, .slice none 0 0, .int .i64 0, .int .i64 2, .int .i64 3] 30)).alloc (.cells #[.int .i64 1, .int .i64 0, .int .i64 2] 3))).heap.size ((((W.alloc (.cells #[.int .i64 1, .int .i64 1, .int .i64 2] 3)).alloc (.cells #[.int .i64 4, .slice (some ⟨W.heap.size, 0, none⟩) 3 3, .slice none 0 0, .int .i64 0, .int .i64 2, .int .i64 3] 30)).alloc (.cells #[.int .i64 1, .int .i64 0, .int .i64 2] 3))))
  clear hi hb3 hr3 hrow hw0 hdb
  go_enter Try.func9, Try.ntmps9
  go_wp2_with (first
    | (go_at_call 12; have h0 := HU1.out _ HB.out; (with_reducible refine h0.mono ?_); clear h0; rintro e w1 ⟨rfl, hb⟩; have HB := Lib.hid (HB.out.trans (hb.mono HB.out.size)); clear c0 c1 c2 c3 c4 c5; obtain ⟨c0, c1, c2, c3, c4, c5⟩ := HD.out _ HB.out; have hl := (HDL.out _ HB.out); (try have HCX := Lib.hid (HCX.out.below hb)); (try have HNX := Lib.hid (HNX.out.below hb)); (try have HPX := Lib.hid (HPX.out.below hb)); clear hb)
    | (go_at_call 12; have h0 := HU2.out _ HB.out; (with_reducible refine h0.mono ?_); clear h0; rintro e w2 ⟨rfl, hb⟩; have HB := Lib.hid (HB.out.trans (hb.mono HB.out.size)); clear c0 c1 c2 c3 c4 c5; obtain ⟨c0, c1, c2, c3, c4, c5⟩ := HD.out _ HB.out; have hl := (HDL.out _ HB.out); (try have HCX := Lib.hid (HCX.out.below hb)); (try have HNX := Lib.hid (HNX.out.below hb)); (try have HPX := Lib.hid (HPX.out.below hb)); clear hb)
    | (go_at_call 12; have h0 := HU3.out _ HB.out; (with_reducible refine h0.mono ?_); clear h0; rintro e w3 ⟨rfl, hb⟩; have HB := Lib.hid (HB.out.trans (hb.mono HB.out.size)); clear c0 c1 c2 c3 c4 c5; obtain ⟨c0, c1, c2, c3, c4, c5⟩ := HD.out _ HB.out; have hl := (HDL.out _ HB.out); (try have HCX := Lib.hid (HCX.out.below hb)); (try have HNX := Lib.hid (HNX.out.below hb)); (try have HPX := Lib.hid (HPX.out.below hb)); clear hb)
    | (go_at_call 18; have h0 := HP1.out _ HB.out; (with_reducible refine h0.mono ?_); clear h0; rintro e w4 ⟨po, pc, rfl, hx, hb⟩; have HPA := Lib.hid hx; have HB := Lib.hid (HB.out.trans (hb.mono HB.out.size)); clear c0 c1 c2 c3 c4 c5; obtain ⟨c0, c1, c2, c3, c4, c5⟩ := HD.out _ HB.out; have hl := (HDL.out _ HB.out); (try have HCX := Lib.hid (HCX.out.below hb)); (try have HNX := Lib.hid (HNX.out.below hb)); (try have HPX := Lib.hid (HPX.out.below hb)); clear hb; clear hx)
    | (go_at_call 17; have h0 := HS1.out _ _ _ 1 (by omega) (by omega) HPA.out; (with_reducible refine h0.mono ?_); clear h0; rintro e w5 ⟨rfl, hb⟩; have HB := Lib.hid (HB.out.trans (hb.mono HB.out.size)); clear c0 c1 c2 c3 c4 c5; obtain ⟨c0, c1, c2, c3, c4, c5⟩ := HD.out _ HB.out; have hl := (HDL.out _ HB.out); (try have HCX := Lib.hid (HCX.out.below hb)); (try have HNX := Lib.hid (HNX.out.below hb)); (try have HPX := Lib.hid (HPX.out.below hb)); clear hb)
    | (go_at_call 18; have h0 := HP2.out _ HB.out; (with_reducible refine h0.mono ?_); clear h0; rintro e w6 ⟨qo, qc, rfl, hx, hb⟩; have HPB := Lib.hid hx; have HB := Lib.hid (HB.out.trans (hb.mono HB.out.size)); clear c0 c1 c2 c3 c4 c5; obtain ⟨c0, c1, c2, c3, c4, c5⟩ := HD.out _ HB.out; have hl := (HDL.out _ HB.out); (try have HCX := Lib.hid (HCX.out.below hb)); (try have HNX := Lib.hid (HNX.out.below hb)); (try have HPX := Lib.hid (HPX.out.below hb)); clear hb; clear hx)
    | (go_at_call 17; have h0 := HS1.out _ _ _ 2 (by omega) (by omega) HPB.out; (with_reducible refine h0.mono ?_); clear h0; rintro e w7 ⟨rfl, hb⟩; have HB := Lib.hid (HB.out.trans (hb.mono HB.out.size)); clear c0 c1 c2 c3 c4 c5; obtain ⟨c0, c1, c2, c3, c4, c5⟩ := HD.out _ HB.out; have hl := (HDL.out _ HB.out); (try have HCX := Lib.hid (HCX.out.below hb)); (try have HNX := Lib.hid (HNX.out.below hb)); (try have HPX := Lib.hid (HPX.out.below hb)); clear hb)
    | (go_at_call 21; have h0 := HC1.out _ HB.out; (with_reducible refine h0.mono ?_); clear h0; rintro e w8 ⟨ro, rc, rfl, hx, hb⟩; have HB := Lib.hid (HB.out.trans (hb.mono HB.out.size)); clear c0 c1 c2 c3 c4 c5; obtain ⟨c0, c1, c2, c3, c4, c5⟩ := HD.out _ HB.out; have hl := (HDL.out _ HB.out); (try have HCX := Lib.hid (HCX.out.below hb)); (try have HNX := Lib.hid (HNX.out.below hb)); (try have HPX := Lib.hid (HPX.out.below hb)); clear hb; have HCX := Lib.hid hx; clear hx)
    | (go_at_call 15; have h0 := HN1.out _ HB.out; (with_reducible refine h0.mono ?_); clear h0; rintro e w9 ⟨so, sc, rfl, hx, hb⟩; have HB := Lib.hid (HB.out.trans (hb.mono HB.out.size)); clear c0 c1 c2 c3 c4 c5; obtain ⟨c0, c1, c2, c3, c4, c5⟩ := HD.out _ HB.out; have hl := (HDL.out _ HB.out); (try have HCX := Lib.hid (HCX.out.below hb)); (try have HNX := Lib.hid (HNX.out.below hb)); (try have HPX := Lib.hid (HPX.out.below hb)); clear hb; have HNX := Lib.hid hx; clear hx)
    | (go_at_call 15; have h0 := HN2.out _ HB.out; (with_reducible refine h0.mono ?_); clear h0; rintro e w10 ⟨uo, uc, rfl, hb⟩; have HB := Lib.hid (HB.out.trans (hb.mono HB.out.size)); clear c0 c1 c2 c3 c4 c5; obtain ⟨c0, c1, c2, c3, c4, c5⟩ := HD.out _ HB.out; have hl := (HDL.out _ HB.out); (try have HCX := Lib.hid (HCX.out.below hb)); (try have HNX := Lib.hid (HNX.out.below hb)); (try have HPX := Lib.hid (HPX.out.below hb)); clear hb)
    | (go_at_call 20; have h0 := HSC.out _ _ _ HCX.out; (with_reducible refine h0.mono ?_); clear h0; rintro e w11 ⟨rfl, hb⟩; have HB := Lib.hid (HB.out.trans (hb.mono HB.out.size)); clear c0 c1 c2 c3 c4 c5; obtain ⟨c0, c1, c2, c3, c4, c5⟩ := HD.out _ HB.out; have hl := (HDL.out _ HB.out); (try have HCX := Lib.hid (HCX.out.below hb)); (try have HNX := Lib.hid (HNX.out.below hb)); (try have HPX := Lib.hid (HPX.out.below hb)); clear hb)
    | (go_at_call 17; have h0 := HS3.out _ _ _ HNX.out; (with_reducible refine h0.mono ?_); clear h0; rintro e w12 ⟨rfl, hb⟩; have HB := Lib.hid (HB.out.trans (hb.mono HB.out.size)); clear c0 c1 c2 c3 c4 c5; obtain ⟨c0, c1, c2, c3, c4, c5⟩ := HD.out _ HB.out; have hl := (HDL.out _ HB.out); (try have HCX := Lib.hid (HCX.out.below hb)); (try have HNX := Lib.hid (HNX.out.below hb)); (try have HPX := Lib.hid (HPX.out.below hb)); clear hb))
  go_ret
  exact ⟨rfl, HW0.out.trans (HB.out.mono HW0.out.size)⟩

end Go.Proofs.Ytcpgoaombabfjaa
