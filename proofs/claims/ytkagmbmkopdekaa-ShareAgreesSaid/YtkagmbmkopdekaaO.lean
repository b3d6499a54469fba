/- Contracts: is, part, near; the examples of the chapter (sanity). -/
import Derived.Test.YtkagmbmkopdekaaN
import Derived.Deep.CutRange
namespace Go.Proofs.Ytkagmbmkopdekaa
open Go.RowKit

theorem is_any (n m : Int) (b : Bool) (w : World) : Calls Try.prog 25 #[.int .i64 n, .bool b, .int .i64 m] w fun e w' => e = .returned (.bool (b && n == m)) ∧ w = w' := by
  cases b
  · go_enter Try.func25, Try.ntmps25
    go_wp2
    go_ret
    exact ⟨by simp, rfl⟩
  · go_enter Try.func25, Try.ntmps25
    go_wp2
    go_ret
    exact ⟨by simp, rfl⟩

theorem is_yes (n : Int) (w : World) : Calls Try.prog 25 #[.int .i64 n, .bool true, .int .i64 n] w fun e w' => e = .returned (.bool true) ∧ w = w' := by
  have h := is_any n n true w
  rwa [Bool.true_and, beq_self_eq_true] at h

attribute [local go_sem] equal26 eq3_same

theorem tri_new (W : World) (x y z : Int) : Tri (W.alloc (.cells #[.int .i64 x, .int .i64 y, .int .i64 z] 26)) W.heap.size x y z 26 := heap_alloc_new _ _

theorem carry {w W W' : World} (h : Hid (Below w.heap.size w W)) (hb : Below W.heap.size W W') : Below w.heap.size w W' := h.out.trans (hb.mono h.out.size)

set_option maxRecDepth 100000 in
set_option maxHeartbeats 4000000 in
theorem sanity_any (w : World) : Calls Try.prog 10 #[] w fun e w' => e = .returned (.bool true) ∧ Below w.heap.size w w' := by
  have H1 : Hid (∀ W, Calls Try.prog 12 #[.int .i64 5, .int .i64 7] W fun e w' => e = .returned (.tuple #[.agg #[.int .i64 12, .int .i64 19, .int .i64 26], .bool true]) ∧ Below W.heap.size W w') := fun W => by
    have h := split_any 5 7 W; rwa [show spV 5 7 1 = 12 by decide, show spV 5 7 2 = 19 by decide, show spV 5 7 3 = 26 by decide, show spB 5 7 = true by decide] at h
  have H2 : Hid (∀ W, Calls Try.prog 12 #[.int .i64 250, .int .i64 250] W fun e w' => e = .returned (.tuple #[.agg #[.int .i64 249, .int .i64 248, .int .i64 247], .bool true]) ∧ Below W.heap.size W w') := fun W => by
    have h := split_any 250 250 W; rwa [show spV 250 250 1 = 249 by decide, show spV 250 250 2 = 248 by decide, show spV 250 250 3 = 247 by decide, show spB 250 250 = true by decide] at h
  have J1 : Hid (∀ W, Calls Try.prog 14 #[.int .i64 1, .int .i64 12, .int .i64 3, .int .i64 26] W fun e w' => e = .returned (.tuple #[.int .i64 5, .bool true]) ∧ Below W.heap.size W w') := fun W => by
    have h := join_any 1 12 3 26 W; rwa [show thS 1 12 3 26 = 5 by decide, show thB 1 12 3 26 = true by decide] at h
  have J2 : Hid (∀ W, Calls Try.prog 14 #[.int .i64 3, .int .i64 26, .int .i64 2, .int .i64 19] W fun e w' => e = .returned (.tuple #[.int .i64 5, .bool true]) ∧ Below W.heap.size W w') := fun W => by
    have h := join_any 3 26 2 19 W; rwa [show thS 3 26 2 19 = 5 by decide, show thB 3 26 2 19 = true by decide] at h
  have J3 : Hid (∀ W, Calls Try.prog 14 #[.int .i64 1, .int .i64 12, .int .i64 1, .int .i64 12] W fun e w' => e = .returned (.tuple #[.int .i64 0, .bool false]) ∧ Below W.heap.size W w') := fun W => by
    have h := join_any 1 12 1 12 W; rwa [show thS 1 12 1 12 = 0 by decide, show thB 1 12 1 12 = false by decide] at h
  have J4 : Hid (∀ W, Calls Try.prog 14 #[.int .i64 1, .int .i64 0, .int .i64 3, .int .i64 1] W fun e w' => e = .returned (.tuple #[.int .i64 125, .bool true]) ∧ Below W.heap.size W w') := fun W => by
    have h := join_any 1 0 3 1 W; rwa [show thS 1 0 3 1 = 125 by decide, show thB 1 0 3 1 = true by decide] at h
  have T1 : Hid (∀ W, Calls Try.prog 16 #[.int .i64 1, .int .i64 12, .int .i64 3, .int .i64 26, .int .i64 2] W fun e w' => e = .returned (.tuple #[.int .i64 19, .bool true]) ∧ Below W.heap.size W w') := fun W => by
    have h := third_any 1 12 3 26 2 W; rwa [show tdV 1 12 3 26 2 = 19 by decide, show tdB 1 12 3 26 2 = true by decide] at h
  have T2 : Hid (∀ W, Calls Try.prog 16 #[.int .i64 1, .int .i64 12, .int .i64 2, .int .i64 19, .int .i64 2] W fun e w' => e = .returned (.tuple #[.int .i64 0, .bool false]) ∧ Below W.heap.size W w') := fun W => by
    have h := third_any 1 12 2 19 2 W; rwa [show tdV 1 12 2 19 2 = 0 by decide, show tdB 1 12 2 19 2 = false by decide] at h
  have D1 : Hid (∀ W, Calls Try.prog 18 #[.int .i64 5, .int .i64 2, .int .i64 19] W fun e w' => e = .returned (.tuple #[.int .i64 7, .bool true]) ∧ Below W.heap.size W w') := fun W => by
    have h := blind_any 5 2 19 W; rwa [show bdV 5 2 19 = 7 by decide, show bdB 5 2 19 = true by decide] at h
  have D2 : Hid (∀ W, Calls Try.prog 18 #[.int .i64 0, .int .i64 2, .int .i64 1] W fun e w' => e = .returned (.tuple #[.int .i64 126, .bool true]) ∧ Below W.heap.size W w') := fun W => by
    have h := blind_any 0 2 1 W; rwa [show bdV 0 2 1 = 126 by decide, show bdB 0 2 1 = true by decide] at h
  have A1 : Hid (∀ W, Calls Try.prog 21 #[.agg #[.int .i64 12, .int .i64 19, .int .i64 26]] W fun e w' => e = .returned (.bool true) ∧ Below W.heap.size W w') := fun W => by
    have h := agree_any 12 19 26 W; rwa [show agB 12 19 26 = true by decide] at h
  have A2 : Hid (∀ W, Calls Try.prog 21 #[.agg #[.int .i64 12, .int .i64 19, .int .i64 27]] W fun e w' => e = .returned (.bool false) ∧ Below W.heap.size W w') := fun W => by
    have h := agree_any 12 19 27 W; rwa [show agB 12 19 27 = false by decide] at h
  have A3 : Hid (∀ W, Calls Try.prog 21 #[.agg #[.int .i64 251, .int .i64 0, .int .i64 0]] W fun e w' => e = .returned (.bool false) ∧ Below W.heap.size W w') := fun W => by
    have h := agree_any 251 0 0 W; rwa [show agB 251 0 0 = false by decide] at h
  have R1 : Hid (∀ W, Calls Try.prog 23 #[.agg #[.int .i64 12, .int .i64 19, .int .i64 26], .int .i64 250] W fun e w' => e = .returned (.tuple #[.agg #[.int .i64 11, .int .i64 17, .int .i64 23], .bool true]) ∧ Below W.heap.size W w') := fun W => by
    have h := renew_any 12 19 26 250 W; rwa [show rnV 12 19 26 250 1 = 11 by decide, show rnV 12 19 26 250 2 = 17 by decide, show rnV 12 19 26 250 3 = 23 by decide, show rnB 12 19 26 250 = true by decide] at h
  have HB : Hid (Below w.heap.size w w) := Lib.hid (Below.refl _ _)
  go_enter Try.func10, Try.ntmps10
  go_upto_region 2 with (go_at_call 12; refine (H1.out _).mono ?_; rintro e wn ⟨rfl, hb⟩; (try have B1 := Lib.hid (B1.out.below hb)); (try have B2 := Lib.hid (B2.out.below hb)); (try have B3 := Lib.hid (B3.out.below hb)); have HB := Lib.hid (carry HB hb); clear hb)
  have B1 := Lib.hid (tri_new wn 12 19 26)
  have HB := Lib.hid (carry HB (show Below wn.heap.size wn (wn.alloc (.cells #[.int .i64 12, .int .i64 19, .int .i64 26] 26)) by go_grown))
  obtain ⟨gB1, hg⟩ : ∃ g, g = wn.heap.size := ⟨_, rfl⟩
  rw [← hg] at B1 ⊢
  clear hg
  revert HB
  revert B1
  generalize (wn.alloc (.cells #[.int .i64 12, .int .i64 19, .int .i64 26] 26)) = WB1
  intro B1 HB
  go_upto_region 3 with (go_at_call 12; refine (H2.out _).mono ?_; rintro e wn ⟨rfl, hb⟩; (try have B1 := Lib.hid (B1.out.below hb)); (try have B2 := Lib.hid (B2.out.below hb)); (try have B3 := Lib.hid (B3.out.below hb)); have HB := Lib.hid (carry HB hb); clear hb)
  (try have B1 := Lib.hid (B1.out.below (show Below wn.heap.size wn (wn.alloc (.cells #[.int .i64 249, .int .i64 248, .int .i64 247] 26)) by go_grown)))
  have B2 := Lib.hid (tri_new wn 249 248 247)
  have HB := Lib.hid (carry HB (show Below wn.heap.size wn (wn.alloc (.cells #[.int .i64 249, .int .i64 248, .int .i64 247] 26)) by go_grown))
  obtain ⟨gB2, hg⟩ : ∃ g, g = wn.heap.size := ⟨_, rfl⟩
  rw [← hg] at B2 ⊢
  clear hg
  revert HB
  revert B2
  revert B1
  generalize (wn.alloc (.cells #[.int .i64 249, .int .i64 248, .int .i64 247] 26)) = WB2
  intro B1 B2 HB
  go_upto_region 4 with (go_at_call 14; refine (J1.out _).mono ?_; rintro e wn ⟨rfl, hb⟩; (try have B1 := Lib.hid (B1.out.below hb)); (try have B2 := Lib.hid (B2.out.below hb)); (try have B3 := Lib.hid (B3.out.below hb)); have HB := Lib.hid (carry HB hb); clear hb)
  go_upto_region 5 with (go_at_call 14; refine (J2.out _).mono ?_; rintro e wn ⟨rfl, hb⟩; (try have B1 := Lib.hid (B1.out.below hb)); (try have B2 := Lib.hid (B2.out.below hb)); (try have B3 := Lib.hid (B3.out.below hb)); have HB := Lib.hid (carry HB hb); clear hb)
  go_upto_region 6 with (go_at_call 14; refine (J3.out _).mono ?_; rintro e wn ⟨rfl, hb⟩; (try have B1 := Lib.hid (B1.out.below hb)); (try have B2 := Lib.hid (B2.out.below hb)); (try have B3 := Lib.hid (B3.out.below hb)); have HB := Lib.hid (carry HB hb); clear hb)
  go_upto_region 7 with (go_at_call 14; refine (J4.out _).mono ?_; rintro e wn ⟨rfl, hb⟩; (try have B1 := Lib.hid (B1.out.below hb)); (try have B2 := Lib.hid (B2.out.below hb)); (try have B3 := Lib.hid (B3.out.below hb)); have HB := Lib.hid (carry HB hb); clear hb)
  obtain ⟨p0, p1, p2, _⟩ := B1.out.cells
  obtain ⟨q0, q1, q2, _⟩ := B2.out.cells
  go_upto_region 9 with (go_at_call 25; refine (is_yes _ _).mono ?_; rintro e w' ⟨rfl, rfl⟩)
  clear p0 p1 p2 q0 q1 q2 B1 B2
  go_upto_region 10 with (go_at_call 16; refine (T1.out _).mono ?_; rintro e wn ⟨rfl, hb⟩; (try have B1 := Lib.hid (B1.out.below hb)); (try have B2 := Lib.hid (B2.out.below hb)); (try have B3 := Lib.hid (B3.out.below hb)); have HB := Lib.hid (carry HB hb); clear hb)
  go_upto_region 11 with (go_at_call 16; refine (T2.out _).mono ?_; rintro e wn ⟨rfl, hb⟩; (try have B1 := Lib.hid (B1.out.below hb)); (try have B2 := Lib.hid (B2.out.below hb)); (try have B3 := Lib.hid (B3.out.below hb)); have HB := Lib.hid (carry HB hb); clear hb)
  go_upto_region 12 with (go_at_call 18; refine (D1.out _).mono ?_; rintro e wn ⟨rfl, hb⟩; (try have B1 := Lib.hid (B1.out.below hb)); (try have B2 := Lib.hid (B2.out.below hb)); (try have B3 := Lib.hid (B3.out.below hb)); have HB := Lib.hid (carry HB hb); clear hb)
  go_upto_region 13 with (go_at_call 18; refine (D2.out _).mono ?_; rintro e wn ⟨rfl, hb⟩; (try have B1 := Lib.hid (B1.out.below hb)); (try have B2 := Lib.hid (B2.out.below hb)); (try have B3 := Lib.hid (B3.out.below hb)); have HB := Lib.hid (carry HB hb); clear hb)
  go_upto_region 14 with (go_at_call 23; refine (R1.out _).mono ?_; rintro e wn ⟨rfl, hb⟩; (try have B1 := Lib.hid (B1.out.below hb)); (try have B2 := Lib.hid (B2.out.below hb)); (try have B3 := Lib.hid (B3.out.below hb)); have HB := Lib.hid (carry HB hb); clear hb)
  have B3 := Lib.hid (tri_new wn 11 17 23)
  have HB := Lib.hid (carry HB (show Below wn.heap.size wn (wn.alloc (.cells #[.int .i64 11, .int .i64 17, .int .i64 23] 26)) by go_grown))
  obtain ⟨gB3, hg⟩ : ∃ g, g = wn.heap.size := ⟨_, rfl⟩
  rw [← hg] at B3 ⊢
  clear hg
  revert HB
  revert B3
  generalize (wn.alloc (.cells #[.int .i64 11, .int .i64 17, .int .i64 23] 26)) = WB3
  intro B3 HB
  go_upto_region 15 with (first | (go_at_call_of 21 (Value.agg #[.int .i64 12, .int .i64 19, .int .i64 26]); refine (A1.out _).mono ?_; rintro e wn ⟨rfl, hb⟩; (try have B1 := Lib.hid (B1.out.below hb)); (try have B2 := Lib.hid (B2.out.below hb)); (try have B3 := Lib.hid (B3.out.below hb)); have HB := Lib.hid (carry HB hb); clear hb) | (go_at_call_of 21 (Value.agg #[.int .i64 12, .int .i64 19, .int .i64 27]); refine (A2.out _).mono ?_; rintro e wn ⟨rfl, hb⟩; (try have B1 := Lib.hid (B1.out.below hb)); (try have B2 := Lib.hid (B2.out.below hb)); (try have B3 := Lib.hid (B3.out.below hb)); have HB := Lib.hid (carry HB hb); clear hb) | (go_at_call_of 21 (Value.agg #[.int .i64 251, .int .i64 0, .int .i64 0]); refine (A3.out _).mono ?_; rintro e wn ⟨rfl, hb⟩; (try have B1 := Lib.hid (B1.out.below hb)); (try have B2 := Lib.hid (B2.out.below hb)); (try have B3 := Lib.hid (B3.out.below hb)); have HB := Lib.hid (carry HB hb); clear hb))
  obtain ⟨p0, p1, p2, _⟩ := B3.out.cells
  go_wp2_with (go_at_call 25; refine (is_yes _ _).mono ?_; rintro e w' ⟨rfl, rfl⟩)
  go_ret
  exact ⟨rfl, HB.out⟩

end Go.Proofs.Ytkagmbmkopdekaa
