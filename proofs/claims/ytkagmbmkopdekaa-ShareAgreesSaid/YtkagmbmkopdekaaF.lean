/- Contracts: Split, and the reference's; near, part, is. -/
import Derived.Test.YtkagmbmkopdekaaE
namespace Go.Proofs.Ytkagmbmkopdekaa
open Go.RowKit

theorem res_yes {n : Int} (h : resB n = true) : 0 ≤ n ∧ n ≤ 250 := by
  have := of_decide_eq_true h
  omega
theorem cus_yes {n : Int} (h : cusB n = true) : 1 ≤ n ∧ n ≤ 3 := of_decide_eq_true h
theorem res_mk {n : Int} (h : 0 ≤ n) (h1 : n ≤ 250) : resB n = true := decide_eq_true ⟨h, by omega⟩
theorem cus_mk {n : Int} (h : 1 ≤ n) (h1 : n ≤ 3) : cusB n = true := decide_eq_true ⟨h, h1⟩

/-- Whether there are shares. -/
def spB (s b : Int) : Bool := resB s && resB b
/-- A share, or nothing. -/
def spV (s b k : Int) : Int := if spB s b then lineV s b k else 0

set_option maxRecDepth 10000 in
theorem split_any (s b : Int) (w : World) :
    Calls Try.prog 12 #[.int .i64 s, .int .i64 b] w fun e w' => e = .returned (.tuple #[.agg #[.int .i64 (spV s b 1), .int .i64 (spV s b 2), .int .i64 (spV s b 3)], .bool (spB s b)]) ∧ Below w.heap.size w w' := by
  by_cases hs : resB s = true
  · by_cases hb : resB b = true
    · have h : spB s b = true := by unfold spB; rw [hs, hb]; rfl
      have e1 : ∀ k, spV s b k = lineV s b k := fun k => if_pos h
      rw [h, e1, e1, e1]
      have H := Lib.hid (fun W => shares_any s b W (res_yes hs).1 (res_yes hs).2 (res_yes hb).1 (res_yes hb).2)
      clear h e1
      revert H
      generalize lineV s b 1 = x
      generalize lineV s b 2 = y
      generalize lineV s b 3 = z
      intro H
      have hz0 : w.heap.size < (w.alloc (.cells #[.int .i64 0, .int .i64 0, .int .i64 0] 26)).heap.size := by simp
      have T0 : Tri (w.alloc (.cells #[.int .i64 0, .int .i64 0, .int .i64 0] 26)) w.heap.size 0 0 0 26 := heap_alloc_new _ _
      have HT := Lib.hid T0
      have HW : Hid (Below w.heap.size w (w.alloc (.cells #[.int .i64 0, .int .i64 0, .int .i64 0] 26))) := Lib.hid (by go_grown)
      clear T0 hz0
      go_enter Try.func12, Try.ntmps12
      go_wp2_with (first | (go_at_call_of 26 (Value.int .i64 s); refine (isRes_any s _).mono ?_; rintro e w' ⟨rfl, rfl⟩) | (go_at_call_of 26 (Value.int .i64 b); refine (isRes_any b _).mono ?_; rintro e w' ⟨rfl, rfl⟩) | (go_at_call 27; refine (H.out _).mono ?_; rintro e w1 ⟨rfl, hb1⟩; have g1 := HT.out.below hb1; have hz := g1.lt; obtain ⟨p0, p1, p2, q0, q1, q2⟩ := g1.cells; have G1 := Lib.hid g1; have HB1 := Lib.hid hb1; clear g1 hb1))
      have g4 := ((G1.out.st0 x).st1 y).st2 z
      obtain ⟨r0, r1, r2, _⟩ := g4.cells
      refine bodyPost_ret (v := .tuple #[.agg #[.int .i64 x, .int .i64 y, .int .i64 z], .bool true]) (by simp [results, Try.results12, go_sem, r0, r1, r2]) rfl ⟨rfl, ?_⟩
      exact ((((HW.out.trans (HB1.out.mono HW.out.size)).setCell (by simp) _).setCell (by simp) _).setCell (by simp) _)
    · have hb' : resB b = false := by simpa using hb
      have h : spB s b = false := by unfold spB; rw [hs, hb']; rfl
      have e1 : ∀ k, spV s b k = 0 := fun k => if_neg (by rw [h]; simp)
      rw [h, e1, e1, e1]
      clear h e1 hb
      go_enter Try.func12, Try.ntmps12
      go_wp2_with (first | (go_at_call_of 26 (Value.int .i64 s); refine (isRes_any s _).mono ?_; rintro e w' ⟨rfl, rfl⟩) | (go_at_call_of 26 (Value.int .i64 b); refine (isRes_any b _).mono ?_; rintro e w' ⟨rfl, rfl⟩))
      refine bodyPost_ret (v := .tuple #[.agg #[.int .i64 0, .int .i64 0, .int .i64 0], .bool false]) (by simp [results, Try.results12, go_sem]) rfl ⟨rfl, ?_⟩
      go_grown
  · have hs' : resB s = false := by simpa using hs
    have h : spB s b = false := by unfold spB; rw [hs']; rfl
    have e1 : ∀ k, spV s b k = 0 := fun k => if_neg (by rw [h]; simp)
    rw [h, e1, e1, e1]
    clear h e1 hs
    go_enter Try.func12, Try.ntmps12
    go_wp2_with (first | (go_at_call_of 26 (Value.int .i64 s); refine (isRes_any s _).mono ?_; rintro e w' ⟨rfl, rfl⟩))
    refine bodyPost_ret (v := .tuple #[.agg #[.int .i64 0, .int .i64 0, .int .i64 0], .bool false]) (by simp [results, Try.results12, go_sem]) rfl ⟨rfl, ?_⟩
    go_grown

end Go.Proofs.Ytkagmbmkopdekaa
