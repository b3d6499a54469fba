/- Calls with numbers that are given: what the statements' examples need. No condition beyond those that each states. -/
import Derived.Test.YtdgmjmckeeeljaaGreatDoorDD
import Derived.Test.YtdgmjmckeeeljaaGreatDoorQQ
namespace Go.Proofs.YtdgmjmckeeeljaaGreatDoor
open Go.RowKit

theorem fits_w {n : Nat} (h : n < 18446744073709551616) : fitsB n = true := decide_eq_true (Nat.le_trans (digs_word (by omega)) (by omega))

/-- A number, and true. -/
def YesN (w : World) (z : Int) (e : Ending) (w' : World) : Prop :=
  ∃ neg ao n cap, e = .returned (.tuple #[.agg #[.bool neg, .slice ao n cap], .bool true]) ∧ Nu w' (.agg #[.bool neg, .slice ao n cap]) z ∧ Below w.heap.size w w'

theorem NumRes.yes {w w' : World} {z : Int} {e : Ending} (h : NumRes w z e w') (hf : fitsB z.natAbs = true) : YesN w z e w' := by
  obtain ⟨neg, ao, n, cap, he, hb, h1, _⟩ := h
  obtain ⟨hn, hs⟩ := h1 hf
  exact ⟨neg, ao, n, cap, by rw [he, hf], ⟨_, by rw [hn], hs.sl, by simpa [fitsB] using hf⟩, hb⟩

theorem of_X (a : Int) (W : World) (h1 : -9223372036854775808 ≤ a) (h2 : a ≤ 9223372036854775807) : Calls Tryz.prog 27 #[.int .i64 a] W fun e w' => ∃ x, e = .returned x ∧ Nu w' x a ∧ Below W.heap.size W w' :=
  (of_any a W h1 h2).mono fun _ _ h => h.nu (fit_i64 h1 h2)

theorem nu_row {W : World} {p n : Nat} {ys : List Nat} {z : Int} {nb : Bool} (hr : Row W p ys) (hb : Bd ys) (ht : ys = [] ∨ ys.getLast? ≠ some 0) (hv : val ys = z.natAbs) (hn : n = ys.length) (hnb : nb = decide (z < 0)) (hl : ys.length ≤ 256) :
    Nu W (.agg #[.bool nb, .slice (some ⟨p, 0, none⟩) n n]) z := by
  have e : digs z.natAbs = ys := by rw [← hv]; exact digs_val hb ht
  subst hn
  exact ⟨_, by rw [hnb], by rw [e]; exact (hr.sw (Nat.zero_le _) hb (by unfold maxLen; omega)).sl, by rw [e]; exact hl⟩

theorem is_yes {W : World} {x : Value} {z : Int} {p n : Nat} {ys : List Nat} {nb : Bool} (hx : Nu W x z) (hr : Row W p ys) (hb : Bd ys) (ht : ys = [] ∨ ys.getLast? ≠ some 0) (hv : val ys = z.natAbs) (hn : n = ys.length) (hnb : nb = decide (z < 0)) :
    Calls Tryz.prog 34 #[x, .bool true, .bool nb, .slice (some ⟨p, 0, none⟩) n n] W (SameRes W true) := by
  obtain ⟨s, rfl, hs, hl⟩ := hx
  have e : digs z.natAbs = ys := by rw [← hv]; exact digs_val hb ht
  rw [e] at hs hl
  subst hn
  exact is_any _ _ true (by rw [hnb]; simp) hs (hr.sw (Nat.zero_le _) hb (by unfold maxLen; omega)).sl

theorem is_zero {W : World} {x : Value} (hx : Nu W x 0) : Calls Tryz.prog 34 #[x, .bool true, .bool false, .slice none 0 0] W (SameRes W true) := by
  obtain ⟨s, rfl, hs, hl⟩ := hx
  have e : digs (Int.natAbs 0) = [] := digs_zero
  rw [e] at hs
  exact is_any _ _ true (by simp) hs (Sl.nil _ _ _)

theorem bits_nu {W : World} {x : Value} {z : Int} (hx : Nu W x z) (k : Nat) (hk : bitsB (decide (z < 0)) (digs z.natAbs) = k) : Calls Tryz.prog 33 #[x] W fun e w' => e = .returned (.int .i64 (k : Nat)) ∧ Below W.heap.size W w' := by
  obtain ⟨s, rfl, hs, hl⟩ := hx
  have := bits_any (decide (z < 0)) hs (by omega)
  rwa [hk] at this

set_option maxRecDepth 10000 in
set_option maxHeartbeats 1000000 in
theorem div_zero {w : World} {x y : Value} {a : Int} (hx : Nu w x a) (hy : Nu w y 0) :
    Calls Tryz.prog 15 #[x, y] w fun e w' => e = .returned (.tuple #[.agg #[.bool false, .slice none 0 0], .agg #[.bool false, .slice none 0 0], .bool false]) ∧ Below w.heap.size w w' := by
  obtain ⟨sa, rfl, ha, la⟩ := hx
  obtain ⟨sb, rfl, hb, lb⟩ := hy
  have ra := rightB_digs a la
  have rb := rightB_digs 0 lb
  rw [show digs (Int.natAbs 0) = [] from digs_zero] at hb rb
  rw [show decide ((0 : Int) < 0) = false from rfl] at rb ⊢
  obtain ⟨ab, cb, rfl⟩ := hb.mk'
  obtain ⟨na, hna⟩ : ∃ na, na = decide (a < 0) := ⟨_, rfl⟩
  rw [← hna] at ra ⊢
  rw [List.length_nil] at hb ⊢
  have HR1 : Hid (∀ W, Sl W sa (digs a.natAbs) → Calls Tryz.prog 32 #[.agg #[.bool na, sa]] W fun e w' => e = .returned (.bool true) ∧ w' = W.alloc (.cells #[.bool na, sa] 27)) := fun W h => by have := right_any na h (by omega); rwa [ra] at this
  have HR2 : Hid (∀ W, Sl W (.slice ab 0 cb) [] → Calls Tryz.prog 32 #[.agg #[.bool false, .slice ab 0 cb]] W fun e w' => e = .returned (.bool true) ∧ w' = W.alloc (.cells #[.bool false, .slice ab 0 cb] 27)) := fun W h => by have := right_any false h (by simp); rwa [rb] at this
  clear hna ra rb lb
  by_cases hs : (Value.agg #[.bool na, sa]) = .agg #[.bool false, .slice ab 0 cb]
  · injection hs with hs
    have h1 : na = false ∧ sa = .slice ab 0 cb := by
      simp only [Array.mk.injEq, List.cons.injEq, Value.bool.injEq, and_true] at hs
      exact hs
    obtain ⟨rfl, rfl⟩ := h1
    clear hs HR1
    go_enter Tryz.func15, Tryz.ntmps15
    go_wp2_with (go_at_call 32; refine (HR2.out _ (hb.below (by go_grown))).mono ?_; rintro e w' ⟨rfl, rfl⟩)
    go_returns
    exact ⟨rfl, by go_grown⟩
  · clear hs
    go_enter Tryz.func15, Tryz.ntmps15
    go_wp2_with (first | (go_at_call_of 32 (Value.bool na); refine (HR1.out _ (ha.below (by go_grown))).mono ?_; rintro e w' ⟨rfl, rfl⟩) | (go_at_call 32; refine (HR2.out _ (hb.below (by go_grown))).mono ?_; rintro e w' ⟨rfl, rfl⟩))
    go_returns
    exact ⟨rfl, by go_grown⟩

theorem bd1 {a : Nat} (h : a < 4294967296) : Bd [a] := Bd.mk h bd_nil
theorem bd2 {a b : Nat} (h : a < 4294967296) (k : b < 4294967296) : Bd [a, b] := Bd.mk h (bd1 k)
theorem bd3 {a b c : Nat} (h : a < 4294967296) (k : b < 4294967296) (l : c < 4294967296) : Bd [a, b, c] := Bd.mk h (bd2 k l)

theorem bits_0 : bitsB (decide ((0 : Int) < 0)) (digs (Int.natAbs 0)) = 0 := by
  rw [show digs (Int.natAbs 0) = [] from digs_zero]
  rfl
theorem bits_256 : bitsB (decide ((-256 : Int) < 0)) (digs (Int.natAbs (-256))) = 9 := by
  rw [show Int.natAbs (-256) = 256 from rfl, digs_small (by decide) (by decide)]
  decide

theorem parse_12 : parseZ ⟨#[45, 49, 50]⟩ = some (-12) := by kernel_rfl
theorem parse_007 : parseZ ⟨#[48, 48, 55]⟩ = none := by kernel_rfl
theorem parse_m0 : parseZ ⟨#[45, 48]⟩ = none := by kernel_rfl
theorem txt_64 : txt (-18446744073709551616) = [45, 49, 56, 52, 52, 54, 55, 52, 52, 48, 55, 51, 55, 48, 57, 53, 53, 49, 54, 49, 54] := by kernel_rfl

end Go.Proofs.YtdgmjmckeeeljaaGreatDoor
