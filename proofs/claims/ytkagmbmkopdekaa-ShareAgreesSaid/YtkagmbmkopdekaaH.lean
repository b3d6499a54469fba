/- Contracts: Join, Third, Blind. -/
import Derived.Test.YtkagmbmkopdekaaG
namespace Go.Proofs.Ytkagmbmkopdekaa
open Go.RowKit

set_option maxRecDepth 10000 in
theorem join_any (i a j b : Int) (w : World) :
    Calls Try.prog 14 #[.int .i64 i, .int .i64 a, .int .i64 j, .int .i64 b] w fun e w' => e = .returned (.tuple #[.int .i64 (thS i a j b), .bool (thB i a j b)]) ∧ Below w.heap.size w w' := by
  have H := Lib.hid (fun W => through_any i a j b W)
  revert H
  generalize thS i a j b = S
  generalize thX i a j b = X
  generalize thB i a j b = B
  intro H
  go_enter Try.func14, Try.ntmps14
  go_wp2_with (go_at_call 30; refine (H.out _).mono ?_; rintro e w1 ⟨rfl, hb⟩; have HB := Lib.hid hb; clear hb)
  go_ret2
  exact ⟨rfl, HB.out.alloc HB.out.size _⟩

/-- Whether there is a third share. -/
def tdB (i a j b k : Int) : Bool := thB i a j b && (cusB k && (!(k == i) && !(k == j)))
/-- The third share, or 0. -/
def tdV (i a j b k : Int) : Int := if tdB i a j b k then lineV (seV i a j b) (blV i a j b) k else 0

set_option maxRecDepth 10000 in
theorem third_yes (i a j b k : Int) (w : World) (h : thB i a j b = true) (ck : cusB k = true) (ki : (k == i) = false) (kj : (k == j) = false) :
    Calls Try.prog 16 #[.int .i64 i, .int .i64 a, .int .i64 j, .int .i64 b, .int .i64 k] w fun e w' => e = .returned (.tuple #[.int .i64 (lineV (seV i a j b) (blV i a j b) k), .bool true]) ∧ Below w.heap.size w w' := by
  have s := seV_bd i a j b
  have l := blV_bd i a j b
  obtain ⟨k0, k1⟩ := cus_yes ck
  have H : Hid (∀ W, Calls Try.prog 30 #[.int .i64 i, .int .i64 a, .int .i64 j, .int .i64 b] W fun e w' => e = .returned (.tuple #[.agg #[.int .i64 (seV i a j b), .int .i64 (blV i a j b)], .bool true]) ∧ Below W.heap.size W w') := fun W => by
    obtain ⟨p1, p2, p3, p4, p5⟩ := thB_parts h
    exact through_yes i a j b W p1 p2 p3 p4 p5
  have HL := Lib.hid (fun W => share_any (seV i a j b) (blV i a j b) k W s.1 s.2 l.1 l.2 k0 k1)
  clear h s l
  revert H HL
  generalize seV i a j b = S
  generalize blV i a j b = X
  generalize lineV S X k = L
  intro H HL
  go_enter Try.func16, Try.ntmps16
  go_wp2_with (first | (go_at_call 30; refine (H.out _).mono ?_; rintro e w1 ⟨rfl, hb⟩; have HB := Lib.hid hb; clear hb) | (go_at_call_of 32 (Value.int .i64 k); refine (isCus_any k _).mono ?_; rintro e w' ⟨rfl, rfl⟩) | (go_at_call 33; refine (HL.out _).mono ?_; rintro e w2 ⟨rfl, hb⟩; have HB2 := Lib.hid hb; clear hb))
  go_ret2
  exact ⟨rfl, (HB.out.alloc HB.out.size _).trans (HB2.out.mono (Nat.le_trans HB.out.size (by simp)))⟩

set_option maxRecDepth 10000 in
theorem third_no0 (i a j b k : Int) (w : World) (h : thB i a j b = false) :
    Calls Try.prog 16 #[.int .i64 i, .int .i64 a, .int .i64 j, .int .i64 b, .int .i64 k] w fun e w' => e = .returned (.tuple #[.int .i64 0, .bool false]) ∧ Below w.heap.size w w' := by
  have H := Lib.hid (fun W => through_any i a j b W)
  revert H h
  generalize thS i a j b = S
  generalize thX i a j b = X
  generalize thB i a j b = B
  intro h H
  go_enter Try.func16, Try.ntmps16
  go_wp2_with (first | (go_at_call 30; refine (H.out _).mono ?_; rintro e w1 ⟨rfl, hb⟩; have HB := Lib.hid hb; clear hb) | (go_at_call_of 32 (Value.int .i64 k); refine (isCus_any k _).mono ?_; rintro e w' ⟨rfl, rfl⟩))
  go_ret2
  exact ⟨rfl, HB.out.alloc HB.out.size _⟩

set_option maxRecDepth 10000 in
theorem third_no1 (i a j b k : Int) (w : World) (h : thB i a j b = true) (ck : cusB k = false) :
    Calls Try.prog 16 #[.int .i64 i, .int .i64 a, .int .i64 j, .int .i64 b, .int .i64 k] w fun e w' => e = .returned (.tuple #[.int .i64 0, .bool false]) ∧ Below w.heap.size w w' := by
  have H := Lib.hid (fun W => through_any i a j b W)
  revert H h
  generalize thS i a j b = S
  generalize thX i a j b = X
  generalize thB i a j b = B
  intro h H
  go_enter Try.func16, Try.ntmps16
  go_wp2_with (first | (go_at_call 30; refine (H.out _).mono ?_; rintro e w1 ⟨rfl, hb⟩; have HB := Lib.hid hb; clear hb) | (go_at_call_of 32 (Value.int .i64 k); refine (isCus_any k _).mono ?_; rintro e w' ⟨rfl, rfl⟩))
  go_ret2
  exact ⟨rfl, HB.out.alloc HB.out.size _⟩

set_option maxRecDepth 10000 in
theorem third_no2 (i a j b k : Int) (w : World) (h : thB i a j b = true) (ck : cusB k = true) (ki : (k == i) = true) :
    Calls Try.prog 16 #[.int .i64 i, .int .i64 a, .int .i64 j, .int .i64 b, .int .i64 k] w fun e w' => e = .returned (.tuple #[.int .i64 0, .bool false]) ∧ Below w.heap.size w w' := by
  have H := Lib.hid (fun W => through_any i a j b W)
  revert H h
  generalize thS i a j b = S
  generalize thX i a j b = X
  generalize thB i a j b = B
  intro h H
  go_enter Try.func16, Try.ntmps16
  go_wp2_with (first | (go_at_call 30; refine (H.out _).mono ?_; rintro e w1 ⟨rfl, hb⟩; have HB := Lib.hid hb; clear hb) | (go_at_call_of 32 (Value.int .i64 k); refine (isCus_any k _).mono ?_; rintro e w' ⟨rfl, rfl⟩))
  go_ret2
  exact ⟨rfl, HB.out.alloc HB.out.size _⟩

set_option maxRecDepth 10000 in
theorem third_no3 (i a j b k : Int) (w : World) (h : thB i a j b = true) (ck : cusB k = true) (ki : (k == i) = false) (kj : (k == j) = true) :
    Calls Try.prog 16 #[.int .i64 i, .int .i64 a, .int .i64 j, .int .i64 b, .int .i64 k] w fun e w' => e = .returned (.tuple #[.int .i64 0, .bool false]) ∧ Below w.heap.size w w' := by
  have H := Lib.hid (fun W => through_any i a j b W)
  revert H h
  generalize thS i a j b = S
  generalize thX i a j b = X
  generalize thB i a j b = B
  intro h H
  go_enter Try.func16, Try.ntmps16
  go_wp2_with (first | (go_at_call 30; refine (H.out _).mono ?_; rintro e w1 ⟨rfl, hb⟩; have HB := Lib.hid hb; clear hb) | (go_at_call_of 32 (Value.int .i64 k); refine (isCus_any k _).mono ?_; rintro e w' ⟨rfl, rfl⟩))
  go_ret2
  exact ⟨rfl, HB.out.alloc HB.out.size _⟩

theorem third_any (i a j b k : Int) (w : World) :
    Calls Try.prog 16 #[.int .i64 i, .int .i64 a, .int .i64 j, .int .i64 b, .int .i64 k] w fun e w' => e = .returned (.tuple #[.int .i64 (tdV i a j b k), .bool (tdB i a j b k)]) ∧ Below w.heap.size w w' := by
  have no : tdB i a j b k = false → Calls Try.prog 16 #[.int .i64 i, .int .i64 a, .int .i64 j, .int .i64 b, .int .i64 k] w (fun e w' => e = .returned (.tuple #[.int .i64 0, .bool false]) ∧ Below w.heap.size w w') → Calls Try.prog 16 #[.int .i64 i, .int .i64 a, .int .i64 j, .int .i64 b, .int .i64 k] w fun e w' => e = .returned (.tuple #[.int .i64 (tdV i a j b k), .bool (tdB i a j b k)]) ∧ Below w.heap.size w w' := fun h1 h2 => by
    have e1 : tdV i a j b k = 0 := if_neg (by rw [h1]; simp)
    rw [e1, h1]
    exact h2
  cases h : thB i a j b
  · exact no (by unfold tdB; rw [h]; rfl) (third_no0 i a j b k w h)
  cases ck : cusB k
  · exact no (by unfold tdB; rw [h, ck]; rfl) (third_no1 i a j b k w h ck)
  cases ki : (k == i)
  · cases kj : (k == j)
    · have h1 : tdB i a j b k = true := by unfold tdB; rw [h, ck, ki, kj]; rfl
      have e1 : tdV i a j b k = lineV (seV i a j b) (blV i a j b) k := if_pos h1
      rw [e1, h1]
      exact third_yes i a j b k w h ck ki kj
    · exact no (by unfold tdB; rw [h, ck, ki, kj]; rfl) (third_no3 i a j b k w h ck ki kj)
  · exact no (by unfold tdB; rw [h, ck, ki]; rfl) (third_no2 i a j b k w h ck ki)

/-- Whether there is a blind. -/
def bdB (s i x : Int) : Bool := cusB i && (resB s && resB x)
/-- The blind. -/
def bvV (s i x : Int) : Int := (x + 251 - s) % 251 * inv i % 251
def bdV (s i x : Int) : Int := if bdB s i x then bvV s i x else 0

set_option maxRecDepth 10000 in
theorem blind_any (s i x : Int) (w : World) :
    Calls Try.prog 18 #[.int .i64 s, .int .i64 i, .int .i64 x] w fun e w' => e = .returned (.tuple #[.int .i64 (bdV s i x), .bool (bdB s i x)]) ∧ Below w.heap.size w w' := by
  cases ci : cusB i
  · have h1 : bdB s i x = false := by unfold bdB; rw [ci]; rfl
    have e1 : bdV s i x = 0 := if_neg (by rw [h1]; simp)
    rw [e1, h1]
    clear e1 h1
    go_enter Try.func18, Try.ntmps18
    go_wp2_with (first | (go_at_call_of 32 (Value.int .i64 i); refine (isCus_any i _).mono ?_; rintro e w' ⟨rfl, rfl⟩))
    go_ret2
    exact ⟨rfl, Below.refl _ _⟩
  cases rs : resB s
  · have h1 : bdB s i x = false := by unfold bdB; rw [ci, rs]; rfl
    have e1 : bdV s i x = 0 := if_neg (by rw [h1]; simp)
    rw [e1, h1]
    clear e1 h1
    go_enter Try.func18, Try.ntmps18
    go_wp2_with (first | (go_at_call_of 32 (Value.int .i64 i); refine (isCus_any i _).mono ?_; rintro e w' ⟨rfl, rfl⟩) | (go_at_call_of 26 (Value.int .i64 s); refine (isRes_any s _).mono ?_; rintro e w' ⟨rfl, rfl⟩))
    go_ret2
    exact ⟨rfl, Below.refl _ _⟩
  cases rx : resB x
  · have h1 : bdB s i x = false := by unfold bdB; rw [ci, rs, rx]; rfl
    have e1 : bdV s i x = 0 := if_neg (by rw [h1]; simp)
    rw [e1, h1]
    clear e1 h1
    go_enter Try.func18, Try.ntmps18
    go_wp2_with (first | (go_at_call_of 32 (Value.int .i64 i); refine (isCus_any i _).mono ?_; rintro e w' ⟨rfl, rfl⟩) | (go_at_call_of 26 (Value.int .i64 s); refine (isRes_any s _).mono ?_; rintro e w' ⟨rfl, rfl⟩) | (go_at_call_of 26 (Value.int .i64 x); refine (isRes_any x _).mono ?_; rintro e w' ⟨rfl, rfl⟩))
    go_ret2
    exact ⟨rfl, Below.refl _ _⟩
  have h1 : bdB s i x = true := by unfold bdB; rw [ci, rs, rx]; rfl
  have e1 : bdV s i x = bvV s i x := if_pos h1
  rw [e1, h1]
  clear e1 h1
  obtain ⟨i0, i1⟩ := cus_yes ci
  obtain ⟨s0, s1⟩ := res_yes rs
  obtain ⟨x0, x1⟩ := res_yes rx
  have H1 := Lib.hid (fun W => calc_minus x s W x0 x1 s0 s1)
  have H2 : Hid (∀ W, Calls Try.prog 35 #[.int .i64 3, .int .i64 ((x + 251 - s) % 251), .int .i64 i] W fun e w' => e = .returned (.int .i64 (bvV s i x)) ∧ Below W.heap.size W w') := fun W => by
    have := calc_over ((x + 251 - s) % 251) i W (by omega) (by omega) (by omega) (by omega)
    rwa [mulN_inv _ _ (by omega) (by omega) (by omega)] at this
  revert H1 H2
  generalize (x + 251 - s) % 251 = d
  generalize bvV s i x = v
  intro H1 H2
  clear i0 i1 s0 s1 x0 x1
  go_enter Try.func18, Try.ntmps18
  go_wp2_with (first | (go_at_call_of 32 (Value.int .i64 i); refine (isCus_any i _).mono ?_; rintro e w' ⟨rfl, rfl⟩) | (go_at_call_of 26 (Value.int .i64 s); refine (isRes_any s _).mono ?_; rintro e w' ⟨rfl, rfl⟩) | (go_at_call_of 26 (Value.int .i64 x); refine (isRes_any x _).mono ?_; rintro e w' ⟨rfl, rfl⟩) | (go_at_call_of 35 (Value.int .i64 x); refine (H1.out _).mono ?_; rintro e w1 ⟨rfl, hb⟩; have HB := Lib.hid hb; clear hb) | (go_at_call_of 35 (Value.int .i64 d); refine (H2.out _).mono ?_; rintro e w2 ⟨rfl, hb⟩; have HB2 := Lib.hid hb; clear hb))
  go_ret2
  exact ⟨rfl, HB.out.trans (HB2.out.mono HB.out.size)⟩

end Go.Proofs.Ytkagmbmkopdekaa
