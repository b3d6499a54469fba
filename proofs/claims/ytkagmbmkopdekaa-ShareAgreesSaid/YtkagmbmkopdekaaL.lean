/- Contracts of the reference: through, Join, Third, Blind. -/
import Derived.Test.YtkagmbmkopdekaaK
namespace Go.Proofs.Ytkagmbmkopdekaa
open Go.RowKit

set_option maxRecDepth 10000 in
theorem rThrough_no (i a j b : Int) (w : World) (h : thB i a j b = false) :
    Calls Try.prog 31 #[.int .i64 i, .int .i64 a, .int .i64 j, .int .i64 b] w fun e w' => e = .returned (.tuple #[.int .i64 0, .int .i64 0, .bool false]) ∧ w = w' := by
  unfold thB at h
  cases ci : cusB i
  · clear h
    go_enter Try.func31, Try.ntmps31
    go_wp2_with (first | (go_at_call_of 34 (Value.int .i64 i); refine (rCus_any i _).mono ?_; rintro e w' ⟨rfl, rfl⟩) | (go_at_call_of 34 (Value.int .i64 j); refine (rCus_any j _).mono ?_; rintro e w' ⟨rfl, rfl⟩) | (go_at_call_of 28 (Value.int .i64 a); refine (rRes_any a _).mono ?_; rintro e w' ⟨rfl, rfl⟩) | (go_at_call_of 28 (Value.int .i64 b); refine (rRes_any b _).mono ?_; rintro e w' ⟨rfl, rfl⟩))
    go_ret3
    exact ⟨rfl, rfl⟩
  cases cj : cusB j
  · clear h
    go_enter Try.func31, Try.ntmps31
    go_wp2_with (first | (go_at_call_of 34 (Value.int .i64 i); refine (rCus_any i _).mono ?_; rintro e w' ⟨rfl, rfl⟩) | (go_at_call_of 34 (Value.int .i64 j); refine (rCus_any j _).mono ?_; rintro e w' ⟨rfl, rfl⟩) | (go_at_call_of 28 (Value.int .i64 a); refine (rRes_any a _).mono ?_; rintro e w' ⟨rfl, rfl⟩) | (go_at_call_of 28 (Value.int .i64 b); refine (rRes_any b _).mono ?_; rintro e w' ⟨rfl, rfl⟩))
    go_ret3
    exact ⟨rfl, rfl⟩
  by_cases hij : i = j
  · subst hij
    have hii : (i == i) = true := by simp
    clear h cj
    go_enter Try.func31, Try.ntmps31
    go_wp2_with (first | (go_at_call_of 34 (Value.int .i64 i); refine (rCus_any i _).mono ?_; rintro e w' ⟨rfl, rfl⟩) | (go_at_call_of 34 (Value.int .i64 j); refine (rCus_any j _).mono ?_; rintro e w' ⟨rfl, rfl⟩) | (go_at_call_of 28 (Value.int .i64 a); refine (rRes_any a _).mono ?_; rintro e w' ⟨rfl, rfl⟩) | (go_at_call_of 28 (Value.int .i64 b); refine (rRes_any b _).mono ?_; rintro e w' ⟨rfl, rfl⟩))
    go_ret3
    exact ⟨rfl, rfl⟩
  have hii : (i == j) = false := by simpa using hij
  cases ra : resB a
  · clear h
    go_enter Try.func31, Try.ntmps31
    go_wp2_with (first | (go_at_call_of 34 (Value.int .i64 i); refine (rCus_any i _).mono ?_; rintro e w' ⟨rfl, rfl⟩) | (go_at_call_of 34 (Value.int .i64 j); refine (rCus_any j _).mono ?_; rintro e w' ⟨rfl, rfl⟩) | (go_at_call_of 28 (Value.int .i64 a); refine (rRes_any a _).mono ?_; rintro e w' ⟨rfl, rfl⟩) | (go_at_call_of 28 (Value.int .i64 b); refine (rRes_any b _).mono ?_; rintro e w' ⟨rfl, rfl⟩))
    go_ret3
    exact ⟨rfl, rfl⟩
  cases rb : resB b
  · clear h
    go_enter Try.func31, Try.ntmps31
    go_wp2_with (first | (go_at_call_of 34 (Value.int .i64 i); refine (rCus_any i _).mono ?_; rintro e w' ⟨rfl, rfl⟩) | (go_at_call_of 34 (Value.int .i64 j); refine (rCus_any j _).mono ?_; rintro e w' ⟨rfl, rfl⟩) | (go_at_call_of 28 (Value.int .i64 a); refine (rRes_any a _).mono ?_; rintro e w' ⟨rfl, rfl⟩) | (go_at_call_of 28 (Value.int .i64 b); refine (rRes_any b _).mono ?_; rintro e w' ⟨rfl, rfl⟩))
    go_ret3
    exact ⟨rfl, rfl⟩
  rw [ci, cj, hii, ra, rb] at h
  cases h

theorem rThrough_any (i a j b : Int) (w : World) :
    Calls Try.prog 31 #[.int .i64 i, .int .i64 a, .int .i64 j, .int .i64 b] w fun e w' => e = .returned (.tuple #[.int .i64 (thS i a j b), .int .i64 (thX i a j b), .bool (thB i a j b)]) ∧ w = w' := by
  cases h : thB i a j b
  · have e1 : thS i a j b = 0 := if_neg (by rw [h]; simp)
    have e2 : thX i a j b = 0 := if_neg (by rw [h]; simp)
    rw [e1, e2]
    exact rThrough_no i a j b w h
  · have e1 : thS i a j b = seV i a j b := if_pos h
    have e2 : thX i a j b = blV i a j b := if_pos h
    rw [e1, e2]
    obtain ⟨p1, p2, p3, p4, p5⟩ := thB_parts h
    exact rThrough_yes i a j b w p1 p2 p3 p4 p5

set_option maxRecDepth 10000 in
theorem rJoin_any (i a j b : Int) (w : World) :
    Calls Try.prog 15 #[.int .i64 i, .int .i64 a, .int .i64 j, .int .i64 b] w fun e w' => e = .returned (.tuple #[.int .i64 (thS i a j b), .bool (thB i a j b)]) ∧ w = w' := by
  have H := Lib.hid (fun W => rThrough_any i a j b W)
  revert H
  generalize thS i a j b = S
  generalize thX i a j b = X
  generalize thB i a j b = B
  intro H
  go_enter Try.func15, Try.ntmps15
  go_wp2_with (go_at_call 31; refine (H.out _).mono ?_; rintro e w' ⟨rfl, rfl⟩)
  go_ret2
  exact ⟨rfl, rfl⟩

set_option maxRecDepth 10000 in
theorem rThird_yes (i a j b k : Int) (w : World) (h : thB i a j b = true) (ck : cusB k = true) (ki : (k == i) = false) (kj : (k == j) = false) :
    Calls Try.prog 17 #[.int .i64 i, .int .i64 a, .int .i64 j, .int .i64 b, .int .i64 k] w fun e w' => e = .returned (.tuple #[.int .i64 (lineV (seV i a j b) (blV i a j b) k), .bool true]) ∧ w = w' := by
  have s := seV_bd i a j b
  have l := blV_bd i a j b
  obtain ⟨k0, k1⟩ := cus_yes ck
  have H : Hid (∀ W, Calls Try.prog 31 #[.int .i64 i, .int .i64 a, .int .i64 j, .int .i64 b] W fun e w' => e = .returned (.tuple #[.int .i64 (seV i a j b), .int .i64 (blV i a j b), .bool true]) ∧ W = w') := fun W => by
    obtain ⟨p1, p2, p3, p4, p5⟩ := thB_parts h
    exact rThrough_yes i a j b W p1 p2 p3 p4 p5
  have HL := Lib.hid (fun W => rLine_any (seV i a j b) (blV i a j b) k W s.1 s.2 l.1 l.2 k0 k1)
  clear h s l
  revert H HL
  generalize seV i a j b = S
  generalize blV i a j b = X
  generalize lineV S X k = L
  intro H HL
  go_enter Try.func17, Try.ntmps17
  go_wp2_with (first | (go_at_call 31; refine (H.out _).mono ?_; rintro e w' ⟨rfl, rfl⟩) | (go_at_call_of 34 (Value.int .i64 k); refine (rCus_any k _).mono ?_; rintro e w' ⟨rfl, rfl⟩) | (go_at_call 29; refine (HL.out _).mono ?_; rintro e w' ⟨rfl, rfl⟩))
  go_ret2
  exact ⟨rfl, rfl⟩

set_option maxRecDepth 10000 in
theorem rThird_no0 (i a j b k : Int) (w : World) (h : thB i a j b = false) :
    Calls Try.prog 17 #[.int .i64 i, .int .i64 a, .int .i64 j, .int .i64 b, .int .i64 k] w fun e w' => e = .returned (.tuple #[.int .i64 0, .bool false]) ∧ w = w' := by
  have H := Lib.hid (fun W => rThrough_any i a j b W)
  revert H h
  generalize thS i a j b = S
  generalize thX i a j b = X
  generalize thB i a j b = B
  intro h H
  go_enter Try.func17, Try.ntmps17
  go_wp2_with (first | (go_at_call 31; refine (H.out _).mono ?_; rintro e w' ⟨rfl, rfl⟩) | (go_at_call_of 34 (Value.int .i64 k); refine (rCus_any k _).mono ?_; rintro e w' ⟨rfl, rfl⟩))
  go_ret2
  exact ⟨rfl, rfl⟩

set_option maxRecDepth 10000 in
theorem rThird_no1 (i a j b k : Int) (w : World) (h : thB i a j b = true) (ck : cusB k = false) :
    Calls Try.prog 17 #[.int .i64 i, .int .i64 a, .int .i64 j, .int .i64 b, .int .i64 k] w fun e w' => e = .returned (.tuple #[.int .i64 0, .bool false]) ∧ w = w' := by
  have H := Lib.hid (fun W => rThrough_any i a j b W)
  revert H h
  generalize thS i a j b = S
  generalize thX i a j b = X
  generalize thB i a j b = B
  intro h H
  go_enter Try.func17, Try.ntmps17
  go_wp2_with (first | (go_at_call 31; refine (H.out _).mono ?_; rintro e w' ⟨rfl, rfl⟩) | (go_at_call_of 34 (Value.int .i64 k); refine (rCus_any k _).mono ?_; rintro e w' ⟨rfl, rfl⟩))
  go_ret2
  exact ⟨rfl, rfl⟩

set_option maxRecDepth 10000 in
theorem rThird_no2 (i a j b k : Int) (w : World) (h : thB i a j b = true) (ck : cusB k = true) (ki : (k == i) = true) :
    Calls Try.prog 17 #[.int .i64 i, .int .i64 a, .int .i64 j, .int .i64 b, .int .i64 k] w fun e w' => e = .returned (.tuple #[.int .i64 0, .bool false]) ∧ w = w' := by
  have H := Lib.hid (fun W => rThrough_any i a j b W)
  revert H h
  generalize thS i a j b = S
  generalize thX i a j b = X
  generalize thB i a j b = B
  intro h H
  go_enter Try.func17, Try.ntmps17
  go_wp2_with (first | (go_at_call 31; refine (H.out _).mono ?_; rintro e w' ⟨rfl, rfl⟩) | (go_at_call_of 34 (Value.int .i64 k); refine (rCus_any k _).mono ?_; rintro e w' ⟨rfl, rfl⟩))
  go_ret2
  exact ⟨rfl, rfl⟩

set_option maxRecDepth 10000 in
theorem rThird_no3 (i a j b k : Int) (w : World) (h : thB i a j b = true) (ck : cusB k = true) (ki : (k == i) = false) (kj : (k == j) = true) :
    Calls Try.prog 17 #[.int .i64 i, .int .i64 a, .int .i64 j, .int .i64 b, .int .i64 k] w fun e w' => e = .returned (.tuple #[.int .i64 0, .bool false]) ∧ w = w' := by
  have H := Lib.hid (fun W => rThrough_any i a j b W)
  revert H h
  generalize thS i a j b = S
  generalize thX i a j b = X
  generalize thB i a j b = B
  intro h H
  go_enter Try.func17, Try.ntmps17
  go_wp2_with (first | (go_at_call 31; refine (H.out _).mono ?_; rintro e w' ⟨rfl, rfl⟩) | (go_at_call_of 34 (Value.int .i64 k); refine (rCus_any k _).mono ?_; rintro e w' ⟨rfl, rfl⟩))
  go_ret2
  exact ⟨rfl, rfl⟩

theorem rThird_any (i a j b k : Int) (w : World) :
    Calls Try.prog 17 #[.int .i64 i, .int .i64 a, .int .i64 j, .int .i64 b, .int .i64 k] w fun e w' => e = .returned (.tuple #[.int .i64 (tdV i a j b k), .bool (tdB i a j b k)]) ∧ w = w' := by
  have no : tdB i a j b k = false → Calls Try.prog 17 #[.int .i64 i, .int .i64 a, .int .i64 j, .int .i64 b, .int .i64 k] w (fun e w' => e = .returned (.tuple #[.int .i64 0, .bool false]) ∧ w = w') → Calls Try.prog 17 #[.int .i64 i, .int .i64 a, .int .i64 j, .int .i64 b, .int .i64 k] w fun e w' => e = .returned (.tuple #[.int .i64 (tdV i a j b k), .bool (tdB i a j b k)]) ∧ w = w' := fun h1 h2 => by
    have e1 : tdV i a j b k = 0 := if_neg (by rw [h1]; simp)
    rw [e1, h1]
    exact h2
  cases h : thB i a j b
  · exact no (by unfold tdB; rw [h]; rfl) (rThird_no0 i a j b k w h)
  cases ck : cusB k
  · exact no (by unfold tdB; rw [h, ck]; rfl) (rThird_no1 i a j b k w h ck)
  cases ki : (k == i)
  · cases kj : (k == j)
    · have h1 : tdB i a j b k = true := by unfold tdB; rw [h, ck, ki, kj]; rfl
      have e1 : tdV i a j b k = lineV (seV i a j b) (blV i a j b) k := if_pos h1
      rw [e1, h1]
      exact rThird_yes i a j b k w h ck ki kj
    · exact no (by unfold tdB; rw [h, ck, ki, kj]; rfl) (rThird_no3 i a j b k w h ck ki kj)
  · exact no (by unfold tdB; rw [h, ck, ki]; rfl) (rThird_no2 i a j b k w h ck ki)

set_option maxRecDepth 10000 in
set_option maxHeartbeats 1000000 in
theorem rBlind_any (s i x : Int) (w : World) :
    Calls Try.prog 19 #[.int .i64 s, .int .i64 i, .int .i64 x] w fun e w' => e = .returned (.tuple #[.int .i64 (bdV s i x), .bool (bdB s i x)]) ∧ w = w' := by
  cases rs : resB s
  · have h1 : bdB s i x = false := by unfold bdB; rw [rs, Bool.false_and, Bool.and_false]
    have e1 : bdV s i x = 0 := if_neg (by rw [h1]; simp)
    rw [e1, h1]
    clear e1 h1
    go_enter Try.func19, Try.ntmps19
    go_wp2_with (first | (go_at_call_of 34 (Value.int .i64 i); refine (rCus_any i _).mono ?_; rintro e w' ⟨rfl, rfl⟩) | (go_at_call_of 28 (Value.int .i64 s); refine (rRes_any s _).mono ?_; rintro e w' ⟨rfl, rfl⟩) | (go_at_call_of 28 (Value.int .i64 x); refine (rRes_any x _).mono ?_; rintro e w' ⟨rfl, rfl⟩))
    go_ret2
    exact ⟨rfl, rfl⟩
  cases ci : cusB i
  · have h1 : bdB s i x = false := by unfold bdB; rw [ci]; rfl
    have e1 : bdV s i x = 0 := if_neg (by rw [h1]; simp)
    rw [e1, h1]
    clear e1 h1
    go_enter Try.func19, Try.ntmps19
    go_wp2_with (first | (go_at_call_of 34 (Value.int .i64 i); refine (rCus_any i _).mono ?_; rintro e w' ⟨rfl, rfl⟩) | (go_at_call_of 28 (Value.int .i64 s); refine (rRes_any s _).mono ?_; rintro e w' ⟨rfl, rfl⟩) | (go_at_call_of 28 (Value.int .i64 x); refine (rRes_any x _).mono ?_; rintro e w' ⟨rfl, rfl⟩))
    go_ret2
    exact ⟨rfl, rfl⟩
  cases rx : resB x
  · have h1 : bdB s i x = false := by unfold bdB; rw [ci, rs, rx]; rfl
    have e1 : bdV s i x = 0 := if_neg (by rw [h1]; simp)
    rw [e1, h1]
    clear e1 h1
    go_enter Try.func19, Try.ntmps19
    go_wp2_with (first | (go_at_call_of 34 (Value.int .i64 i); refine (rCus_any i _).mono ?_; rintro e w' ⟨rfl, rfl⟩) | (go_at_call_of 28 (Value.int .i64 s); refine (rRes_any s _).mono ?_; rintro e w' ⟨rfl, rfl⟩) | (go_at_call_of 28 (Value.int .i64 x); refine (rRes_any x _).mono ?_; rintro e w' ⟨rfl, rfl⟩))
    go_ret2
    exact ⟨rfl, rfl⟩
  have h1 : bdB s i x = true := by unfold bdB; rw [ci, rs, rx]; rfl
  have e1 : bdV s i x = bvV s i x := if_pos h1
  rw [e1, h1]
  clear e1 h1
  obtain ⟨i0, i1⟩ := cus_yes ci
  obtain ⟨s0, s1⟩ := res_yes rs
  obtain ⟨x0, x1⟩ := res_yes rx
  obtain ⟨l0, l1⟩ := bvV_bd s i x
  obtain ⟨n, hn⟩ : ∃ n : Nat, bvV s i x = n := ⟨(bvV s i x).toNat, by omega⟩
  have HG : Hid (∀ (k : Nat), k ≤ 250 → ∃ v : Int, (v == x) = decide (k = n) ∧ ∀ W, Calls Try.prog 29 #[.int .i64 s, .int .i64 k, .int .i64 i] W fun e w' => e = .returned (.int .i64 v) ∧ W = w') := fun k hk => by
    refine ⟨lineV s k i, ?_, fun W => rLine_any s k i W s0 s1 (by omega) (by omega) i0 i1⟩
    have h := blind_at (k := (k : Int)) i0 i1 s0 s1 x0 x1 (by omega) (by omega)
    rw [hn] at h
    rw [Bool.eq_iff_iff, beq_iff_eq, h, decide_eq_true_eq]
    omega
  rw [hn] at l1 ⊢
  have hn1 : n ≤ 250 := by omega
  clear hn l0 l1 i0 i1 s0 s1 x0 x1
  go_enter Try.func19, Try.ntmps19
  go_wp2_with (first | (go_at_call_of 34 (Value.int .i64 i); refine (rCus_any i _).mono ?_; rintro e w' ⟨rfl, rfl⟩) | (go_at_call_of 28 (Value.int .i64 s); refine (rRes_any s _).mono ?_; rintro e w' ⟨rfl, rfl⟩) | (go_at_call_of 28 (Value.int .i64 x); refine (rRes_any x _).mono ?_; rintro e w' ⟨rfl, rfl⟩))
  go_loop [8] (fun kv => ∃ k : Nat, k ≤ n ∧ kv = .int .i64 k) (fun kv => 251 - (intOf kv).toNat)
  case atStart => exact ⟨0, by omega, rfl⟩
  case round =>
    obtain ⟨k, hk, rfl⟩ := hrel
    obtain ⟨v, hv, HY⟩ := HG.out k (by omega)
    have HYY := Lib.hid HY
    clear HY
    have hk2 : (k : Int) < 251 := by omega
    by_cases hlt : k < n
    · have hv2 : (v == x) = false := by rw [hv, decide_eq_false (by omega)]
      clear hv
      go_wp2_with (go_at_call 29; refine (HYY.out _).mono ?_; rintro e w' ⟨rfl, rfl⟩)
      go_round
      case rel => exact ⟨k + 1, by omega, by go_num⟩
      case measure => simp [intOf]; omega
    · have e : k = n := by omega
      subst e
      have hv2 : (v == x) = true := by rw [hv, decide_eq_true rfl]
      clear hv
      go_wp2_with (go_at_call 29; refine (HYY.out _).mono ?_; rintro e w' ⟨rfl, rfl⟩)
      go_ret2
      exact ⟨rfl, rfl⟩

end Go.Proofs.Ytkagmbmkopdekaa
