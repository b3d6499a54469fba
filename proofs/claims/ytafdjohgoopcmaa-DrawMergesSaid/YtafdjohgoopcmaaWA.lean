/- Slices of one's own, appends of bytes to them; codes of ints as bytes. -/
import Derived.Laws.AppendOwnNone
import Derived.OwnWalk
import Derived.Laws.BitsAllLaws
import Derived.Test.YtafdjohgoopcmaaDK
namespace Go.Proofs.Ytafdjohgoopcmaa
open Go.RowKit

theorem owns_later {e : TypeId} {size : Nat} {W W' : World} {B n : Nat} {v : Value} {xs : List Value} (h : W.ownsRow B e size v n xs) (hb : Below W.heap.size W W') : W'.ownsRow B e size v n xs := by
  refine ⟨h.1, ?_⟩
  rcases h.2 with h | ⟨g, cap, cur, h1, h2, h3, h4⟩
  · exact .inl h
  · exact .inr ⟨g, cap, cur, h1, h2, (hb.block g (Array.getElem?_eq_some_iff.1 h3).1).trans h3, h4⟩

theorem slice_of_owns {W : World} {B : Nat} {e : TypeId} {size n : Nat} {v : Value} {xs : List Value} (h : W.ownsRow B e size v n xs) : ∃ ao cap, v = .slice ao n cap := by
  rcases h.2 with ⟨hv, hn⟩ | ⟨g, cap, cur, hv, _⟩
  · subst hn; exact ⟨_, _, hv⟩
  · exact ⟨_, _, hv⟩

theorem add_none (b off j : Nat) : (Addr.mk b off none).add j = ⟨b, off + j, none⟩ := by
  unfold Addr.add
  by_cases hj0 : j = 0
  · subst hj0; rfl
  · rw [if_neg hj0]

theorem Try.info5 : (Try.prog.info? 5).map (fun i => (i.zero, i.size, i.bytes)) = some (some (.int .u8 0), 1, 1) := by kernel_rfl

theorem chars_append (a b : List UInt8) : chars (a ++ b) = chars a ++ chars b := by simp [chars]

def appB (ty : TypeId) (vs : Array Value) : Sem Value := Builtin.append_ #[42, 42] ty vs
theorem appB_rw (ty : TypeId) (vs : Array Value) : Builtin.append_ #[42, 42] ty vs = appB ty vs := rfl

/-- An append of one byte. -/
theorem push_byte {W : World} {B n : Nat} {v : Value} {xs : List UInt8} (h : W.ownsRow B 5 1 v n (chars xs)) (hn : n ≤ 1000000) (hB : B ≤ W.heap.size) (c : UInt8) (z : Int) (hz : z = c.toNat) :
    ∃ ao cap2 w2, Sem.run Try.prog (appB 42 #[v, .slice (some ⟨W.heap.size, 0, none⟩) 1 1]) (W.alloc (.cells #[.int .u8 z] 5)) = .ok (.slice ao (n + 1) cap2) w2 ∧ w2.ownsRow B 5 1 (.slice ao (n + 1) cap2) (n + 1) (chars (xs ++ [c])) ∧ Below B W w2 := by
  subst hz
  obtain ⟨i0, hii, hz0, hz1, hz2⟩ := info_parts Try.info5
  have hown3 : (W.alloc (.cells #[.int .u8 c.toNat] 5)).ownsRow B 5 1 v n (chars xs) := owns_later h ((Below.refl _ _).alloc (Nat.le_refl _) _)
  obtain ⟨v4, w4, hrun4, hown4, hgrow4, _⟩ := run_append_own (P := Try.prog) (w := W.alloc (.cells #[.int .u8 c.toNat] 5)) B 42 42 5 i0 (.int .u8 0) 1 1 Try.underlying42 hii hz0 hz1 hz2 rfl (by decide) _ n _ hown3 ⟨W.heap.size, 0, none⟩ 1 1 [.int .u8 c.toNat] rfl (cell_one_new W (.int .u8 c.toNat) 5) (fun x hx => by simp at hx; subst hx; rfl) (by unfold maxLen; omega) (by omega) (by simp; omega)
  rw [appB_rw] at hrun4
  obtain ⟨ao4, cap4, rfl⟩ := slice_of_owns hown4
  exact ⟨ao4, cap4, w4, hrun4, by rw [chars_append]; exact hown4, (((Below.refl B W).alloc hB _)).grown hgrow4 (by simp; omega) (fun j hj => (hown3.lt j hj).1)⟩

theorem not_u64 (x : Nat) (hx : x < 18446744073709551616) : bits .xor .u64 IntKind.u64.max (x : Int) = ((18446744073709551615 - x : Nat) : Int) := by
  have hm : IntKind.u64.max = ((18446744073709551615 : Nat) : Int) := by decide
  rw [hm, u64_xor_nat _ _ (by omega) hx]
  congr 1
  apply Nat.eq_of_testBit_eq
  intro i
  have h64 : x < 2 ^ 64 := hx
  have a : Nat.testBit 18446744073709551615 i = decide (i < 64) := Nat.testBit_two_pow_sub_one (n := 64) (i := i)
  have b := Nat.testBit_two_pow_sub_succ h64 i
  rw [Nat.testBit_xor, a, show 18446744073709551615 - x = 2 ^ 64 - (x + 1) by omega, b]
  by_cases hi : i < 64
  · simp [hi]
  · simp [hi, Nat.testBit_lt_two_pow (Nat.lt_of_lt_of_le h64 (Nat.pow_le_pow_right (by omega) (Nat.le_of_not_lt hi)))]

/-- The code of an int. -/
def codeN (n : Int) : Nat := if n < 0 then (-(2 * n) - 1).toNat else (2 * n).toNat
theorem codeN_lt {n : Int} (h1 : -9223372036854775808 ≤ n) (h2 : n ≤ 9223372036854775807) : codeN n < 18446744073709551616 := by
  unfold codeN; split <;> omega

/-- A number as bytes, the lowest first. -/
def leb (c : Nat) : List UInt8 := if c < 128 then [UInt8.ofNat c] else UInt8.ofNat (c % 128 + 128) :: leb (c / 128)
decreasing_by omega
theorem leb_small {c : Nat} (h : c < 128) : leb c = [UInt8.ofNat c] := by rw [leb, if_pos h]
theorem leb_big {c : Nat} (h : ¬ c < 128) : leb c = UInt8.ofNat (c % 128 + 128) :: leb (c / 128) := by rw [leb, if_neg h]
theorem leb_len : ∀ (k c : Nat), c < 128 ^ (k + 1) → (leb c).length ≤ k + 1 := by
  intro k
  induction k with
  | zero => intro c h; rw [leb_small (by simpa using h)]; simp
  | succ k ih =>
    intro c h
    by_cases hc : c < 128
    · rw [leb_small hc]; simp
    · rw [leb_big hc]
      have : c / 128 < 128 ^ (k + 1) := by
        rw [Nat.div_lt_iff_lt_mul (by omega)]
        rw [Nat.pow_succ] at h
        exact h
      have := ih _ this
      simp only [List.length_cons]
      omega
theorem leb_len10 {c : Nat} (h : c < 18446744073709551616) : (leb c).length ≤ 10 := leb_len 9 c (by omega)

set_option maxRecDepth 10000 in
set_option maxHeartbeats 1000000 in
theorem code_any (n : Int) (h1 : -9223372036854775808 ≤ n) (h2 : n ≤ 9223372036854775807) (w : World) : Calls Try.prog 52 #[.int .i64 n] w fun e w' => e = .returned (.int .u64 (codeN n : Nat)) ∧ w' = w := by
  by_cases h0 : n < 0
  · have e0 : ((codeN n : Nat) : Int) = -(2 * n) - 1 := by unfold codeN; rw [if_pos h0]; omega
    obtain ⟨q, hq⟩ : ∃ q : Int, q = (codeN n : Nat) := ⟨_, rfl⟩
    rw [← hq] at e0 ⊢
    clear hq
    have E0 := Lib.hid e0
    clear e0
    go_enter Try.func52, Try.ntmps52
    go_wp2
    go_ret
    have e1 : IntKind.u64.wrap (IntKind.u64.wrap n * 2) = ((18446744073709551616 + 2 * n).toNat : Nat) := by rw [IntKind.wrap_u64, IntKind.wrap_u64]; omega
    refine ⟨congrArg (fun z => Ending.returned (Value.int IntKind.u64 z)) ?_, rfl⟩
    rw [e1, not_u64 _ (by omega), E0.out]
    omega
  · have e0 : ((codeN n : Nat) : Int) = 2 * n := by unfold codeN; rw [if_neg h0]; omega
    obtain ⟨q, hq⟩ : ∃ q : Int, q = (codeN n : Nat) := ⟨_, rfl⟩
    rw [← hq] at e0 ⊢
    clear hq
    have E0 := Lib.hid e0
    clear e0
    go_enter Try.func52, Try.ntmps52
    go_wp2
    go_ret
    exact ⟨by rw [E0.out, Int.mul_comm]; rfl, rfl⟩

set_option maxRecDepth 10000 in
set_option maxHeartbeats 1000000 in
theorem rcode_any (n : Int) (h1 : -9223372036854775808 ≤ n) (h2 : n ≤ 9223372036854775807) (w : World) : Calls Try.prog 50 #[.int .i64 n] w fun e w' => e = .returned (.int .u64 (codeN n : Nat)) ∧ w' = w := by
  by_cases h0 : n < 0
  · have e0 : ((codeN n : Nat) : Int) = -(2 * n) - 1 := by unfold codeN; rw [if_pos h0]; omega
    obtain ⟨q, hq⟩ : ∃ q : Int, q = (codeN n : Nat) := ⟨_, rfl⟩
    rw [← hq] at e0 ⊢
    clear hq
    have E0 := Lib.hid e0
    clear e0
    go_enter Try.func50, Try.ntmps50
    go_wp2
    go_ret
    refine ⟨congrArg (fun z => Ending.returned (Value.int IntKind.u64 z)) ?_, rfl⟩
    rw [E0.out]
    omega
  · have e0 : ((codeN n : Nat) : Int) = 2 * n := by unfold codeN; rw [if_neg h0]; omega
    obtain ⟨q, hq⟩ : ∃ q : Int, q = (codeN n : Nat) := ⟨_, rfl⟩
    rw [← hq] at e0 ⊢
    clear hq
    have E0 := Lib.hid e0
    clear e0
    go_enter Try.func50, Try.ntmps50
    go_wp2
    go_ret
    exact ⟨by rw [E0.out]; rfl, rfl⟩

end Go.Proofs.Ytafdjohgoopcmaa
