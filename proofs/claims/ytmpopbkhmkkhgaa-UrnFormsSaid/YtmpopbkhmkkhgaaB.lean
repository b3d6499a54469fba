/- Contracts: within and what it calls. Condition: the slice reads as ints. -/
import Derived.Test.YtmpopbkhmkkhgaaA
namespace Go.Proofs.Ytmpopbkhmkkhgaa
open Go.RowKit

/-- Two ints in boxes. -/
structure LoHi (W : World) (B C : Nat) (lo hi : Int) : Prop where
  b : W.heap[B]? = some (.cells #[.int .i64 lo] 3 (0, 0))
  c : W.heap[C]? = some (.cells #[.int .i64 hi] 3 (0, 0))

set_option maxRecDepth 10000 in
set_option maxHeartbeats 1000000 in
theorem out_any {W : World} {B C : Nat} {lo hi : Int} (h : LoHi W B C lo hi) (x : Int) :
    Calls Try.prog 36 #[.int .i64 x, .pointer (some ⟨B, 0, none⟩), .pointer (some ⟨C, 0, none⟩)] W fun e w' => e = .returned (.bool (!(decide (lo ≤ x) && decide (x ≤ hi)))) ∧ w' = W := by
  have c1 := cell_of_one h.b
  have c2 := cell_of_one h.c
  clear h
  by_cases h1 : x < lo
  · have h2 : ¬ lo ≤ x := by omega
    have E : Hid ((!(decide (lo ≤ x) && decide (x ≤ hi))) = true) := Lib.hid (by simp [h2])
    rw [E.out]
    clear h2
    go_enter Try.func36, Try.ntmps36
    go_wp2
    go_ret
    exact ⟨rfl, rfl⟩
  · have h2 : lo ≤ x := by omega
    by_cases h3 : hi < x
    · have E : Hid ((!(decide (lo ≤ x) && decide (x ≤ hi))) = true) := Lib.hid (by have : ¬ x ≤ hi := by omega
                                                                                   simp [this])
      rw [E.out]
      clear h2
      go_enter Try.func36, Try.ntmps36
      go_wp2
      go_ret
      exact ⟨rfl, rfl⟩
    · have E : Hid ((!(decide (lo ≤ x) && decide (x ≤ hi))) = false) := Lib.hid (by have : x ≤ hi := by omega
                                                                                    simp [this, h2])
      rw [E.out]
      clear h2
      go_enter Try.func36, Try.ntmps36
      go_wp2
      go_ret
      exact ⟨rfl, rfl⟩

/-- The first index of a number outside, or -1. -/
def badAt (lo hi : Int) (l : List Int) : Nat → Int
  | 0 => -1
  | k + 1 => if (decide (lo ≤ l.getD (l.length - (k + 1)) 0) && decide (l.getD (l.length - (k + 1)) 0 ≤ hi)) = true then badAt lo hi l k else ((l.length - (k + 1) : Nat) : Int)

theorem badAt_in {lo hi : Int} {l : List Int} : ∀ k, k ≤ l.length → (badAt lo hi l k < 0 ↔ ∀ j, l.length - k ≤ j → j < l.length → lo ≤ l.getD j 0 ∧ l.getD j 0 ≤ hi)
  | 0, _ => by
    simp only [badAt]
    constructor
    · intro _ j h1 h2; omega
    · intro _; decide
  | k + 1, hk => by
    rw [badAt]
    split
    · rename_i h
      rw [badAt_in k (by omega)]
      simp only [Bool.and_eq_true, decide_eq_true_eq] at h
      constructor
      · intro hj j h1 h2
        by_cases he : j = l.length - (k + 1)
        · rw [he]; exact h
        · exact hj j (by omega) h2
      · intro hj j h1 h2
        exact hj j (by omega) h2
    · rename_i h
      constructor
      · intro h2; omega
      · intro hj
        exact absurd (by simpa using hj (l.length - (k + 1)) (by omega) (by omega)) (by simpa using h)

set_option maxRecDepth 10000 in
set_option maxHeartbeats 2000000 in
theorem indexOut_any {W : World} {v : Value} {l : List Int} (hX : Ix W v l) {B C : Nat} {lo hi : Int} (h : LoHi W B C lo hi) :
    Calls Try.prog 37 #[v, .func (.func 36) #[] #[.pointer (some ⟨B, 0, none⟩), .pointer (some ⟨C, 0, none⟩)]] W fun e w' => e = .returned (.int .i64 (badAt lo hi l l.length)) ∧ w' = W := by
  obtain ⟨ao, cap, rfl⟩ := hX.mk'
  have hlen := hX.len
  unfold maxLen at hlen
  obtain ⟨n, hn⟩ : ∃ n, n = l.length := ⟨_, rfl⟩
  have HN := Lib.hid hn
  have HX := Lib.hid hX
  rw [← hn] at hlen HX ⊢
  obtain ⟨R, hR⟩ : ∃ R, R = badAt lo hi l n := ⟨_, rfl⟩
  have HR := Lib.hid hR
  rw [← hR]
  have HO := Lib.hid (fun x => out_any h x)
  clear hX hn hR h
  go_enter Try.func37, Try.ntmps37
  go_wp2
  go_loopw [8] (fun kv wr => ∃ k : Nat, k ≤ n ∧ kv = .int .i64 (k : Nat) ∧ Hid (badAt lo hi l (n - k) = R) ∧ wr = W) (fun kv _ => n - (intOf kv).toNat)
  case atStart => exact ⟨0, by omega, rfl, Lib.hid HR.out.symm, rfl⟩
  case round =>
    obtain ⟨k, hk, rfl, hJ, rfl⟩ := hrel
    by_cases hkn : k = n
    · subst hkn
      have E : Hid (R = -1) := Lib.hid (by rw [← hJ.out, Nat.sub_self]; rfl)
      go_wp2
      go_ret
      exact ⟨by rw [E.out]; rfl, rfl⟩
    · have hlt : k < n := by omega
      obtain ⟨b, off, rfl, hq, hcap, hbl, hcl⟩ := HX.out.at (by omega)
      have hc := hcl k hlt
      have hJo := hJ.out
      rw [show n - k = (n - (k + 1)) + 1 by omega, badAt, ← HN.out, show n - (n - (k + 1) + 1) = k by omega] at hJo
      obtain ⟨x, hx⟩ : ∃ x, x = l.getD k 0 := ⟨_, rfl⟩
      rw [← hx] at hc hJo
      have HC := Lib.hid (HO.out x)
      by_cases hin : (decide (lo ≤ x) && decide (x ≤ hi)) = true
      · rw [if_pos hin] at hJo
        rw [hin] at HC
        have HJ := Lib.hid hJo
        clear hx hcl hq hJ hJo hin
        go_wp2_with (go_at_call 36; refine HC.out.mono ?_; rintro e w2 ⟨rfl, rfl⟩)
        go_roundw
        case rel => exact ⟨k + 1, by omega, by go_num, HJ, by trivial⟩
        case measure => simp [intOf]; omega
      · rw [if_neg hin] at hJo
        have hf : (decide (lo ≤ x) && decide (x ≤ hi)) = false := by simpa using hin
        rw [hf] at HC
        have HJ := Lib.hid hJo
        clear hx hcl hq hJ hJo hin hf
        go_wp2_with (go_at_call 36; refine HC.out.mono ?_; rintro e w2 ⟨rfl, rfl⟩)
        go_ret
        exact ⟨by rw [← HJ.out]; rfl, rfl⟩

set_option maxRecDepth 10000 in
set_option maxHeartbeats 1000000 in
theorem someOut_any {W : World} {v : Value} {l : List Int} (hX : Ix W v l) {B C : Nat} {lo hi : Int} (h : LoHi W B C lo hi) :
    Calls Try.prog 35 #[v, .func (.func 36) #[] #[.pointer (some ⟨B, 0, none⟩), .pointer (some ⟨C, 0, none⟩)]] W fun e w' => e = .returned (.bool (!(inB lo hi l))) ∧ w' = W := by
  have HI := Lib.hid (indexOut_any hX h)
  have hbi := badAt_in (lo := lo) (hi := hi) (l := l) l.length (Nat.le_refl _)
  rw [Nat.sub_self] at hbi
  obtain ⟨R, hR⟩ : ∃ R, R = badAt lo hi l l.length := ⟨_, rfl⟩
  rw [← hR] at hbi HI
  have e : Hid (decide (R ≥ 0) = !(inB lo hi l)) := Lib.hid (by
    cases hb : inB lo hi l with
    | true =>
      have := hbi.2 fun j _ h2 => (inB_iff.1 hb) j h2
      simp; omega
    | false =>
      have : ¬ R < 0 := fun hc => by
        have := inB_iff.2 fun k hk => hbi.1 hc k (by omega) hk
        rw [this] at hb; cases hb
      simp; omega)
  rw [← e.out]
  clear hbi hR hX h
  go_enter Try.func35, Try.ntmps35
  go_wp2_with (go_at_call 37; refine HI.out.mono ?_; rintro e w2 ⟨rfl, rfl⟩)
  go_ret
  exact ⟨by first | rfl | (simp; done), rfl⟩

theorem lohi_new (W : World) (lo hi : Int) : LoHi ((W.alloc (.cells #[.int .i64 lo] 3)).alloc (.cells #[.int .i64 hi] 3)) W.heap.size (W.heap.size + 1) lo hi := by
  refine ⟨?_, ?_⟩
  · rw [Below.heap_alloc _ _ _ (by simp)]; exact heap_alloc_new _ _
  · have := heap_alloc_new (W.alloc (.cells #[.int .i64 lo] 3)) (.cells #[.int .i64 hi] 3)
    rw [World.size_alloc] at this
    exact this

set_option maxRecDepth 10000 in
set_option maxHeartbeats 1000000 in
theorem within_any {W : World} {v : Value} {l : List Int} (hX : Ix W v l) (lo hi : Int) :
    Calls Try.prog 32 #[v, .int .i64 lo, .int .i64 hi] W fun e w' => e = .returned (.bool (inB lo hi l)) ∧ Below W.heap.size W w' := by
  have HI := Lib.hid (someOut_any (hX.below (((Below.refl _ W).alloc (Nat.le_refl _) (.cells #[.int .i64 lo] 3)).alloc (by simp) (.cells #[.int .i64 hi] 3))) (lohi_new W lo hi))
  have HB := Lib.hid (((Below.refl _ W).alloc (Nat.le_refl _) (.cells #[.int .i64 lo] 3)).alloc (by simp) (.cells #[.int .i64 hi] 3))
  obtain ⟨R, hR⟩ : ∃ R, R = inB lo hi l := ⟨_, rfl⟩
  rw [← hR] at HI ⊢
  clear hR hX
  go_enter Try.func32, Try.ntmps32
  go_wp2_with (go_at_call 35; refine HI.out.mono ?_; rintro e w2 ⟨rfl, rfl⟩)
  go_ret
  exact ⟨by cases R <;> rfl, HB.out⟩

end Go.Proofs.Ytmpopbkhmkkhgaa
