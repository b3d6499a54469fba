/- Contracts: within and what it calls, Max. Condition: the slice reads as ints. -/
import Derived.Test.YtjlneggfkpjnpaaA
namespace Go.Proofs.Ytjlneggfkpjnpaa
open Go.RowKit

/-- Two ints in boxes. -/
structure LoHi (W : World) (B C : Nat) (lo hi : Int) : Prop where
  b : W.heap[B]? = some (.cells #[.int .i64 lo] 3 (0, 0))
  c : W.heap[C]? = some (.cells #[.int .i64 hi] 3 (0, 0))

set_option maxRecDepth 10000 in
set_option maxHeartbeats 1000000 in
theorem out_any {W : World} {B C : Nat} {lo hi : Int} (h : LoHi W B C lo hi) (x : Int) :
    Calls Try.prog 44 #[.int .i64 x, .pointer (some ⟨B, 0, none⟩), .pointer (some ⟨C, 0, none⟩)] W fun e w' => e = .returned (.bool (!(decide (lo ≤ x) && decide (x ≤ hi)))) ∧ w' = W := by
  have c1 := cell_of_one h.b
  have c2 := cell_of_one h.c
  clear h
  by_cases h1 : x < lo
  · have h2 : ¬ lo ≤ x := by omega
    have E : Hid ((!(decide (lo ≤ x) && decide (x ≤ hi))) = true) := Lib.hid (by simp [h2])
    rw [E.out]
    clear h2
    go_enter Try.func44, Try.ntmps44
    go_wp2
    go_ret
    exact ⟨rfl, rfl⟩
  · have h2 : lo ≤ x := by omega
    by_cases h3 : hi < x
    · have E : Hid ((!(decide (lo ≤ x) && decide (x ≤ hi))) = true) := Lib.hid (by have : ¬ x ≤ hi := by omega
                                                                                   simp [this])
      rw [E.out]
      clear h2
      go_enter Try.func44, Try.ntmps44
      go_wp2
      go_ret
      exact ⟨rfl, rfl⟩
    · have E : Hid ((!(decide (lo ≤ x) && decide (x ≤ hi))) = false) := Lib.hid (by have : x ≤ hi := by omega
                                                                                    simp [this, h2])
      rw [E.out]
      clear h2
      go_enter Try.func44, Try.ntmps44
      go_wp2
      go_ret
      exact ⟨rfl, rfl⟩

/-- The first index of a number outside, or -1. -/
def badAt (lo hi : Int) (l : List Int) : Nat → Int
  | 0 => -1
  | k + 1 => if (decide (lo ≤ l.getD (l.length - (k + 1)) 0) && decide (l.getD (l.length - (k + 1)) 0 ≤ hi)) = true then badAt lo hi l k else ((l.length - (k + 1) : Nat) : Int)

theorem badAt_in {lo hi : Int} {l : List Int} : ∀ k, k ≤ l.length → (badAt lo hi l k < 0 ↔ ∀ j, l.length - k ≤ j → j < l.length → lo ≤ l.getD j 0 ∧ l.getD j 0 ≤ hi)
  | 0, _ => by
    simp only [badAt]
    constructor
    · intro _ j h1 h2; omega
    · intro _; decide
  | k + 1, hk => by
    rw [badAt]
    split
    · rename_i h
      rw [badAt_in k (by omega)]
      simp only [Bool.and_eq_true, decide_eq_true_eq] at h
      constructor
      · intro hj j h1 h2
        by_cases he : j = l.length - (k + 1)
        · rw [he]; exact h
        · exact hj j (by omega) h2
      · intro hj j h1 h2
        exact hj j (by omega) h2
    · rename_i h
      constructor
      · intro h2; omega
      · intro hj
        exact absurd (by simpa using hj (l.length - (k + 1)) (by omega) (by omega)) (by simpa using h)

set_option maxRecDepth 10000 in
set_option maxHeartbeats 2000000 in
theorem indexOut_any {W : World} {v : Value} {l : List Int} (hX : Ix W v l) {B C : Nat} {lo hi : Int} (h : LoHi W B C lo hi) :
    Calls Try.prog 51 #[v, .func (.func 44) #[] #[.pointer (some ⟨B, 0, none⟩), .pointer (some ⟨C, 0, none⟩)]] W fun e w' => e = .returned (.int .i64 (badAt lo hi l l.length)) ∧ w' = W := by
  obtain ⟨ao, cap, rfl⟩ := hX.mk'
  have hlen := hX.len
  unfold maxLen at hlen
  obtain ⟨n, hn⟩ : ∃ n, n = l.length := ⟨_, rfl⟩
  have HN := Lib.hid hn
  have HX := Lib.hid hX
  rw [← hn] at hlen HX ⊢
  obtain ⟨R, hR⟩ : ∃ R, R = badAt lo hi l n := ⟨_, rfl⟩
  have HR := Lib.hid hR
  rw [← hR]
  have HO := Lib.hid (fun x => out_any h x)
  clear hX hn hR h
  go_enter Try.func51, Try.ntmps51
  go_wp2
  go_loopw [8] (fun kv wr => ∃ k : Nat, k ≤ n ∧ kv = .int .i64 (k : Nat) ∧ Hid (badAt lo hi l (n - k) = R) ∧ wr = W) (fun kv _ => n - (intOf kv).toNat)
  case atStart => exact ⟨0, by omega, rfl, Lib.hid HR.out.symm, rfl⟩
  case round =>
    obtain ⟨k, hk, rfl, hJ, rfl⟩ := hrel
    by_cases hkn : k = n
    · subst hkn
      have E : Hid (R = -1) := Lib.hid (by rw [← hJ.out, Nat.sub_self]; rfl)
      go_wp2
      go_ret
      exact ⟨by rw [E.out]; rfl, rfl⟩
    · have hlt : k < n := by omega
      obtain ⟨b, off, rfl, hq, hcap, hbl, hcl⟩ := HX.out.at (by omega)
      have hc := hcl k hlt
      have hJo := hJ.out
      rw [show n - k = (n - (k + 1)) + 1 by omega, badAt, ← HN.out, show n - (n - (k + 1) + 1) = k by omega] at hJo
      obtain ⟨x, hx⟩ : ∃ x, x = l.getD k 0 := ⟨_, rfl⟩
      rw [← hx] at hc hJo
      have HC := Lib.hid (HO.out x)
      by_cases hin : (decide (lo ≤ x) && decide (x ≤ hi)) = true
      · rw [if_pos hin] at hJo
        rw [hin] at HC
        have HJ := Lib.hid hJo
        clear hx hcl hq hJ hJo hin
        go_wp2_with (go_at_call 44; refine HC.out.mono ?_; rintro e w2 ⟨rfl, rfl⟩)
        go_roundw
        case rel => exact ⟨k + 1, by omega, by go_num, HJ, by trivial⟩
        case measure => simp [intOf]; omega
      · rw [if_neg hin] at hJo
        have hf : (decide (lo ≤ x) && decide (x ≤ hi)) = false := by simpa using hin
        rw [hf] at HC
        have HJ := Lib.hid hJo
        clear hx hcl hq hJ hJo hin hf
        go_wp2_with (go_at_call 44; refine HC.out.mono ?_; rintro e w2 ⟨rfl, rfl⟩)
        go_ret
        exact ⟨by rw [← HJ.out]; rfl, rfl⟩

set_option maxRecDepth 10000 in
set_option maxHeartbeats 1000000 in
theorem someOut_any {W : World} {v : Value} {l : List Int} (hX : Ix W v l) {B C : Nat} {lo hi : Int} (h : LoHi W B C lo hi) :
    Calls Try.prog 43 #[v, .func (.func 44) #[] #[.pointer (some ⟨B, 0, none⟩), .pointer (some ⟨C, 0, none⟩)]] W fun e w' => e = .returned (.bool (!(inB lo hi l))) ∧ w' = W := by
  have HI := Lib.hid (indexOut_any hX h)
  have hbi := badAt_in (lo := lo) (hi := hi) (l := l) l.length (Nat.le_refl _)
  rw [Nat.sub_self] at hbi
  obtain ⟨R, hR⟩ : ∃ R, R = badAt lo hi l l.length := ⟨_, rfl⟩
  rw [← hR] at hbi HI
  have e : Hid (decide (R ≥ 0) = !(inB lo hi l)) := Lib.hid (by
    cases hb : inB lo hi l with
    | true =>
      have := hbi.2 fun j _ h2 => (inB_iff.1 hb) j h2
      simp; omega
    | false =>
      have : ¬ R < 0 := fun hc => by
        have := inB_iff.2 fun k hk => hbi.1 hc k (by omega) hk
        rw [this] at hb; cases hb
      simp; omega)
  rw [← e.out]
  clear hbi hR hX h
  go_enter Try.func43, Try.ntmps43
  go_wp2_with (go_at_call 51; refine HI.out.mono ?_; rintro e w2 ⟨rfl, rfl⟩)
  go_ret
  exact ⟨by first | rfl | (simp; done), rfl⟩

theorem lohi_new (W : World) (lo hi : Int) : LoHi ((W.alloc (.cells #[.int .i64 lo] 3)).alloc (.cells #[.int .i64 hi] 3)) W.heap.size (W.heap.size + 1) lo hi := by
  refine ⟨?_, ?_⟩
  · rw [Below.heap_alloc _ _ _ (by simp)]; exact heap_alloc_new _ _
  · have := heap_alloc_new (W.alloc (.cells #[.int .i64 lo] 3)) (.cells #[.int .i64 hi] 3)
    rw [World.size_alloc] at this
    exact this

set_option maxRecDepth 10000 in
set_option maxHeartbeats 1000000 in
theorem within_any {W : World} {v : Value} {l : List Int} (hX : Ix W v l) (lo hi : Int) :
    Calls Try.prog 33 #[v, .int .i64 lo, .int .i64 hi] W fun e w' => e = .returned (.bool (inB lo hi l)) ∧ Below W.heap.size W w' := by
  have HI := Lib.hid (someOut_any (hX.below (((Below.refl _ W).alloc (Nat.le_refl _) (.cells #[.int .i64 lo] 3)).alloc (by simp) (.cells #[.int .i64 hi] 3))) (lohi_new W lo hi))
  have HB := Lib.hid (((Below.refl _ W).alloc (Nat.le_refl _) (.cells #[.int .i64 lo] 3)).alloc (by simp) (.cells #[.int .i64 hi] 3))
  obtain ⟨R, hR⟩ : ∃ R, R = inB lo hi l := ⟨_, rfl⟩
  rw [← hR] at HI ⊢
  clear hR hX
  go_enter Try.func33, Try.ntmps33
  go_wp2_with (go_at_call 43; refine HI.out.mono ?_; rintro e w2 ⟨rfl, rfl⟩)
  go_ret
  exact ⟨by cases R <;> rfl, HB.out⟩

/-- The greatest of some numbers. -/
def maxV (l : List Int) (m : Int) : Nat → Int
  | 0 => m
  | k + 1 => max (maxV l m k) (l.getD (k + 1) 0)

theorem maxV_ge {l : List Int} : ∀ k, ∀ j, j ≤ k → l.getD j 0 ≤ maxV l (l.getD 0 0) k
  | 0, j, h => by rw [show j = 0 by omega, maxV]; omega
  | k + 1, j, h => by
    rw [maxV]
    by_cases hj : j = k + 1
    · subst hj; omega
    · have := maxV_ge (l := l) k j (by omega); omega
theorem maxV_mem {l : List Int} : ∀ k, ∃ j, j ≤ k ∧ maxV l (l.getD 0 0) k = l.getD j 0
  | 0 => ⟨0, by omega, rfl⟩
  | k + 1 => by
    obtain ⟨j, h1, h2⟩ := maxV_mem (l := l) k
    rw [maxV]
    by_cases hc : maxV l (l.getD 0 0) k ≤ l.getD (k + 1) 0
    · exact ⟨k + 1, by omega, by omega⟩
    · exact ⟨j, by omega, by omega⟩

set_option maxRecDepth 10000 in
set_option maxHeartbeats 1000000 in
theorem max_any {W : World} {v : Value} {l : List Int} (hX : Ix W v l) (h0 : l.length ≠ 0) :
    Calls Try.prog 42 #[v] W fun e w' => e = .returned (.int .i64 (maxV l (l.getD 0 0) (l.length - 1))) ∧ w' = W := by
  obtain ⟨ao, cap, rfl⟩ := hX.mk'
  have hlen := hX.len
  unfold maxLen at hlen
  obtain ⟨b, off, rfl, hq, hcap, hbl, hcl⟩ := hX.at h0
  obtain ⟨n, hn⟩ : ∃ n, n = l.length := ⟨_, rfl⟩
  rw [← hn] at hlen h0 hcl hcap ⊢
  have hc0 := hcl 0 (by omega)
  rw [Nat.add_zero] at hc0
  have HCL := Lib.hid hcl
  obtain ⟨f, hf⟩ : ∃ f : Nat → Int, f = maxV l (l.getD 0 0) := ⟨_, rfl⟩
  have HF : Hid (∀ k, f (k + 1) = max (f k) (l.getD (k + 1) 0)) := Lib.hid (fun k => by rw [hf, maxV])
  have hf0 : f 0 = l.getD 0 0 := by rw [hf]; rfl
  rw [← hf0] at hc0
  rw [← hf]
  clear hf hf0 hq hn hX hcl hbl
  go_enter Try.func42, Try.ntmps42
  go_wp2
  go_loop [3, 4] (fun mv kv => ∃ k : Nat, 1 ≤ k ∧ k ≤ n ∧ kv = .int .i64 (k : Nat) ∧ mv = .int .i64 (f (k - 1))) (fun _ kv => n - (intOf kv).toNat)
  case atStart => exact ⟨1, by omega, by omega, rfl, rfl⟩
  case round =>
    obtain ⟨k, hk1, hk, rfl, rfl⟩ := hrel
    by_cases hkn : k = n
    · subst hkn
      go_wp2
      go_ret
      exact ⟨rfl, rfl⟩
    · have hlt : k < n := by omega
      have hc := HCL.out k hlt
      have e := HF.out (k - 1)
      rw [show k - 1 + 1 = k by omega] at e
      obtain ⟨x, hx⟩ : ∃ x, x = l.getD k 0 := ⟨_, rfl⟩
      rw [← hx] at e hc
      have E := Lib.hid e
      clear e hx
      go_wp2
      go_round
      case rel => exact ⟨k + 1, by omega, by omega, by go_num, by rw [show k + 1 - 1 = k by omega, E.out]; congr 1; split <;> omega⟩
      case measure => simp [intOf]; omega

end Go.Proofs.Ytjlneggfkpjnpaa
