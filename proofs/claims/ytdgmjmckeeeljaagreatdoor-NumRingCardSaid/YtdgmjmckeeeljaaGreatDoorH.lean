/- Contracts of num: right numbers, made. No condition but that the slices read as digits. -/
import Derived.Test.YtdgmjmckeeeljaaGreatDoorG
namespace Go.Proofs.YtdgmjmckeeeljaaGreatDoor
open Go.RowKit

/-- Whether a Num of this sign and these digits is right. -/
def rightB (neg : Bool) (ds : List Nat) : Bool := if ds = [] then !neg else decide (ds.length ≤ 256) && decide (ds.getD (ds.length - 1) 0 ≠ 0)

set_option maxRecDepth 10000 in
set_option maxHeartbeats 400000 in
theorem right_any {w : World} {s : Value} {ds : List Nat} (neg : Bool) (h : Sl w s ds) (hreach : ds.length ≤ 140737488351232) :
    Calls Tryz.prog 32 #[.agg #[.bool neg, s]] w fun e w' => e = .returned (.bool (rightB neg ds)) ∧ w' = w.alloc (.cells #[.bool neg, s] 27) := by
  obtain ⟨ao, cap, rfl⟩ := h.mk'
  obtain ⟨n, hn⟩ : ∃ n, n = ds.length := ⟨_, rfl⟩
  cases n with
  | zero =>
    obtain rfl : ds = [] := List.eq_nil_of_length_eq_zero hn.symm
    have e0 : rightB neg [] = !neg := rfl
    rw [e0]
    clear e0 hn
    go_enter Tryz.func32, Tryz.ntmps32
    go_wp2
    go_ret
    exact ⟨rfl, rfl⟩
  | succ n =>
    rw [← hn] at h hreach ⊢
    obtain ⟨b, off, rfl, hcap, hbs, hcl⟩ := h.at (by omega)
    have hc := hcl n (by omega)
    obtain ⟨x, hx⟩ : ∃ x, x = ds.getD n 0 := ⟨_, rfl⟩
    rw [← hx] at hc
    have e0 : rightB neg ds = (decide (n + 1 ≤ 256) && decide (x ≠ 0)) := by
      unfold rightB
      rw [if_neg (by intro h0; rw [h0] at hn; simp at hn), ← hn, hx]
      rfl
    rw [e0]
    clear e0 hcl hx hn h
    have h4 : ((n : Int) + 1 == 0) = false := by simp; omega
    by_cases h1 : n + 1 ≤ 256
    · by_cases h2 : x = 0
      · subst h2
        go_enter Tryz.func32, Tryz.ntmps32
        go_wp2
        go_ret
        exact ⟨by simp, rfl⟩
      · have h3 : ((x : Int) != 0) = true := by simp; omega
        go_enter Tryz.func32, Tryz.ntmps32
        go_wp2
        go_ret
        exact ⟨by simp [h1, h2], rfl⟩
    · go_enter Tryz.func32, Tryz.ntmps32
      go_wp2
      go_ret
      exact ⟨by simp [h1], rfl⟩

set_option maxHeartbeats 400000 in
theorem made_big (neg : Bool) (ao : Option Addr) (n cap : Nat) (w : World) (h1 : 256 < n) :
    Calls Tryz.prog 47 #[.bool neg, .slice ao n cap] w fun e w' => e = .returned (.tuple #[.agg #[.bool false, .slice none 0 0], .bool false]) ∧ w' = w.alloc (.cells #[.bool false, .slice none 0 0] 27) := by
  go_enter Tryz.func47, Tryz.ntmps47
  go_wp2
  go_returns
  exact ⟨rfl, rfl⟩

set_option maxHeartbeats 400000 in
theorem made_zero (neg : Bool) (ao : Option Addr) (cap : Nat) (w : World) :
    Calls Tryz.prog 47 #[.bool neg, .slice ao 0 cap] w fun e w' => e = .returned (.tuple #[.agg #[.bool false, .slice none 0 0], .bool true]) ∧ w' = w.alloc (.cells #[.bool false, .slice none 0 0] 27) := by
  go_enter Tryz.func47, Tryz.ntmps47
  go_wp2
  go_returns
  exact ⟨rfl, rfl⟩

set_option maxHeartbeats 400000 in
theorem made_ok (neg : Bool) (ao : Option Addr) (n cap : Nat) (w : World) (h1 : n ≤ 256) (h2 : n ≠ 0) :
    Calls Tryz.prog 47 #[.bool neg, .slice ao n cap] w fun e w' => e = .returned (.tuple #[.agg #[.bool neg, .slice ao n cap], .bool true]) ∧ w' = w.alloc (.cells #[.bool neg, .slice ao n cap] 27) := by
  have h3 : ((n : Int) == 0) = false := by simp; omega
  go_enter Tryz.func47, Tryz.ntmps47
  go_wp2
  go_returns
  exact ⟨rfl, rfl⟩

/-- What made makes of a sign and a slice of n digits. -/
def mkN (neg : Bool) (n : Nat) : Bool := if n ≤ 256 ∧ n ≠ 0 then neg else false
def mkA (ao : Option Addr) (n : Nat) : Option Addr := if n ≤ 256 ∧ n ≠ 0 then ao else none
def mkL (n : Nat) : Nat := if n ≤ 256 ∧ n ≠ 0 then n else 0
def mkC (n cap : Nat) : Nat := if n ≤ 256 ∧ n ≠ 0 then cap else 0
def mkK (n : Nat) : Bool := decide (n ≤ 256)

theorem made_any (neg : Bool) (ao : Option Addr) (n cap : Nat) (w : World) :
    Calls Tryz.prog 47 #[.bool neg, .slice ao n cap] w fun e w' => e = .returned (.tuple #[.agg #[.bool (mkN neg n), .slice (mkA ao n) (mkL n) (mkC n cap)], .bool (mkK n)]) ∧ w' = w.alloc (.cells #[.bool (mkN neg n), .slice (mkA ao n) (mkL n) (mkC n cap)] 27) := by
  by_cases h1 : 256 < n
  · have hn : ¬ (n ≤ 256 ∧ n ≠ 0) := by omega
    have hk : mkK n = false := by unfold mkK; simp; omega
    unfold mkN mkA mkL mkC
    rw [if_neg hn, if_neg hn, if_neg hn, if_neg hn, hk]
    exact made_big neg ao n cap w h1
  · have hk : mkK n = true := by unfold mkK; simp; omega
    rw [hk]
    by_cases h2 : n = 0
    · subst h2
      exact made_zero neg ao cap w
    · have hn : n ≤ 256 ∧ n ≠ 0 := by omega
      unfold mkN mkA mkL mkC
      rw [if_pos hn, if_pos hn, if_pos hn, if_pos hn]
      exact made_ok neg ao n cap w (by omega) h2

def fitsB (n : Nat) : Bool := decide ((digs n).length ≤ 256)

/-- What a function returns that makes a Num of the integer z: the Num, and whether it fits. -/
def NumRes (w : World) (z : Int) (e : Ending) (w' : World) : Prop :=
  ∃ neg ao n cap, e = .returned (.tuple #[.agg #[.bool neg, .slice ao n cap], .bool (fitsB z.natAbs)]) ∧ Below w.heap.size w w' ∧
    (fitsB z.natAbs = true → neg = decide (z < 0) ∧ Sw w.heap.size w' (.slice ao n cap) (digs z.natAbs)) ∧ (fitsB z.natAbs = false → neg = false ∧ ao = none ∧ n = 0 ∧ cap = 0)

theorem Sw.nil (B : Nat) (w : World) (ao : Option Addr) (cap : Nat) : Sw B w (.slice ao 0 cap) [] := ⟨Sl.nil w ao cap, fun ao n cap hv hn => by cases hv; exact absurd rfl hn⟩

/-- Out of made: a Num of the integer, where the sign is right. -/
theorem numRes_made {w W : World} {z : Int} {neg : Bool} {ao : Option Addr} {n cap : Nat} (hb : Below w.heap.size w W) (hn : n = (digs z.natAbs).length) (hneg : z ≠ 0 → neg = decide (z < 0)) (hs : n ≠ 0 → Sw w.heap.size W (.slice ao n cap) (digs z.natAbs)) :
    NumRes w z (.returned (.tuple #[.agg #[.bool (mkN neg n), .slice (mkA ao n) (mkL n) (mkC n cap)], .bool (mkK n)])) W := by
  have hk : mkK n = fitsB z.natAbs := by unfold mkK fitsB; rw [hn]
  refine ⟨_, _, _, _, by rw [hk], hb, fun hf => ?_, fun hf => ?_⟩
  · have hle : n ≤ 256 := by rw [hn]; simpa [fitsB] using hf
    by_cases h0 : n = 0
    · have hz : z = 0 := by
        have : digs z.natAbs = [] := List.eq_nil_of_length_eq_zero (by omega)
        have : z.natAbs = 0 := digs_inj (by rw [this, digs_zero])
        omega
      subst hz
      have hn' : ¬ (n ≤ 256 ∧ n ≠ 0) := by omega
      unfold mkN mkA mkL mkC
      rw [if_neg hn', if_neg hn', if_neg hn', if_neg hn']
      exact ⟨rfl, by rw [show digs (Int.natAbs 0) = [] from digs_zero]; exact Sw.nil _ _ _ _⟩
    · have hn' : n ≤ 256 ∧ n ≠ 0 := ⟨hle, h0⟩
      unfold mkN mkA mkL mkC
      rw [if_pos hn', if_pos hn', if_pos hn', if_pos hn']
      refine ⟨hneg ?_, hs h0⟩
      intro hz
      subst hz
      apply h0
      rw [hn]
      show (digs 0).length = 0
      rw [digs_zero]; rfl
  · have hle : 256 < n := by rw [hn]; simpa [fitsB] using hf
    have hn' : ¬ (n ≤ 256 ∧ n ≠ 0) := by omega
    unfold mkN mkA mkL mkC
    rw [if_neg hn', if_neg hn', if_neg hn', if_neg hn']
    exact ⟨rfl, rfl, rfl, rfl⟩

end Go.Proofs.YtdgmjmckeeeljaaGreatDoor
