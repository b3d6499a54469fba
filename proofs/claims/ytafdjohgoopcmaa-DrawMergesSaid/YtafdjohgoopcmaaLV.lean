/- The choices of the laws DrawWithin and DrawMerges, their sums, and where a number lies among them. -/
import Derived.Test.YtafdjohgoopcmaaWF
import Derived.Test.YtafdjohgoopcmaaLP
namespace Go.Proofs.Ytafdjohgoopcmaa
open Go.RowKit

/-- The choices with the weights of bytes. -/
def wl (l : List Int) (k : Nat) : List Ch := (List.range k).map fun i => (1 + l.getD i 0 % 30, 0, (i : Int) % 6)
theorem wl_len (l : List Int) (k : Nat) : (wl l k).length = k := by simp [wl]
theorem wl_succ (l : List Int) (k : Nat) : wl l (k + 1) = wl l k ++ [(1 + l.getD k 0 % 30, 0, (k : Int) % 6)] := by simp [wl, List.range_succ]
theorem wl_get (l : List Int) {k i : Nat} (h : i < k) : (wl l k).getD i (0, 0, 0) = (1 + l.getD i 0 % 30, 0, (i : Int) % 6) := by simp [wl, List.getD, h]
theorem wl_fit (l : List Int) (k : Nat) : ∀ i, I64 ((wl l k).getD i (0, 0, 0)).1 := fit_ch fun c hc => by
  simp only [wl, List.mem_map] at hc
  obtain ⟨i, _, rfl⟩ := hc
  constructor <;> (simp only; omega)

/-- The sum of the first weights. -/
def pre (l : List Ch) : Nat → Nat
  | 0 => 0
  | k + 1 => pre l k + (l.getD k (0, 0, 0)).1.toNat
theorem pre_mono (l : List Ch) (k : Nat) : ∀ m, pre l k ≤ pre l (k + m)
  | 0 => Nat.le_refl _
  | m + 1 => Nat.le_trans (pre_mono l k m) (by rw [← Nat.add_assoc, pre]; omega)

/-- All weights are at least 1, and together not too great. -/
theorem sumV_pre (l : List Ch) (h1 : ∀ k, k < l.length → 1 ≤ (l.getD k (0, 0, 0)).1) (h2 : pre l l.length ≤ 1073741824) : ∀ m k, k + m = l.length → sumV (pre l k) (l.drop k) = some (pre l l.length)
  | 0, k, h => by
    rw [show k = l.length by omega, List.drop_length]; rfl
  | m + 1, k, h => by
    have hk : k < l.length := by omega
    have hw := h1 k hk
    have hm := pre_mono l (k + 1) (l.length - (k + 1))
    rw [show k + 1 + (l.length - (k + 1)) = l.length by omega] at hm
    have hp : pre l (k + 1) = pre l k + (l.getD k (0, 0, 0)).1.toNat := rfl
    rw [sumV_step hk, if_pos (by unfold addW; omega), ← hp]
    exact sumV_pre l h1 h2 m (k + 1) (by omega)

theorem above_pre (l : List Ch) (n : Nat) (hn : n < pre l l.length) : ∀ m k, k + m = l.length → pre l k ≤ n → k + above n (pre l k) (l.drop k) < l.length ∧ pre l (k + above n (pre l k) (l.drop k)) ≤ n ∧ n < pre l (k + above n (pre l k) (l.drop k) + 1)
  | 0, k, h, hk => by
    rw [show k = l.length by omega] at hk; omega
  | m + 1, k, h, hk => by
    have hkl : k < l.length := by omega
    have hp : pre l (k + 1) = pre l k + (l.getD k (0, 0, 0)).1.toNat := rfl
    rw [above_step hkl, ← hp]
    by_cases hlt : n < pre l (k + 1)
    · rw [if_pos hlt]
      exact ⟨hkl, hk, hlt⟩
    · rw [if_neg hlt]
      have := above_pre l n hn m (k + 1) (by omega) (by omega)
      rw [show k + (above n (pre l (k + 1)) (l.drop (k + 1)) + 1) = k + 1 + above n (pre l (k + 1)) (l.drop (k + 1)) by omega]
      exact this

/-- The sums of the weights of bytes. -/
theorem pre_wl_le (l : List Int) (m : Nat) : ∀ k, k ≤ m → pre (wl l m) k ≤ 30 * k
  | 0, _ => by simp [pre]
  | k + 1, h => by
    have := pre_wl_le l m k (by omega)
    rw [pre, wl_get l (show k < m by omega)]
    simp only
    omega
theorem pre_wl_ge (l : List Int) (m : Nat) : ∀ k, k ≤ m → k ≤ pre (wl l m) k
  | 0, _ => by simp
  | k + 1, h => by
    have := pre_wl_ge l m k (by omega)
    rw [pre, wl_get l (show k < m by omega)]
    simp only
    omega
theorem pre_wl_ind (l : List Int) {m m2 : Nat} : ∀ k, k ≤ m → k ≤ m2 → pre (wl l m) k = pre (wl l m2) k
  | 0, _, _ => rfl
  | k + 1, h, h2 => by
    have e := pre_wl_ind l (m := m) (m2 := m2) k (by omega) (by omega)
    have e1 := wl_get l (show k < m by omega)
    have e2 := wl_get l (show k < m2 by omega)
    rw [pre, pre, e, e1, e2]
theorem total_wl (l : List Int) (m : Nat) (hm : m ≤ 20) : total (wl l m) = pre (wl l m) m := by
  have hle := pre_wl_le l m m (Nat.le_refl _)
  have h := sumV_pre (wl l m) (fun k hk => by rw [wl_len] at hk; rw [wl_get l hk]; simp only; omega) (by rw [wl_len]; omega) m 0 (by rw [wl_len]; omega)
  rw [wl_len] at h
  have h' : sumV 0 (wl l m) = some (pre (wl l m) m) := h
  unfold total
  rw [h']
  rfl

end Go.Proofs.Ytafdjohgoopcmaa
