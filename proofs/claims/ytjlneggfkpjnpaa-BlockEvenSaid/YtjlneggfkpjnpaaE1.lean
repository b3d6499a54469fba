/- The mathematics of BlockEven: how often each arm was taken. -/
import Derived.Test.YtjlneggfkpjnpaaS
namespace Go.Proofs.Ytjlneggfkpjnpaa
open Go.RowKit

/-- How often the arms were taken, of n arms. -/
def usedV (r s l : List Int) (n : Nat) : Nat → List Int
  | 0 => List.replicate n 0
  | k + 1 => (usedV r s l n k).set (wCh r s l k).2.2.toNat ((usedV r s l n k).getD (wCh r s l k).2.2.toNat 0 + 1)
theorem usedV_len (r s l : List Int) (n : Nat) : ∀ k, (usedV r s l n k).length = n
  | 0 => by simp [usedV]
  | k + 1 => by rw [usedV, List.length_set, usedV_len r s l n k]

theorem block_get {r row : List Int} {y : Int} {j : Nat} (hj : j < r.length) : (blockV r row y).getD j 0 = if y = 0 then row.getD j 0 else y * r.getD j 0 := by
  unfold blockV
  split
  · rfl
  · rw [getD_map hj]

/-- What was taken, and what is left, is a multiple of the ratio; what is left is at most a block. -/
theorem used_inv {r s l : List Int} (hB : hasB r s = true) (hl : ∀ k, 0 ≤ l.getD k 0) (g : Int) (hg : ∀ j, j < s.length → s.getD j 0 ≤ g) (hg0 : 0 ≤ g) :
    ∀ k, ∃ Q z : Int, 0 ≤ z ∧ z ≤ g ∧ ∀ a, a < r.length → (usedV r s l r.length k).getD a 0 + (wRow r s l k).getD a 0 = Q * r.getD a 0 ∧ 0 ≤ (wRow r s l k).getD a 0 ∧ (wRow r s l k).getD a 0 ≤ z * r.getD a 0 ∧ 0 ≤ (usedV r s l r.length k).getD a 0 ∧ (usedV r s l r.length k).getD a 0 ≤ (k : Int)
  | 0 => ⟨0, 0, by omega, hg0, fun a ha => by
      have e : (usedV r s l r.length 0).getD a 0 = 0 := by simp [usedV, List.getD, ha]
      have e2 : (wRow r s l 0).getD a 0 = 0 := by simp [wRow]
      rw [e, e2]
      simp⟩
  | k + 1 => by
    obtain ⟨Q, z, hz0, hzg, hI⟩ := used_inv hB hl g hg hg0 k
    obtain ⟨hcase, ⟨a0, ha0, hz, h1⟩, hin, hbl, hnext⟩ := w_facts hB hl k
    have hmem := wCh_mem hB hl k
    obtain ⟨⟨b1, b2, b3, b4⟩, b5, b6, b7⟩ := hasB_iff.1 hB
    -- the sizes
    have hyg : (wCh r s l k).2.1 = 0 ∨ (1 ≤ (wCh r s l k).2.1 ∧ (wCh r s l k).2.1 ≤ g) := by
      rcases hcase with h | ⟨h, he⟩
      · exact .inl h.1
      · right
        refine ⟨h.1, ?_⟩
        unfold chV at hmem
        split at hmem
        · split at hmem
          · obtain ⟨j, hj, h0, hq⟩ := mem_coll.1 hmem
            have := congrArg (fun c : Ch => c.2.1) hq
            simp only at this
            omega
          · obtain ⟨i, hi, hc⟩ := mem_blks.1 hmem
            obtain ⟨j, hj, h0, hq⟩ := mem_coll.1 hc
            have := congrArg (fun c : Ch => c.2.1) hq
            simp only at this
            have := hg i hi
            omega
        · simp at hmem
    have hused : ∀ a, a < r.length → (usedV r s l r.length (k + 1)).getD a 0 = (usedV r s l r.length k).getD a 0 + if a = a0 then 1 else 0 := fun a ha => by
      rw [usedV, hz, Int.toNat_natCast, getD_set (by rw [usedV_len]; exact ha0)]
      split
      · rename_i h; rw [h]
      · omega
    have hless : ∀ a, a < r.length → (lessV (blockV r (wRow r s l k) (wCh r s l k).2.1) (wCh r s l k).2.2).getD a 0 = (blockV r (wRow r s l k) (wCh r s l k).2.1).getD a 0 - if a = a0 then 1 else 0 := fun a ha => by
      unfold lessV
      rw [hz, Int.toNat_natCast, getD_set (by rw [hbl]; exact ha0)]
      split
      · rename_i h; rw [h]
      · omega
    have hlin : inB 0 1048576 (lessV (blockV r (wRow r s l k) (wCh r s l k).2.1) (wCh r s l k).2.2) = true := by
      rw [hz]; exact less_in hin (by rw [hbl]; exact ha0) h1
    have hllen : (lessV (blockV r (wRow r s l k) (wCh r s l k).2.1) (wCh r s l k).2.2).length = r.length := by
      unfold lessV; rw [List.length_set]; exact hbl
    -- the row behind reads as lessV, also where it is empty
    have hrow : ∀ a, a < r.length → (wRow r s l (k + 1)).getD a 0 = (lessV (blockV r (wRow r s l k) (wCh r s l k).2.1) (wCh r s l k).2.2).getD a 0 := fun a ha => by
      rw [hnext]
      split
      · rename_i h0
        unfold leftV at h0
        rw [if_pos hlin] at h0
        have hz0 : ∀ j, j ≤ (lessV (blockV r (wRow r s l k) (wCh r s l k).2.1) (wCh r s l k).2.2).length → ∀ i, i < j → ((lessV (blockV r (wRow r s l k) (wCh r s l k).2.1) (wCh r s l k).2.2).take j).sum = 0 → (lessV (blockV r (wRow r s l k) (wCh r s l k).2.1) (wCh r s l k).2.2).getD i 0 = 0 := by
          intro j
          induction j with
          | zero => intro _ i hi; omega
          | succ j ih =>
            intro hj i hi hs
            rw [sum_take (by omega)] at hs
            have h2 := sum_in hlin j (by omega)
            have h3 := (inB_iff.1 hlin) j (by omega)
            by_cases hij : i = j
            · rw [hij]; omega
            · exact ih (by omega) i (by omega) (by omega)
        have := hz0 _ (Nat.le_refl _) a (by rw [hllen]; exact ha) (by rw [List.take_length]; exact h0)
        rw [this]; simp
      · rfl
    have hnn : ∀ a, a < r.length → 0 ≤ (wRow r s l (k + 1)).getD a 0 := fun a ha => by
      rw [hrow a ha]
      exact ((inB_iff.1 hlin) a (by rw [hllen]; exact ha)).1
    rcases hyg with hy | ⟨hy1, hyg⟩
    · refine ⟨Q, z, hz0, hzg, fun a ha => ?_⟩
      obtain ⟨i1, i2, i3, i4, i5⟩ := hI a ha
      have e := hless a ha
      rw [block_get ha, if_pos hy] at e
      have hw := hrow a ha
      have hn := hnn a ha
      have hu := hused a ha
      by_cases haa : a = a0
      · rw [if_pos haa] at e hu
        refine ⟨by rw [hu, hw, e]; omega, hn, by rw [hw, e]; omega, by omega, by omega⟩
      · rw [if_neg haa] at e hu
        refine ⟨by rw [hu, hw, e]; omega, hn, by rw [hw, e]; omega, by omega, by omega⟩
    · have hemp : wRow r s l k = [] := by
        rcases hcase with h | h
        · omega
        · exact h.2
      refine ⟨Q + (wCh r s l k).2.1, (wCh r s l k).2.1, by omega, hyg, fun a ha => ?_⟩
      obtain ⟨i1, i2, i3, i4, i5⟩ := hI a ha
      have e := hless a ha
      rw [block_get ha, if_neg (by omega)] at e
      have hw := hrow a ha
      have hn := hnn a ha
      have hu := hused a ha
      have h0 : (wRow r s l k).getD a 0 = 0 := by rw [hemp]; simp
      rw [h0] at i1
      have hm : (Q + (wCh r s l k).2.1) * r.getD a 0 = Q * r.getD a 0 + (wCh r s l k).2.1 * r.getD a 0 := Int.add_mul _ _ _
      by_cases haa : a = a0
      · rw [if_pos haa] at e hu
        refine ⟨by rw [hu, hw, e, hm]; omega, hn, by rw [hw, e]; omega, by omega, by omega⟩
      · rw [if_neg haa] at e hu
        refine ⟨by rw [hu, hw, e, hm]; omega, hn, by rw [hw, e]; omega, by omega, by omega⟩

/-- The bound. -/
theorem even_le {r s l : List Int} (hB : hasB r s = true) (hl : ∀ k, 0 ≤ l.getD k 0) (g : Int) (hg : ∀ j, j < s.length → s.getD j 0 ≤ g) (hg0 : 0 ≤ g) (k : Nat) {x y : Nat} (hx : x < r.length) (hy : y < r.length) :
    (usedV r s l r.length k).getD x 0 * r.getD y 0 - (usedV r s l r.length k).getD y 0 * r.getD x 0 ≤ g * r.getD x 0 * r.getD y 0 := by
  obtain ⟨Q, z, hz0, hzg, hI⟩ := used_inv hB hl g hg hg0 k
  obtain ⟨x1, x2, x3, -, -⟩ := hI x hx
  obtain ⟨y1, y2, y3, -, -⟩ := hI y hy
  have hrx := (inB_iff.1 (hasB_iff.1 hB).1.2.2.1) x hx
  have hry := (inB_iff.1 (hasB_iff.1 hB).1.2.2.1) y hy
  revert x1 x2 x3 y1 y2 y3 hrx hry
  generalize (usedV r s l r.length k).getD x 0 = U
  generalize (usedV r s l r.length k).getD y 0 = V
  generalize (wRow r s l k).getD x 0 = A
  generalize (wRow r s l k).getD y 0 = B
  generalize r.getD x 0 = X
  generalize r.getD y 0 = Y
  intro x1 x2 x3 y1 y2 y3 hrx hry
  have e1 : U = Q * X - A := by omega
  have e2 : V = Q * Y - B := by omega
  have h1 : B * X ≤ z * Y * X := Int.mul_le_mul_of_nonneg_right y3 hrx.1
  have h2 : 0 ≤ A * Y := Int.mul_nonneg x2 hry.1
  have h3 : z * (X * Y) ≤ g * (X * Y) := Int.mul_le_mul_of_nonneg_right hzg (Int.mul_nonneg hrx.1 hry.1)
  rw [e1, e2, Int.sub_mul, Int.sub_mul]
  have h4 : Q * X * Y = Q * Y * X := by rw [Int.mul_assoc, Int.mul_comm X Y, ← Int.mul_assoc]
  have h5 : z * Y * X = z * (X * Y) := by rw [Int.mul_assoc, Int.mul_comm Y X]
  have h6 : g * X * Y = g * (X * Y) := Int.mul_assoc _ _ _
  omega

end Go.Proofs.Ytjlneggfkpjnpaa
