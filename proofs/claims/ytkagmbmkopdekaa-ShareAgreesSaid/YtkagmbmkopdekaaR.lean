/- The mathematics of the reference's search for a blind. -/
import Derived.Test.YtkagmbmkopdekaaJ
namespace Go.Proofs.Ytkagmbmkopdekaa

def tryS (i a k : Int) : Int := (a + 753 - i * k) % 251

theorem tryS_bd (i a k : Int) : 0 ≤ tryS i a k ∧ tryS i a k ≤ 250 := by unfold tryS; omega

theorem try_first {i a k : Int} (a0 : 0 ≤ a) (a1 : a ≤ 250) : lineV (tryS i a k) k i = a := by
  unfold lineV tryS
  generalize i * k = m
  omega

theorem try_sec (i a j b : Int) : tryS i a (blV i a j b) = seV i a j b := by
  unfold tryS seV
  generalize i * blV i a j b = m
  omega

theorem try_second {i a j b k : Int} (i0 : 1 ≤ i) (i1 : i ≤ 3) (j0 : 1 ≤ j) (j1 : j ≤ 3) (hne : i ≠ j) (a0 : 0 ≤ a) (a1 : a ≤ 250) (b0 : 0 ≤ b) (b1 : b ≤ 250) (k0 : 0 ≤ k) (k1 : k ≤ 250) :
    lineV (tryS i a k) k j = b ↔ k = blV i a j b := by
  have ei : i = 1 ∨ i = 2 ∨ i = 3 := by omega
  have ej : j = 1 ∨ j = 2 ∨ j = 3 := by omega
  unfold lineV tryS blV
  rcases ei with rfl | rfl | rfl <;> rcases ej with rfl | rfl | rfl
  · exact absurd rfl hne
  · have e : inv ((2 + 251 - 1) % 251) = 1 := by decide
    rw [e]; omega
  · have e : inv ((3 + 251 - 1) % 251) = 126 := by decide
    rw [e]; omega
  · have e : inv ((1 + 251 - 2) % 251) = 250 := by decide
    rw [e]; omega
  · exact absurd rfl hne
  · have e : inv ((3 + 251 - 2) % 251) = 1 := by decide
    rw [e]; omega
  · have e : inv ((1 + 251 - 3) % 251) = 125 := by decide
    rw [e]; omega
  · have e : inv ((2 + 251 - 3) % 251) = 250 := by decide
    rw [e]; omega
  · exact absurd rfl hne

/-- A blind is found by its share. -/
theorem blind_at {s i x k : Int} (i0 : 1 ≤ i) (i1 : i ≤ 3) (s0 : 0 ≤ s) (s1 : s ≤ 250) (x0 : 0 ≤ x) (x1 : x ≤ 250) (k0 : 0 ≤ k) (k1 : k ≤ 250) :
    lineV s k i = x ↔ k = bvV s i x := by
  have ei : i = 1 ∨ i = 2 ∨ i = 3 := by omega
  unfold lineV bvV
  rcases ei with rfl | rfl | rfl
  · have e : inv 1 = 1 := by decide
    rw [e]; omega
  · have e : inv 2 = 126 := by decide
    rw [e]; omega
  · have e : inv 3 = 84 := by decide
    rw [e]; omega

theorem bvV_bd (s i x : Int) : 0 ≤ bvV s i x ∧ bvV s i x ≤ 250 := by unfold bvV; omega

end Go.Proofs.Ytkagmbmkopdekaa
