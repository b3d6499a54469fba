/- The mathematics of renewed shares. -/
import Derived.Test.YtkagmbmkopdekaaJOI
namespace Go.Proofs.Ytkagmbmkopdekaa
open Go.RowKit

theorem agB_of {n b : Int} (n0 : 0 ≤ n) (n1 : n ≤ 250) (b0 : 0 ≤ b) (b1 : b ≤ 250) : agB (lineV n b 1) (lineV n b 2) (lineV n b 3) = true := by
  unfold agB
  rw [(back_12 n0 n1 b0 b1).1, (back_12 n0 n1 b0 b1).2]
  have h2 : thB 1 (lineV n b 1) 2 (lineV n b 2) = true := by
    unfold thB
    rw [res_mk (lineV_bd n b 1).1 (lineV_bd n b 1).2, res_mk (lineV_bd n b 2).1 (lineV_bd n b 2).2]
    decide
  rw [h2]
  simp

theorem rnY {n b x : Int} (n0 : 0 ≤ n) (n1 : n ≤ 250) (b0 : 0 ≤ b) (b1 : b ≤ 250) (x0 : 0 ≤ x) (x1 : x ≤ 250) (W : World) :
    Calls Try.prog 23 #[.agg #[.int .i64 (lineV n b 1), .int .i64 (lineV n b 2), .int .i64 (lineV n b 3)], .int .i64 x] W fun e w' => e = .returned (.tuple #[.agg #[.int .i64 (lineV n ((b + x) % 251) 1), .int .i64 (lineV n ((b + x) % 251) 2), .int .i64 (lineV n ((b + x) % 251) 3)], .bool true]) ∧ Below W.heap.size W w' := by
  have h := renew_any (lineV n b 1) (lineV n b 2) (lineV n b 3) x W
  have h1 : rnB (lineV n b 1) (lineV n b 2) (lineV n b 3) x = true := by
    unfold rnB
    rw [agB_of n0 n1 b0 b1, res_mk x0 x1]
    rfl
  have e1 : ∀ k, rnV (lineV n b 1) (lineV n b 2) (lineV n b 3) x k = lineV n ((b + x) % 251) k := fun k => by
    unfold rnV
    rw [h1, if_pos rfl, (back_12 n0 n1 b0 b1).1, (back_12 n0 n1 b0 b1).2]
  rwa [e1, e1, e1, h1] at h

set_option maxHeartbeats 4000000 in
theorem mixed_12 {n b x c : Int} (n0 : 0 ≤ n) (n1 : n ≤ 250) (_b0 : 0 ≤ b) (_b1 : b ≤ 250) (x0 : 0 ≤ x) (x1 : x ≤ 250) (hc : c = (b + x) % 251) :
    seV 1 (lineV n b 1) 2 (lineV n c 2) = n ↔ x = 0 := by
  have e : inv ((2 + 251 - 1) % 251) = 1 := by decide
  unfold seV blV lineV
  rw [e]
  omega

set_option maxHeartbeats 4000000 in
theorem mixed_13 {n b x c : Int} (n0 : 0 ≤ n) (n1 : n ≤ 250) (_b0 : 0 ≤ b) (_b1 : b ≤ 250) (x0 : 0 ≤ x) (x1 : x ≤ 250) (hc : c = (b + x) % 251) :
    seV 1 (lineV n b 1) 3 (lineV n c 3) = n ↔ x = 0 := by
  have e : inv ((3 + 251 - 1) % 251) = 126 := by decide
  unfold seV blV lineV
  rw [e]
  omega

set_option maxHeartbeats 4000000 in
theorem mixed_21 {n b x c : Int} (n0 : 0 ≤ n) (n1 : n ≤ 250) (_b0 : 0 ≤ b) (_b1 : b ≤ 250) (x0 : 0 ≤ x) (x1 : x ≤ 250) (hc : c = (b + x) % 251) :
    seV 2 (lineV n b 2) 1 (lineV n c 1) = n ↔ x = 0 := by
  have e : inv ((1 + 251 - 2) % 251) = 250 := by decide
  unfold seV blV lineV
  rw [e]
  omega

set_option maxHeartbeats 4000000 in
theorem mixed_23 {n b x c : Int} (n0 : 0 ≤ n) (n1 : n ≤ 250) (_b0 : 0 ≤ b) (_b1 : b ≤ 250) (x0 : 0 ≤ x) (x1 : x ≤ 250) (hc : c = (b + x) % 251) :
    seV 2 (lineV n b 2) 3 (lineV n c 3) = n ↔ x = 0 := by
  have e : inv ((3 + 251 - 2) % 251) = 1 := by decide
  unfold seV blV lineV
  rw [e]
  omega

set_option maxHeartbeats 4000000 in
theorem mixed_31 {n b x c : Int} (n0 : 0 ≤ n) (n1 : n ≤ 250) (_b0 : 0 ≤ b) (_b1 : b ≤ 250) (x0 : 0 ≤ x) (x1 : x ≤ 250) (hc : c = (b + x) % 251) :
    seV 3 (lineV n b 3) 1 (lineV n c 1) = n ↔ x = 0 := by
  have e : inv ((1 + 251 - 3) % 251) = 125 := by decide
  unfold seV blV lineV
  rw [e]
  omega

set_option maxHeartbeats 4000000 in
theorem mixed_32 {n b x c : Int} (n0 : 0 ≤ n) (n1 : n ≤ 250) (_b0 : 0 ≤ b) (_b1 : b ≤ 250) (x0 : 0 ≤ x) (x1 : x ≤ 250) (hc : c = (b + x) % 251) :
    seV 3 (lineV n b 3) 2 (lineV n c 2) = n ↔ x = 0 := by
  have e : inv ((2 + 251 - 3) % 251) = 250 := by decide
  unfold seV blV lineV
  rw [e]
  omega


theorem stepG {B : Nat} {w W V W' : World} (h : Hid (Below B w W)) (hB : Hid (B ≤ W.heap.size)) (hv : Below W.heap.size W V) (hb : Below V.heap.size V W') : Hid (Below B w W') ∧ Hid (B ≤ W'.heap.size) := step1 h hB (hv.trans (hb.mono hv.size))

end Go.Proofs.Ytkagmbmkopdekaa
