/- Contract: nodeOf of digest. No condition. -/
import Derived.Deep.QuietTactic
import Derived.BigQuiet
import Derived.Deep.RegionHeld3
import Derived.Test.YtkkbjkjmhjgaiaaK
namespace Go.Proofs.Ytkkbjkjmhjgaiaa
open Go.RowKit

set_option maxRecDepth 10000 in
set_option maxHeartbeats 4000000 in
theorem nodeOf_any (a b : List UInt8) (ha : a.length = 8) (hb : b.length = 8) (w : World) : Calls Try.prog 43 #[dval a, dval b] w fun e w' => e = .returned (dval (nodeD a b)) ∧ Below w.heap.size w w' := by
  have HT := Lib.hid (fun W => text_any a ha W)
  have HU := Lib.hid (fun W => text_any b hb W)
  have e0 : dig (cat [sA [2], sA a, sA b]) = nodeD a b := by simp [cat, nodeD, by_sA]
  have HO := Lib.hid (fun W q hq => of_new W q hq [sA [2], sA a, sA b] 3 rfl (by omega) #[.string (sA [2]), .string (sA a), .string (sA b)] rfl 9 (0, 0) (by simp [sA_size, ha, hb]))
  rw [e0] at HO
  obtain ⟨a0, a1, a2, a3, a4, a5, a6, a7, ea⟩ := dval_eight ha
  obtain ⟨b0, b1, b2, b3, b4, b5, b6, b7, eb⟩ := dval_eight hb
  obtain ⟨d0, d1, d2, d3, d4, d5, d6, d7, ed⟩ := dval_eight (d := nodeD a b) (dig_len _)
  rw [ed] at HO ⊢
  rw [ea] at HT ⊢
  rw [eb] at HU ⊢
  obtain ⟨s, hs⟩ : ∃ s, s = sA a := ⟨_, rfl⟩
  obtain ⟨t, ht⟩ : ∃ t, t = sA b := ⟨_, rfl⟩
  rw [← hs] at HT HO
  rw [← ht] at HU HO
  clear ea eb ed e0 hs ht ha hb
  go_enter Try.func43, Try.ntmps43
  go_wp2_with fail
  have rA : row8 (((w.alloc (.cells #[.int .u8 a0, .int .u8 a1, .int .u8 a2, .int .u8 a3, .int .u8 a4, .int .u8 a5, .int .u8 a6, .int .u8 a7] 52)).alloc (.cells #[.int .u8 b0, .int .u8 b1, .int .u8 b2, .int .u8 b3, .int .u8 b4, .int .u8 b5, .int .u8 b6, .int .u8 b7] 52)).alloc (.cells #[.int .u8 0, .int .u8 0, .int .u8 0, .int .u8 0, .int .u8 0, .int .u8 0, .int .u8 0, .int .u8 0] 52)) w.heap.size a0 a1 a2 a3 a4 a5 a6 a7 :=
    (Below.heap_alloc _ _ _ (by simp; omega)).trans ((Below.heap_alloc _ _ _ (by simp)).trans (heap_alloc_new _ _))
  have rB : row8 (((w.alloc (.cells #[.int .u8 a0, .int .u8 a1, .int .u8 a2, .int .u8 a3, .int .u8 a4, .int .u8 a5, .int .u8 a6, .int .u8 a7] 52)).alloc (.cells #[.int .u8 b0, .int .u8 b1, .int .u8 b2, .int .u8 b3, .int .u8 b4, .int .u8 b5, .int .u8 b6, .int .u8 b7] 52)).alloc (.cells #[.int .u8 0, .int .u8 0, .int .u8 0, .int .u8 0, .int .u8 0, .int .u8 0, .int .u8 0, .int .u8 0] 52)) (w.heap.size + 1) b0 b1 b2 b3 b4 b5 b6 b7 := by
    refine (Below.heap_alloc _ _ _ (by simp)).trans ?_
    have := heap_alloc_new (w.alloc (.cells #[.int .u8 a0, .int .u8 a1, .int .u8 a2, .int .u8 a3, .int .u8 a4, .int .u8 a5, .int .u8 a6, .int .u8 a7] 52)) (.cells #[.int .u8 b0, .int .u8 b1, .int .u8 b2, .int .u8 b3, .int .u8 b4, .int .u8 b5, .int .u8 b6, .int .u8 b7] 52)
    rwa [World.size_alloc] at this
  have rR : row8 (((w.alloc (.cells #[.int .u8 a0, .int .u8 a1, .int .u8 a2, .int .u8 a3, .int .u8 a4, .int .u8 a5, .int .u8 a6, .int .u8 a7] 52)).alloc (.cells #[.int .u8 b0, .int .u8 b1, .int .u8 b2, .int .u8 b3, .int .u8 b4, .int .u8 b5, .int .u8 b6, .int .u8 b7] 52)).alloc (.cells #[.int .u8 0, .int .u8 0, .int .u8 0, .int .u8 0, .int .u8 0, .int .u8 0, .int .u8 0, .int .u8 0] 52)) (w.heap.size + 1 + 1) 0 0 0 0 0 0 0 0 := by
    have := heap_alloc_new ((w.alloc (.cells #[.int .u8 a0, .int .u8 a1, .int .u8 a2, .int .u8 a3, .int .u8 a4, .int .u8 a5, .int .u8 a6, .int .u8 a7] 52)).alloc (.cells #[.int .u8 b0, .int .u8 b1, .int .u8 b2, .int .u8 b3, .int .u8 b4, .int .u8 b5, .int .u8 b6, .int .u8 b7] 52)) (.cells #[.int .u8 0, .int .u8 0, .int .u8 0, .int .u8 0, .int .u8 0, .int .u8 0, .int .u8 0, .int .u8 0] 52)
    rwa [World.size_alloc, World.size_alloc] at this
  have hB0 : Below w.heap.size w (((w.alloc (.cells #[.int .u8 a0, .int .u8 a1, .int .u8 a2, .int .u8 a3, .int .u8 a4, .int .u8 a5, .int .u8 a6, .int .u8 a7] 52)).alloc (.cells #[.int .u8 b0, .int .u8 b1, .int .u8 b2, .int .u8 b3, .int .u8 b4, .int .u8 b5, .int .u8 b6, .int .u8 b7] 52)).alloc (.cells #[.int .u8 0, .int .u8 0, .int .u8 0, .int .u8 0, .int .u8 0, .int .u8 0, .int .u8 0, .int .u8 0] 52)) := by go_grown
  have hS0 : (((w.alloc (.cells #[.int .u8 a0, .int .u8 a1, .int .u8 a2, .int .u8 a3, .int .u8 a4, .int .u8 a5, .int .u8 a6, .int .u8 a7] 52)).alloc (.cells #[.int .u8 b0, .int .u8 b1, .int .u8 b2, .int .u8 b3, .int .u8 b4, .int .u8 b5, .int .u8 b6, .int .u8 b7] 52)).alloc (.cells #[.int .u8 0, .int .u8 0, .int .u8 0, .int .u8 0, .int .u8 0, .int .u8 0, .int .u8 0, .int .u8 0] 52)).heap.size = w.heap.size + 3 := by simp
  revert rA rB rR hB0 hS0
  generalize (((w.alloc (.cells #[.int .u8 a0, .int .u8 a1, .int .u8 a2, .int .u8 a3, .int .u8 a4, .int .u8 a5, .int .u8 a6, .int .u8 a7] 52)).alloc (.cells #[.int .u8 b0, .int .u8 b1, .int .u8 b2, .int .u8 b3, .int .u8 b4, .int .u8 b5, .int .u8 b6, .int .u8 b7] 52)).alloc (.cells #[.int .u8 0, .int .u8 0, .int .u8 0, .int .u8 0, .int .u8 0, .int .u8 0, .int .u8 0, .int .u8 0] 52)) = W
  intro rA rB rR hB0 hS0
  have HA := Lib.hid rA
  have HBb := Lib.hid rB
  have HR := Lib.hid rR
  have HB0 := Lib.hid hB0
  have HS0 := Lib.hid hS0
  have HB : Hid (Below W.heap.size W W.drew) := Lib.hid (by go_grown)
  obtain ⟨c0, c1, c2, c3, c4, c5, c6, c7⟩ := row8_cells rA
  obtain ⟨k0, k1, k2, k3, k4, k5, k6, k7⟩ := row8_cells rB
  clear rA rB rR hB0 hS0
  have arm : ∀ {W1 W2 : World} , Hid (Below W.heap.size W W1) → Below W1.heap.size W1 W2 → Hid (Below W.heap.size W W2) := fun h k => h.out.trans (k.mono h.out.size)
  go_region_with (first | (go_at_call_of 33 (Value.agg #[.int .u8 a0, .int .u8 a1, .int .u8 a2, .int .u8 a3, .int .u8 a4, .int .u8 a5, .int .u8 a6, .int .u8 a7]); refine (HT.out _).mono ?_; rintro e w1 ⟨rfl, hb⟩; have HB := arm HB hb; clear hb; obtain ⟨k0, k1, k2, k3, k4, k5, k6, k7⟩ := row8_cells (row8_below HBb.out HB.out (by rw [HS0.out]; omega))) | (go_at_call_of 33 (Value.agg #[.int .u8 b0, .int .u8 b1, .int .u8 b2, .int .u8 b3, .int .u8 b4, .int .u8 b5, .int .u8 b6, .int .u8 b7]); refine (HU.out _).mono ?_; rintro e w2 ⟨rfl, hb⟩; have HB := arm HB hb; clear hb) | (go_at_call 32; refine (HO.out _ _ rfl).mono ?_; rintro e w3 ⟨rfl, hb⟩; have hb3 := HB.out.trans ((Below.alloc (Below.refl _ _) HB.out.size _).trans (hb.mono HB.out.size)); have r1 := row8_below HR.out hb3 (by rw [HS0.out]; omega); obtain ⟨q0, q1, q2, q3, q4, q5, q6, q7⟩ := row8_cells r1; obtain ⟨f0, f1, f2, f3, f4, f5, f6, f7⟩ := row8_free r1; have R1 := Lib.hid r1; have HB3 := Lib.hid hb3; clear r1 hb hb3))
  all_goals
    go_wp2
    refine bodyPost_ret (results_cell (t := 4) rfl rfl (put8_row R1.out)) rfl ⟨rfl, ?_⟩
    exact put8_below (HB0.out.trans (HB3.out.mono (by rw [HS0.out]; omega))) (by omega)

end Go.Proofs.Ytkkbjkjmhjgaiaa
