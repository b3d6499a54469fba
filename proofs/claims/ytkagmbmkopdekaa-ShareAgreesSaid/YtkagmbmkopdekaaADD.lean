/- The law ShareAdds, walked. -/
import Derived.Test.YtkagmbmkopdekaaREN
namespace Go.Proofs.Ytkagmbmkopdekaa
open Go.RowKit

/-- A block of two bytes, not frozen. -/
def By2 (W : World) (g : Nat) (x y : Int) : Prop := W.heap[g]? = some (.cells #[.int .u8 x, .int .u8 y] 44 (0, 0))
theorem By2.lt {W : World} {g : Nat} {x y : Int} (h : By2 W g x y) : g < W.heap.size := (Array.getElem?_eq_some_iff.1 h).1
theorem By2.cells {W : World} {g : Nat} {x y : Int} (h : By2 W g x y) : W.cell? ⟨g, 0, none⟩ = some (.int .u8 x) ∧ W.cell? ⟨g, 1, none⟩ = some (.int .u8 y) :=
  ⟨by rw [cell_of_row W _ _ _ _ _ h]; rfl, by rw [cell_of_row W _ _ _ _ _ h]; rfl⟩
theorem By2.below {W W1 : World} {g : Nat} {x y : Int} (h : By2 W g x y) (hb : Below W.heap.size W W1) : By2 W1 g x y := (hb.block g h.lt).trans h

theorem sum_line {n m b c k : Int} (k0 : 1 ≤ k) (k1 : k ≤ 3) : (lineV n b k + lineV m c k) % 251 = lineV ((n + m) % 251) ((b + c) % 251) k := by
  have e : k = 1 ∨ k = 2 ∨ k = 3 := by omega
  unfold lineV
  rcases e with rfl | rfl | rfl <;> omega

set_option maxRecDepth 100000 in
set_option maxHeartbeats 4000000 in
theorem adds_any (s t b c : Int) (w : World) (s0 : 0 ≤ s) (s1 : s ≤ 255) (t0 : 0 ≤ t) (t1 : t ≤ 255) (b0 : 0 ≤ b) (b1 : b ≤ 255) (c0 : 0 ≤ c) (c1 : c ≤ 255) :
    Calls Try.prog 9 #[.agg #[.int .u8 s, .int .u8 t], .agg #[.int .u8 b, .int .u8 c]] w fun e w' => e = .returned (.bool true) ∧ Below w.heap.size w w' := by
  have PS := Lib.hid (fun W => part_any s W s0 (by omega))
  have PT := Lib.hid (fun W => part_any t W t0 (by omega))
  have PB := Lib.hid (fun W => part_any b W b0 (by omega))
  have PC := Lib.hid (fun W => part_any c W c0 (by omega))
  have N0 : 0 ≤ s % 251 := by omega
  have N1 : s % 251 ≤ 250 := by omega
  have M0 : 0 ≤ t % 251 := by omega
  have M1 : t % 251 ≤ 250 := by omega
  have B0 : 0 ≤ b % 251 := by omega
  have B1 : b % 251 ≤ 250 := by omega
  have C0 : 0 ≤ c % 251 := by omega
  have C1 : c % 251 ≤ 250 := by omega
  revert PS PT PB PC N0 N1 M0 M1 B0 B1 C0 C1
  generalize s % 251 = N
  generalize t % 251 = M
  generalize b % 251 = B
  generalize c % 251 = C
  intro PS PT PB PC N0 N1 M0 M1 B0 B1 C0 C1
  have S1 := Lib.hid (fun W => spY N0 N1 B0 B1 W)
  have S2 := Lib.hid (fun W => spY M0 M1 C0 C1 W)
  have PSum := Lib.hid (fun W => part_any (N + M) W (by omega) (by omega))
  have hS : IntKind.i64.wrap (N + M) = N + M := IntWalk.i64_in _ (by omega)
  have ha1 := lineV_bd N B 1
  have hc1 := lineV_bd M C 1
  have P1 : Hid (∀ W, Calls Try.prog 20 #[.int .i64 (lineV N B 1 + lineV M C 1)] W fun e w' => e = .returned (.int .i64 (lineV ((N + M) % 251) ((B + C) % 251) 1)) ∧ W = w') := fun W => by
    have h := part_any (lineV N B 1 + lineV M C 1) W (by omega) (by omega)
    rwa [sum_line (by omega) (by omega)] at h
  have ha2 := lineV_bd N B 2
  have hc2 := lineV_bd M C 2
  have P2 : Hid (∀ W, Calls Try.prog 20 #[.int .i64 (lineV N B 2 + lineV M C 2)] W fun e w' => e = .returned (.int .i64 (lineV ((N + M) % 251) ((B + C) % 251) 2)) ∧ W = w') := fun W => by
    have h := part_any (lineV N B 2 + lineV M C 2) W (by omega) (by omega)
    rwa [sum_line (by omega) (by omega)] at h
  have ha3 := lineV_bd N B 3
  have hc3 := lineV_bd M C 3
  have P3 : Hid (∀ W, Calls Try.prog 20 #[.int .i64 (lineV N B 3 + lineV M C 3)] W fun e w' => e = .returned (.int .i64 (lineV ((N + M) % 251) ((B + C) % 251) 3)) ∧ W = w') := fun W => by
    have h := part_any (lineV N B 3 + lineV M C 3) W (by omega) (by omega)
    rwa [sum_line (by omega) (by omega)] at h
  have Z0 : 0 ≤ (N + M) % 251 := by omega
  have Z1 : (N + M) % 251 ≤ 250 := by omega
  have Y0 : 0 ≤ (B + C) % 251 := by omega
  have Y1 : (B + C) % 251 ≤ 250 := by omega
  have HA := Lib.hid (fun W => agY Z0 Z1 Y0 Y1 W)
  have HJ : Hid (∀ W, Calls Try.prog 14 #[.int .i64 1, .int .i64 (lineV ((N + M) % 251) ((B + C) % 251) 1), .int .i64 3, .int .i64 (lineV ((N + M) % 251) ((B + C) % 251) 3)] W fun e w' => e = .returned (.tuple #[.int .i64 ((N + M) % 251), .bool true]) ∧ Below W.heap.size W w') := fun W => by
    have h := joY (i := 1) (j := 3) (by omega) (by omega) (by omega) (by omega) (by omega) (lineV_bd ((N + M) % 251) ((B + C) % 251) 1).1 (lineV_bd ((N + M) % 251) ((B + C) % 251) 1).2 (lineV_bd ((N + M) % 251) ((B + C) % 251) 3).1 (lineV_bd ((N + M) % 251) ((B + C) % 251) 3).2 W
    rwa [(back_13 Z0 Z1 Y0 Y1).1] at h
  clear Z0 Z1 Y0 Y1 M0 M1 N0 N1 B0 B1 C0 C1
  revert HJ
  revert HA
  revert P3
  revert hc3
  revert ha3
  revert P2
  revert hc2
  revert ha2
  revert P1
  revert hc1
  revert ha1
  revert PSum
  revert S2
  revert S1
  generalize lineV N B 1 = a1
  generalize lineV M C 1 = d1
  generalize lineV ((N + M) % 251) ((B + C) % 251) 1 = u1
  generalize lineV N B 2 = a2
  generalize lineV M C 2 = d2
  generalize lineV ((N + M) % 251) ((B + C) % 251) 2 = u2
  generalize lineV N B 3 = a3
  generalize lineV M C 3 = d3
  generalize lineV ((N + M) % 251) ((B + C) % 251) 3 = u3
  generalize (N + M) % 251 = Z
  intro S1 S2 PSum ha1 hc1 P1 ha2 hc2 P2 ha3 hc3 P3 HA HJ
  have ws : IntKind.i64.wrap s = s := IntWalk.i64_in _ (by omega)
  have wt : IntKind.i64.wrap t = t := IntWalk.i64_in _ (by omega)
  have wb : IntKind.i64.wrap b = b := IntWalk.i64_in _ (by omega)
  have wcc : IntKind.i64.wrap c = c := IntWalk.i64_in _ (by omega)
  have HBW : Hid (Below w.heap.size w ((w.alloc (.cells #[.int .u8 s, .int .u8 t] 44)).alloc (.cells #[.int .u8 b, .int .u8 c] 44))) := Lib.hid (by go_grown)
  have HS : Hid (By2 ((w.alloc (.cells #[.int .u8 s, .int .u8 t] 44)).alloc (.cells #[.int .u8 b, .int .u8 c] 44)) w.heap.size s t) := Lib.hid ((Below.heap_alloc _ _ _ (by simp)).trans (heap_alloc_new _ _))
  have HBL : Hid (By2 ((w.alloc (.cells #[.int .u8 s, .int .u8 t] 44)).alloc (.cells #[.int .u8 b, .int .u8 c] 44)) (w.heap.size + 1) b c) := Lib.hid (by
    have := heap_alloc_new (w.alloc (.cells #[.int .u8 s, .int .u8 t] 44)) (.cells #[.int .u8 b, .int .u8 c] 44)
    rw [World.size_alloc] at this
    exact this)
  go_enter Try.func9, Try.ntmps9
  go_upto_region 2 with (go_at_call 10; refine (sanity_any _).mono ?_; rintro e w1 ⟨rfl, hb⟩; have HBW := Lib.hid (carry HBW hb); have HS := Lib.hid (HS.out.below hb); have HBL := Lib.hid (HBL.out.below hb); clear hb)
  revert HS HBL
  obtain ⟨gs, hgs⟩ : ∃ gs, gs = w.heap.size := ⟨_, rfl⟩
  obtain ⟨gb, hgb⟩ : ∃ gb, gb = w.heap.size + 1 := ⟨_, rfl⟩
  rw [← hgb, ← hgs]
  have HGS := Lib.hid hgs
  have HGB := Lib.hid hgb
  clear hgs hgb
  intro HS HBL
  have HB : Hid (Below w1.heap.size w1 w1) := Lib.hid (Below.refl _ _)
  have HZ : Hid (w1.heap.size ≤ w1.heap.size) := Lib.hid (Nat.le_refl _)
  have HKP : Hid (∀ w', Below w1.heap.size w1 w' → w'.cell? ⟨gs, 0, none⟩ = some (.int .u8 s) ∧ w'.cell? ⟨gs, 1, none⟩ = some (.int .u8 t) ∧ w'.cell? ⟨gb, 0, none⟩ = some (.int .u8 b) ∧ w'.cell? ⟨gb, 1, none⟩ = some (.int .u8 c)) := Lib.hid (fun w' h => by
    have c := (HS.out.below h).cells
    have d := (HBL.out.below h).cells
    exact ⟨c.1, c.2, d.1, d.2⟩)
  obtain ⟨k0, k1, k2, k3⟩ := HKP.out _ HB.out
  go_cut [6, 7] from 6 to 26 (fun sa sb wx => ∃ g : Nat, sa = .pointer (some ⟨g, 0, none⟩) ∧ sb = .bool true ∧ Hid (Tri wx g a1 a2 a3 26) ∧ Hid (Below w1.heap.size w1 wx) ∧ Hid (w1.heap.size ≤ g))
  case first =>
    go_region_held3 (fun w' => w'.cell? ⟨gs, 0, none⟩ = some (.int .u8 s) ∧ w'.cell? ⟨gs, 1, none⟩ = some (.int .u8 t) ∧ w'.cell? ⟨gb, 0, none⟩ = some (.int .u8 b) ∧ w'.cell? ⟨gb, 1, none⟩ = some (.int .u8 c))
      (first | (with_reducible exact HKP.out _ HB.out) | (exact HKP.out _ HB.out.drew) | (refine HKP.out _ (HB.out.trans (Below.mono (?_ : Below wq.heap.size wq _) HZ.out)); (go_grown; done)) | (refine HKP.out _ ?_; (go_grown; done)) | (exact HKP.out _ (((HB.out.setCell (by simp) _).setCell (by simp) _).setCell (by simp) _)))
      ((first | (go_at_call_of 20 (Value.int .i64 s); refine (PS.out _).mono ?_; rintro e wr ⟨rfl, rfl⟩) | (go_at_call_of 20 (Value.int .i64 b); refine (PB.out _).mono ?_; rintro e wr ⟨rfl, rfl⟩) | (go_at_call 12; refine (S1.out _).mono ?_; rintro e wq ⟨rfl, hb⟩; (first | (have T0 : Tri wq w1.heap.size 0 0 0 26 := (tri_new w1 0 0 0).below hb) | (have T0 : Tri wq w1.heap.size 0 0 0 26 := (show Tri (World.drew (w1.alloc (.cells #[.int .i64 0, .int .i64 0, .int .i64 0] 26))) w1.heap.size 0 0 0 26 from tri_new w1 0 0 0).below hb) | skip); (try have T00 := T0.cells); (try obtain ⟨q0, q1, q2, q3, q4, q5⟩ := T00); (try have T1 := Lib.hid T0); (try clear T0); (first | (have HBB := step1 HB HZ hb) | (have HBB := step2 HB HZ hb) | (have HBB := stepD HB HZ hb) | (have HBB := stepG HB HZ (by go_grown) hb)); have HB := HBB.1; have HZ := HBB.2; clear HBB hb)))
    all_goals (go_wp2_with fail; go_meet; first | exact ⟨wq.heap.size, rfl, rfl, tri_new wq a1 a2 a3, HB.out.alloc HB.out.size _, HB.out.size⟩ | exact ⟨w1.heap.size, rfl, rfl, ((T1.out.st0 a1).st1 a2).st2 a3, ((HB.out.setCell (by simp) _).setCell (by simp) _).setCell (by simp) _, Nat.le_refl _⟩)
  case' rest =>
    obtain ⟨g6, rfl, rfl, hg6, hbl, hgg6⟩ := hcut
    clear k0 k1 k2 k3 HKP HB HZ
    have HS := Lib.hid (HS.out.below hbl.out)
    have HBL := Lib.hid (HBL.out.below hbl.out)
    have HA6 := hg6
    have HG6 := hgg6
    have HBW := Lib.hid (carry HBW hbl.out)
    clear hg6 hgg6 hbl
    obtain ⟨w2, rfl⟩ : ∃ x : World, x = wc := ⟨_, rfl⟩
    go_wp2
    have HB : Hid (Below w2.heap.size w2 w2) := Lib.hid (Below.refl _ _)
    have HZ : Hid (w2.heap.size ≤ w2.heap.size) := Lib.hid (Nat.le_refl _)
    have HKP : Hid (∀ w', Below w2.heap.size w2 w' → w'.cell? ⟨gs, 0, none⟩ = some (.int .u8 s) ∧ w'.cell? ⟨gs, 1, none⟩ = some (.int .u8 t) ∧ w'.cell? ⟨gb, 0, none⟩ = some (.int .u8 b) ∧ w'.cell? ⟨gb, 1, none⟩ = some (.int .u8 c)) := Lib.hid (fun w' h => by
      have c := (HS.out.below h).cells
      have d := (HBL.out.below h).cells
      exact ⟨c.1, c.2, d.1, d.2⟩)
    obtain ⟨k0, k1, k2, k3⟩ := HKP.out _ HB.out
    go_cut [8, 9] from 8 to 38 (fun sa sb wx => ∃ g : Nat, sa = .pointer (some ⟨g, 0, none⟩) ∧ sb = .bool true ∧ Hid (Tri wx g d1 d2 d3 26) ∧ Hid (Below w2.heap.size w2 wx) ∧ Hid (w2.heap.size ≤ g))
    case first =>
      go_region_held3 (fun w' => w'.cell? ⟨gs, 0, none⟩ = some (.int .u8 s) ∧ w'.cell? ⟨gs, 1, none⟩ = some (.int .u8 t) ∧ w'.cell? ⟨gb, 0, none⟩ = some (.int .u8 b) ∧ w'.cell? ⟨gb, 1, none⟩ = some (.int .u8 c))
        (first | (with_reducible exact HKP.out _ HB.out) | (exact HKP.out _ HB.out.drew) | (refine HKP.out _ (HB.out.trans (Below.mono (?_ : Below wq.heap.size wq _) HZ.out)); (go_grown; done)) | (refine HKP.out _ ?_; (go_grown; done)) | (exact HKP.out _ (((HB.out.setCell (by simp) _).setCell (by simp) _).setCell (by simp) _)))
        ((first | (go_at_call_of 20 (Value.int .i64 t); refine (PT.out _).mono ?_; rintro e wr ⟨rfl, rfl⟩) | (go_at_call_of 20 (Value.int .i64 c); refine (PC.out _).mono ?_; rintro e wr ⟨rfl, rfl⟩) | (go_at_call 12; refine (S2.out _).mono ?_; rintro e wq ⟨rfl, hb⟩; (first | (have T0 : Tri wq w2.heap.size 0 0 0 26 := (tri_new w2 0 0 0).below hb) | (have T0 : Tri wq w2.heap.size 0 0 0 26 := (show Tri (World.drew (w2.alloc (.cells #[.int .i64 0, .int .i64 0, .int .i64 0] 26))) w2.heap.size 0 0 0 26 from tri_new w2 0 0 0).below hb) | skip); (try have T00 := T0.cells); (try obtain ⟨q0, q1, q2, q3, q4, q5⟩ := T00); (try have T1 := Lib.hid T0); (try clear T0); (first | (have HBB := step1 HB HZ hb) | (have HBB := step2 HB HZ hb) | (have HBB := stepD HB HZ hb) | (have HBB := stepG HB HZ (by go_grown) hb)); have HB := HBB.1; have HZ := HBB.2; clear HBB hb)))
      all_goals (go_wp2_with fail; go_meet; first | exact ⟨wq.heap.size, rfl, rfl, tri_new wq d1 d2 d3, HB.out.alloc HB.out.size _, HB.out.size⟩ | exact ⟨w2.heap.size, rfl, rfl, ((T1.out.st0 d1).st1 d2).st2 d3, ((HB.out.setCell (by simp) _).setCell (by simp) _).setCell (by simp) _, Nat.le_refl _⟩)
    case' rest =>
      obtain ⟨g8, rfl, rfl, hg8, hbl, hgg8⟩ := hcut
      clear k0 k1 k2 k3 HKP HB HZ
      have HS := Lib.hid (HS.out.below hbl.out)
      have HBL := Lib.hid (HBL.out.below hbl.out)
      have HA6 := Lib.hid (HA6.out.below hbl.out)
      have HA8 := hg8
      have HBW := Lib.hid (carry HBW hbl.out)
      clear hg8 hgg8 hbl
      obtain ⟨w3, rfl⟩ : ∃ x : World, x = wc := ⟨_, rfl⟩
      go_upto_region 5 with fail
      have hal : Below w3.heap.size w3 (w3.alloc (.cells #[.int .i64 0, .int .i64 0, .int .i64 0] 26)) := by go_grown
      have HL6 := Lib.hid HA6.out.lt
      have HL8 := Lib.hid HA8.out.lt
      have HLS := Lib.hid HS.out.lt
      have HLW : Hid (w.heap.size ≤ w3.heap.size) := Lib.hid HBW.out.size
      have HA6 := Lib.hid (HA6.out.below hal)
      have HA8 := Lib.hid (HA8.out.below hal)
      have HS := Lib.hid (HS.out.below hal)
      have HBW := Lib.hid (carry HBW hal)
      have HU : Hid (ShI (w3.alloc (.cells #[.int .i64 0, .int .i64 0, .int .i64 0] 26)) w3.heap.size u1 u2 u3 0) := Lib.hid (tri_new w3 0 0 0)
      clear hal HBL
      revert HU
      revert HLW
      revert HLS
      revert HL8
      revert HL6
      revert HBW
      revert HS
      revert HA8
      revert HA6
      generalize (w3.alloc (.cells #[.int .i64 0, .int .i64 0, .int .i64 0] 26)) = W4
      generalize w3.heap.size = g10
      intro HA6 HA8 HS HBW HL6 HL8 HLS HLW HU
      go_wp2
      go_loopw [39] (fun kv wr => ∃ i : Int, (i = 0 ∨ i = 1 ∨ i = 2 ∨ i = 3) ∧ kv = .int .i64 i ∧ Hid (Tri wr g6 a1 a2 a3 26) ∧ Hid (Tri wr g8 d1 d2 d3 26) ∧ Hid (By2 wr gs s t) ∧ Hid (ShI wr g10 u1 u2 u3 i.toNat) ∧ Hid (Below w.heap.size w wr)) (fun kv _ => (3 - intOf kv).toNat)
      case atStart => exact ⟨0, by omega, rfl, HA6, HA8, HS, HU, HBW⟩
      case round =>
        obtain ⟨i, hi, rfl, HA6, HA8, HS, HU, HBW⟩ := hrel
        rcases hi with rfl | rfl | rfl | rfl
        · have tu : Tri wr g10 0 0 0 26 := HU.out
          obtain ⟨x0, x1, x2, f0, f1, f2⟩ := tu.cells
          have HTU := Lib.hid tu
          have hzz := tu.lt
          clear tu
          have HB : Hid (Below g10 wr wr) := Lib.hid (Below.refl _ _)
          have HKP : Hid (∀ w', Below g10 wr w' → w'.cell? ⟨g6, 0, none⟩ = some (.int .i64 a1) ∧ w'.cell? ⟨g6, 1, none⟩ = some (.int .i64 a2) ∧ w'.cell? ⟨g6, 2, none⟩ = some (.int .i64 a3) ∧ w'.cell? ⟨g8, 0, none⟩ = some (.int .i64 d1) ∧ w'.cell? ⟨g8, 1, none⟩ = some (.int .i64 d2) ∧ w'.cell? ⟨g8, 2, none⟩ = some (.int .i64 d3)) := Lib.hid (fun w' h => by
            have c := (show Tri w' g6 a1 a2 a3 26 from (h.block g6 HL6.out).trans HA6.out).cells
            have d := (show Tri w' g8 d1 d2 d3 26 from (h.block g8 HL8.out).trans HA8.out).cells
            exact ⟨c.1, c.2.1, c.2.2.1, d.1, d.2.1, d.2.2.1⟩)
          obtain ⟨k0, k1, k2, k3, k4, k5⟩ := HKP.out _ HB.out
          have u0 : IntKind.i64.wrap 0 = 0 := by decide
          have w1' : IntKind.i64.wrap (a1 + d1) = a1 + d1 := IntWalk.i64_in _ (by omega)
          go_upto_region 8 with fail
          go_region_held3 (fun w' => w'.cell? ⟨g6, 0, none⟩ = some (.int .i64 a1) ∧ w'.cell? ⟨g6, 1, none⟩ = some (.int .i64 a2) ∧ w'.cell? ⟨g6, 2, none⟩ = some (.int .i64 a3) ∧ w'.cell? ⟨g8, 0, none⟩ = some (.int .i64 d1) ∧ w'.cell? ⟨g8, 1, none⟩ = some (.int .i64 d2) ∧ w'.cell? ⟨g8, 2, none⟩ = some (.int .i64 d3))
            (first | (with_reducible exact HKP.out _ HB.out) | (exact HKP.out _ HB.out.drew) | (exact HKP.out _ (HB.out.drew.setCell (by simp) _)))
            ((go_at_call 20; refine (P1.out _).mono ?_; rintro e wq ⟨rfl, rfl⟩))
          go_wp2
          go_roundw
          case rel => exact ⟨1, by omega, rfl, (show Tri (World.setCell wr.drew _ _) g6 a1 a2 a3 26 from (show Tri wr.drew g6 a1 a2 a3 26 from HA6.out).other (by have := HL6.out; omega) _ _), (show Tri (World.setCell wr.drew _ _) g8 d1 d2 d3 26 from (show Tri wr.drew g8 d1 d2 d3 26 from HA8.out).other (by have := HL8.out; omega) _ _), (Below.heap_setCell _ _ _ gs (by have := HLS.out; simp; omega)).trans HS.out, (show ShI _ g10 u1 u2 u3 1 from (show Tri wr.drew g10 0 0 0 26 from HTU.out).st0 _), HBW.out.drew.setCell (by simp; exact HLW.out) _⟩
          case measure => simp [intOf]
        · have tu : Tri wr g10 u1 0 0 26 := HU.out
          obtain ⟨x0, x1, x2, f0, f1, f2⟩ := tu.cells
          have HTU := Lib.hid tu
          have hzz := tu.lt
          clear tu
          have HB : Hid (Below g10 wr wr) := Lib.hid (Below.refl _ _)
          have HKP : Hid (∀ w', Below g10 wr w' → w'.cell? ⟨g6, 0, none⟩ = some (.int .i64 a1) ∧ w'.cell? ⟨g6, 1, none⟩ = some (.int .i64 a2) ∧ w'.cell? ⟨g6, 2, none⟩ = some (.int .i64 a3) ∧ w'.cell? ⟨g8, 0, none⟩ = some (.int .i64 d1) ∧ w'.cell? ⟨g8, 1, none⟩ = some (.int .i64 d2) ∧ w'.cell? ⟨g8, 2, none⟩ = some (.int .i64 d3)) := Lib.hid (fun w' h => by
            have c := (show Tri w' g6 a1 a2 a3 26 from (h.block g6 HL6.out).trans HA6.out).cells
            have d := (show Tri w' g8 d1 d2 d3 26 from (h.block g8 HL8.out).trans HA8.out).cells
            exact ⟨c.1, c.2.1, c.2.2.1, d.1, d.2.1, d.2.2.1⟩)
          obtain ⟨k0, k1, k2, k3, k4, k5⟩ := HKP.out _ HB.out
          have u0 : IntKind.i64.wrap 0 = 0 := by decide
          have w1' : IntKind.i64.wrap (a2 + d2) = a2 + d2 := IntWalk.i64_in _ (by omega)
          go_upto_region 8 with fail
          go_region_held3 (fun w' => w'.cell? ⟨g6, 0, none⟩ = some (.int .i64 a1) ∧ w'.cell? ⟨g6, 1, none⟩ = some (.int .i64 a2) ∧ w'.cell? ⟨g6, 2, none⟩ = some (.int .i64 a3) ∧ w'.cell? ⟨g8, 0, none⟩ = some (.int .i64 d1) ∧ w'.cell? ⟨g8, 1, none⟩ = some (.int .i64 d2) ∧ w'.cell? ⟨g8, 2, none⟩ = some (.int .i64 d3))
            (first | (with_reducible exact HKP.out _ HB.out) | (exact HKP.out _ HB.out.drew) | (exact HKP.out _ (HB.out.drew.setCell (by simp) _)))
            ((go_at_call 20; refine (P2.out _).mono ?_; rintro e wq ⟨rfl, rfl⟩))
          go_wp2
          go_roundw
          case rel => exact ⟨2, by omega, rfl, (show Tri (World.setCell wr.drew _ _) g6 a1 a2 a3 26 from (show Tri wr.drew g6 a1 a2 a3 26 from HA6.out).other (by have := HL6.out; omega) _ _), (show Tri (World.setCell wr.drew _ _) g8 d1 d2 d3 26 from (show Tri wr.drew g8 d1 d2 d3 26 from HA8.out).other (by have := HL8.out; omega) _ _), (Below.heap_setCell _ _ _ gs (by have := HLS.out; simp; omega)).trans HS.out, (show ShI _ g10 u1 u2 u3 2 from (show Tri wr.drew g10 u1 0 0 26 from HTU.out).st1 _), HBW.out.drew.setCell (by simp; exact HLW.out) _⟩
          case measure => simp [intOf]
        · have tu : Tri wr g10 u1 u2 0 26 := HU.out
          obtain ⟨x0, x1, x2, f0, f1, f2⟩ := tu.cells
          have HTU := Lib.hid tu
          have hzz := tu.lt
          clear tu
          have HB : Hid (Below g10 wr wr) := Lib.hid (Below.refl _ _)
          have HKP : Hid (∀ w', Below g10 wr w' → w'.cell? ⟨g6, 0, none⟩ = some (.int .i64 a1) ∧ w'.cell? ⟨g6, 1, none⟩ = some (.int .i64 a2) ∧ w'.cell? ⟨g6, 2, none⟩ = some (.int .i64 a3) ∧ w'.cell? ⟨g8, 0, none⟩ = some (.int .i64 d1) ∧ w'.cell? ⟨g8, 1, none⟩ = some (.int .i64 d2) ∧ w'.cell? ⟨g8, 2, none⟩ = some (.int .i64 d3)) := Lib.hid (fun w' h => by
            have c := (show Tri w' g6 a1 a2 a3 26 from (h.block g6 HL6.out).trans HA6.out).cells
            have d := (show Tri w' g8 d1 d2 d3 26 from (h.block g8 HL8.out).trans HA8.out).cells
            exact ⟨c.1, c.2.1, c.2.2.1, d.1, d.2.1, d.2.2.1⟩)
          obtain ⟨k0, k1, k2, k3, k4, k5⟩ := HKP.out _ HB.out
          have u0 : IntKind.i64.wrap 0 = 0 := by decide
          have w1' : IntKind.i64.wrap (a3 + d3) = a3 + d3 := IntWalk.i64_in _ (by omega)
          go_upto_region 8 with fail
          go_region_held3 (fun w' => w'.cell? ⟨g6, 0, none⟩ = some (.int .i64 a1) ∧ w'.cell? ⟨g6, 1, none⟩ = some (.int .i64 a2) ∧ w'.cell? ⟨g6, 2, none⟩ = some (.int .i64 a3) ∧ w'.cell? ⟨g8, 0, none⟩ = some (.int .i64 d1) ∧ w'.cell? ⟨g8, 1, none⟩ = some (.int .i64 d2) ∧ w'.cell? ⟨g8, 2, none⟩ = some (.int .i64 d3))
            (first | (with_reducible exact HKP.out _ HB.out) | (exact HKP.out _ HB.out.drew) | (exact HKP.out _ (HB.out.drew.setCell (by simp) _)))
            ((go_at_call 20; refine (P3.out _).mono ?_; rintro e wq ⟨rfl, rfl⟩))
          go_wp2
          go_roundw
          case rel => exact ⟨3, by omega, rfl, (show Tri (World.setCell wr.drew _ _) g6 a1 a2 a3 26 from (show Tri wr.drew g6 a1 a2 a3 26 from HA6.out).other (by have := HL6.out; omega) _ _), (show Tri (World.setCell wr.drew _ _) g8 d1 d2 d3 26 from (show Tri wr.drew g8 d1 d2 d3 26 from HA8.out).other (by have := HL8.out; omega) _ _), (Below.heap_setCell _ _ _ gs (by have := HLS.out; simp; omega)).trans HS.out, (show ShI _ g10 u1 u2 u3 3 from (show Tri wr.drew g10 u1 u2 0 26 from HTU.out).st2 _), HBW.out.drew.setCell (by simp; exact HLW.out) _⟩
          case measure => simp [intOf]
        · have tu : Tri wr g10 u1 u2 u3 26 := HU.out
          obtain ⟨x0, x1, x2, f0, f1, f2⟩ := tu.cells
          have HTU := Lib.hid tu
          clear tu
          have HB : Hid (Below wr.heap.size wr wr) := Lib.hid (Below.refl _ _)
          have HZ : Hid (wr.heap.size ≤ wr.heap.size) := Lib.hid (Nat.le_refl _)
          have HKP : Hid (∀ w', Below wr.heap.size wr w' → w'.cell? ⟨g10, 0, none⟩ = some (.int .i64 u1) ∧ w'.cell? ⟨g10, 1, none⟩ = some (.int .i64 u2) ∧ w'.cell? ⟨g10, 2, none⟩ = some (.int .i64 u3) ∧ w'.cell? ⟨gs, 0, none⟩ = some (.int .u8 s) ∧ w'.cell? ⟨gs, 1, none⟩ = some (.int .u8 t)) := Lib.hid (fun w' h => by
            have c := (HTU.out.below h).cells
            have d := (HS.out.below h).cells
            exact ⟨c.1, c.2.1, c.2.2.1, d.1, d.2⟩)
          go_upto_region 11 with (go_at_call 14; refine (HJ.out _).mono ?_; rintro e wj ⟨rfl, hb⟩; (first | (have HBB := step1 HB HZ hb) | (have HBB := step2 HB HZ hb) | (have HBB := stepD HB HZ hb) | (have HBB := stepG HB HZ (by go_grown) hb)); have HB := HBB.1; have HZ := HBB.2; clear HBB hb)
          clear x0 x1 x2 f0 f1 f2
          obtain ⟨k0, k1, k2, k3, k4⟩ := HKP.out _ HB.out
          go_region_held3 (fun w' => w'.cell? ⟨g10, 0, none⟩ = some (.int .i64 u1) ∧ w'.cell? ⟨g10, 1, none⟩ = some (.int .i64 u2) ∧ w'.cell? ⟨g10, 2, none⟩ = some (.int .i64 u3) ∧ w'.cell? ⟨gs, 0, none⟩ = some (.int .u8 s) ∧ w'.cell? ⟨gs, 1, none⟩ = some (.int .u8 t))
            (first | (with_reducible exact HKP.out _ HB.out) | (exact HKP.out _ HB.out.drew) | (refine HKP.out _ (HB.out.trans (Below.mono (?_ : Below wq.heap.size wq _) HZ.out)); (go_grown; done)))
            ((first | (go_at_call 21; refine (HA.out _).mono ?_; rintro e wq ⟨rfl, hb⟩; (first | (have HBB := step1 HB HZ hb) | (have HBB := step2 HB HZ hb) | (have HBB := stepD HB HZ hb) | (have HBB := stepG HB HZ (by go_grown) hb)); have HB := HBB.1; have HZ := HBB.2; clear HBB hb) | (go_at_call_of 20 (Value.int .i64 s); refine (PS.out _).mono ?_; rintro e wp ⟨rfl, rfl⟩) | (go_at_call_of 20 (Value.int .i64 t); refine (PT.out _).mono ?_; rintro e wp ⟨rfl, rfl⟩) | (go_at_call_of 20 (Value.int .i64 (N + M)); refine (PSum.out _).mono ?_; rintro e wp ⟨rfl, rfl⟩) | (go_at_call 25; refine (is_yes _ _).mono ?_; rintro e wp ⟨rfl, rfl⟩)))
          go_wp2
          go_ret
          exact ⟨rfl, carry HBW HB.out⟩

end Go.Proofs.Ytkagmbmkopdekaa
