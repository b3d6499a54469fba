/- The law ShareAgrees, walked. -/
import Derived.Test.YtkagmbmkopdekaaFMS
namespace Go.Proofs.Ytkagmbmkopdekaa
open Go.RowKit

attribute [local go_sem] equal26 eq3_same

/-- A block of cells of any type. -/
def Blk (W : World) (g : Nat) (cs : Array Value) (t : TypeId) : Prop := W.heap[g]? = some (.cells cs t (0, 0))
theorem Blk.below {W W1 : World} {g : Nat} {cs : Array Value} {t : TypeId} (h : Blk W g cs t) (hb : Below W.heap.size W W1) : Blk W1 g cs t := (hb.block g (Array.getElem?_eq_some_iff.1 h).1).trans h
theorem Blk.cell {W : World} {g : Nat} {cs : Array Value} {t : TypeId} (h : Blk W g cs t) (j : Nat) {v : Value} (hv : cs[j]? = some v) : W.cell? ⟨g, j, none⟩ = some v := by rw [cell_of_row W _ _ _ _ _ h]; exact hv

theorem rSpY {s b : Int} (s0 : 0 ≤ s) (s1 : s ≤ 250) (b0 : 0 ≤ b) (b1 : b ≤ 250) (W : World) : Calls Try.prog 13 #[.int .i64 s, .int .i64 b] W fun e w' => e = .returned (.tuple #[.agg #[.int .i64 (lineV s b 1), .int .i64 (lineV s b 2), .int .i64 (lineV s b 3)], .bool true]) ∧ Below W.heap.size W w' := by
  have h := rSplit_any s b W
  obtain ⟨q1, q2⟩ := spV_of s0 s1 b0 b1
  rwa [q1, q2, q2, q2] at h

set_option maxRecDepth 100000 in
set_option maxHeartbeats 8000000 in
theorem agrees_any (s b t c r0 r1 r2 n : Int) (w : World) (s0 : 0 ≤ s) (s1 : s ≤ 255) (b0 : 0 ≤ b) (b1 : b ≤ 255) (t0 : 0 ≤ t) (t1 : t ≤ 255) (c0 : 0 ≤ c) (c1 : c ≤ 255) (_p0 : -9223372036854775808 ≤ r0) (_q0 : r0 ≤ 9223372036854775807) (_p1 : -9223372036854775808 ≤ r1) (_q1 : r1 ≤ 9223372036854775807) (_p2 : -9223372036854775808 ≤ r2) (_q2 : r2 ≤ 9223372036854775807) (_p3 : -9223372036854775808 ≤ n) (_q3 : n ≤ 9223372036854775807) :
    Calls Try.prog 4 #[.int .u8 s, .int .u8 b, .int .u8 t, .int .u8 c, .agg #[.int .i64 r0, .int .i64 r1, .int .i64 r2], .int .i64 n] w fun e w' => e = .returned (.bool true) ∧ Below w.heap.size w w' := by
  clear _p0 _q0 _p1 _q1 _p2 _q2 _p3 _q3
  have PS := Lib.hid (fun W => part_any s W s0 (by omega))
  have PB := Lib.hid (fun W => part_any b W b0 (by omega))
  have N0 : 0 ≤ s % 251 := by omega
  have N1 : s % 251 ≤ 250 := by omega
  have B0 : 0 ≤ b % 251 := by omega
  have B1 : b % 251 ≤ 250 := by omega
  revert PS PB N0 N1 B0 B1
  generalize s % 251 = N
  generalize b % 251 = B
  intro PS PB N0 N1 B0 B1
  have HS := Lib.hid (fun W => rSpY N0 N1 B0 B1 W)
  have HA := Lib.hid (fun W => agY N0 N1 B0 B1 W)
  have a1 := lineV_bd N B 1
  have a2 := lineV_bd N B 2
  have a3 := lineV_bd N B 3
  clear N0 N1 B0 B1
  revert HS HA a1 a2 a3
  generalize lineV N B 1 = x1
  generalize lineV N B 2 = x2
  generalize lineV N B 3 = x3
  intro HS HA a1 a2 a3
  obtain ⟨l1, h1⟩ := a1
  obtain ⟨l2, h2⟩ := a2
  obtain ⟨l3, h3⟩ := a3
  have Q1 := Lib.hid (fun W => part_any (x1 + c) W (by omega) (by omega))
  have Q2 := Lib.hid (fun W => part_any (x2 + c) W (by omega) (by omega))
  have Q3 := Lib.hid (fun W => part_any (x3 + c) W (by omega) (by omega))
  have M0 := Lib.hid (fun W => near_any r0 W)
  have M1 := Lib.hid (fun W => near_any r1 W)
  have M2 := Lib.hid (fun W => near_any r2 W)
  have M3 := Lib.hid (fun W => near_any n W)
  revert M0 M1 M2 M3
  generalize nearV r0 = m0
  generalize nearV r1 = m1
  generalize nearV r2 = m2
  generalize nearV n = nn
  intro M0 M1 M2 M3
  have HBW : Hid (Below w.heap.size w (w.alloc (.cells #[.int .i64 r0, .int .i64 r1, .int .i64 r2] 26))) := Lib.hid (by go_grown)
  have HR : Hid (Tri (w.alloc (.cells #[.int .i64 r0, .int .i64 r1, .int .i64 r2] 26)) w.heap.size r0 r1 r2 26) := Lib.hid (heap_alloc_new _ _)
  go_enter Try.func4, Try.ntmps4
  go_upto_region 3 with (first | (go_at_call 10; refine (sanity_any _).mono ?_; rintro e wn ⟨rfl, hb⟩; (try have X := Lib.hid (X.out.below hb)); (try have A := Lib.hid (A.out.below hb)); (try have C := Lib.hid (C.out.below hb)); (try have HR := Lib.hid (HR.out.below hb)); (try have HX := Lib.hid (HX.out.below hb)); (try have HG := Lib.hid (HG.out.below hb)); (try have HI := Lib.hid (HI.out.below hb)); have HBW := Lib.hid (carry HBW hb); clear hb) | (go_at_call_of 20 (Value.int .i64 s); refine (PS.out _).mono ?_; rintro e wp ⟨rfl, rfl⟩) | (go_at_call_of 20 (Value.int .i64 b); refine (PB.out _).mono ?_; rintro e wp ⟨rfl, rfl⟩) | (go_at_call 13; refine (HS.out _).mono ?_; rintro e wn ⟨rfl, hb⟩; (try have X := Lib.hid (X.out.below hb)); (try have A := Lib.hid (A.out.below hb)); (try have C := Lib.hid (C.out.below hb)); (try have HR := Lib.hid (HR.out.below hb)); (try have HX := Lib.hid (HX.out.below hb)); (try have HG := Lib.hid (HG.out.below hb)); (try have HI := Lib.hid (HI.out.below hb)); have HBW := Lib.hid (carry HBW hb); clear hb))
  have hal : Below wn.heap.size wn (wn.alloc (.cells #[.int .i64 x1, .int .i64 x2, .int .i64 x3] 26)) := by go_grown
  have HR := Lib.hid (HR.out.below hal)
  have HLR := Lib.hid HR.out.lt
  have HBW := Lib.hid (carry HBW hal)
  have HX := Lib.hid (tri_new wn x1 x2 x3)
  clear hal
  obtain ⟨gr, hgr⟩ : ∃ gr, gr = w.heap.size := ⟨_, rfl⟩
  rw [← hgr] at HR HLR ⊢
  have HGR := Lib.hid hgr
  clear hgr
  revert HX
  revert HBW
  revert HLR
  revert HR
  generalize (wn.alloc (.cells #[.int .i64 x1, .int .i64 x2, .int .i64 x3] 26)) = W3
  generalize wn.heap.size = gx
  intro HR HLR HBW HX
  obtain ⟨c0, c1, c2, _⟩ := HX.out.cells
  go_upto_region 4 with fail
  clear c0 c1 c2
  have hal : Below W3.heap.size W3 (W3.alloc (.cells #[.int .i64 x1, .int .i64 x2, .int .i64 x3] 26)) := by go_grown
  have HLR := Lib.hid HR.out.lt
  have HLX := Lib.hid HX.out.lt
  have HLW : Hid (w.heap.size ≤ W3.heap.size) := Lib.hid HBW.out.size
  have HR := Lib.hid (HR.out.below hal)
  have HX := Lib.hid (HX.out.below hal)
  have HBW := Lib.hid (carry HBW hal)
  have HE := Lib.hid (tri_new W3 x1 x2 x3)
  clear hal
  revert HE
  revert HBW
  revert HX
  revert HR
  revert HLW
  revert HLX
  revert HLR
  generalize (W3.alloc (.cells #[.int .i64 x1, .int .i64 x2, .int .i64 x3] 26)) = W4
  generalize W3.heap.size = ge
  intro HLR HLX HLW HR HX HBW HE
  go_cut [] from 37 to 47 (fun wx => ∃ e1 e2 e3 : Int, Hid (Tri wx ge e1 e2 e3 26) ∧ Hid (Tri wx gx x1 x2 x3 26) ∧ Hid (Tri wx gr r0 r1 r2 26) ∧ Hid (Below w.heap.size w wx))
  case first =>
    obtain ⟨c0, c1, c2, f0, f1, f2⟩ := HE.out.cells
    have hz := HE.out.lt
    have ht : t % 3 = 0 ∨ t % 3 = 1 ∨ t % 3 = 2 := by omega
    rcases ht with ht | ht | ht
    · go_wp2_with (go_at_call 20; refine (Q1.out _).mono ?_; rintro e wp ⟨rfl, rfl⟩)
      go_meet
      exact ⟨((x1 + c) % 251), x2, x3, HE.out.st0 _, HX.out.other (by have := HLX.out; omega) _ _, HR.out.other (by have := HLR.out; omega) _ _, HBW.out.setCell (by simp; exact HLW.out) _⟩
    · go_wp2_with (go_at_call 20; refine (Q2.out _).mono ?_; rintro e wp ⟨rfl, rfl⟩)
      go_meet
      exact ⟨x1, ((x2 + c) % 251), x3, HE.out.st1 _, HX.out.other (by have := HLX.out; omega) _ _, HR.out.other (by have := HLR.out; omega) _ _, HBW.out.setCell (by simp; exact HLW.out) _⟩
    · go_wp2_with (go_at_call 20; refine (Q3.out _).mono ?_; rintro e wp ⟨rfl, rfl⟩)
      go_meet
      exact ⟨x1, x2, ((x3 + c) % 251), HE.out.st2 _, HX.out.other (by have := HLX.out; omega) _ _, HR.out.other (by have := HLR.out; omega) _ _, HBW.out.setCell (by simp; exact HLW.out) _⟩
  case' rest =>
    obtain ⟨e1, e2, e3, HE, HX, HR, HBW⟩ := hcut
    obtain ⟨W5, rfl⟩ : ∃ x : World, x = wc := ⟨_, rfl⟩
    have HB : Hid (Below W5.heap.size W5 W5) := Lib.hid (Below.refl _ _)
    have HKP : Hid (∀ w', Below W5.heap.size W5 w' → w'.cell? ⟨ge, 0, none⟩ = some (.int .i64 e1) ∧ w'.cell? ⟨ge, 1, none⟩ = some (.int .i64 e2) ∧ w'.cell? ⟨ge, 2, none⟩ = some (.int .i64 e3) ∧ w'.cell? ⟨gx, 0, none⟩ = some (.int .i64 x1) ∧ w'.cell? ⟨gx, 1, none⟩ = some (.int .i64 x2) ∧ w'.cell? ⟨gx, 2, none⟩ = some (.int .i64 x3) ∧ w'.cell? ⟨gr, 0, none⟩ = some (.int .i64 r0) ∧ w'.cell? ⟨gr, 1, none⟩ = some (.int .i64 r1) ∧ w'.cell? ⟨gr, 2, none⟩ = some (.int .i64 r2)) := Lib.hid (fun w' h => by
      have c := (HE.out.below h).cells
      have d := (HX.out.below h).cells
      have e := (HR.out.below h).cells
      exact ⟨c.1, c.2.1, c.2.2.1, d.1, d.2.1, d.2.2.1, e.1, e.2.1, e.2.2.1⟩)
    obtain ⟨k0, k1, k2, k3, k4, k5, k6, k7, k8⟩ := HKP.out _ HB.out
    go_wp2
    go_region_held3 (fun w' => w'.cell? ⟨ge, 0, none⟩ = some (.int .i64 e1) ∧ w'.cell? ⟨ge, 1, none⟩ = some (.int .i64 e2) ∧ w'.cell? ⟨ge, 2, none⟩ = some (.int .i64 e3) ∧ w'.cell? ⟨gx, 0, none⟩ = some (.int .i64 x1) ∧ w'.cell? ⟨gx, 1, none⟩ = some (.int .i64 x2) ∧ w'.cell? ⟨gx, 2, none⟩ = some (.int .i64 x3) ∧ w'.cell? ⟨gr, 0, none⟩ = some (.int .i64 r0) ∧ w'.cell? ⟨gr, 1, none⟩ = some (.int .i64 r1) ∧ w'.cell? ⟨gr, 2, none⟩ = some (.int .i64 r2))
      (first | (with_reducible exact HKP.out _ HB.out) | (exact HKP.out _ HB.out.drew) | (refine HKP.out _ ?_; (go_grown; done)))
      ((first | (go_at_call_of 11 (Value.int .i64 r0); refine (M0.out _).mono ?_; rintro e wp ⟨rfl, rfl⟩) | (go_at_call_of 11 (Value.int .i64 r1); refine (M1.out _).mono ?_; rintro e wp ⟨rfl, rfl⟩) | (go_at_call_of 11 (Value.int .i64 r2); refine (M2.out _).mono ?_; rintro e wp ⟨rfl, rfl⟩)))
    have hal : Below W5.heap.size W5 (World.drew (W5.alloc (.cells #[.int .i64 x1, .int .i64 x2, .int .i64 x3, .int .i64 e1, .int .i64 e2, .int .i64 e3, .int .i64 r0, .int .i64 r1, .int .i64 r2, .int .i64 m0, .int .i64 m1, .int .i64 m2] 26))) := Below.drew (show Below W5.heap.size W5 (W5.alloc (.cells #[.int .i64 x1, .int .i64 x2, .int .i64 x3, .int .i64 e1, .int .i64 e2, .int .i64 e3, .int .i64 r0, .int .i64 r1, .int .i64 r2, .int .i64 m0, .int .i64 m1, .int .i64 m2] 26)) by go_grown)
    have HBW := Lib.hid (carry HBW hal)
    have HX := Lib.hid (HX.out.below hal)
    have HG : Hid (Blk (World.drew (W5.alloc (.cells #[.int .i64 x1, .int .i64 x2, .int .i64 x3, .int .i64 e1, .int .i64 e2, .int .i64 e3, .int .i64 r0, .int .i64 r1, .int .i64 r2, .int .i64 m0, .int .i64 m1, .int .i64 m2] 26))) W5.heap.size #[.int .i64 x1, .int .i64 x2, .int .i64 x3, .int .i64 e1, .int .i64 e2, .int .i64 e3, .int .i64 r0, .int .i64 r1, .int .i64 r2, .int .i64 m0, .int .i64 m1, .int .i64 m2] 26) := Lib.hid (show Blk (W5.alloc (.cells #[.int .i64 x1, .int .i64 x2, .int .i64 x3, .int .i64 e1, .int .i64 e2, .int .i64 e3, .int .i64 r0, .int .i64 r1, .int .i64 r2, .int .i64 m0, .int .i64 m1, .int .i64 m2] 26)) W5.heap.size #[.int .i64 x1, .int .i64 x2, .int .i64 x3, .int .i64 e1, .int .i64 e2, .int .i64 e3, .int .i64 r0, .int .i64 r1, .int .i64 r2, .int .i64 m0, .int .i64 m1, .int .i64 m2] 26 from heap_alloc_new _ _)
    clear hal k0 k1 k2 k3 k4 k5 k6 k7 k8 HE HR HKP HB
    revert HG
    revert HX
    revert HBW
    generalize (World.drew (W5.alloc (.cells #[.int .i64 x1, .int .i64 x2, .int .i64 x3, .int .i64 e1, .int .i64 e2, .int .i64 e3, .int .i64 r0, .int .i64 r1, .int .i64 r2, .int .i64 m0, .int .i64 m1, .int .i64 m2] 26))) = W6
    generalize W5.heap.size = gg
    intro HBW HX HG
    go_wp2
    go_loopw [63] (fun kv wr => ∃ i : Int, (i = 0 ∨ i = 1 ∨ i = 2 ∨ i = 3 ∨ i = 4) ∧ kv = .int .i64 i ∧ Hid (Blk wr gg #[.int .i64 x1, .int .i64 x2, .int .i64 x3, .int .i64 e1, .int .i64 e2, .int .i64 e3, .int .i64 r0, .int .i64 r1, .int .i64 r2, .int .i64 m0, .int .i64 m1, .int .i64 m2] 26) ∧ Hid (Tri wr gx x1 x2 x3 26) ∧ Hid (Below w.heap.size w wr)) (fun kv _ => (4 - intOf kv).toNat)
    case atStart => exact ⟨0, by omega, rfl, HG, HX, HBW⟩
    case round =>
      obtain ⟨i, hi, rfl, HG, HX, HBW⟩ := hrel
      obtain ⟨wo, rfl⟩ : ∃ wo : World, wo = wr := ⟨_, rfl⟩
      rcases hi with rfl | rfl | rfl | rfl | rfl
      · have E1 := Lib.hid (fun W => agree_any x1 x2 x3 W)
        have E2 := Lib.hid (fun W => rAgree_any x1 x2 x3 W)
        have F1 := Lib.hid (fun W => renew_any x1 x2 x3 n W)
        have F2 := Lib.hid (fun W => rRenew_any x1 x2 x3 n W)
        have G1 := Lib.hid (fun W => renew_any x1 x2 x3 nn W)
        have G2 := Lib.hid (fun W => rRenew_any x1 x2 x3 nn W)
        revert G2
        revert G1
        revert F2
        revert F1
        revert E2
        revert E1
        generalize agB x1 x2 x3 = ag
        generalize rnV x1 x2 x3 n 1 = fv1
        generalize rnV x1 x2 x3 n 2 = fv2
        generalize rnV x1 x2 x3 n 3 = fv3
        generalize rnB x1 x2 x3 n = fb
        generalize rnV x1 x2 x3 nn 1 = gv1
        generalize rnV x1 x2 x3 nn 2 = gv2
        generalize rnV x1 x2 x3 nn 3 = gv3
        generalize rnB x1 x2 x3 nn = gb
        intro E1 E2 F1 F2 G1 G2
        have c0 : wo.cell? ⟨gg, 0, none⟩ = some (.int .i64 x1) := HG.out.cell 0 rfl
        have c1 : wo.cell? ⟨gg, 1, none⟩ = some (.int .i64 x2) := HG.out.cell 1 rfl
        have c2 : wo.cell? ⟨gg, 2, none⟩ = some (.int .i64 x3) := HG.out.cell 2 rfl
        go_upto_region 8 with fail
        clear c0 c1 c2
        have hal : Below wo.heap.size wo (wo.alloc (.cells #[.int .i64 x1, .int .i64 x2, .int .i64 x3] 26)) := by go_grown
        have X := Lib.hid (tri_new wo x1 x2 x3)
        have HG := Lib.hid (HG.out.below hal)
        have HX := Lib.hid (HX.out.below hal)
        have HBW := Lib.hid (carry HBW hal)
        clear hal
        revert X
        revert HX
        revert HG
        revert HBW
        generalize (wo.alloc (.cells #[.int .i64 x1, .int .i64 x2, .int .i64 x3] 26)) = W7
        generalize wo.heap.size = g18
        intro HBW HG HX X
        have HB : Hid (Below W7.heap.size W7 W7) := Lib.hid (Below.refl _ _)
        have HZ : Hid (W7.heap.size ≤ W7.heap.size) := Lib.hid (Nat.le_refl _)
        have HKP : Hid (∀ w', Below W7.heap.size W7 w' → w'.cell? ⟨g18, 0, none⟩ = some (.int .i64 x1) ∧ w'.cell? ⟨g18, 1, none⟩ = some (.int .i64 x2) ∧ w'.cell? ⟨g18, 2, none⟩ = some (.int .i64 x3)) := Lib.hid (fun w' h => by
          have c := (X.out.below h).cells
          exact ⟨c.1, c.2.1, c.2.2.1⟩)
        obtain ⟨k0, k1, k2⟩ := HKP.out _ HB.out
        go_cut [71] from 67 to 71 (fun sv wx => sv = .bool false ∧ Hid (Below W7.heap.size W7 wx))
        case first =>
          go_region_held3 (fun w' => w'.cell? ⟨g18, 0, none⟩ = some (.int .i64 x1) ∧ w'.cell? ⟨g18, 1, none⟩ = some (.int .i64 x2) ∧ w'.cell? ⟨g18, 2, none⟩ = some (.int .i64 x3))
            (first | (with_reducible exact HKP.out _ HB.out) | (exact HKP.out _ HB.out.drew) | (refine HKP.out _ (HB.out.trans (Below.mono (?_ : Below wa.heap.size wa _) HZ.out)); (go_grown; done)) | (refine HKP.out _ (HB.out.trans (Below.mono (?_ : Below wb.heap.size wb _) HZ.out)); (go_grown; done)))
            ((first | (go_at_call 21; refine (E1.out _).mono ?_; rintro e wa ⟨rfl, hb⟩; (first | (have HBB := step1 HB HZ hb) | (have HBB := step2 HB HZ hb) | (have HBB := stepD HB HZ hb) | (have HBB := stepG HB HZ (by go_grown) hb)); have HB := HBB.1; have HZ := HBB.2; clear HBB hb) | (go_at_call 22; refine (E2.out _).mono ?_; rintro e wb ⟨rfl, hb⟩; (first | (have HBB := step1 HB HZ hb) | (have HBB := step2 HB HZ hb) | (have HBB := stepD HB HZ hb) | (have HBB := stepG HB HZ (by go_grown) hb)); have HB := HBB.1; have HZ := HBB.2; clear HBB hb)))
          all_goals (go_wp2_with fail; go_meet; exact ⟨by simp, HB.out⟩)
        case' rest =>
          obtain ⟨rfl, hbl⟩ := hcut
          obtain ⟨W8, rfl⟩ : ∃ x : World, x = wc := ⟨_, rfl⟩
          clear k0 k1 k2 HKP HB HZ
          have X := Lib.hid (X.out.below hbl.out)
          have HG := Lib.hid (HG.out.below hbl.out)
          have HX := Lib.hid (HX.out.below hbl.out)
          have HBW := Lib.hid (carry HBW hbl.out)
          clear hbl
          go_wp2_with (go_at_call 11; refine (M3.out _).mono ?_; rintro e wp ⟨rfl, rfl⟩)
          have hal : Below W8.heap.size W8 (W8.alloc (.cells #[.int .i64 n, .int .i64 nn] 3)) := by go_grown
          have HI : Hid (Blk (W8.alloc (.cells #[.int .i64 n, .int .i64 nn] 3)) W8.heap.size #[.int .i64 n, .int .i64 nn] 3) := Lib.hid (heap_alloc_new _ _)
          have X := Lib.hid (X.out.below hal)
          have HX := Lib.hid (HX.out.below hal)
          have HG := Lib.hid (HG.out.below hal)
          have HBW := Lib.hid (carry HBW hal)
          clear hal
          revert HI
          revert X
          revert HX
          revert HG
          revert HBW
          generalize (W8.alloc (.cells #[.int .i64 n, .int .i64 nn] 3)) = W9
          generalize W8.heap.size = gi
          intro HBW HG HX X HI
          go_loopw [77] (fun kv wr => ∃ i : Int, (i = 0 ∨ i = 1 ∨ i = 2) ∧ kv = .int .i64 i ∧ Hid (Blk wr gi #[.int .i64 n, .int .i64 nn] 3) ∧ Hid (Tri wr g18 x1 x2 x3 26) ∧ Hid (Blk wr gg #[.int .i64 x1, .int .i64 x2, .int .i64 x3, .int .i64 e1, .int .i64 e2, .int .i64 e3, .int .i64 r0, .int .i64 r1, .int .i64 r2, .int .i64 m0, .int .i64 m1, .int .i64 m2] 26) ∧ Hid (Tri wr gx x1 x2 x3 26) ∧ Hid (Below w.heap.size w wr)) (fun kv _ => (2 - intOf kv).toNat)
          case atStart => exact ⟨0, by omega, rfl, HI, X, HG, HX, HBW⟩
          case round =>
            obtain ⟨j, hj, rfl, HI, X, HG, HX, HBW⟩ := hrel
            rcases hj with rfl | rfl | rfl
            · have d0 : wr.cell? ⟨gi, 0, none⟩ = some (.int .i64 n) := HI.out.cell 0 rfl
              obtain ⟨c0, c1, c2, _⟩ := X.out.cells
              go_upto_region 14 with (go_at_call 23; refine (F1.out _).mono ?_; rintro e wn ⟨rfl, hb⟩; (try have X := Lib.hid (X.out.below hb)); (try have A := Lib.hid (A.out.below hb)); (try have C := Lib.hid (C.out.below hb)); (try have HR := Lib.hid (HR.out.below hb)); (try have HX := Lib.hid (HX.out.below hb)); (try have HG := Lib.hid (HG.out.below hb)); (try have HI := Lib.hid (HI.out.below hb)); have HBW := Lib.hid (carry HBW hb); clear hb)
              clear c0 c1 c2
              have hal : Below wn.heap.size wn (wn.alloc (.cells #[.int .i64 fv1, .int .i64 fv2, .int .i64 fv3] 26)) := by go_grown
              have X := Lib.hid (X.out.below hal)
              have HI := Lib.hid (HI.out.below hal)
              have HG := Lib.hid (HG.out.below hal)
              have HX := Lib.hid (HX.out.below hal)
              have HBW := Lib.hid (carry HBW hal)
              have A := Lib.hid (tri_new wn fv1 fv2 fv3)
              clear hal
              revert X
              revert HI
              revert HG
              revert HX
              revert HBW
              revert A
              generalize (wn.alloc (.cells #[.int .i64 fv1, .int .i64 fv2, .int .i64 fv3] 26)) = WA
              generalize wn.heap.size = gA
              intro A HBW HX HG HI X
              obtain ⟨c0, c1, c2, _⟩ := X.out.cells
              go_upto_region 15 with (go_at_call 24; refine (F2.out _).mono ?_; rintro e wn ⟨rfl, hb⟩; (try have X := Lib.hid (X.out.below hb)); (try have A := Lib.hid (A.out.below hb)); (try have C := Lib.hid (C.out.below hb)); (try have HR := Lib.hid (HR.out.below hb)); (try have HX := Lib.hid (HX.out.below hb)); (try have HG := Lib.hid (HG.out.below hb)); (try have HI := Lib.hid (HI.out.below hb)); have HBW := Lib.hid (carry HBW hb); clear hb)
              clear c0 c1 c2
              have hal : Below wn.heap.size wn (wn.alloc (.cells #[.int .i64 fv1, .int .i64 fv2, .int .i64 fv3] 26)) := by go_grown
              have X := Lib.hid (X.out.below hal)
              have HI := Lib.hid (HI.out.below hal)
              have HG := Lib.hid (HG.out.below hal)
              have HX := Lib.hid (HX.out.below hal)
              have A := Lib.hid (A.out.below hal)
              have HBW := Lib.hid (carry HBW hal)
              have C := Lib.hid (tri_new wn fv1 fv2 fv3)
              clear hal
              revert X
              revert HI
              revert HG
              revert HX
              revert A
              revert HBW
              revert C
              generalize (wn.alloc (.cells #[.int .i64 fv1, .int .i64 fv2, .int .i64 fv3] 26)) = WC
              generalize wn.heap.size = gC
              intro C HBW A HX HG HI X
              obtain ⟨c0, c1, c2, _⟩ := A.out.cells
              obtain ⟨d0, d1, d2, _⟩ := C.out.cells
              go_wp2
              go_roundw
              case rel => exact ⟨1, by omega, rfl, HI, X, HG, HX, HBW⟩
              case measure => simp [intOf]
            · have d0 : wr.cell? ⟨gi, 1, none⟩ = some (.int .i64 nn) := HI.out.cell 1 rfl
              obtain ⟨c0, c1, c2, _⟩ := X.out.cells
              go_upto_region 14 with (go_at_call 23; refine (G1.out _).mono ?_; rintro e wn ⟨rfl, hb⟩; (try have X := Lib.hid (X.out.below hb)); (try have A := Lib.hid (A.out.below hb)); (try have C := Lib.hid (C.out.below hb)); (try have HR := Lib.hid (HR.out.below hb)); (try have HX := Lib.hid (HX.out.below hb)); (try have HG := Lib.hid (HG.out.below hb)); (try have HI := Lib.hid (HI.out.below hb)); have HBW := Lib.hid (carry HBW hb); clear hb)
              clear c0 c1 c2
              have hal : Below wn.heap.size wn (wn.alloc (.cells #[.int .i64 gv1, .int .i64 gv2, .int .i64 gv3] 26)) := by go_grown
              have X := Lib.hid (X.out.below hal)
              have HI := Lib.hid (HI.out.below hal)
              have HG := Lib.hid (HG.out.below hal)
              have HX := Lib.hid (HX.out.below hal)
              have HBW := Lib.hid (carry HBW hal)
              have A := Lib.hid (tri_new wn gv1 gv2 gv3)
              clear hal
              revert X
              revert HI
              revert HG
              revert HX
              revert HBW
              revert A
              generalize (wn.alloc (.cells #[.int .i64 gv1, .int .i64 gv2, .int .i64 gv3] 26)) = WA
              generalize wn.heap.size = gA
              intro A HBW HX HG HI X
              obtain ⟨c0, c1, c2, _⟩ := X.out.cells
              go_upto_region 15 with (go_at_call 24; refine (G2.out _).mono ?_; rintro e wn ⟨rfl, hb⟩; (try have X := Lib.hid (X.out.below hb)); (try have A := Lib.hid (A.out.below hb)); (try have C := Lib.hid (C.out.below hb)); (try have HR := Lib.hid (HR.out.below hb)); (try have HX := Lib.hid (HX.out.below hb)); (try have HG := Lib.hid (HG.out.below hb)); (try have HI := Lib.hid (HI.out.below hb)); have HBW := Lib.hid (carry HBW hb); clear hb)
              clear c0 c1 c2
              have hal : Below wn.heap.size wn (wn.alloc (.cells #[.int .i64 gv1, .int .i64 gv2, .int .i64 gv3] 26)) := by go_grown
              have X := Lib.hid (X.out.below hal)
              have HI := Lib.hid (HI.out.below hal)
              have HG := Lib.hid (HG.out.below hal)
              have HX := Lib.hid (HX.out.below hal)
              have A := Lib.hid (A.out.below hal)
              have HBW := Lib.hid (carry HBW hal)
              have C := Lib.hid (tri_new wn gv1 gv2 gv3)
              clear hal
              revert X
              revert HI
              revert HG
              revert HX
              revert A
              revert HBW
              revert C
              generalize (wn.alloc (.cells #[.int .i64 gv1, .int .i64 gv2, .int .i64 gv3] 26)) = WC
              generalize wn.heap.size = gC
              intro C HBW A HX HG HI X
              obtain ⟨c0, c1, c2, _⟩ := A.out.cells
              obtain ⟨d0, d1, d2, _⟩ := C.out.cells
              go_wp2
              go_roundw
              case rel => exact ⟨2, by omega, rfl, HI, X, HG, HX, HBW⟩
              case measure => simp [intOf]
            · go_wp2
              go_roundw
              case rel => exact ⟨1, by omega, rfl, HG, HX, HBW⟩
              case measure => simp [intOf]
      · have E1 := Lib.hid (fun W => agree_any e1 e2 e3 W)
        have E2 := Lib.hid (fun W => rAgree_any e1 e2 e3 W)
        have F1 := Lib.hid (fun W => renew_any e1 e2 e3 n W)
        have F2 := Lib.hid (fun W => rRenew_any e1 e2 e3 n W)
        have G1 := Lib.hid (fun W => renew_any e1 e2 e3 nn W)
        have G2 := Lib.hid (fun W => rRenew_any e1 e2 e3 nn W)
        revert G2
        revert G1
        revert F2
        revert F1
        revert E2
        revert E1
        generalize agB e1 e2 e3 = ag
        generalize rnV e1 e2 e3 n 1 = fv1
        generalize rnV e1 e2 e3 n 2 = fv2
        generalize rnV e1 e2 e3 n 3 = fv3
        generalize rnB e1 e2 e3 n = fb
        generalize rnV e1 e2 e3 nn 1 = gv1
        generalize rnV e1 e2 e3 nn 2 = gv2
        generalize rnV e1 e2 e3 nn 3 = gv3
        generalize rnB e1 e2 e3 nn = gb
        intro E1 E2 F1 F2 G1 G2
        have c0 : wo.cell? ⟨gg, 3, none⟩ = some (.int .i64 e1) := HG.out.cell 3 rfl
        have c1 : wo.cell? ⟨gg, 4, none⟩ = some (.int .i64 e2) := HG.out.cell 4 rfl
        have c2 : wo.cell? ⟨gg, 5, none⟩ = some (.int .i64 e3) := HG.out.cell 5 rfl
        go_upto_region 8 with fail
        clear c0 c1 c2
        have hal : Below wo.heap.size wo (wo.alloc (.cells #[.int .i64 e1, .int .i64 e2, .int .i64 e3] 26)) := by go_grown
        have X := Lib.hid (tri_new wo e1 e2 e3)
        have HG := Lib.hid (HG.out.below hal)
        have HX := Lib.hid (HX.out.below hal)
        have HBW := Lib.hid (carry HBW hal)
        clear hal
        revert X
        revert HX
        revert HG
        revert HBW
        generalize (wo.alloc (.cells #[.int .i64 e1, .int .i64 e2, .int .i64 e3] 26)) = W7
        generalize wo.heap.size = g18
        intro HBW HG HX X
        have HB : Hid (Below W7.heap.size W7 W7) := Lib.hid (Below.refl _ _)
        have HZ : Hid (W7.heap.size ≤ W7.heap.size) := Lib.hid (Nat.le_refl _)
        have HKP : Hid (∀ w', Below W7.heap.size W7 w' → w'.cell? ⟨g18, 0, none⟩ = some (.int .i64 e1) ∧ w'.cell? ⟨g18, 1, none⟩ = some (.int .i64 e2) ∧ w'.cell? ⟨g18, 2, none⟩ = some (.int .i64 e3)) := Lib.hid (fun w' h => by
          have c := (X.out.below h).cells
          exact ⟨c.1, c.2.1, c.2.2.1⟩)
        obtain ⟨k0, k1, k2⟩ := HKP.out _ HB.out
        go_cut [71] from 67 to 71 (fun sv wx => sv = .bool false ∧ Hid (Below W7.heap.size W7 wx))
        case first =>
          go_region_held3 (fun w' => w'.cell? ⟨g18, 0, none⟩ = some (.int .i64 e1) ∧ w'.cell? ⟨g18, 1, none⟩ = some (.int .i64 e2) ∧ w'.cell? ⟨g18, 2, none⟩ = some (.int .i64 e3))
            (first | (with_reducible exact HKP.out _ HB.out) | (exact HKP.out _ HB.out.drew) | (refine HKP.out _ (HB.out.trans (Below.mono (?_ : Below wa.heap.size wa _) HZ.out)); (go_grown; done)) | (refine HKP.out _ (HB.out.trans (Below.mono (?_ : Below wb.heap.size wb _) HZ.out)); (go_grown; done)))
            ((first | (go_at_call 21; refine (E1.out _).mono ?_; rintro e wa ⟨rfl, hb⟩; (first | (have HBB := step1 HB HZ hb) | (have HBB := step2 HB HZ hb) | (have HBB := stepD HB HZ hb) | (have HBB := stepG HB HZ (by go_grown) hb)); have HB := HBB.1; have HZ := HBB.2; clear HBB hb) | (go_at_call 22; refine (E2.out _).mono ?_; rintro e wb ⟨rfl, hb⟩; (first | (have HBB := step1 HB HZ hb) | (have HBB := step2 HB HZ hb) | (have HBB := stepD HB HZ hb) | (have HBB := stepG HB HZ (by go_grown) hb)); have HB := HBB.1; have HZ := HBB.2; clear HBB hb)))
          all_goals (go_wp2_with fail; go_meet; exact ⟨by simp, HB.out⟩)
        case' rest =>
          obtain ⟨rfl, hbl⟩ := hcut
          obtain ⟨W8, rfl⟩ : ∃ x : World, x = wc := ⟨_, rfl⟩
          clear k0 k1 k2 HKP HB HZ
          have X := Lib.hid (X.out.below hbl.out)
          have HG := Lib.hid (HG.out.below hbl.out)
          have HX := Lib.hid (HX.out.below hbl.out)
          have HBW := Lib.hid (carry HBW hbl.out)
          clear hbl
          go_wp2_with (go_at_call 11; refine (M3.out _).mono ?_; rintro e wp ⟨rfl, rfl⟩)
          have hal : Below W8.heap.size W8 (W8.alloc (.cells #[.int .i64 n, .int .i64 nn] 3)) := by go_grown
          have HI : Hid (Blk (W8.alloc (.cells #[.int .i64 n, .int .i64 nn] 3)) W8.heap.size #[.int .i64 n, .int .i64 nn] 3) := Lib.hid (heap_alloc_new _ _)
          have X := Lib.hid (X.out.below hal)
          have HX := Lib.hid (HX.out.below hal)
          have HG := Lib.hid (HG.out.below hal)
          have HBW := Lib.hid (carry HBW hal)
          clear hal
          revert HI
          revert X
          revert HX
          revert HG
          revert HBW
          generalize (W8.alloc (.cells #[.int .i64 n, .int .i64 nn] 3)) = W9
          generalize W8.heap.size = gi
          intro HBW HG HX X HI
          go_loopw [77] (fun kv wr => ∃ i : Int, (i = 0 ∨ i = 1 ∨ i = 2) ∧ kv = .int .i64 i ∧ Hid (Blk wr gi #[.int .i64 n, .int .i64 nn] 3) ∧ Hid (Tri wr g18 e1 e2 e3 26) ∧ Hid (Blk wr gg #[.int .i64 x1, .int .i64 x2, .int .i64 x3, .int .i64 e1, .int .i64 e2, .int .i64 e3, .int .i64 r0, .int .i64 r1, .int .i64 r2, .int .i64 m0, .int .i64 m1, .int .i64 m2] 26) ∧ Hid (Tri wr gx x1 x2 x3 26) ∧ Hid (Below w.heap.size w wr)) (fun kv _ => (2 - intOf kv).toNat)
          case atStart => exact ⟨0, by omega, rfl, HI, X, HG, HX, HBW⟩
          case round =>
            obtain ⟨j, hj, rfl, HI, X, HG, HX, HBW⟩ := hrel
            rcases hj with rfl | rfl | rfl
            · have d0 : wr.cell? ⟨gi, 0, none⟩ = some (.int .i64 n) := HI.out.cell 0 rfl
              obtain ⟨c0, c1, c2, _⟩ := X.out.cells
              go_upto_region 14 with (go_at_call 23; refine (F1.out _).mono ?_; rintro e wn ⟨rfl, hb⟩; (try have X := Lib.hid (X.out.below hb)); (try have A := Lib.hid (A.out.below hb)); (try have C := Lib.hid (C.out.below hb)); (try have HR := Lib.hid (HR.out.below hb)); (try have HX := Lib.hid (HX.out.below hb)); (try have HG := Lib.hid (HG.out.below hb)); (try have HI := Lib.hid (HI.out.below hb)); have HBW := Lib.hid (carry HBW hb); clear hb)
              clear c0 c1 c2
              have hal : Below wn.heap.size wn (wn.alloc (.cells #[.int .i64 fv1, .int .i64 fv2, .int .i64 fv3] 26)) := by go_grown
              have X := Lib.hid (X.out.below hal)
              have HI := Lib.hid (HI.out.below hal)
              have HG := Lib.hid (HG.out.below hal)
              have HX := Lib.hid (HX.out.below hal)
              have HBW := Lib.hid (carry HBW hal)
              have A := Lib.hid (tri_new wn fv1 fv2 fv3)
              clear hal
              revert X
              revert HI
              revert HG
              revert HX
              revert HBW
              revert A
              generalize (wn.alloc (.cells #[.int .i64 fv1, .int .i64 fv2, .int .i64 fv3] 26)) = WA
              generalize wn.heap.size = gA
              intro A HBW HX HG HI X
              obtain ⟨c0, c1, c2, _⟩ := X.out.cells
              go_upto_region 15 with (go_at_call 24; refine (F2.out _).mono ?_; rintro e wn ⟨rfl, hb⟩; (try have X := Lib.hid (X.out.below hb)); (try have A := Lib.hid (A.out.below hb)); (try have C := Lib.hid (C.out.below hb)); (try have HR := Lib.hid (HR.out.below hb)); (try have HX := Lib.hid (HX.out.below hb)); (try have HG := Lib.hid (HG.out.below hb)); (try have HI := Lib.hid (HI.out.below hb)); have HBW := Lib.hid (carry HBW hb); clear hb)
              clear c0 c1 c2
              have hal : Below wn.heap.size wn (wn.alloc (.cells #[.int .i64 fv1, .int .i64 fv2, .int .i64 fv3] 26)) := by go_grown
              have X := Lib.hid (X.out.below hal)
              have HI := Lib.hid (HI.out.below hal)
              have HG := Lib.hid (HG.out.below hal)
              have HX := Lib.hid (HX.out.below hal)
              have A := Lib.hid (A.out.below hal)
              have HBW := Lib.hid (carry HBW hal)
              have C := Lib.hid (tri_new wn fv1 fv2 fv3)
              clear hal
              revert X
              revert HI
              revert HG
              revert HX
              revert A
              revert HBW
              revert C
              generalize (wn.alloc (.cells #[.int .i64 fv1, .int .i64 fv2, .int .i64 fv3] 26)) = WC
              generalize wn.heap.size = gC
              intro C HBW A HX HG HI X
              obtain ⟨c0, c1, c2, _⟩ := A.out.cells
              obtain ⟨d0, d1, d2, _⟩ := C.out.cells
              go_wp2
              go_roundw
              case rel => exact ⟨1, by omega, rfl, HI, X, HG, HX, HBW⟩
              case measure => simp [intOf]
            · have d0 : wr.cell? ⟨gi, 1, none⟩ = some (.int .i64 nn) := HI.out.cell 1 rfl
              obtain ⟨c0, c1, c2, _⟩ := X.out.cells
              go_upto_region 14 with (go_at_call 23; refine (G1.out _).mono ?_; rintro e wn ⟨rfl, hb⟩; (try have X := Lib.hid (X.out.below hb)); (try have A := Lib.hid (A.out.below hb)); (try have C := Lib.hid (C.out.below hb)); (try have HR := Lib.hid (HR.out.below hb)); (try have HX := Lib.hid (HX.out.below hb)); (try have HG := Lib.hid (HG.out.below hb)); (try have HI := Lib.hid (HI.out.below hb)); have HBW := Lib.hid (carry HBW hb); clear hb)
              clear c0 c1 c2
              have hal : Below wn.heap.size wn (wn.alloc (.cells #[.int .i64 gv1, .int .i64 gv2, .int .i64 gv3] 26)) := by go_grown
              have X := Lib.hid (X.out.below hal)
              have HI := Lib.hid (HI.out.below hal)
              have HG := Lib.hid (HG.out.below hal)
              have HX := Lib.hid (HX.out.below hal)
              have HBW := Lib.hid (carry HBW hal)
              have A := Lib.hid (tri_new wn gv1 gv2 gv3)
              clear hal
              revert X
              revert HI
              revert HG
              revert HX
              revert HBW
              revert A
              generalize (wn.alloc (.cells #[.int .i64 gv1, .int .i64 gv2, .int .i64 gv3] 26)) = WA
              generalize wn.heap.size = gA
              intro A HBW HX HG HI X
              obtain ⟨c0, c1, c2, _⟩ := X.out.cells
              go_upto_region 15 with (go_at_call 24; refine (G2.out _).mono ?_; rintro e wn ⟨rfl, hb⟩; (try have X := Lib.hid (X.out.below hb)); (try have A := Lib.hid (A.out.below hb)); (try have C := Lib.hid (C.out.below hb)); (try have HR := Lib.hid (HR.out.below hb)); (try have HX := Lib.hid (HX.out.below hb)); (try have HG := Lib.hid (HG.out.below hb)); (try have HI := Lib.hid (HI.out.below hb)); have HBW := Lib.hid (carry HBW hb); clear hb)
              clear c0 c1 c2
              have hal : Below wn.heap.size wn (wn.alloc (.cells #[.int .i64 gv1, .int .i64 gv2, .int .i64 gv3] 26)) := by go_grown
              have X := Lib.hid (X.out.below hal)
              have HI := Lib.hid (HI.out.below hal)
              have HG := Lib.hid (HG.out.below hal)
              have HX := Lib.hid (HX.out.below hal)
              have A := Lib.hid (A.out.below hal)
              have HBW := Lib.hid (carry HBW hal)
              have C := Lib.hid (tri_new wn gv1 gv2 gv3)
              clear hal
              revert X
              revert HI
              revert HG
              revert HX
              revert A
              revert HBW
              revert C
              generalize (wn.alloc (.cells #[.int .i64 gv1, .int .i64 gv2, .int .i64 gv3] 26)) = WC
              generalize wn.heap.size = gC
              intro C HBW A HX HG HI X
              obtain ⟨c0, c1, c2, _⟩ := A.out.cells
              obtain ⟨d0, d1, d2, _⟩ := C.out.cells
              go_wp2
              go_roundw
              case rel => exact ⟨2, by omega, rfl, HI, X, HG, HX, HBW⟩
              case measure => simp [intOf]
            · go_wp2
              go_roundw
              case rel => exact ⟨2, by omega, rfl, HG, HX, HBW⟩
              case measure => simp [intOf]
      · have E1 := Lib.hid (fun W => agree_any r0 r1 r2 W)
        have E2 := Lib.hid (fun W => rAgree_any r0 r1 r2 W)
        have F1 := Lib.hid (fun W => renew_any r0 r1 r2 n W)
        have F2 := Lib.hid (fun W => rRenew_any r0 r1 r2 n W)
        have G1 := Lib.hid (fun W => renew_any r0 r1 r2 nn W)
        have G2 := Lib.hid (fun W => rRenew_any r0 r1 r2 nn W)
        revert G2
        revert G1
        revert F2
        revert F1
        revert E2
        revert E1
        generalize agB r0 r1 r2 = ag
        generalize rnV r0 r1 r2 n 1 = fv1
        generalize rnV r0 r1 r2 n 2 = fv2
        generalize rnV r0 r1 r2 n 3 = fv3
        generalize rnB r0 r1 r2 n = fb
        generalize rnV r0 r1 r2 nn 1 = gv1
        generalize rnV r0 r1 r2 nn 2 = gv2
        generalize rnV r0 r1 r2 nn 3 = gv3
        generalize rnB r0 r1 r2 nn = gb
        intro E1 E2 F1 F2 G1 G2
        have c0 : wo.cell? ⟨gg, 6, none⟩ = some (.int .i64 r0) := HG.out.cell 6 rfl
        have c1 : wo.cell? ⟨gg, 7, none⟩ = some (.int .i64 r1) := HG.out.cell 7 rfl
        have c2 : wo.cell? ⟨gg, 8, none⟩ = some (.int .i64 r2) := HG.out.cell 8 rfl
        go_upto_region 8 with fail
        clear c0 c1 c2
        have hal : Below wo.heap.size wo (wo.alloc (.cells #[.int .i64 r0, .int .i64 r1, .int .i64 r2] 26)) := by go_grown
        have X := Lib.hid (tri_new wo r0 r1 r2)
        have HG := Lib.hid (HG.out.below hal)
        have HX := Lib.hid (HX.out.below hal)
        have HBW := Lib.hid (carry HBW hal)
        clear hal
        revert X
        revert HX
        revert HG
        revert HBW
        generalize (wo.alloc (.cells #[.int .i64 r0, .int .i64 r1, .int .i64 r2] 26)) = W7
        generalize wo.heap.size = g18
        intro HBW HG HX X
        have HB : Hid (Below W7.heap.size W7 W7) := Lib.hid (Below.refl _ _)
        have HZ : Hid (W7.heap.size ≤ W7.heap.size) := Lib.hid (Nat.le_refl _)
        have HKP : Hid (∀ w', Below W7.heap.size W7 w' → w'.cell? ⟨g18, 0, none⟩ = some (.int .i64 r0) ∧ w'.cell? ⟨g18, 1, none⟩ = some (.int .i64 r1) ∧ w'.cell? ⟨g18, 2, none⟩ = some (.int .i64 r2)) := Lib.hid (fun w' h => by
          have c := (X.out.below h).cells
          exact ⟨c.1, c.2.1, c.2.2.1⟩)
        obtain ⟨k0, k1, k2⟩ := HKP.out _ HB.out
        go_cut [71] from 67 to 71 (fun sv wx => sv = .bool false ∧ Hid (Below W7.heap.size W7 wx))
        case first =>
          go_region_held3 (fun w' => w'.cell? ⟨g18, 0, none⟩ = some (.int .i64 r0) ∧ w'.cell? ⟨g18, 1, none⟩ = some (.int .i64 r1) ∧ w'.cell? ⟨g18, 2, none⟩ = some (.int .i64 r2))
            (first | (with_reducible exact HKP.out _ HB.out) | (exact HKP.out _ HB.out.drew) | (refine HKP.out _ (HB.out.trans (Below.mono (?_ : Below wa.heap.size wa _) HZ.out)); (go_grown; done)) | (refine HKP.out _ (HB.out.trans (Below.mono (?_ : Below wb.heap.size wb _) HZ.out)); (go_grown; done)))
            ((first | (go_at_call 21; refine (E1.out _).mono ?_; rintro e wa ⟨rfl, hb⟩; (first | (have HBB := step1 HB HZ hb) | (have HBB := step2 HB HZ hb) | (have HBB := stepD HB HZ hb) | (have HBB := stepG HB HZ (by go_grown) hb)); have HB := HBB.1; have HZ := HBB.2; clear HBB hb) | (go_at_call 22; refine (E2.out _).mono ?_; rintro e wb ⟨rfl, hb⟩; (first | (have HBB := step1 HB HZ hb) | (have HBB := step2 HB HZ hb) | (have HBB := stepD HB HZ hb) | (have HBB := stepG HB HZ (by go_grown) hb)); have HB := HBB.1; have HZ := HBB.2; clear HBB hb)))
          all_goals (go_wp2_with fail; go_meet; exact ⟨by simp, HB.out⟩)
        case' rest =>
          obtain ⟨rfl, hbl⟩ := hcut
          obtain ⟨W8, rfl⟩ : ∃ x : World, x = wc := ⟨_, rfl⟩
          clear k0 k1 k2 HKP HB HZ
          have X := Lib.hid (X.out.below hbl.out)
          have HG := Lib.hid (HG.out.below hbl.out)
          have HX := Lib.hid (HX.out.below hbl.out)
          have HBW := Lib.hid (carry HBW hbl.out)
          clear hbl
          go_wp2_with (go_at_call 11; refine (M3.out _).mono ?_; rintro e wp ⟨rfl, rfl⟩)
          have hal : Below W8.heap.size W8 (W8.alloc (.cells #[.int .i64 n, .int .i64 nn] 3)) := by go_grown
          have HI : Hid (Blk (W8.alloc (.cells #[.int .i64 n, .int .i64 nn] 3)) W8.heap.size #[.int .i64 n, .int .i64 nn] 3) := Lib.hid (heap_alloc_new _ _)
          have X := Lib.hid (X.out.below hal)
          have HX := Lib.hid (HX.out.below hal)
          have HG := Lib.hid (HG.out.below hal)
          have HBW := Lib.hid (carry HBW hal)
          clear hal
          revert HI
          revert X
          revert HX
          revert HG
          revert HBW
          generalize (W8.alloc (.cells #[.int .i64 n, .int .i64 nn] 3)) = W9
          generalize W8.heap.size = gi
          intro HBW HG HX X HI
          go_loopw [77] (fun kv wr => ∃ i : Int, (i = 0 ∨ i = 1 ∨ i = 2) ∧ kv = .int .i64 i ∧ Hid (Blk wr gi #[.int .i64 n, .int .i64 nn] 3) ∧ Hid (Tri wr g18 r0 r1 r2 26) ∧ Hid (Blk wr gg #[.int .i64 x1, .int .i64 x2, .int .i64 x3, .int .i64 e1, .int .i64 e2, .int .i64 e3, .int .i64 r0, .int .i64 r1, .int .i64 r2, .int .i64 m0, .int .i64 m1, .int .i64 m2] 26) ∧ Hid (Tri wr gx x1 x2 x3 26) ∧ Hid (Below w.heap.size w wr)) (fun kv _ => (2 - intOf kv).toNat)
          case atStart => exact ⟨0, by omega, rfl, HI, X, HG, HX, HBW⟩
          case round =>
            obtain ⟨j, hj, rfl, HI, X, HG, HX, HBW⟩ := hrel
            rcases hj with rfl | rfl | rfl
            · have d0 : wr.cell? ⟨gi, 0, none⟩ = some (.int .i64 n) := HI.out.cell 0 rfl
              obtain ⟨c0, c1, c2, _⟩ := X.out.cells
              go_upto_region 14 with (go_at_call 23; refine (F1.out _).mono ?_; rintro e wn ⟨rfl, hb⟩; (try have X := Lib.hid (X.out.below hb)); (try have A := Lib.hid (A.out.below hb)); (try have C := Lib.hid (C.out.below hb)); (try have HR := Lib.hid (HR.out.below hb)); (try have HX := Lib.hid (HX.out.below hb)); (try have HG := Lib.hid (HG.out.below hb)); (try have HI := Lib.hid (HI.out.below hb)); have HBW := Lib.hid (carry HBW hb); clear hb)
              clear c0 c1 c2
              have hal : Below wn.heap.size wn (wn.alloc (.cells #[.int .i64 fv1, .int .i64 fv2, .int .i64 fv3] 26)) := by go_grown
              have X := Lib.hid (X.out.below hal)
              have HI := Lib.hid (HI.out.below hal)
              have HG := Lib.hid (HG.out.below hal)
              have HX := Lib.hid (HX.out.below hal)
              have HBW := Lib.hid (carry HBW hal)
              have A := Lib.hid (tri_new wn fv1 fv2 fv3)
              clear hal
              revert X
              revert HI
              revert HG
              revert HX
              revert HBW
              revert A
              generalize (wn.alloc (.cells #[.int .i64 fv1, .int .i64 fv2, .int .i64 fv3] 26)) = WA
              generalize wn.heap.size = gA
              intro A HBW HX HG HI X
              obtain ⟨c0, c1, c2, _⟩ := X.out.cells
              go_upto_region 15 with (go_at_call 24; refine (F2.out _).mono ?_; rintro e wn ⟨rfl, hb⟩; (try have X := Lib.hid (X.out.below hb)); (try have A := Lib.hid (A.out.below hb)); (try have C := Lib.hid (C.out.below hb)); (try have HR := Lib.hid (HR.out.below hb)); (try have HX := Lib.hid (HX.out.below hb)); (try have HG := Lib.hid (HG.out.below hb)); (try have HI := Lib.hid (HI.out.below hb)); have HBW := Lib.hid (carry HBW hb); clear hb)
              clear c0 c1 c2
              have hal : Below wn.heap.size wn (wn.alloc (.cells #[.int .i64 fv1, .int .i64 fv2, .int .i64 fv3] 26)) := by go_grown
              have X := Lib.hid (X.out.below hal)
              have HI := Lib.hid (HI.out.below hal)
              have HG := Lib.hid (HG.out.below hal)
              have HX := Lib.hid (HX.out.below hal)
              have A := Lib.hid (A.out.below hal)
              have HBW := Lib.hid (carry HBW hal)
              have C := Lib.hid (tri_new wn fv1 fv2 fv3)
              clear hal
              revert X
              revert HI
              revert HG
              revert HX
              revert A
              revert HBW
              revert C
              generalize (wn.alloc (.cells #[.int .i64 fv1, .int .i64 fv2, .int .i64 fv3] 26)) = WC
              generalize wn.heap.size = gC
              intro C HBW A HX HG HI X
              obtain ⟨c0, c1, c2, _⟩ := A.out.cells
              obtain ⟨d0, d1, d2, _⟩ := C.out.cells
              go_wp2
              go_roundw
              case rel => exact ⟨1, by omega, rfl, HI, X, HG, HX, HBW⟩
              case measure => simp [intOf]
            · have d0 : wr.cell? ⟨gi, 1, none⟩ = some (.int .i64 nn) := HI.out.cell 1 rfl
              obtain ⟨c0, c1, c2, _⟩ := X.out.cells
              go_upto_region 14 with (go_at_call 23; refine (G1.out _).mono ?_; rintro e wn ⟨rfl, hb⟩; (try have X := Lib.hid (X.out.below hb)); (try have A := Lib.hid (A.out.below hb)); (try have C := Lib.hid (C.out.below hb)); (try have HR := Lib.hid (HR.out.below hb)); (try have HX := Lib.hid (HX.out.below hb)); (try have HG := Lib.hid (HG.out.below hb)); (try have HI := Lib.hid (HI.out.below hb)); have HBW := Lib.hid (carry HBW hb); clear hb)
              clear c0 c1 c2
              have hal : Below wn.heap.size wn (wn.alloc (.cells #[.int .i64 gv1, .int .i64 gv2, .int .i64 gv3] 26)) := by go_grown
              have X := Lib.hid (X.out.below hal)
              have HI := Lib.hid (HI.out.below hal)
              have HG := Lib.hid (HG.out.below hal)
              have HX := Lib.hid (HX.out.below hal)
              have HBW := Lib.hid (carry HBW hal)
              have A := Lib.hid (tri_new wn gv1 gv2 gv3)
              clear hal
              revert X
              revert HI
              revert HG
              revert HX
              revert HBW
              revert A
              generalize (wn.alloc (.cells #[.int .i64 gv1, .int .i64 gv2, .int .i64 gv3] 26)) = WA
              generalize wn.heap.size = gA
              intro A HBW HX HG HI X
              obtain ⟨c0, c1, c2, _⟩ := X.out.cells
              go_upto_region 15 with (go_at_call 24; refine (G2.out _).mono ?_; rintro e wn ⟨rfl, hb⟩; (try have X := Lib.hid (X.out.below hb)); (try have A := Lib.hid (A.out.below hb)); (try have C := Lib.hid (C.out.below hb)); (try have HR := Lib.hid (HR.out.below hb)); (try have HX := Lib.hid (HX.out.below hb)); (try have HG := Lib.hid (HG.out.below hb)); (try have HI := Lib.hid (HI.out.below hb)); have HBW := Lib.hid (carry HBW hb); clear hb)
              clear c0 c1 c2
              have hal : Below wn.heap.size wn (wn.alloc (.cells #[.int .i64 gv1, .int .i64 gv2, .int .i64 gv3] 26)) := by go_grown
              have X := Lib.hid (X.out.below hal)
              have HI := Lib.hid (HI.out.below hal)
              have HG := Lib.hid (HG.out.below hal)
              have HX := Lib.hid (HX.out.below hal)
              have A := Lib.hid (A.out.below hal)
              have HBW := Lib.hid (carry HBW hal)
              have C := Lib.hid (tri_new wn gv1 gv2 gv3)
              clear hal
              revert X
              revert HI
              revert HG
              revert HX
              revert A
              revert HBW
              revert C
              generalize (wn.alloc (.cells #[.int .i64 gv1, .int .i64 gv2, .int .i64 gv3] 26)) = WC
              generalize wn.heap.size = gC
              intro C HBW A HX HG HI X
              obtain ⟨c0, c1, c2, _⟩ := A.out.cells
              obtain ⟨d0, d1, d2, _⟩ := C.out.cells
              go_wp2
              go_roundw
              case rel => exact ⟨2, by omega, rfl, HI, X, HG, HX, HBW⟩
              case measure => simp [intOf]
            · go_wp2
              go_roundw
              case rel => exact ⟨3, by omega, rfl, HG, HX, HBW⟩
              case measure => simp [intOf]
      · have E1 := Lib.hid (fun W => agree_any m0 m1 m2 W)
        have E2 := Lib.hid (fun W => rAgree_any m0 m1 m2 W)
        have F1 := Lib.hid (fun W => renew_any m0 m1 m2 n W)
        have F2 := Lib.hid (fun W => rRenew_any m0 m1 m2 n W)
        have G1 := Lib.hid (fun W => renew_any m0 m1 m2 nn W)
        have G2 := Lib.hid (fun W => rRenew_any m0 m1 m2 nn W)
        revert G2
        revert G1
        revert F2
        revert F1
        revert E2
        revert E1
        generalize agB m0 m1 m2 = ag
        generalize rnV m0 m1 m2 n 1 = fv1
        generalize rnV m0 m1 m2 n 2 = fv2
        generalize rnV m0 m1 m2 n 3 = fv3
        generalize rnB m0 m1 m2 n = fb
        generalize rnV m0 m1 m2 nn 1 = gv1
        generalize rnV m0 m1 m2 nn 2 = gv2
        generalize rnV m0 m1 m2 nn 3 = gv3
        generalize rnB m0 m1 m2 nn = gb
        intro E1 E2 F1 F2 G1 G2
        have c0 : wo.cell? ⟨gg, 9, none⟩ = some (.int .i64 m0) := HG.out.cell 9 rfl
        have c1 : wo.cell? ⟨gg, 10, none⟩ = some (.int .i64 m1) := HG.out.cell 10 rfl
        have c2 : wo.cell? ⟨gg, 11, none⟩ = some (.int .i64 m2) := HG.out.cell 11 rfl
        go_upto_region 8 with fail
        clear c0 c1 c2
        have hal : Below wo.heap.size wo (wo.alloc (.cells #[.int .i64 m0, .int .i64 m1, .int .i64 m2] 26)) := by go_grown
        have X := Lib.hid (tri_new wo m0 m1 m2)
        have HG := Lib.hid (HG.out.below hal)
        have HX := Lib.hid (HX.out.below hal)
        have HBW := Lib.hid (carry HBW hal)
        clear hal
        revert X
        revert HX
        revert HG
        revert HBW
        generalize (wo.alloc (.cells #[.int .i64 m0, .int .i64 m1, .int .i64 m2] 26)) = W7
        generalize wo.heap.size = g18
        intro HBW HG HX X
        have HB : Hid (Below W7.heap.size W7 W7) := Lib.hid (Below.refl _ _)
        have HZ : Hid (W7.heap.size ≤ W7.heap.size) := Lib.hid (Nat.le_refl _)
        have HKP : Hid (∀ w', Below W7.heap.size W7 w' → w'.cell? ⟨g18, 0, none⟩ = some (.int .i64 m0) ∧ w'.cell? ⟨g18, 1, none⟩ = some (.int .i64 m1) ∧ w'.cell? ⟨g18, 2, none⟩ = some (.int .i64 m2)) := Lib.hid (fun w' h => by
          have c := (X.out.below h).cells
          exact ⟨c.1, c.2.1, c.2.2.1⟩)
        obtain ⟨k0, k1, k2⟩ := HKP.out _ HB.out
        go_cut [71] from 67 to 71 (fun sv wx => sv = .bool false ∧ Hid (Below W7.heap.size W7 wx))
        case first =>
          go_region_held3 (fun w' => w'.cell? ⟨g18, 0, none⟩ = some (.int .i64 m0) ∧ w'.cell? ⟨g18, 1, none⟩ = some (.int .i64 m1) ∧ w'.cell? ⟨g18, 2, none⟩ = some (.int .i64 m2))
            (first | (with_reducible exact HKP.out _ HB.out) | (exact HKP.out _ HB.out.drew) | (refine HKP.out _ (HB.out.trans (Below.mono (?_ : Below wa.heap.size wa _) HZ.out)); (go_grown; done)) | (refine HKP.out _ (HB.out.trans (Below.mono (?_ : Below wb.heap.size wb _) HZ.out)); (go_grown; done)))
            ((first | (go_at_call 21; refine (E1.out _).mono ?_; rintro e wa ⟨rfl, hb⟩; (first | (have HBB := step1 HB HZ hb) | (have HBB := step2 HB HZ hb) | (have HBB := stepD HB HZ hb) | (have HBB := stepG HB HZ (by go_grown) hb)); have HB := HBB.1; have HZ := HBB.2; clear HBB hb) | (go_at_call 22; refine (E2.out _).mono ?_; rintro e wb ⟨rfl, hb⟩; (first | (have HBB := step1 HB HZ hb) | (have HBB := step2 HB HZ hb) | (have HBB := stepD HB HZ hb) | (have HBB := stepG HB HZ (by go_grown) hb)); have HB := HBB.1; have HZ := HBB.2; clear HBB hb)))
          all_goals (go_wp2_with fail; go_meet; exact ⟨by simp, HB.out⟩)
        case' rest =>
          obtain ⟨rfl, hbl⟩ := hcut
          obtain ⟨W8, rfl⟩ : ∃ x : World, x = wc := ⟨_, rfl⟩
          clear k0 k1 k2 HKP HB HZ
          have X := Lib.hid (X.out.below hbl.out)
          have HG := Lib.hid (HG.out.below hbl.out)
          have HX := Lib.hid (HX.out.below hbl.out)
          have HBW := Lib.hid (carry HBW hbl.out)
          clear hbl
          go_wp2_with (go_at_call 11; refine (M3.out _).mono ?_; rintro e wp ⟨rfl, rfl⟩)
          have hal : Below W8.heap.size W8 (W8.alloc (.cells #[.int .i64 n, .int .i64 nn] 3)) := by go_grown
          have HI : Hid (Blk (W8.alloc (.cells #[.int .i64 n, .int .i64 nn] 3)) W8.heap.size #[.int .i64 n, .int .i64 nn] 3) := Lib.hid (heap_alloc_new _ _)
          have X := Lib.hid (X.out.below hal)
          have HX := Lib.hid (HX.out.below hal)
          have HG := Lib.hid (HG.out.below hal)
          have HBW := Lib.hid (carry HBW hal)
          clear hal
          revert HI
          revert X
          revert HX
          revert HG
          revert HBW
          generalize (W8.alloc (.cells #[.int .i64 n, .int .i64 nn] 3)) = W9
          generalize W8.heap.size = gi
          intro HBW HG HX X HI
          go_loopw [77] (fun kv wr => ∃ i : Int, (i = 0 ∨ i = 1 ∨ i = 2) ∧ kv = .int .i64 i ∧ Hid (Blk wr gi #[.int .i64 n, .int .i64 nn] 3) ∧ Hid (Tri wr g18 m0 m1 m2 26) ∧ Hid (Blk wr gg #[.int .i64 x1, .int .i64 x2, .int .i64 x3, .int .i64 e1, .int .i64 e2, .int .i64 e3, .int .i64 r0, .int .i64 r1, .int .i64 r2, .int .i64 m0, .int .i64 m1, .int .i64 m2] 26) ∧ Hid (Tri wr gx x1 x2 x3 26) ∧ Hid (Below w.heap.size w wr)) (fun kv _ => (2 - intOf kv).toNat)
          case atStart => exact ⟨0, by omega, rfl, HI, X, HG, HX, HBW⟩
          case round =>
            obtain ⟨j, hj, rfl, HI, X, HG, HX, HBW⟩ := hrel
            rcases hj with rfl | rfl | rfl
            · have d0 : wr.cell? ⟨gi, 0, none⟩ = some (.int .i64 n) := HI.out.cell 0 rfl
              obtain ⟨c0, c1, c2, _⟩ := X.out.cells
              go_upto_region 14 with (go_at_call 23; refine (F1.out _).mono ?_; rintro e wn ⟨rfl, hb⟩; (try have X := Lib.hid (X.out.below hb)); (try have A := Lib.hid (A.out.below hb)); (try have C := Lib.hid (C.out.below hb)); (try have HR := Lib.hid (HR.out.below hb)); (try have HX := Lib.hid (HX.out.below hb)); (try have HG := Lib.hid (HG.out.below hb)); (try have HI := Lib.hid (HI.out.below hb)); have HBW := Lib.hid (carry HBW hb); clear hb)
              clear c0 c1 c2
              have hal : Below wn.heap.size wn (wn.alloc (.cells #[.int .i64 fv1, .int .i64 fv2, .int .i64 fv3] 26)) := by go_grown
              have X := Lib.hid (X.out.below hal)
              have HI := Lib.hid (HI.out.below hal)
              have HG := Lib.hid (HG.out.below hal)
              have HX := Lib.hid (HX.out.below hal)
              have HBW := Lib.hid (carry HBW hal)
              have A := Lib.hid (tri_new wn fv1 fv2 fv3)
              clear hal
              revert X
              revert HI
              revert HG
              revert HX
              revert HBW
              revert A
              generalize (wn.alloc (.cells #[.int .i64 fv1, .int .i64 fv2, .int .i64 fv3] 26)) = WA
              generalize wn.heap.size = gA
              intro A HBW HX HG HI X
              obtain ⟨c0, c1, c2, _⟩ := X.out.cells
              go_upto_region 15 with (go_at_call 24; refine (F2.out _).mono ?_; rintro e wn ⟨rfl, hb⟩; (try have X := Lib.hid (X.out.below hb)); (try have A := Lib.hid (A.out.below hb)); (try have C := Lib.hid (C.out.below hb)); (try have HR := Lib.hid (HR.out.below hb)); (try have HX := Lib.hid (HX.out.below hb)); (try have HG := Lib.hid (HG.out.below hb)); (try have HI := Lib.hid (HI.out.below hb)); have HBW := Lib.hid (carry HBW hb); clear hb)
              clear c0 c1 c2
              have hal : Below wn.heap.size wn (wn.alloc (.cells #[.int .i64 fv1, .int .i64 fv2, .int .i64 fv3] 26)) := by go_grown
              have X := Lib.hid (X.out.below hal)
              have HI := Lib.hid (HI.out.below hal)
              have HG := Lib.hid (HG.out.below hal)
              have HX := Lib.hid (HX.out.below hal)
              have A := Lib.hid (A.out.below hal)
              have HBW := Lib.hid (carry HBW hal)
              have C := Lib.hid (tri_new wn fv1 fv2 fv3)
              clear hal
              revert X
              revert HI
              revert HG
              revert HX
              revert A
              revert HBW
              revert C
              generalize (wn.alloc (.cells #[.int .i64 fv1, .int .i64 fv2, .int .i64 fv3] 26)) = WC
              generalize wn.heap.size = gC
              intro C HBW A HX HG HI X
              obtain ⟨c0, c1, c2, _⟩ := A.out.cells
              obtain ⟨d0, d1, d2, _⟩ := C.out.cells
              go_wp2
              go_roundw
              case rel => exact ⟨1, by omega, rfl, HI, X, HG, HX, HBW⟩
              case measure => simp [intOf]
            · have d0 : wr.cell? ⟨gi, 1, none⟩ = some (.int .i64 nn) := HI.out.cell 1 rfl
              obtain ⟨c0, c1, c2, _⟩ := X.out.cells
              go_upto_region 14 with (go_at_call 23; refine (G1.out _).mono ?_; rintro e wn ⟨rfl, hb⟩; (try have X := Lib.hid (X.out.below hb)); (try have A := Lib.hid (A.out.below hb)); (try have C := Lib.hid (C.out.below hb)); (try have HR := Lib.hid (HR.out.below hb)); (try have HX := Lib.hid (HX.out.below hb)); (try have HG := Lib.hid (HG.out.below hb)); (try have HI := Lib.hid (HI.out.below hb)); have HBW := Lib.hid (carry HBW hb); clear hb)
              clear c0 c1 c2
              have hal : Below wn.heap.size wn (wn.alloc (.cells #[.int .i64 gv1, .int .i64 gv2, .int .i64 gv3] 26)) := by go_grown
              have X := Lib.hid (X.out.below hal)
              have HI := Lib.hid (HI.out.below hal)
              have HG := Lib.hid (HG.out.below hal)
              have HX := Lib.hid (HX.out.below hal)
              have HBW := Lib.hid (carry HBW hal)
              have A := Lib.hid (tri_new wn gv1 gv2 gv3)
              clear hal
              revert X
              revert HI
              revert HG
              revert HX
              revert HBW
              revert A
              generalize (wn.alloc (.cells #[.int .i64 gv1, .int .i64 gv2, .int .i64 gv3] 26)) = WA
              generalize wn.heap.size = gA
              intro A HBW HX HG HI X
              obtain ⟨c0, c1, c2, _⟩ := X.out.cells
              go_upto_region 15 with (go_at_call 24; refine (G2.out _).mono ?_; rintro e wn ⟨rfl, hb⟩; (try have X := Lib.hid (X.out.below hb)); (try have A := Lib.hid (A.out.below hb)); (try have C := Lib.hid (C.out.below hb)); (try have HR := Lib.hid (HR.out.below hb)); (try have HX := Lib.hid (HX.out.below hb)); (try have HG := Lib.hid (HG.out.below hb)); (try have HI := Lib.hid (HI.out.below hb)); have HBW := Lib.hid (carry HBW hb); clear hb)
              clear c0 c1 c2
              have hal : Below wn.heap.size wn (wn.alloc (.cells #[.int .i64 gv1, .int .i64 gv2, .int .i64 gv3] 26)) := by go_grown
              have X := Lib.hid (X.out.below hal)
              have HI := Lib.hid (HI.out.below hal)
              have HG := Lib.hid (HG.out.below hal)
              have HX := Lib.hid (HX.out.below hal)
              have A := Lib.hid (A.out.below hal)
              have HBW := Lib.hid (carry HBW hal)
              have C := Lib.hid (tri_new wn gv1 gv2 gv3)
              clear hal
              revert X
              revert HI
              revert HG
              revert HX
              revert A
              revert HBW
              revert C
              generalize (wn.alloc (.cells #[.int .i64 gv1, .int .i64 gv2, .int .i64 gv3] 26)) = WC
              generalize wn.heap.size = gC
              intro C HBW A HX HG HI X
              obtain ⟨c0, c1, c2, _⟩ := A.out.cells
              obtain ⟨d0, d1, d2, _⟩ := C.out.cells
              go_wp2
              go_roundw
              case rel => exact ⟨2, by omega, rfl, HI, X, HG, HX, HBW⟩
              case measure => simp [intOf]
            · go_wp2
              go_roundw
              case rel => exact ⟨4, by omega, rfl, HG, HX, HBW⟩
              case measure => simp [intOf]
      · obtain ⟨c0, c1, c2, _⟩ := HX.out.cells
        go_wp2_with (go_at_call 21; refine (HA.out _).mono ?_; rintro e wn ⟨rfl, hb⟩; (try have X := Lib.hid (X.out.below hb)); (try have A := Lib.hid (A.out.below hb)); (try have C := Lib.hid (C.out.below hb)); (try have HR := Lib.hid (HR.out.below hb)); (try have HX := Lib.hid (HX.out.below hb)); (try have HG := Lib.hid (HG.out.below hb)); (try have HI := Lib.hid (HI.out.below hb)); have HBW := Lib.hid (carry HBW hb); clear hb)
        go_ret
        exact ⟨rfl, HBW.out⟩

end Go.Proofs.Ytkagmbmkopdekaa
