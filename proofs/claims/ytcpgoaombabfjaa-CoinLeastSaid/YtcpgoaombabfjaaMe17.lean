/- The law CoinLeast, walked. Condition: the slices read as ints. The given statement CoinLeast: whatever the input, the law returns true and leaves its arguments as they were. No condition. -/
import Derived.Test.YtcpgoaombabfjaaMe16
import Derived.Test.YtcpgoaombabfjaaMe15
import Derived.BigQuiet
namespace Go.Proofs.Ytcpgoaombabfjaa
open Go Go.RowKit
attribute [local go_sem ↓] appI_rw

def llCh : List (Nat × Nat) := [(3, 1), (3, 2), (6, 4), (6, 5), (7, 3), (7, 6), (8, 7), (9, 0), (9, 8), (10, 9)]

set_option maxRecDepth 100000 in
set_option maxHeartbeats 8000000 in
theorem coinLeast_any {W : World} {ao bo co : Option Addr} {n m k cap dap eap : Nat} {l s t : List Int} (hl : Ix W (.slice ao n cap) l) (hs : Ix W (.slice bo m dap) s) (ht : Ix W (.slice co k eap) t) :
    Calls Try.prog 6 #[.agg #[.slice ao n cap, .slice bo m dap, .slice co k eap]] W fun e w' => e = .returned (.bool true) ∧ Below W.heap.size W w' := by
  have hb : Below W.heap.size W (W.alloc (.cells #[.slice ao n cap, .slice bo m dap, .slice co k eap] 24)) := (Below.refl _ _).alloc (Nat.le_refl _) _
  have x0 : CsBox (W.alloc (.cells #[.slice ao n cap, .slice bo m dap, .slice co k eap] 24)) W.heap.size (.slice ao n cap) (.slice bo m dap) (.slice co k eap) := heap_alloc_new _ _
  have HBX := Lib.hid hb
  have HS := Lib.hid (sanity_any (W := W.alloc (.cells #[.slice ao n cap, .slice bo m dap, .slice co k eap] 24)))
  have HCC : Hid (∀ w, Below (W.alloc (.cells #[.slice ao n cap, .slice bo m dap, .slice co k eap] 24)).heap.size (W.alloc (.cells #[.slice ao n cap, .slice bo m dap, .slice co k eap] 24)) w → w.cell? ⟨W.heap.size, 0, none⟩ = some (.slice ao n cap) ∧ w.cell? ⟨W.heap.size, 1, none⟩ = some (.slice bo m dap) ∧ w.cell? ⟨W.heap.size, 2, none⟩ = some (.slice co k eap)) := Lib.hid (fun w hb => by
    have h : CsBox w W.heap.size (.slice ao n cap) (.slice bo m dap) (.slice co k eap) := (hb.block _ (Array.getElem?_eq_some_iff.1 x0).1).trans x0
    exact ⟨cell_of_row _ _ _ _ _ _ h, cell_of_row _ _ _ _ _ _ h, cell_of_row _ _ _ _ _ _ h⟩)
  have HCA := Lib.hid (fun w (hbw : Below (W.alloc (.cells #[.slice ao n cap, .slice bo m dap, .slice co k eap] 24)).heap.size (W.alloc (.cells #[.slice ao n cap, .slice bo m dap, .slice co k eap] 24)) w) => case_any (W := w) (hl.below (hb.trans (hbw.mono hb.size))) (hs.below (hb.trans (hbw.mono hb.size))) (ht.below (hb.trans (hbw.mono hb.size))))
  clear hl hs ht hb x0
  go_enter Try.func6, Try.ntmps6
  go_wp2_with (first
    | (go_at_call 9; (with_reducible refine HS.out.mono ?_); rintro e w1 ⟨rfl, hb1⟩; have HB1 := Lib.hid hb1; obtain ⟨c0, c1, c2⟩ := HCC.out _ hb1; clear hb1)
    | (go_at_call 10; (with_reducible refine (HCA.out _ HB1.out).mono ?_); rintro e w2 ⟨ar, nr, cr, r, cn, cd, so, ns, cs, row, tt, nt, ct, row2, rfl, hix, hok, hrw, hb2⟩; have HIX := Lib.hid hix; have HOK := Lib.hid hok; have HRW := Lib.hid hrw; have HB2 := Lib.hid (HBX.out.trans ((HB1.out.trans (hb2.mono HB1.out.size)).mono HBX.out.size)); clear hix hok hrw hb2 c0 c1 c2))
  have HD0 : Hid (DBox (w2.alloc (.cells #[.int .i64 4, .slice ar nr cr, .slice none 0 0, .int .i64 0, .int .i64 (cn : Int), .int .i64 (cd : Int)] 30)) w2.heap.size 4 (.slice ar nr cr) (cn : Int) (cd : Int)) := Lib.hid (dbox_is w2 4 (.slice ar nr cr) cn cd)
  have HB0 : Hid (Below W.heap.size W (w2.alloc (.cells #[.int .i64 4, .slice ar nr cr, .slice none 0 0, .int .i64 0, .int .i64 (cn : Int), .int .i64 (cd : Int)] 30))) := Lib.hid (HB2.out.alloc HB2.out.size _)
  have hbd := dbox_below w2 4 (.slice ar nr cr) cn cd
  have HI0 : Hid (Ix (w2.alloc (.cells #[.int .i64 4, .slice ar nr cr, .slice none 0 0, .int .i64 0, .int .i64 (cn : Int), .int .i64 (cd : Int)] 30)) (.slice ar nr cr) r ∧ Ix (w2.alloc (.cells #[.int .i64 4, .slice ar nr cr, .slice none 0 0, .int .i64 0, .int .i64 (cn : Int), .int .i64 (cd : Int)] 30)) (.slice so ns cs) row ∧ Ix (w2.alloc (.cells #[.int .i64 4, .slice ar nr cr, .slice none 0 0, .int .i64 0, .int .i64 (cn : Int), .int .i64 (cd : Int)] 30)) (.slice tt nt ct) row2) := Lib.hid ⟨HIX.out.1.below hbd, HIX.out.2.1.below hbd, HIX.out.2.2.below hbd⟩
  clear hbd
  generalize (w2.alloc (.cells #[.int .i64 4, .slice ar nr cr, .slice none 0 0, .int .i64 0, .int .i64 (cn : Int), .int .i64 (cd : Int)] 30)) = W0 at HD0 HB0 HI0 ⊢
  generalize w2.heap.size = Bd at HD0 ⊢
  have HNR := Lib.hid HI0.out.1.size
  have hn2 : 2 ≤ nr := by have := HOK.out.l2; have := HNR.out; omega
  have hn4 : nr ≤ 4 := by have := HOK.out.l4; have := HNR.out; omega
  have HRR := Lib.hid HOK.out.rr
  clear HIX HB2 HB1 HS HCA HCC HBX
  obtain ⟨S, hS⟩ : ∃ S, S = unV r row := ⟨_, rfl⟩
  obtain ⟨U, hU⟩ : ∃ U, U = unV r row2 := ⟨_, rfl⟩
  have hfs := HRW.out.1.fi
  have hft := HRW.out.2.fi
  have HLS : Hid (S.length = r.length ∧ U.length = r.length) := Lib.hid ⟨by rw [hS]; exact unV_len hfs, by rw [hU]; exact unV_len hft⟩
  have HIN : Hid ((∀ k, 0 ≤ S.getD k 0 ∧ S.getD k 0 ≤ 1048575) ∧ (∀ k, 0 ≤ U.getD k 0 ∧ U.getD k 0 ≤ 1048575)) := Lib.hid ⟨by rw [hS]; exact unV_in hfs, by rw [hU]; exact unV_in hft⟩
  have HTG := Lib.hid (tog_in HOK.out.pr HIN.out.1 HIN.out.2)
  have HPV : Hid (prfV r row row2 = (best r S U nr).1) := Lib.hid (by unfold prfV prfB; rw [HOK.out.pr, hfs, hft, Bool.true_and, Bool.true_and, if_pos rfl, ← hS, ← hU, ← HNR.out])
  have HNX : Hid (∀ K, K < nr → (nxB r row (K : Int) = decide (0 < r.getD K 0) ∧ (0 < r.getD K 0 → nxV r row (K : Int) = mor S K)) ∧ (nxB r row2 (K : Int) = decide (0 < r.getD K 0) ∧ (0 < r.getD K 0 → nxV r row2 (K : Int) = mor U K))) := Lib.hid (fun K hK => by
    have h1 := nx_row HOK.out HRW.out.1 (K := K) (by have := HNR.out; omega)
    have h2 := nx_row HOK.out HRW.out.2 (K := K) (by have := HNR.out; omega)
    rw [← hS] at h1
    rw [← hU] at h2
    exact ⟨h1, h2⟩)
  have HUM : Hid (∀ K, uneV r (mor S K) = unev r (mor S K) ∧ uneV r (mor U K) = unev r (mor U K)) := Lib.hid (fun K => by rw [hS, hU]; exact ⟨une_mor HOK.out HRW.out.1 K, une_mor HOK.out HRW.out.2 K⟩)
  clear hfs hft hS hU
  have HC1 : Hid (∀ w (K : Nat), Below W0.heap.size W0 w → K < nr → Calls Try.prog 15 #[DV 4 (.slice ar nr cr) (cn : Int) (cd : Int), .slice so ns cs, .int .i64 (K : Int)] w fun e w2 => ∃ ao n cap, e = .returned (.tuple #[.slice ao n cap, .bool (decide (0 < r.getD K 0))]) ∧ (0 < r.getD K 0 → OwI w2 w.heap.size (.slice ao n cap) n (mor S K)) ∧ Below w.heap.size w w2) := Lib.hid (fun w K hb hK => by
    have h := next_any (HI0.out.1.below hb) (HI0.out.2.1.below hb) (by have := HOK.out.l4; omega) 4 (cn : Int) (cd : Int) (K : Int)
    rw [(HNX.out K hK).1.1] at h
    refine h.mono fun e w2 h => ?_
    obtain ⟨ao, n, cap, h1, h2, h3⟩ := h
    refine ⟨ao, n, cap, h1, fun hp => ?_, h3⟩
    rw [(HNX.out K hK).1.2 hp] at h2
    exact h2)
  have HC2 : Hid (∀ w (K : Nat), Below W0.heap.size W0 w → K < nr → Calls Try.prog 15 #[DV 4 (.slice ar nr cr) (cn : Int) (cd : Int), .slice tt nt ct, .int .i64 (K : Int)] w fun e w2 => ∃ ao n cap, e = .returned (.tuple #[.slice ao n cap, .bool (decide (0 < r.getD K 0))]) ∧ (0 < r.getD K 0 → OwI w2 w.heap.size (.slice ao n cap) n (mor U K)) ∧ Below w.heap.size w w2) := Lib.hid (fun w K hb hK => by
    have h := next_any (HI0.out.1.below hb) (HI0.out.2.2.below hb) (by have := HOK.out.l4; omega) 4 (cn : Int) (cd : Int) (K : Int)
    rw [(HNX.out K hK).2.1] at h
    refine h.mono fun e w2 h => ?_
    obtain ⟨ao, n, cap, h1, h2, h3⟩ := h
    refine ⟨ao, n, cap, h1, fun hp => ?_, h3⟩
    rw [(HNX.out K hK).2.2 hp] at h2
    exact h2)
  have HU1 : Hid (∀ w (K : Nat) ao n cap, Below W0.heap.size W0 w → Ix w (.slice ao n cap) (mor S K) → Calls Try.prog 12 #[DV 4 (.slice ar nr cr) (cn : Int) (cd : Int), .slice ao n cap] w fun e w2 => e = .returned (.int .i64 (unev r (mor S K))) ∧ Below w.heap.size w w2) := Lib.hid (fun w K ao n cap hb hx => by
    have h := uneven_any (HI0.out.1.below hb) hx (by have := HOK.out.l4; omega) 4 (cn : Int) (cd : Int)
    rwa [(HUM.out K).1] at h)
  have HU2 : Hid (∀ w (K : Nat) ao n cap, Below W0.heap.size W0 w → Ix w (.slice ao n cap) (mor U K) → Calls Try.prog 12 #[DV 4 (.slice ar nr cr) (cn : Int) (cd : Int), .slice ao n cap] w fun e w2 => e = .returned (.int .i64 (unev r (mor U K))) ∧ Below w.heap.size w w2) := Lib.hid (fun w K ao n cap hb hx => by
    have h := uneven_any (HI0.out.1.below hb) hx (by have := HOK.out.l4; omega) 4 (cn : Int) (cd : Int)
    rwa [(HUM.out K).2] at h)
  go_loopw [7, 8, 9, 10, 11, 12, 13, 28] (fun ov sv _ _ _ _ _ kv wr => ∃ (k : Nat) (vO vS : Value) (n : Nat), k ≤ nr ∧ kv = .int .i64 (k : Nat) ∧ ov = vO ∧ sv = vS ∧ n ≤ k ∧ Hid (TwO W0 wr W0.heap.size vO n (asI (opN r k)) vS n ((opN r k).map (tog r S U)))) (fun _ _ _ _ _ _ _ kv _ => nr - (intOf kv).toNat)
  case atStart => exact ⟨0, _, _, 0, by omega, rfl, rfl, rfl, by omega, Lib.hid ⟨World.ownsRow_nil _ _ _ _, World.ownsRow_nil _ _ _ _, fun g h => by simp [Value.ownBlock] at h, Below.refl _ _, Nat.le_refl _⟩⟩
  case round =>
    obtain ⟨w, hw⟩ : ∃ w, w = wr := ⟨_, rfl⟩
    subst hw
    obtain ⟨k, vO, vS, n, hk, rfl, rfl, rfl, hnk, HO⟩ := hrel
    obtain ⟨aO, cO, rfl⟩ := slice_of_owns HO.out.o
    obtain ⟨aS, cS, rfl⟩ := slice_of_owns HO.out.p
    have HCL : Hid (∀ w', Below w.heap.size w w' → w'.cell? ⟨Bd, 0, none⟩ = some (.int .i64 4) ∧ w'.cell? ⟨Bd, 1, none⟩ = some (.slice ar nr cr) ∧ w'.cell? ⟨Bd, 2, none⟩ = some (.slice none 0 0) ∧ w'.cell? ⟨Bd, 3, none⟩ = some (.int .i64 0) ∧ w'.cell? ⟨Bd, 4, none⟩ = some (.int .i64 (cn : Int)) ∧ w'.cell? ⟨Bd, 5, none⟩ = some (.int .i64 (cd : Int))) := Lib.hid (fun w' hb => (HD0.out.below (HO.out.bl.trans (hb.mono HO.out.lt))).cells)
    have HBW : Hid (∀ w', Below w.heap.size w w' → Below W0.heap.size W0 w') := Lib.hid (fun w' hb => HO.out.bl.trans (hb.mono HO.out.lt))
    obtain ⟨d0, d1, d2, d3, d4, d5⟩ := HCL.out w (Below.refl _ _)
    by_cases hkm : k = nr
    · subst hkm
      have HLEN := Lib.hid (owI_len HO.out.o)
      have HOX : Hid (Ix w (.slice aO n cO) (asI (opN r k))) := Lib.hid (HO.out.o.ix (by omega) (fun j => by have := op_fit r k j; exact ⟨by omega, by omega⟩))
      have HSX : Hid (Ix w (.slice aS n cS) ((opN r k).map (tog r S U))) := Lib.hid (HO.out.p.ix (by omega) (fun j => by have := map_fit HTG.out (opN r k) j; exact ⟨by omega, by omega⟩))
      have HBD : Hid (Below W0.heap.size W0 w) := Lib.hid HO.out.bl
      have HLE := least_is r S U k
      have hfit := ls_fit r S U k
      rw [← HPV.out] at HLE
      have HFIT := Lib.hid hfit
      obtain ⟨o, ho⟩ : ∃ o, o = opN r k := ⟨_, rfl⟩
      rw [← ho] at HLEN HOX HSX HLE HFIT
      have hno : n = o.length := by rw [HLEN.out]; simp [asI]
      rw [← hno] at HLE
      have HNO := Lib.hid hno
      have HLEA := Lib.hid HLE
      obtain ⟨f, hf⟩ : ∃ f, f = tog r S U := ⟨_, rfl⟩
      rw [← hf] at HSX
      have HF := Lib.hid hf
      clear HO HLEN ho hno hfit HLE hf HCL HC1 HC2 HU1 HU2 HNX HUM HPV
      go_wp2
      clear d0 d1 d2 d3 d4 d5
      go_loopw [14, 15, 16, 17, 76, 81] (fun qv _ _ _ iv _ w1 => ∃ (i : Nat) (vQ : Value) (q : Nat), i ≤ n ∧ iv = .int .i64 (i : Nat) ∧ qv = vQ ∧ Hid (OwL w w1 w.heap.size vQ q (asI (lsL r S U o i)) ∧ q ≤ i)) (fun _ _ _ _ iv _ _ => n - (intOf iv).toNat)
      case atStart => exact ⟨0, _, 0, by omega, rfl, rfl, Lib.hid ⟨⟨World.ownsRow_nil _ _ _ _, Below.refl _ _, Nat.le_refl _⟩, Nat.le_refl _⟩⟩
      case round =>
        obtain ⟨w1, hw⟩ : ∃ w, w = wr := ⟨_, rfl⟩
        subst hw
        obtain ⟨i, vQ, q, hi, rfl, rfl, HQ⟩ := hrel
        obtain ⟨aQ, cQ, rfl⟩ := slice_of_owns HQ.out.1.o
        by_cases hin : i = n
        · subst hin
          have HBA : Hid (∀ w', Below w1.heap.size w1 w' → Below W0.heap.size W0 w') := Lib.hid (fun w' hb => HBD.out.trans ((HQ.out.1.bl.trans (hb.mono HQ.out.1.lt)).mono HBD.out.size))
          have HDC : Hid (∀ w', Below w1.heap.size w1 w' → w'.cell? ⟨Bd, 0, none⟩ = some (.int .i64 4) ∧ w'.cell? ⟨Bd, 1, none⟩ = some (.slice ar k cr) ∧ w'.cell? ⟨Bd, 2, none⟩ = some (.slice none 0 0) ∧ w'.cell? ⟨Bd, 3, none⟩ = some (.int .i64 0) ∧ w'.cell? ⟨Bd, 4, none⟩ = some (.int .i64 (cn : Int)) ∧ w'.cell? ⟨Bd, 5, none⟩ = some (.int .i64 (cd : Int))) := Lib.hid (fun w' hb => (HD0.out.below (HBA.out w' hb)).cells)
          have HWX : Hid (Ix w1 (.slice aQ q cQ) (prfV r row row2)) := Lib.hid (by
            rw [← HLEA.out]
            exact HQ.out.1.o.ix (by have := HQ.out.2; omega) (fun j => by have := HFIT.out i j; exact ⟨by omega, by omega⟩))
          have HP : Hid (∀ w', Below w1.heap.size w1 w' → Calls Try.prog 18 #[DV 4 (.slice ar k cr) (cn : Int) (cd : Int), .slice so ns cs, .slice tt nt ct] w' fun e w2 => ∃ ao n cap, e = .returned (.slice ao n cap) ∧ Ix w2 (.slice ao n cap) (prfV r row row2) ∧ Below w'.heap.size w' w2) := Lib.hid (fun w' hb => by
            have h := preferred_any (HI0.out.1.below (HBA.out w' hb)) (HI0.out.2.1.below (HBA.out w' hb)) (HI0.out.2.2.below (HBA.out w' hb)) (by have := HOK.out.l4; omega) 4 (cn : Int) (cd : Int)
            refine h.mono fun e w2 h => ?_
            obtain ⟨ao, n, cap, h1, h2, h3⟩ := h
            exact ⟨ao, n, cap, h1, h2.ix (by have := owI_len h2; have h9 := HWX.out.size; have := HQ.out.2; omega) (fun j => HWX.out.fit j), h3⟩)
          have HSm : Hid (∀ w' ao n' cap, Below w1.heap.size w1 w' → Ix w' (.slice ao n' cap) (prfV r row row2) → Calls Try.prog 17 #[.slice ao n' cap, .slice aQ q cQ] w' fun e w2 => e = .returned (.bool true) ∧ Below w'.heap.size w' w2) := Lib.hid (fun w' ao n' cap hb hx => by
            have h := sameInts_any hx (HWX.out.below hb)
            rwa [decide_eq_true rfl] at h)
          obtain ⟨d0, d1, d2, d3, d4, d5⟩ := HDC.out w1 (Below.refl _ _)
          clear HQ
          go_wp2_with (first
            | (go_at_call 18; (with_reducible refine (HP.out _ (Below.refl _ _)).mono ?_); rintro e w2 ⟨aP, nP, cP, rfl, hP, hb2⟩; have HXP := Lib.hid hP; have HB2 := Lib.hid hb2; clear hb2 hP)
            | (go_at_call 17; (with_reducible refine (HSm.out _ _ _ _ HB2.out HXP.out).mono ?_); rintro e w3 ⟨rfl, hb3⟩; have HB3 := Lib.hid (HB2.out.trans (hb3.mono HB2.out.size)); clear hb3))
          go_ret
          exact ⟨rfl, HB0.out.trans ((HBA.out _ HB3.out).mono HB0.out.size)⟩
        · have hlt : i < n := by omega
          have hltI : (i : Int) < (n : Int) := by omega
          have hio : i < o.length := by have := HNO.out; omega
          obtain ⟨bO, fO, rfl, -, -, -, -⟩ := HOX.out.at (by omega)
          obtain ⟨bS, fS, rfl, -, -, -, -⟩ := HSX.out.at (by omega)
          obtain ⟨X, hX⟩ : ∃ X, X = f (o.getD i 0) := ⟨_, rfl⟩
          have HCS : Hid (∀ w' j, Below w1.heap.size w1 w' → j < n → w'.cell? ⟨bS, fS + j, none⟩ = some (.int .i64 (f (o.getD j 0)))) := Lib.hid (fun w' j hb hj => by
            have hb2 := HQ.out.1.bl.trans (hb.mono HQ.out.1.lt)
            obtain ⟨b', off', he, -, -, -, hcl⟩ := (HSX.out.below hb2).at (by omega)
            cases he
            have h := hcl j hj
            rwa [map_get f (by have := HNO.out; omega)] at h)
          have HCO : Hid (∀ w', Below w1.heap.size w1 w' → w'.cell? ⟨bO, fO + i, none⟩ = some (.int .i64 ((o.getD i 0 : Nat) : Int))) := Lib.hid (fun w' hb => by
            have hb2 := HQ.out.1.bl.trans (hb.mono HQ.out.1.lt)
            obtain ⟨b', off', he, -, -, -, hcl⟩ := (HOX.out.below hb2).at (by omega)
            cases he
            have h := hcl i hlt
            rwa [show asI o = o.map (fun k : Nat => (k : Int)) from rfl, map_get _ hio] at h)
          have HX := Lib.hid hX
          clear hX
          go_wp2
          go_loopw [16, 17, 81] (fun bv _ jv w2 => ∃ (j : Nat) (B : Bool), j ≤ n ∧ jv = .int .i64 (j : Nat) ∧ bv = .bool B ∧ Hid (B = decide (∀ j', j' < j → X ≤ f (o.getD j' 0))) ∧ Hid (Below w1.heap.size w1 w2)) (fun _ _ jv _ => n - (intOf jv).toNat)
          case atStart => exact ⟨0, true, by omega, rfl, rfl, Lib.hid (by simp), Lib.hid (Below.refl _ _)⟩
          case round =>
            obtain ⟨w2, hw⟩ : ∃ w, w = wr := ⟨_, rfl⟩
            subst hw
            obtain ⟨j, B, hj, rfl, rfl, HB, HBL⟩ := hrel
            by_cases hjn : j = n
            · subst hjn
              have HST := lsL_step r S U (o := o) (i := i) (k := o.getD i 0) (by simp [List.getD, hio])
              rw [← HF.out, ← HX.out, ← HNO.out] at HST
              cases B with
              | true =>
                rw [if_pos (of_decide_eq_true HB.out.symm)] at HST
                have HSTA := Lib.hid HST
                clear HST
                have hcO := HCO.out w2 HBL.out
                have hq := HQ.out.2
                have HQ2 : OwL w w2 w.heap.size (.slice aQ q cQ) q (asI (lsL r S U o i)) := ⟨owns_later HQ.out.1.o HBL.out, HQ.out.1.bl.trans (HBL.out.mono HQ.out.1.lt), Nat.le_trans HQ.out.1.lt HBL.out.size⟩
                obtain ⟨gA, capA, wA, hrunA, hMA⟩ := HQ2.step (by omega) ((o.getD i 0 : Nat) : Int)
                have HMA := Lib.hid (And.intro hMA (show q + 1 ≤ i + 1 by omega))
                clear hMA HQ2 hq HQ
                generalize o.getD i 0 = ki at *
                go_wp2
                go_roundw
                case rel => exact ⟨i + 1, _, q + 1, by omega, by go_num, rfl, by rw [HSTA.out, asI_add]; exact HMA⟩
                case measure => simp [intOf]; omega
              | false =>
                rw [if_neg (of_decide_eq_false HB.out.symm), List.append_nil] at HST
                have HSTA := Lib.hid HST
                clear HST
                have HQ2 : Hid (OwL w w2 w.heap.size (.slice aQ q cQ) q (asI (lsL r S U o i)) ∧ q ≤ i + 1) := Lib.hid ⟨⟨owns_later HQ.out.1.o HBL.out, HQ.out.1.bl.trans (HBL.out.mono HQ.out.1.lt), Nat.le_trans HQ.out.1.lt HBL.out.size⟩, by have := HQ.out.2; omega⟩
                clear HQ
                go_wp2
                go_roundw
                case rel => exact ⟨i + 1, _, q, by omega, by go_num, rfl, by rw [HSTA.out]; exact HQ2⟩
                case measure => simp [intOf]; omega
            · have hlt2 : j < n := by omega
              have hltJ : (j : Int) < (n : Int) := by omega
              cases B with
              | true =>
                have hci := HCS.out w2 i HBL.out hlt
                have hcj := HCS.out w2 j HBL.out hlt2
                rw [← HX.out] at hci
                obtain ⟨Y, hY⟩ : ∃ Y, Y = f (o.getD j 0) := ⟨_, rfl⟩
                rw [← hY] at hcj
                have HA := Lib.hid (of_decide_eq_true HB.out.symm)
                by_cases hXY : X ≤ Y
                · have HB2 : Hid (true = decide (∀ j', j' < j + 1 → X ≤ f (o.getD j' 0))) := Lib.hid (by
                    rw [decide_eq_true (fun j' hj' => by
                      by_cases e : j' = j
                      · rw [e, ← hY]; exact hXY
                      · exact HA.out j' (by omega))])
                  clear hY
                  go_upto_region 23 with fail
                  go_quiet (fail)
                  go_wp2
                  go_roundw
                  case rel => exact ⟨j + 1, true, by omega, by go_num, by first | rfl | (simp [hXY]), HB2, Lib.hid (HBL.out.trans ⟨rfl, rfl, rfl, Nat.le_refl _, fun _ _ => rfl⟩)⟩
                  case measure => simp [intOf]; omega
                · have HB2 : Hid (false = decide (∀ j', j' < j + 1 → X ≤ f (o.getD j' 0))) := Lib.hid (by
                    rw [decide_eq_false (fun h => hXY (by rw [hY]; exact h j (by omega)))])
                  clear hY
                  go_upto_region 23 with fail
                  go_quiet (fail)
                  go_wp2
                  go_roundw
                  case rel => exact ⟨j + 1, false, by omega, by go_num, by first | rfl | (simp [hXY]), HB2, Lib.hid (HBL.out.trans ⟨rfl, rfl, rfl, Nat.le_refl _, fun _ _ => rfl⟩)⟩
                  case measure => simp [intOf]; omega
              | false =>
                have HB2 : Hid (false = decide (∀ j', j' < j + 1 → X ≤ f (o.getD j' 0))) := Lib.hid (by
                  rw [decide_eq_false (fun h => of_decide_eq_false HB.out.symm (fun j' hj' => h j' (by omega)))])
                go_upto_region 23 with fail
                go_quiet (fail)
                go_wp2
                go_roundw
                case rel => exact ⟨j + 1, false, by omega, by go_num, rfl, HB2, Lib.hid (HBL.out.trans ⟨rfl, rfl, rfl, Nat.le_refl _, fun _ _ => rfl⟩)⟩
                case measure => simp [intOf]; omega
    · have hlt : k < nr := by omega
      have hltI : (k : Int) < (nr : Int) := by omega
      obtain ⟨b, off, rfl, -, -, -, -⟩ := (HI0.out.1.below HO.out.bl).at (by omega)
      obtain ⟨x, hx⟩ : ∃ x, x = r.getD k 0 := ⟨_, rfl⟩
      have HCK : Hid (∀ w', Below W0.heap.size W0 w' → w'.cell? ⟨b, off + k, none⟩ = some (.int .i64 x)) := Lib.hid (fun w' hb => by
        obtain ⟨b', off', he, -, -, -, hcl⟩ := (HI0.out.1.below hb).at (by omega)
        cases he
        rw [hx]; exact hcl k hlt)
      have HK1 := Lib.hid (fun w' hb => HC1.out w' k hb hlt)
      have HK2 := Lib.hid (fun w' hb => HC2.out w' k hb hlt)
      by_cases hp : 0 < x
      · rw [← hx, decide_eq_true hp] at HK1 HK2
        have HOP : Hid (asI (opN r (k + 1)) = asI (opN r k) ++ [(k : Int)]) := Lib.hid (by rw [opN_yes (by rw [← hx]; exact hp), asI_add]; rfl)
        have HSP : Hid ((opN r (k + 1)).map (tog r S U) = (opN r k).map (tog r S U) ++ [tog r S U k]) := Lib.hid (by rw [opN_yes (by rw [← hx]; exact hp), List.map_append]; rfl)
        have HPX : Hid (0 < r.getD k 0) := Lib.hid (by rw [← hx]; exact hp)
        clear hx
        go_wp2_with (first
          | (go_at_call 15; (with_reducible refine (HK1.out _ (HBW.out _ (Below.refl _ _))).mono ?_); rintro e w4 ⟨a1, n1, c1, rfl, hx1, hb⟩; have HX1 := Lib.hid (hx1 hp); have HB4 := Lib.hid hb; clear d0 d1 d2 d3 d4 d5; obtain ⟨d0, d1, d2, d3, d4, d5⟩ := HCL.out _ hb; clear hb hx1)
          | (go_at_call 15; (with_reducible refine (HK2.out _ (HBW.out _ HB4.out)).mono ?_); rintro e w5 ⟨a2, n2, c2, rfl, hx2, hb⟩; have HX2 := Lib.hid (hx2 hp); have HX1 := Lib.hid (owns_later HX1.out hb); have HSZ := Lib.hid HB4.out.size; have HB5 := Lib.hid (HB4.out.trans (hb.mono HB4.out.size)); clear d0 d1 d2 d3 d4 d5; obtain ⟨d0, d1, d2, d3, d4, d5⟩ := HCL.out _ HB5.out; have hcK := HCK.out _ (HBW.out _ HB5.out); obtain ⟨gA, capA, wA, hrunA, hMA⟩ := (HO.out.later HB5.out).step3 (by omega) (k : Int); have HMA := Lib.hid hMA.1; have HXA1 := Lib.hid (hMA.2 _ _ _ _ HX1.out (fun g e => (own_lt HO.out.o e).2)); have HXA2 := Lib.hid (hMA.2 _ _ _ _ HX2.out (fun g e => Nat.lt_of_lt_of_le (own_lt HO.out.o e).2 HSZ.out)); clear hb hx2 hMA))

        clear d0 d1 d2 d3 d4 d5 hcK hrunA
        have HTX : Hid (TwO W0 wA.drew W0.heap.size (.slice (some ⟨gA, 0, none⟩) (n + 1) capA) (n + 1) (asI (opN r k) ++ [(k : Int)]) (.slice aS n cS) n ((opN r k).map (tog r S U))) := Lib.hid (HMA.out.later (Below.refl _ _).drew)
        have HS13 : Hid (∀ w', Below wA.drew.heap.size wA.drew w' → w'.cell? ⟨Bd, 0, none⟩ = some (.int .i64 4) ∧ w'.cell? ⟨Bd, 1, none⟩ = some (.slice (some ⟨b, off, none⟩) nr cr) ∧ w'.cell? ⟨Bd, 2, none⟩ = some (.slice none 0 0) ∧ w'.cell? ⟨Bd, 3, none⟩ = some (.int .i64 0) ∧ w'.cell? ⟨Bd, 4, none⟩ = some (.int .i64 (cn : Int)) ∧ w'.cell? ⟨Bd, 5, none⟩ = some (.int .i64 (cd : Int))) := Lib.hid (fun w' hb => (HD0.out.below (HTX.out.bl.trans (hb.mono HTX.out.lt))).cells)
        have hXA1 : Ix wA.drew (.slice a1 n1 c1) (mor S k) := OwI.ix (owns_later HXA1.out (Below.refl _ _).drew) (by have h := owI_len HXA1.out; rw [mor_len, HLS.out.1] at h; have := HOK.out.l4; omega) (fun i => by have := mor_in HIN.out.1 k i; exact ⟨by omega, by omega⟩)
        have hXA2 : Ix wA.drew (.slice a2 n2 c2) (mor U k) := OwI.ix (owns_later HXA2.out (Below.refl _ _).drew) (by have h := owI_len HXA2.out; rw [mor_len, HLS.out.2] at h; have := HOK.out.l4; omega) (fun i => by have := mor_in HIN.out.2 k i; exact ⟨by omega, by omega⟩)
        obtain ⟨x1, hx1⟩ : ∃ x1, x1 = unev r (mor S k) := ⟨_, rfl⟩
        obtain ⟨x2, hx2⟩ : ∃ x2, x2 = unev r (mor U k) := ⟨_, rfl⟩
        obtain ⟨g, hg⟩ : ∃ g, g = tog r S U k := ⟨_, rfl⟩
        have hgg : g = x1 + x2 := by rw [hg, hx1, hx2]; rfl
        have htg := HTG.out k
        rw [← hg] at htg HSP
        have hw1 : IntKind.i64.wrap (x1 + x2) = g := by rw [← hgg]; exact IntWalk.i64_in _ (by omega)
        have HUa : Hid (∀ w', Below wA.drew.heap.size wA.drew w' → Calls Try.prog 12 #[DV 4 (.slice (some ⟨b, off, none⟩) nr cr) (cn : Int) (cd : Int), .slice a1 n1 c1] w' fun e w2 => e = .returned (.int .i64 x1) ∧ Below w'.heap.size w' w2) := Lib.hid (fun w' hb => by rw [hx1]; exact HU1.out w' k _ _ _ (HTX.out.bl.trans (hb.mono HTX.out.lt)) (hXA1.below hb))
        have HUb : Hid (∀ w', Below wA.drew.heap.size wA.drew w' → Calls Try.prog 12 #[DV 4 (.slice (some ⟨b, off, none⟩) nr cr) (cn : Int) (cd : Int), .slice a2 n2 c2] w' fun e w2 => e = .returned (.int .i64 x2) ∧ Below w'.heap.size w' w2) := Lib.hid (fun w' hb => by rw [hx2]; exact HU2.out w' k _ _ _ (HTX.out.bl.trans (hb.mono HTX.out.lt)) (hXA2.below hb))
        clear hXA1 hXA2 hx1 hx2 hg hgg htg HMA
        refine (wpIn_wide (n := 6)).1 ?_
        refine frame_namedIn ?_
        intro T hT
        obtain ⟨R, hRd⟩ : ∃ R : Array Bool → Act → World → Prop, R = (fun l a w' => ∃ vals, RH llCh T [some 63, some 64, some 65, some 66, some 67, some 68, some 69, some 70, some 71, some 72, some 8] (LW W0 wA.drew W0.heap.size (.slice (some ⟨gA, 0, none⟩) (n + 1) capA) (n + 1) (asI (opN r k) ++ [(k : Int)]) n ((opN r k).map (tog r S U)) g) (fun i u _ => match i with | 0 => u = .slice aS n cS | 1 => u = DV 4 (.slice (some ⟨b, off, none⟩) nr cr) (cn : Int) (cd : Int) | 2 => u = .slice a1 n1 c1 | 3 => u = .int .i64 x1 | 4 => u = DV 4 (.slice (some ⟨b, off, none⟩) nr cr) (cn : Int) (cd : Int) | 5 => u = .slice a2 n2 c2 | 6 => u = .int .i64 x2 | 7 => u = .int .i64 g | _ => True) vals l a w') := ⟨_, rfl⟩
        refine region_inv (by kernel_rfl) R ?h0r1 ?stepr1 ?finr1
        case h0r1 => rw [hRd]; exact RH.start rfl (fun i j h => by simp [llCh] at h; simp only [List.length_cons, List.length_nil]; omega) (by exact ⟨fun _ => Below.refl _ _, fun h => absurd h (by decide), fun h => absurd h (by decide), fun h => absurd h (by decide)⟩)
        case stepr1 =>
          rintro l a w' i' hR0 hi'
          have hR1 := hR0
          rw [hRd] at hR1
          obtain ⟨vals, hR⟩ := hR1
          obtain ⟨hl0, o, ho, hdep⟩ := mem_ready.1 hi'
          have h15 : i' < 11 := by
            have := (Array.getElem?_eq_some_iff.1 ho).1
            simpa using this
          rcases (show i' = 0 ∨ i' = 1 ∨ i' = 2 ∨ i' = 3 ∨ i' = 4 ∨ i' = 5 ∨ i' = 6 ∨ i' = 7 ∨ i' = 8 ∨ i' = 9 ∨ i' = 10 by omega) with rfl | rfl | rfl | rfl | rfl | rfl | rfl | rfl | rfl | rfl | rfl
          · simp at ho
            subst ho
            simp [Region.binds] at hdep
            have hc : ∀ j, (0, j) ∈ llCh → l.getD j true = true := by intro j hj; simp [llCh] at hj
            have n10 := hR.no (s := 10) hl0 (fun hs => (hR.dep 9 0 (by decide) (hR.dep 10 9 (by decide) hs)))
            clear hi' hdep
            have k0 : a.tmps.getD 8 undef = .slice aS n cS := (hR.fr.slot 8 (by simp [hT])).trans (by rw [show tOwn [some 63, some 64, some 65, some 66, some 67, some 68, some 69, some 70, some 71, some 72, some 8] vals 8 = some (10, vals 10) from rfl]; simp only [n10]; rw [hT]; rfl)
            have k0g := k0
            rw [Array.getD_eq_getD_getElem?] at k0g
            unfold wpOpIn
            simp [Region.wanted]
            unfold Oper.wpIn
            simp [Oper.about, execOp, go_sem, Act.eval, k0, k0g]
            rw [hRd]
            exact hR.op 0 63 _ rfl (by decide) hl0 hc (LW.const hR.wd (by decide) _) (fun _ _ h => h) (rfl)
          · simp at ho
            subst ho
            simp [Region.binds] at hdep
            have k0 : a.tmps.getD 4 undef = .pointer (some ⟨Bd, 0, none⟩) := (hR.fr.kept rfl (by simp [hT])).trans (by rw [hT]; try rfl)
            have hc : ∀ j, (1, j) ∈ llCh → l.getD j true = true := by intro j hj; simp [llCh] at hj
            have n8 := hR.no (s := 8) hl0 (fun hs => (hR.dep 3 1 (by decide) (hR.dep 7 3 (by decide) (hR.dep 8 7 (by decide) hs))))
            clear hi' hdep
            obtain ⟨d0, d1, d2, d3, d4, d5⟩ := HS13.out _ (hR.wd.a n8)
            have k0g := k0
            rw [Array.getD_eq_getD_getElem?] at k0g
            unfold wpOpIn
            simp [Region.wanted]
            unfold Oper.wpIn
            simp [Oper.about, execOp, go_sem, Act.eval, k0, k0g, d0, d1, d2, d3, d4, d5]
            rw [hRd]
            exact hR.op 1 64 _ rfl (by decide) hl0 hc (LW.const hR.wd (by decide) _) (fun _ _ h => h) (rfl)
          · simp at ho
            subst ho
            simp [Region.binds] at hdep
            have k0 : a.tmps.getD 10 undef = .slice a1 n1 c1 := (hR.fr.kept rfl (by simp [hT])).trans (by rw [hT]; try rfl)
            have hc : ∀ j, (2, j) ∈ llCh → l.getD j true = true := by intro j hj; simp [llCh] at hj
            clear hi' hdep
            have k0g := k0
            rw [Array.getD_eq_getD_getElem?] at k0g
            unfold wpOpIn
            simp [Region.wanted]
            unfold Oper.wpIn
            simp [Oper.about, execOp, go_sem, Act.eval, k0, k0g]
            rw [hRd]
            exact hR.op 2 65 _ rfl (by decide) hl0 hc (LW.const hR.wd (by decide) _) (fun _ _ h => h) (rfl)
          · simp at ho
            subst ho
            simp [Region.binds] at hdep
            have d0 : l.getD 1 true = true := getD_true (by simp_all)
            have k0 : a.tmps.getD 64 undef = vals 1 := hR.get rfl (by simp_all) (by simp [hT])
            have e0 : vals 1 = DV 4 (.slice (some ⟨b, off, none⟩) nr cr) (cn : Int) (cd : Int) := hR.vl 1 (by decide) d0
            rw [e0] at k0
            have d1 : l.getD 2 true = true := getD_true (by simp_all)
            have k1 : a.tmps.getD 65 undef = vals 2 := hR.get rfl (by simp_all) (by simp [hT])
            have e1 : vals 2 = .slice a1 n1 c1 := hR.vl 2 (by decide) d1
            rw [e1] at k1
            have hc : ∀ j, (3, j) ∈ llCh → l.getD j true = true := by intro j hj; simp [llCh] at hj; rcases hj with rfl | rfl <;> exact getD_true (by simp_all)
            have n8 := hR.no (s := 8) hl0 (fun hs => (hR.dep 7 3 (by decide) (hR.dep 8 7 (by decide) hs)))
            have n9 := hR.no (s := 9) hl0 (fun hs => (hR.dep 7 3 (by decide) (hR.dep 8 7 (by decide) (hR.dep 9 8 (by decide) hs))))
            clear hi' hdep
            have k0g := k0
            rw [Array.getD_eq_getD_getElem?] at k0g
            have k1g := k1
            rw [Array.getD_eq_getD_getElem?] at k1g
            unfold wpOpIn
            simp [Region.wanted]
            unfold Oper.wpIn
            simp [Oper.about, execOp, go_sem, Act.eval, k0, k1, k0g, k1g]
            refine ⟨trivial, (callsIn_wide.2 (HUa.out _ (hR.wd.a n8))).mono ?_⟩
            rintro e w'' ⟨rfl, hb⟩
            rw [hRd]
            exact hR.op 3 66 _ rfl (by decide) hl0 hc (LW.const (LW.grow hR.wd n8 n9 hb) (by decide) _) (fun _ _ h => h) (rfl)
          · simp at ho
            subst ho
            simp [Region.binds] at hdep
            have k0 : a.tmps.getD 4 undef = .pointer (some ⟨Bd, 0, none⟩) := (hR.fr.kept rfl (by simp [hT])).trans (by rw [hT]; try rfl)
            have hc : ∀ j, (4, j) ∈ llCh → l.getD j true = true := by intro j hj; simp [llCh] at hj
            have n8 := hR.no (s := 8) hl0 (fun hs => (hR.dep 6 4 (by decide) (hR.dep 7 6 (by decide) (hR.dep 8 7 (by decide) hs))))
            clear hi' hdep
            obtain ⟨d0, d1, d2, d3, d4, d5⟩ := HS13.out _ (hR.wd.a n8)
            have k0g := k0
            rw [Array.getD_eq_getD_getElem?] at k0g
            unfold wpOpIn
            simp [Region.wanted]
            unfold Oper.wpIn
            simp [Oper.about, execOp, go_sem, Act.eval, k0, k0g, d0, d1, d2, d3, d4, d5]
            rw [hRd]
            exact hR.op 4 67 _ rfl (by decide) hl0 hc (LW.const hR.wd (by decide) _) (fun _ _ h => h) (rfl)
          · simp at ho
            subst ho
            simp [Region.binds] at hdep
            have k0 : a.tmps.getD 12 undef = .slice a2 n2 c2 := (hR.fr.kept rfl (by simp [hT])).trans (by rw [hT]; try rfl)
            have hc : ∀ j, (5, j) ∈ llCh → l.getD j true = true := by intro j hj; simp [llCh] at hj
            clear hi' hdep
            have k0g := k0
            rw [Array.getD_eq_getD_getElem?] at k0g
            unfold wpOpIn
            simp [Region.wanted]
            unfold Oper.wpIn
            simp [Oper.about, execOp, go_sem, Act.eval, k0, k0g]
            rw [hRd]
            exact hR.op 5 68 _ rfl (by decide) hl0 hc (LW.const hR.wd (by decide) _) (fun _ _ h => h) (rfl)
          · simp at ho
            subst ho
            simp [Region.binds] at hdep
            have d0 : l.getD 4 true = true := getD_true (by simp_all)
            have k0 : a.tmps.getD 67 undef = vals 4 := hR.get rfl (by simp_all) (by simp [hT])
            have e0 : vals 4 = DV 4 (.slice (some ⟨b, off, none⟩) nr cr) (cn : Int) (cd : Int) := hR.vl 4 (by decide) d0
            rw [e0] at k0
            have d1 : l.getD 5 true = true := getD_true (by simp_all)
            have k1 : a.tmps.getD 68 undef = vals 5 := hR.get rfl (by simp_all) (by simp [hT])
            have e1 : vals 5 = .slice a2 n2 c2 := hR.vl 5 (by decide) d1
            rw [e1] at k1
            have hc : ∀ j, (6, j) ∈ llCh → l.getD j true = true := by intro j hj; simp [llCh] at hj; rcases hj with rfl | rfl <;> exact getD_true (by simp_all)
            have n8 := hR.no (s := 8) hl0 (fun hs => (hR.dep 7 6 (by decide) (hR.dep 8 7 (by decide) hs)))
            have n9 := hR.no (s := 9) hl0 (fun hs => (hR.dep 7 6 (by decide) (hR.dep 8 7 (by decide) (hR.dep 9 8 (by decide) hs))))
            clear hi' hdep
            have k0g := k0
            rw [Array.getD_eq_getD_getElem?] at k0g
            have k1g := k1
            rw [Array.getD_eq_getD_getElem?] at k1g
            unfold wpOpIn
            simp [Region.wanted]
            unfold Oper.wpIn
            simp [Oper.about, execOp, go_sem, Act.eval, k0, k1, k0g, k1g]
            refine ⟨trivial, (callsIn_wide.2 (HUb.out _ (hR.wd.a n8))).mono ?_⟩
            rintro e w'' ⟨rfl, hb⟩
            rw [hRd]
            exact hR.op 6 69 _ rfl (by decide) hl0 hc (LW.const (LW.grow hR.wd n8 n9 hb) (by decide) _) (fun _ _ h => h) (rfl)
          · simp at ho
            subst ho
            simp [Region.binds] at hdep
            have d0 : l.getD 3 true = true := getD_true (by simp_all)
            have k0 : a.tmps.getD 66 undef = vals 3 := hR.get rfl (by simp_all) (by simp [hT])
            have e0 : vals 3 = .int .i64 x1 := hR.vl 3 (by decide) d0
            rw [e0] at k0
            have d1 : l.getD 6 true = true := getD_true (by simp_all)
            have k1 : a.tmps.getD 69 undef = vals 6 := hR.get rfl (by simp_all) (by simp [hT])
            have e1 : vals 6 = .int .i64 x2 := hR.vl 6 (by decide) d1
            rw [e1] at k1
            have hc : ∀ j, (7, j) ∈ llCh → l.getD j true = true := by intro j hj; simp [llCh] at hj; rcases hj with rfl | rfl <;> exact getD_true (by simp_all)
            clear hi' hdep
            have k0g := k0
            rw [Array.getD_eq_getD_getElem?] at k0g
            have k1g := k1
            rw [Array.getD_eq_getD_getElem?] at k1g
            unfold wpOpIn
            simp [Region.wanted]
            unfold Oper.wpIn
            simp [Oper.about, execOp, go_sem, Act.eval, k0, k1, k0g, k1g, hw1]
            rw [hRd]
            exact hR.op 7 70 _ rfl (by decide) hl0 hc (LW.const hR.wd (by decide) _) (fun _ _ h => h) (rfl)
          · simp at ho
            subst ho
            simp [Region.binds] at hdep
            have d0 : l.getD 7 true = true := getD_true (by simp_all)
            have k0 : a.tmps.getD 70 undef = vals 7 := hR.get rfl (by simp_all) (by simp [hT])
            have e0 : vals 7 = .int .i64 g := hR.vl 7 (by decide) d0
            rw [e0] at k0
            have hc : ∀ j, (8, j) ∈ llCh → l.getD j true = true := by intro j hj; simp [llCh] at hj; rcases hj with rfl <;> exact getD_true (by simp_all)
            have n9 := hR.no (s := 9) hl0 (fun hs => (hR.dep 9 8 (by decide) hs))
            have n10 := hR.no (s := 10) hl0 (fun hs => (hR.dep 9 8 (by decide) (hR.dep 10 9 (by decide) hs)))
            clear hi' hdep
            have k0g := k0
            rw [Array.getD_eq_getD_getElem?] at k0g
            unfold wpOpIn
            simp [Region.wanted]
            unfold Oper.wpIn
            simp [Oper.about, execOp, go_sem, Act.eval, k0, k0g]
            rw [hRd]
            exact hR.op 8 71 _ rfl (by decide) hl0 hc (LW.made hR.wd (by rw [hR.size]; decide) hl0 n9 n10) (fun _ _ h => h) (trivial)
          · simp at ho
            subst ho
            simp [Region.binds] at hdep
            have d0 : l.getD 0 true = true := getD_true (by simp_all)
            have k0 : a.tmps.getD 63 undef = vals 0 := hR.get rfl (by simp_all) (by simp [hT])
            have e0 : vals 0 = .slice aS n cS := hR.vl 0 (by decide) d0
            rw [e0] at k0
            have d1 : l.getD 8 true = true := getD_true (by simp_all)
            have k1 : a.tmps.getD 71 undef = vals 8 := hR.get rfl (by simp_all) (by simp [hT])
            obtain ⟨wz, hbz, hwe, e1⟩ := hR.wd.b d1 hl0
            rw [e1] at k1
            have hc : ∀ j, (9, j) ∈ llCh → l.getD j true = true := by intro j hj; simp [llCh] at hj; rcases hj with rfl | rfl <;> exact getD_true (by simp_all)
            have n10 := hR.no (s := 10) hl0 (fun hs => (hR.dep 10 9 (by decide) hs))
            clear hi' hdep
            subst hwe
            obtain ⟨q, capq, wq, hrunq, hTq⟩ := (HTX.out.later hbz).swap.step (by omega) g
            have k0g := k0
            rw [Array.getD_eq_getD_getElem?] at k0g
            have k1g := k1
            rw [Array.getD_eq_getD_getElem?] at k1g
            unfold wpOpIn
            simp [Region.wanted]
            unfold Oper.wpIn
            simp [Oper.about, execOp, go_sem, Act.eval, k0, k1, k0g, k1g, hrunq]
            rw [hRd]
            exact hR.op 9 72 _ rfl (by decide) hl0 hc (LW.app hR.wd d1 (by rw [hR.size]; decide) n10 hTq.swap) (fun _ _ h => h) (trivial)
          · simp at ho
            subst ho
            simp [Region.binds] at hdep
            have d0 : l.getD 9 true = true := getD_true (by simp_all)
            have k0 : a.tmps.getD 72 undef = vals 9 := hR.get rfl (by simp_all) (by simp [hT])
            obtain ⟨q, capq, e0, hTq⟩ := hR.wd.c d0
            rw [e0] at k0
            have hc : ∀ j, (10, j) ∈ llCh → l.getD j true = true := by intro j hj; simp [llCh] at hj; rcases hj with rfl <;> exact getD_true (by simp_all)
            clear hi' hdep
            have k0g := k0
            rw [Array.getD_eq_getD_getElem?] at k0g
            unfold wpOpIn
            simp [Region.wanted]
            unfold Oper.wpIn
            simp [Oper.about, execOp, go_sem, Act.eval, k0, k0g]
            rw [hRd]
            exact hR.op 10 8 _ rfl (by decide) hl0 hc (LW.set hR.wd (hR.dep 9 8 (by decide) d0) d0 e0.symm) (fun _ _ h => h) (trivial)
        case' finr1 =>
          rintro l a w' hR0 hz
          rw [hRd] at hR0
          obtain ⟨vals, hR⟩ := hR0
          clear hRd R
          have hnot := List.eq_nil_iff_forall_not_mem.1 hz
          have hk : ∀ k, k < 11 → (l.getD k true = false → False) → l.getD k false = true := fun k h12 h => by
            have hs := hR.size
            cases h' : l.getD k true with
            | false => exact (h h').elim
            | true => simp at hs; simp [Array.getD, hs, h12] at h' ⊢; exact h'
          have st0 := hk 0 (by omega) (fun h => hnot 0 (mem_ready.2 ⟨h, _, rfl, by simp [Region.binds]⟩))
          have st1 := hk 1 (by omega) (fun h => hnot 1 (mem_ready.2 ⟨h, _, rfl, by simp [Region.binds]⟩))
          have st2 := hk 2 (by omega) (fun h => hnot 2 (mem_ready.2 ⟨h, _, rfl, by simp [Region.binds]⟩))
          have st3 := hk 3 (by omega) (fun h => hnot 3 (mem_ready.2 ⟨h, _, rfl, by simp [Region.binds] <;> simp_all⟩))
          have st4 := hk 4 (by omega) (fun h => hnot 4 (mem_ready.2 ⟨h, _, rfl, by simp [Region.binds]⟩))
          have st5 := hk 5 (by omega) (fun h => hnot 5 (mem_ready.2 ⟨h, _, rfl, by simp [Region.binds]⟩))
          have st6 := hk 6 (by omega) (fun h => hnot 6 (mem_ready.2 ⟨h, _, rfl, by simp [Region.binds] <;> simp_all⟩))
          have st7 := hk 7 (by omega) (fun h => hnot 7 (mem_ready.2 ⟨h, _, rfl, by simp [Region.binds] <;> simp_all⟩))
          have st8 := hk 8 (by omega) (fun h => hnot 8 (mem_ready.2 ⟨h, _, rfl, by simp [Region.binds] <;> simp_all⟩))
          have st9 := hk 9 (by omega) (fun h => hnot 9 (mem_ready.2 ⟨h, _, rfl, by simp [Region.binds] <;> simp_all⟩))
          have st10 := hk 10 (by omega) (fun h => hnot 10 (mem_ready.2 ⟨h, _, rfl, by simp [Region.binds] <;> simp_all⟩))
          have hall : ∀ i, i < 11 → l.getD i true = true := fun i hi => by
            rcases (show i = 0 ∨ i = 1 ∨ i = 2 ∨ i = 3 ∨ i = 4 ∨ i = 5 ∨ i = 6 ∨ i = 7 ∨ i = 8 ∨ i = 9 ∨ i = 10 by omega) with rfl | rfl | rfl | rfl | rfl | rfl | rfl | rfl | rfl | rfl | rfl
            · exact getD_true st0
            · exact getD_true st1
            · exact getD_true st2
            · exact getD_true st3
            · exact getD_true st4
            · exact getD_true st5
            · exact getD_true st6
            · exact getD_true st7
            · exact getD_true st8
            · exact getD_true st9
            · exact getD_true st10
          clear st0 st1 st2 st3 st4 st5 st6 st7 st8 st9 st10 hk hnot hz
          have hTs : T.size = 115 := by rw [hT]; rfl
          have ha := hR.all (T' := (((((((((((T.setIfInBounds 63 (vals 0)).setIfInBounds 64 (vals 1)).setIfInBounds 65 (vals 2)).setIfInBounds 66 (vals 3)).setIfInBounds 67 (vals 4)).setIfInBounds 68 (vals 5)).setIfInBounds 69 (vals 6)).setIfInBounds 70 (vals 7)).setIfInBounds 71 (vals 8)).setIfInBounds 72 (vals 9)).setIfInBounds 8 (vals 10))) (fun i hi => hall i (by simpa using hi)) (by simp) (fun j hj => by
            by_cases h1 : j = 63 ∨ j = 64 ∨ j = 65 ∨ j = 66 ∨ j = 67 ∨ j = 68 ∨ j = 69 ∨ j = 70 ∨ j = 71 ∨ j = 72 ∨ j = 8
            · rcases h1 with rfl | rfl | rfl | rfl | rfl | rfl | rfl | rfl | rfl | rfl | rfl <;> simp [rv_sets, tOwn, List.findIdx?, List.findIdx?.go, hTs]
            · simp only [not_or] at h1
              obtain ⟨m63, m64, m65, m66, m67, m68, m69, m70, m71, m72, m8⟩ := h1
              have e : tOwn [some 63, some 64, some 65, some 66, some 67, some 68, some 69, some 70, some 71, some 72, some 8] vals j = none := by
                unfold tOwn
                simp [List.findIdx?, List.findIdx?.go, Ne.symm m63, Ne.symm m64, Ne.symm m65, Ne.symm m66, Ne.symm m67, Ne.symm m68, Ne.symm m69, Ne.symm m70, Ne.symm m71, Ne.symm m72, Ne.symm m8]
              rw [e]
              simp only [rv_sets]
              repeat rw [if_neg (by omega)])
          have v0 : vals 0 = .slice aS n cS := hR.vl 0 (by decide) (hall 0 (by decide))
          have v1 : vals 1 = DV 4 (.slice (some ⟨b, off, none⟩) nr cr) (cn : Int) (cd : Int) := hR.vl 1 (by decide) (hall 1 (by decide))
          have v2 : vals 2 = .slice a1 n1 c1 := hR.vl 2 (by decide) (hall 2 (by decide))
          have v3 : vals 3 = .int .i64 x1 := hR.vl 3 (by decide) (hall 3 (by decide))
          have v4 : vals 4 = DV 4 (.slice (some ⟨b, off, none⟩) nr cr) (cn : Int) (cd : Int) := hR.vl 4 (by decide) (hall 4 (by decide))
          have v5 : vals 5 = .slice a2 n2 c2 := hR.vl 5 (by decide) (hall 5 (by decide))
          have v6 : vals 6 = .int .i64 x2 := hR.vl 6 (by decide) (hall 6 (by decide))
          have v7 : vals 7 = .int .i64 g := hR.vl 7 (by decide) (hall 7 (by decide))
          have e10 := hR.wd.d (hall 10 (by decide))
          obtain ⟨qS, cq, e9, hTq⟩ := hR.wd.c (hall 9 (by decide))
          rw [e9] at e10
          have HTQ := Lib.hid hTq
          clear hTq
          subst ha
          clear hR hall hTs
          rw [v0, v1, v2, v3, v4, v5, v6, v7, hT]
          simp only [List.setIfInBounds_toArray, List.set_cons_succ, List.set_cons_zero]
          clear v0 v1 v2 v3 v4 v5 v6 v7 hT T
        rw [e10, e9]
        generalize vals 8 = y8
        clear e10 e9
        go_wp2
        go_roundw
        case rel => exact ⟨k + 1, _, _, n + 1, by omega, by go_num, rfl, rfl, by omega, by rw [HOP.out, HSP.out]; exact HTQ⟩
        case measure => simp [intOf]; omega
      · rw [← hx, decide_eq_false hp] at HK1 HK2
        have HOP : Hid (opN r (k + 1) = opN r k) := Lib.hid (opN_no (by rw [← hx]; exact hp))
        clear hx
        go_wp2_with (first
          | (go_at_call 15; (with_reducible refine (HK1.out _ (HBW.out _ (Below.refl _ _))).mono ?_); rintro e w4 ⟨a1, n1, c1, rfl, -, hb⟩; have HB4 := Lib.hid hb; clear d0 d1 d2 d3 d4 d5; obtain ⟨d0, d1, d2, d3, d4, d5⟩ := HCL.out _ hb; clear hb)
          | (go_at_call 15; (with_reducible refine (HK2.out _ (HBW.out _ HB4.out)).mono ?_); rintro e w5 ⟨a2, n2, c2, rfl, -, hb⟩; have HB5 := Lib.hid (HB4.out.trans (hb.mono HB4.out.size)); clear d0 d1 d2 d3 d4 d5; obtain ⟨d0, d1, d2, d3, d4, d5⟩ := HCL.out _ HB5.out; have hcK := HCK.out _ (HBW.out _ HB5.out); clear hb))
        go_roundw
        case rel => exact ⟨k + 1, _, _, n, by omega, by go_num, rfl, rfl, by omega, by rw [HOP.out]; exact Lib.hid (HO.out.later HB5.out)⟩
        case measure => simp [intOf]; omega

end Go.Proofs.Ytcpgoaombabfjaa

namespace Go.Proofs.Ytcpgoaombabfjaa
open Go.ChangeShapes Go.WideShapes Go.ChangeAt Go.RowKit

set_option maxRecDepth 100000 in
theorem coinLeast_lifted (os : Os) (started : os.Started) (H : Type) (enc : TypeId × Value → H) :
    ReturnsInHanded {} Try.checked os 6 .any (Rows.coinLeastSpec.pre6 enc Try.prog Try.f6 Rows.coinLeastRow.domain false) (Rows.coinLeastSpec.post enc Try.prog Try.f6 false true false false) := by
  refine returnsInHanded_of_change (C := Try.checked) own started (by kernel_rfl) Try.func6
    (ChangeSpec.witness6 (enc := enc) (C := Try.checked) false ⟨#[], #[.agg #[.slice none 0 0, .slice none 0 0, .slice none 0 0]], []⟩ 8 (by kernel_rfl) (by kernel_rfl) (by kernel_rfl) (by kernel_rfl)) ?_
  intro W base args ds gs before hval0 hW hcnd _
  have hval : ∀ (j : Nat) t v, Try.f6.params[j]? = some t → args[j]? = some v → Value.okWide Try.prog W .any base t v := hval0
  have hW' := hW
  obtain ⟨p, q, hA0, hV, rfl, hfz, hnd⟩ := hW
  have hA : DataW.TrodAll enc Try.prog W 0 (fun _ => true) true Try.f6.params.toList args.toList ds p := hA0
  rw [Try.params6] at hA hval
  obtain ⟨v0, vs0, d0, ds0, p0, q0, hargs, rfl, rfl, h0, r0⟩ := trodAll_cons hA
  obtain ⟨rfl, rfl, rfl⟩ := trodAll_nil r0
  obtain rfl : args = #[v0] := by cases args; simp_all
  obtain ⟨rfl, rfl⟩ := trodVars_none hV
  have k0 := h0
  have lt0 : ∀ x ∈ p0, x.block < W.heap.size := by obtain ⟨m, hm⟩ := k0; exact DataW.trod_lt m _ _ _ hm
  obtain ⟨ao0, bo0, co0, n0, m0, k0_, cap0, dap0, eap0, l0, s0, t0, rfl, X0, Y0, Z0⟩ := open_case (hval 0 24 v0 rfl rfl) h0
  clear hA0 hval0
  try simp only [List.append_nil] at hW'
  refine (coinLeast_any X0 Y0 Z0).mono fun e W' ⟨he, bel⟩ => ?_
  subst he
  exact ⟨_, rfl, _, _, _, [], _, [], hW', trodAll_mk1 (shut_bool Try.underlying4 _), (trodAll_cons_mk (Below.trod laidOut (by kernel_rfl) (of_decide_eq_true (by kernel_rfl)) k0 bel lt0) trodAll_mk0), rfl, bel.frame _, fun h => by cases h⟩

theorem coinLeast_over : Rows.coinLeastRow.holds Try.pinned (OpenSpec.ofChange Rows.coinLeastSpec) :=
  OpenClaim.holds_of_wide 6 Try.f6 rfl rfl rfl rfl rfl rfl rfl ⟨rfl, rfl, rfl, rfl, rfl⟩ rfl rfl rfl rfl rfl (by kernel_rfl) Try.func6 (by kernel_rfl)
    (of_decide_eq_true (by kernel_rfl)) (by unfold Func.isWrapper; first | (rw [if_pos (by decide +kernel)]; kernel_rfl) | (rw [if_neg (by decide +kernel)]; exact ⟨rfl, rfl⟩))
    (fun os started H enc _ => coinLeast_lifted os started H enc)

/-- The statement. -/
theorem coinLeast_holds : Rows.CoinLeastSaid := coinLeast_over

end Go.Proofs.Ytcpgoaombabfjaa
