/- The law BlockWalks, walked. Condition: the arguments fit their types. -/
import Derived.Test.YtjlneggfkpjnpaaS
namespace Go.Proofs.Ytjlneggfkpjnpaa
open Go.RowKit

/-- The box of the bytes. -/
abbrev bW (W : World) (va vb : Value) : World := W.alloc (.cells #[va, vb] 24)
theorem b_box {W W' : World} {va vb : Value} (h : Below (bW W va vb).heap.size (bW W va vb) W') : W'.cell? ⟨W.heap.size, 0, none⟩ = some va ∧ W'.cell? ⟨W.heap.size, 1, none⟩ = some vb := by
  have h1 : W'.heap[W.heap.size]? = some (.cells #[va, vb] 24 (0, 0)) := (h.block W.heap.size (by simp)).trans (heap_alloc_new _ _)
  exact ⟨cell_of_row _ _ _ _ _ _ h1, cell_of_row _ _ _ _ _ _ h1⟩
theorem b_up (W : World) (va vb : Value) : Below W.heap.size W (bW W va vb) := (Below.refl _ W).alloc (Nat.le_refl _) _

attribute [local go_sem ↓] appI_rw

set_option maxRecDepth 100000 in
set_option maxHeartbeats 8000000 in
theorem blockWalks_any {W : World} {va vb vl : Value} {la lb l : List Int} (ha : Ux W va la) (hb : Ux W vb lb) (hl : Hx W vl l) :
    Calls Try.prog 4 #[.agg #[va, vb], vl] W fun e w' => e = .returned (.bool true) ∧ Below W.heap.size W w' := by
  have HSA := Lib.hid (fun W' => sanity_any W')
  obtain ⟨P0, hP0⟩ : ∃ P0, P0 = bW W va vb := ⟨_, rfl⟩
  have HB : Hid (Below P0.heap.size P0 (bW W va vb)) := Lib.hid (by rw [hP0]; exact Below.refl _ _)
  have HBX := Lib.hid (fun W' (h : Below P0.heap.size P0 W') => b_box (W' := W') (W := W) (va := va) (vb := vb) (by rw [← hP0]; exact h))
  have hup : Below W.heap.size W P0 := by rw [hP0]; exact b_up W va vb
  have HUP := Lib.hid (fun W' (h : Below P0.heap.size P0 W') => hup.trans (h.mono hup.size))
  have HMA := Lib.hid (fun W' (h : Below P0.heap.size P0 W') => made_ix (ha.below (HUP.out _ h)) (hb.below (HUP.out _ h)))
  have HLX := Lib.hid (fun W' (h : Below P0.heap.size P0 W') => hl.below (HUP.out _ h))
  have HFIT := Lib.hid (fun k => (hl.fit k).1)
  clear ha hb hl hup hP0
  go_enter Try.func4, Try.ntmps4
  go_upto_region 3 with (first
    | (go_at_call 8; (with_reducible refine (HSA.out _).mono ?_); rintro e w1 ⟨rfl, hb⟩; have HB := Lib.hid (HB.out.trans (hb.mono HB.out.size)); obtain ⟨b0, b1⟩ := HBX.out _ HB.out; clear hb)
    | (go_at_call 9; (with_reducible refine (HMA.out _ HB.out).mono ?_); rintro e w2 ⟨ar, nr, cr, az, ns, cs, rfl, hr, hs, hb⟩; have HR := Lib.hid hr; have HS := Lib.hid hs; have HB2 := Lib.hid (HB.out.trans (hb.mono HB.out.size)); clear hb hr hs))
  change Code.wp _ _ _ _ (dbox w2 (.slice ar nr cr) (.slice az ns cs))
  have hD := dbox_is w2 (.slice ar nr cr) (.slice az ns cs)
  have hR := HR.out.below (dbox_below w2 (.slice ar nr cr) (.slice az ns cs))
  have hS := HS.out.below (dbox_below w2 (.slice ar nr cr) (.slice az ns cs))
  have hB3 := HB2.out.trans ((dbox_below w2 (.slice ar nr cr) (.slice az ns cs)).mono HB2.out.size)
  generalize dbox w2 (.slice ar nr cr) (.slice az ns cs) = W3 at hD hR hS hB3 ⊢
  generalize w2.heap.size = g6 at hD ⊢
  have hnr : nr ≤ 5 := by have := hR.size; have := ratV_len la; omega
  have hlr : (ratV la 4).length ≤ 8 := by have := ratV_len la; omega
  have hls : (sizD lb).length ≤ 8 := by have := sizD_len lb; omega
  have hnr2 := hR.size
  have HWK := Lib.hid (walk_ix hR hS hlr hls (has_made la lb) (HLX.out _ hB3))
  have HF := Lib.hid (fun k => w_facts (has_made la lb) HFIT.out k)
  obtain ⟨k0, k1, k2, k3, k4, k5⟩ := hD.cells
  have HD := Lib.hid hD
  have HR3 := Lib.hid hR
  have HB3 := Lib.hid hB3
  revert HWK HF HR3 hlr hnr2
  generalize ratV la 4 = r
  generalize sizD lb = s
  intro hlr hnr2 HWK HF HR3
  have HNR := Lib.hid hnr2
  clear hD hR hS hB3 HB2 HR HS HB HSA HMA hls HLX HFIT hnr2
  go_upto_region 8 with ((go_at_call 21; (with_reducible refine HWK.out.mono ?_); rintro e w4 ⟨aT, cT, aR, cR, m, rfl, hm, hT, hRo, hb⟩; have HT := Lib.hid hT; have HRO := Lib.hid hRo; have HB4 := Lib.hid hb; clear hT hRo hb))
  clear k0 k1 k2 k3 k4 k5
  have HB5 := Lib.hid (HB3.out.trans (HB4.out.mono HB3.out.size))
  have HD5 := Lib.hid (HD.out.below HB4.out)
  have HR5 := Lib.hid (HR3.out.below HB4.out)
  have HTL := Lib.hid (takeC_len r s l m)
  go_loopw [10, 30] (fun lv kv wr => ∃ (k : Nat) (aL : Option Addr) (nL cL : Nat), k ≤ m ∧ kv = .int .i64 (k : Nat) ∧ lv = .slice aL nL cL ∧ Hid (OwI wr w4.heap.size (.slice aL nL cL) nL (wRow r s l k)) ∧ Hid (nL = 0 → aL = none ∧ cL = 0) ∧ Hid (Below w4.heap.size w4 wr)) (fun _ kv _ => m - (intOf kv).toNat)
  case atStart => exact ⟨0, none, 0, 0, by omega, rfl, rfl, Lib.hid (World.ownsRow_nil _ _ _ _), Lib.hid (fun _ => ⟨rfl, rfl⟩), Lib.hid (Below.refl _ _)⟩
  case round =>
    obtain ⟨k, aL, nL, cL, hk, rfl, rfl, hO, hNI, hB⟩ := hrel
    by_cases hkm : k = m
    · subst hkm
      go_wp2
      go_ret
      exact ⟨rfl, HUP.out _ (HB5.out.trans (hB.out.mono HB5.out.size))⟩
    · have hlt : k < m := by omega
      obtain ⟨hcase, ⟨a, ha, hz, h1⟩, hin, hbl, hnext⟩ := HF.out k
      have hnL := owI_len hO.out
      obtain ⟨bT, oT, rfl, hcapT, hbT, hclT⟩ := HT.out.at (by omega)
      obtain ⟨f0, f1, f2⟩ := hclT k hlt
      rw [takeC_get hlt] at f0 f1 f2
      have f0 := cell_later hB.out f0
      have f1 := cell_later hB.out f1
      have f2 := cell_later hB.out f2
      have hbT2 : bT < wr.heap.size := Nat.lt_of_lt_of_le hbT hB.out.size
      revert hcase ha hz h1 hin hbl hnext f0 f1 f2
      generalize wCh r s l k = c
      obtain ⟨cx, cy, cz⟩ := c
      intro hcase ha hz h1 hin hbl hnext f0 f1 f2
      simp only at hcase hz h1 hin hbl hnext f0 f1 f2
      subst hz
      go_upto_region 10 with fail
      change Code.wp _ _ _ _ (cbox wr (cx, cy, (a : Int)))
      have hCB := cbox_is wr (cx, cy, (a : Int))
      have hO5 := owns_later hO.out (cbox_below wr (cx, cy, (a : Int)))
      have hb5 := hB.out.trans ((cbox_below wr (cx, cy, (a : Int))).mono hB.out.size)
      clear f0 f1 f2
      revert hCB hO5 hb5
      generalize cbox wr (cx, cy, (a : Int)) = W5
      generalize wr.heap.size = g12
      intro hCB hO5 hb5
      obtain ⟨f0, f1, f2⟩ := hCB.cells
      obtain ⟨k0, k1, k2, k3, k4, k5⟩ := (HD5.out.below hb5).cells
      have HCB := Lib.hid hCB
      have HO5 := Lib.hid hO5
      have HB6 := Lib.hid hb5
      have HBLEN := Lib.hid hbl
      have hanr : a < nr := by have := HNR.out; omega
      have HIN := Lib.hid hin
      have HNEXT := Lib.hid hnext
      have HCASE := Lib.hid hcase
      have HNL := Lib.hid hnL
      have hnn : ¬ (nr : Int) ≤ (a : Int) := by omega
      have hq : (cy = 0 ∧ nL = nr) ∨ (1 ≤ cy ∧ cy ≤ 4 ∧ nL = 0) := by
        have := HNR.out
        rcases hcase with ⟨h2, h3⟩ | ⟨⟨h2, h3⟩, h4⟩
        · exact .inl ⟨h2, by omega⟩
        · rw [h4] at hnL; exact .inr ⟨h2, h3, hnL⟩
      clear hCB hO5 hb5 hbl hin hnext hcase hnL hO hB ha
      go_upto_if 54 with fail
      go_cut [10] from 35 to 54 (fun sv wx => sv = .slice aL nL cL ∧ wx = W5)
      case first =>
        rcases hq with ⟨hy, hn⟩ | ⟨hy1, hy4, hn⟩
        · subst hy hn
          have hn0 : ¬ nL = 0 := by omega
          go_wp2_with fail
          all_goals first | (go_meet; exact ⟨rfl, rfl⟩) | (exfalso; rename_i h9; simp [hn0] at h9; omega)
        · subst hn
          have hy0 : ¬ cy = 0 := by omega
          go_wp2_with fail
          all_goals first | (go_meet; exact ⟨rfl, rfl⟩) | (exfalso; rename_i h9; simp [hy0] at h9; omega)
      case' rest =>
        obtain ⟨rfl, rfl⟩ := hcut
        go_upto_if 57 with fail
        go_cut [10] from 55 to 75 (fun lv wx => ∃ (aB : Option Addr) (cB : Nat), lv = .slice aB nr cB ∧ Hid (OwI wx w4.heap.size (.slice aB nr cB) nr (blockV r (wRow r s l k) cy)) ∧ Hid (Below wc.heap.size wc wx))
        case first =>
          rcases hq with ⟨hy, hn⟩ | ⟨hy1, hy4, hn⟩
          · subst hy hn
            go_wp2_with fail
            go_meet
            exact ⟨aL, cL, rfl, Lib.hid (by unfold blockV; rw [if_pos rfl]; exact HO5.out), Lib.hid (Below.refl _ _)⟩
          · obtain ⟨rfl, rfl⟩ := hNI.out hn
            subst hn
            have hy0 : ¬ cy = 0 := by omega
            have HMP : Hid (blockV r (wRow r s l k) cy = r.map fun x => cy * x) := Lib.hid (by unfold blockV; rw [if_neg hy0])
            have HRX := Lib.hid (HR5.out.below HB6.out)
            have HBD : Hid (∀ j, j < nr → 0 ≤ cy * r.getD j 0 ∧ cy * r.getD j 0 ≤ 1048576) := Lib.hid fun j hj => by
              have := (inB_iff.1 HIN.out) j (by rw [HBLEN.out, ← HNR.out]; exact hj)
              rw [HMP.out, getD_map (by rw [← HNR.out]; exact hj)] at this
              exact this
            go_wp2_with fail
            clear k0 k1 k2 k3 k4 k5 f0 f1 f2
            go_loopw [10, 61] (fun lv kv wr => ∃ (j : Nat) (aB : Option Addr) (cB : Nat), j ≤ nr ∧ kv = .int .i64 (j : Nat) ∧ lv = .slice aB j cB ∧ Hid (OwI wr wc.heap.size (.slice aB j cB) j ((r.map fun x => cy * x).take j)) ∧ Hid (Below wc.heap.size wc wr)) (fun _ kv _ => nr - (intOf kv).toNat)
            case atStart => exact ⟨0, none, 0, by omega, rfl, rfl, Lib.hid (World.ownsRow_nil _ _ _ _), Lib.hid (Below.refl _ _)⟩
            case round =>
              obtain ⟨j, aB, cB, hj, rfl, rfl, hO, hB⟩ := hrel
              by_cases hjn : j = nr
              · have HOF : Hid (OwI wr wc.heap.size (.slice aB nr cB) nr (r.map fun x => cy * x)) := Lib.hid (by
                  have h9 := hO.out
                  rw [hjn] at h9
                  rwa [List.take_of_length_le (by rw [List.length_map, ← HNR.out]; exact Nat.le_refl _)] at h9)
                subst hjn
                go_wp2_with fail
                go_meet
                exact ⟨aB, cB, rfl, Lib.hid (by rw [HMP.out]; exact owns_mono HOF.out HB6.out.size), hB⟩
              · have hjlt : j < nr := by omega
                obtain ⟨f0, f1, f2⟩ := CBox.cells (HCB.out.below hB.out)
                obtain ⟨k0, k1, k2, k3, k4, k5⟩ := (HD5.out.below (HB6.out.trans (hB.out.mono HB6.out.size))).cells
                obtain ⟨br, ofr, rfl, hqr, hcapr, hblr, hclr⟩ := HRX.out.at (by omega)
                have hcr := cell_later hB.out (hclr j hjlt)
                have hbd := HBD.out j hjlt
                obtain ⟨g, cap3, w7, hrun, hown, hb7, -, -, -⟩ := push_int (W := wr.drew) (hO.out : OwI wr.drew _ _ _ _) (by omega) hB.out.size (cy * r.getD j 0)
                have e : (r.map fun x => cy * x).take (j + 1) = (r.map fun x => cy * x).take j ++ [cy * r.getD j 0] := by
                  rw [take_next (by rw [List.length_map, ← HNR.out]; exact hjlt), getD_map (by rw [← HNR.out]; exact hjlt)]
                rw [← e] at hown
                obtain ⟨x, hx⟩ : ∃ x, x = r.getD j 0 := ⟨_, rfl⟩
                rw [← hx] at hcr hbd hrun
                have hrun : Sem.run Try.prog (appI 25 #[.slice aB j cB, .slice (some ⟨wr.heap.size, 0, none⟩) 1 1]) (wr.alloc (.cells #[.int .i64 (cy * x)] 3)).drew = .ok (.slice (some ⟨g, 0, none⟩) (j + 1) cap3) w7 := hrun
                have hw2 : IntKind.i64.wrap (cy * x) = cy * x := IntWalk.i64_in _ (by omega)
                have HO7 := Lib.hid hown
                have HB7 := Lib.hid (hB.out.drew.trans hb7)
                clear hx hqr hclr hown hb7 e hO hbd hblr
                go_wp2
                go_region_law (fail)
                all_goals (go_wp2; go_roundw; all_goals first | exact ⟨j + 1, some ⟨g, 0, none⟩, cap3, by omega, by go_num, rfl, HO7, HB7⟩ | (simp [intOf]; done) | (simp [intOf]; omega))
        case' rest =>
          obtain ⟨aB, cB, rfl, HOB, HBc⟩ := hcut
          have HBX2 := Lib.hid (HB6.out.trans (HBc.out.mono HB6.out.size))
          obtain ⟨f0, f1, f2⟩ := CBox.cells (HCB.out.below HBc.out)
          have hI1 := HIN.out
          have hl1 : (blockV r (wRow r s l k) cy).length = nr := by rw [HBLEN.out, HNR.out]
          have hLin := less_in hI1 (by rw [hl1]; exact hanr) h1
          have hLlen : (lessV (blockV r (wRow r s l k) cy) (a : Int)).length = nr := by unfold lessV; rw [List.length_set]; exact hl1
          obtain ⟨g, cap, e, hcap, hg, hgl, hgc, hfr, hset⟩ := OwI.parts HOB.out (by omega)
          injection e with e e7 e8
          subst e
          clear e7 e8 hcap
          have hca := hgc a hanr
          have hfa := hfr a
          have hst := hset a ((blockV r (wRow r s l k) cy).getD a 0 - 1) hanr
          have hst2 : OwI (wc.setCell ⟨g, a, none⟩ (.int .i64 ((blockV r (wRow r s l k) cy).getD a 0 - 1))) w4.heap.size (.slice (some ⟨g, 0, none⟩) nr cB) nr (lessV (blockV r (wRow r s l k) cy) (a : Int)) := hst
          have hq1 := (inB_iff.1 hI1) a (by rw [hl1]; exact hanr)
          have hb7 := HBX2.out.setCell (p := ⟨g, a, none⟩) (by simp only; exact hg) (.int .i64 ((blockV r (wRow r s l k) cy).getD a 0 - 1))
          have HNX : Hid (wRow r s l (k + 1) = if leftV (lessV (blockV r (wRow r s l k) cy) (a : Int)) = 0 then [] else lessV (blockV r (wRow r s l k) cy) (a : Int)) := Lib.hid HNEXT.out
          have hTv : leftV (lessV (blockV r (wRow r s l k) cy) (a : Int)) = (lessV (blockV r (wRow r s l k) cy) (a : Int)).sum := by unfold leftV; rw [if_pos hLin]
          have HTV := Lib.hid hTv
          clear hTv hset hst hgc hfr hgl hI1 hl1 h1
          revert hca hst2 hq1 hb7 hLin hLlen HNX HTV
          generalize lessV (blockV r (wRow r s l k) cy) (a : Int) = Lv
          generalize (blockV r (wRow r s l k) cy).getD a 0 = q
          intro hLin hLlen hca hst2 hq1 hb7 HNX HTV
          have HLI := Lib.hid hLin
          have HLL := Lib.hid hLlen
          have HOY := Lib.hid hst2
          have HB7 := Lib.hid hb7
          clear hst2 hb7 hLin hLlen
          go_upto_region 21 with fail
          change Code.wp _ _ _ _ (World.setCell wc ⟨g, a, none⟩ (.int .i64 (q - 1)))
          revert HOY HB7
          generalize World.setCell wc ⟨g, a, none⟩ (.int .i64 (q - 1)) = WY
          intro HOY HB7
          have HCY := Lib.hid (OwI.parts HOY.out (by omega))
          clear hca hfa hq1 f0 f1 f2 k0 k1 k2 k3 k4 k5
          go_loop [14, 85] (fun sv kv => ∃ (j : Nat) (S : Int), j ≤ nr ∧ 0 ≤ S ∧ S ≤ 1048576 * 1000 ∧ kv = .int .i64 (j : Nat) ∧ sv = .int .i64 S ∧ Hid (S = (Lv.take j).sum)) (fun _ kv => nr - (intOf kv).toNat)
          case atStart => exact ⟨0, 0, by omega, by omega, by omega, rfl, rfl, Lib.hid (by simp)⟩
          case round =>
            obtain ⟨j, S, hj, hS0, hS1, rfl, rfl, hJ⟩ := hrel
            by_cases hjn : j = nr
            · have hS : S = leftV Lv := by rw [hJ.out, HTV.out, hjn, ← HLL.out, List.take_length]
              have hjn2 : ¬ j < nr := by omega
              obtain ⟨gR, aoR, nR, cpR, rfl, hmR, hcR, hiR⟩ := HRO.out k hlt
              have hcR2 := cell_later HB7.out hcR
              have hiR2 := hiR.below HB7.out
              have HIR := Lib.hid hiR2
              have hlen : (wRow r s l (k + 1)).length ≤ 8 := wRow_len hlr (k + 1)
              have HLE := Lib.hid (fun W' (hb : Below WY.heap.size WY W') => left_any (hiR2.below hb) (by omega))
              by_cases hT : leftV Lv = 0
              · have hnx : wRow r s l (k + 1) = [] := by rw [HNX.out, if_pos hT]
                rw [hT] at hS
                subst hS
                have HSI := Lib.hid (sameInts_yes hiR2 (by rw [hnx]; exact Ix.nil WY none 0))
                have HLE2 := Lib.hid (fun W' (hb : Below WY.heap.size WY W') => by have := HLE.out W' hb; rw [hnx] at this; exact this)
                have HNX2 := Lib.hid hnx
                clear hjn hcR hiR hiR2 hlen hnx hT hJ HLE
                go_wp2_with (first
                  | (go_at_call 20; (with_reducible refine HSI.out.mono ?_); rintro e w8 ⟨rfl, hb8⟩; have hcR2 := cell_later hb8 hcR2; have HB8 := Lib.hid hb8; clear hb8)
                  | (go_at_call 15; (with_reducible refine (HLE2.out _ HB8.out).mono ?_); rintro e w9 ⟨rfl, hb9⟩; have HB9 := Lib.hid (HB8.out.trans (hb9.mono HB8.out.size)); clear hb9))
                go_roundw
                case rel => exact ⟨k + 1, none, 0, 0, by omega, by go_num, rfl, Lib.hid (by rw [HNX2.out]; exact World.ownsRow_nil _ _ _ _), Lib.hid (fun _ => ⟨rfl, rfl⟩), Lib.hid (HB7.out.trans (HB9.out.mono HB7.out.size))⟩
                case measure => simp [intOf]; omega
              · have hnx : wRow r s l (k + 1) = Lv := by rw [HNX.out, if_neg hT]
                have HOI := Lib.hid (OwI.ix HOY.out (by omega) (fit_in HLI.out))
                have HSI := Lib.hid (sameInts_yes hiR2 (by rw [hnx]; exact HOI.out))
                have HLE2 := Lib.hid (fun W' (hb : Below WY.heap.size WY W') => by have := HLE.out W' hb; rw [hnx, ← hS] at this; exact this)
                have HNX2 := Lib.hid hnx
                have hS3 : ¬ S = 0 := by omega
                clear hjn hcR hiR hiR2 hlen hnx hT hJ HLE hS
                go_wp2_with (first
                  | (go_at_call 20; (with_reducible refine HSI.out.mono ?_); rintro e w8 ⟨rfl, hb8⟩; have hcR2 := cell_later hb8 hcR2; have HB8 := Lib.hid hb8; clear hb8)
                  | (go_at_call 15; (with_reducible refine (HLE2.out _ HB8.out).mono ?_); rintro e w9 ⟨rfl, hb9⟩; have HB9 := Lib.hid (HB8.out.trans (hb9.mono HB8.out.size)); clear hb9))
                go_roundw
                case rel => exact ⟨k + 1, _, nr, cB, by omega, by go_num, rfl, Lib.hid (by rw [HNX2.out]; exact owns_later HOY.out HB9.out), Lib.hid (fun h => by omega), Lib.hid (HB7.out.trans (HB9.out.mono HB7.out.size))⟩
                case measure => simp [intOf]; omega
            · have hjlt : j < nr := by omega
              obtain ⟨gg, capp, ee, -, -, -, hgc2, -, -⟩ := HCY.out
              injection ee with ee _ ee2
              injection ee with ee
              injection ee with ee
              subst ee
              have hcj := hgc2 j hjlt
              have hs := sum_in HLI.out (j + 1) (by rw [HLL.out]; omega)
              have e := sum_take (l := Lv) (k := j) (by rw [HLL.out]; omega)
              have hbd := (inB_iff.1 HLI.out) j (by rw [HLL.out]; omega)
              rw [e, ← hJ.out] at hs
              rw [← hJ.out] at e
              obtain ⟨x, hx⟩ : ∃ x, x = Lv.getD j 0 := ⟨_, rfl⟩
              rw [← hx] at hcj hs e hbd
              obtain ⟨hs1, hs2⟩ := hs
              obtain ⟨hb1, hb2⟩ := hbd
              have hs3 : S + x ≤ 1048576 * 1000 := by omega
              have E := Lib.hid e
              clear hx hgc2 e hs2 hJ ee2
              go_wp2
              go_round
              case rel => exact ⟨j + 1, S + x, by omega, hs1, hs3, by go_num, rfl, Lib.hid E.out.symm⟩
              case measure => simp [intOf]; omega

end Go.Proofs.Ytjlneggfkpjnpaa
