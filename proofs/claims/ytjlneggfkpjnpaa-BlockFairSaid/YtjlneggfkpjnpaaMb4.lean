/- Contract of the reference: Choices. Condition: the slices read as ints, at most eight each. Contract of the reference: Choices, all cases. Condition: the slices read as ints, at most eight each. Contract of the reference: Next. Condition: the slices read as ints, at most eight each. Contracts: pick, cut, Mod, goes. -/
import Derived.Test.YtjlneggfkpjnpaaMb3
set_option linter.unusedSimpArgs false
set_option linter.unusedVariables false
namespace Go.Proofs.Ytjlneggfkpjnpaa
open Go.RowKit

theorem coll_nil {w : List Int} (h : inB 0 1048576 w = true) : ∀ k, k ≤ w.length → ((coll 0 w k).length = 0 ↔ (w.take k).sum = 0)
  | 0, _ => by simp [coll]
  | k + 1, hk => by
    have ih := coll_nil h k (by omega)
    have h1 := (inB_iff.1 h) k (by omega)
    have h2 := sum_in h k (by omega)
    rw [coll, List.length_append, sum_take (by omega)]
    split
    · rename_i h3
      simp only [List.length_cons, List.length_nil]
      omega
    · rename_i h3
      simp only [List.length_nil]
      omega

attribute [local go_sem ↓] appC_rw

set_option maxRecDepth 10000 in
set_option maxHeartbeats 4000000 in
theorem rChoices_fit {W : World} {ar az aw : Option Addr} {nr cr ns cs nw cw : Nat} {r s row : List Int} (hr : Ix W (.slice ar nr cr) r) (hs : Ix W (.slice az ns cs) s) (hw : Ix W (.slice aw nw cw) row) (lr : r.length ≤ 8) (ls : s.length ≤ 8) (lw : row.length ≤ 8) (hH : hasB r s = true) (hF : fitB r row = true) :
    Calls Try.prog 12 #[.agg #[.int .i64 0, .slice ar nr cr, .slice az ns cs, .int .i64 0, .int .i64 0, .int .i64 0], .slice aw nw cw] W fun e w' => ∃ ao n cap, e = .returned (.slice ao n cap) ∧ OwC w' W.heap.size (.slice ao n cap) n (chV r s row) ∧ Below W.heap.size W w' := by
  have hnr := hr.size
  have hns := hs.size
  have hnw := hw.size
  have HB0 := Lib.hid (dbox_below W (.slice ar nr cr) (.slice az ns cs))
  have HH := Lib.hid (blocks_any (hr.below HB0.out) (hs.below HB0.out))
  have HG := Lib.hid (fun W' (hb : Below W.heap.size W W') => ranged_any (hw.below hb))
  rw [hH] at HH
  have hno : inB 0 1048576 row = true ∧ (nw = 0 ∨ nw = nr) := by
    unfold fitB at hF
    rw [Bool.or_eq_true, Bool.and_eq_true, decide_eq_true_eq, decide_eq_true_eq] at hF
    rcases hF with hF | hF
    · refine ⟨?_, .inl (by omega)⟩
      rw [List.eq_nil_of_length_eq_zero hF]; rfl
    · exact ⟨hF.2, .inr (by omega)⟩
  obtain ⟨hin, hlen⟩ := hno
  rw [hin] at HG
  have hleft : leftV row = row.sum := by unfold leftV; rw [if_pos hin]
  have hcn := coll_nil hin row.length (Nat.le_refl _)
  rw [List.take_length, ← hleft] at hcn
  have hl0 : 0 ≤ leftV row := by
    have := (sum_in hin row.length (Nat.le_refl _)).1
    rwa [List.take_length, ← hleft] at this
  have HCH : Hid (chV r s row = if (coll 0 row row.length).length = 0 then blks r s s.length else coll 0 row row.length) := Lib.hid (by
    by_cases h0 : (coll 0 row row.length).length = 0
    · rw [if_pos h0, chV_new hH hF (by have := hcn.1 h0; omega)]
    · rw [if_neg h0, chV_row hH hF (by have : ¬ leftV row = 0 := fun e => h0 (hcn.2 e)
                                       omega)])
  have HX := Lib.hid hw
  have HR := Lib.hid hr
  have HS := Lib.hid hs
  have HLEN : Hid (∀ k, k ≤ 8 → (blks r s k).length ≤ 64) := Lib.hid (fun k hk => Nat.le_trans (blks_len r s k) (Nat.le_trans (Nat.mul_le_mul hk lr) (by decide)))
  rw [← hnw] at HCH lw
  rw [← hns] at HCH ls
  have HNR := Lib.hid hnr
  have hnr8 : nr ≤ 8 := by omega
  clear hr hs hw hnr hns hnw hH hF lr hin hleft hcn hl0
  go_enter Try.func12, Try.ntmps12
  rcases (show nw = 0 ∨ (¬ nw = 0 ∧ nw = nr) by omega) with h0 | ⟨hne, h0⟩
  · subst h0
    go_wp2_with (first
      | (go_at_call 28; (with_reducible refine HH.out.mono ?_); rintro e w1 ⟨rfl, hb1⟩; have HB := Lib.hid hb1; obtain ⟨c0, c1, c2, c3, c4, c5⟩ := (DBox.below (dbox_is _ _ _) HB.out).cells; clear hb1)
      | (go_at_call 29; (with_reducible refine (HG.out _ (dbox_up HB.out)).mono ?_); rintro e w2 ⟨rfl, rfl⟩))
    clear c0 c1 c2 c3 c4 c5
    simp only [dbox_size] at HB
    go_loopw [5, 6] (fun ov kv wr => ∃ (k : Nat) (ao2 : Option Addr) (m cap2 : Nat), k ≤ 0 ∧ m ≤ k ∧ kv = .int .i64 (k : Nat) ∧ ov = .slice ao2 m cap2 ∧ Hid (OwC wr (W.heap.size + 1) (.slice ao2 m cap2) m (coll 0 row k)) ∧ Hid (Below (W.heap.size + 1) (dbox W (.slice ar nr cr) (.slice az ns cs)) wr)) (fun _ kv _ => 0 - (intOf kv).toNat)
    case atStart => exact ⟨0, none, 0, 0, by omega, by omega, rfl, rfl, Lib.hid (World.ownsRow_nil _ _ _ _), HB⟩
    case round =>
      obtain ⟨k, ao2, m, cap2, hk, hm, rfl, rfl, hO, hB⟩ := hrel
      by_cases hkn : k = 0
      · have hO1 := hO.out
        rw [hkn] at hO1
        have HO := Lib.hid hO1
        have hmn := owC_len hO1
        by_cases h0 : m = 0
        · have E : Hid (chV r s row = blks r s ns) := Lib.hid (by rw [HCH.out, if_pos (by omega)])
          have HO2 : Hid (OwC wr (W.heap.size + 1) (.slice ao2 0 cap2) 0 (blks r s 0)) := Lib.hid (by
            have e : coll 0 row 0 = [] := List.eq_nil_of_length_eq_zero (by omega)
            rw [e, h0] at hO1; exact hO1)
          subst h0
          have hkn2 : ¬ k < 0 := by omega
          clear hO hO1 HO hmn hkn HCH hm
          obtain ⟨c0, c1, c2, c3, c4, c5⟩ := (DBox.below1 hB.out).cells
          go_wp2
          clear c0 c1 c2 c3 c4 c5
          go_loopw [5, 7, 8] (fun ov kv _ wr => ∃ (k : Nat) (ao2 : Option Addr) (m cap2 : Nat), k ≤ ns ∧ kv = .int .i64 (k : Nat) ∧ ov = .slice ao2 m cap2 ∧ Hid (OwC wr (W.heap.size + 1) (.slice ao2 m cap2) m (blks r s k)) ∧ Hid (Below (W.heap.size + 1) (dbox W (.slice ar nr cr) (.slice az ns cs)) wr)) (fun _ kv _ _ => ns - (intOf kv).toNat)
          case atStart => exact ⟨0, ao2, 0, cap2, by omega, rfl, rfl, HO2, hB⟩
          case round =>
            obtain ⟨i, ao2, m, cap2, hi, rfl, rfl, hO, hB⟩ := hrel
            obtain ⟨c0, c1, c2, c3, c4, c5⟩ := (DBox.below1 hB.out).cells
            by_cases hin : i = ns
            · subst hin
              go_wp2
              go_ret
              exact ⟨_, _, _, rfl, by rw [E.out]; exact owns_mono hO.out (by omega), dbox_up1 hB.out⟩
            · have hlt : i < ns := by omega
              obtain ⟨bs, ofs, rfl, hqs, hcaps, hbls, hcls⟩ := HS.out.at (by omega)
              have HCS := Lib.hid (hcls i hlt)
              obtain ⟨x, hx⟩ : ∃ x, x = s.getD i 0 := ⟨_, rfl⟩
              have HXE := Lib.hid hx
              rw [← hx] at HCS
              clear hx hcls hqs hbls
              go_wp2
              clear c0 c1 c2 c3 c4 c5
              go_loopw [5, 8] (fun ov kv wr => ∃ (k : Nat) (ao2 : Option Addr) (m cap2 : Nat), k ≤ nr ∧ kv = .int .i64 (k : Nat) ∧ ov = .slice ao2 m cap2 ∧ Hid (OwC wr (W.heap.size + 1) (.slice ao2 m cap2) m (blks r s i ++ coll x r k)) ∧ Hid (Below (W.heap.size + 1) (dbox W (.slice ar nr cr) (.slice (some ⟨bs, ofs, none⟩) ns cs)) wr)) (fun _ kv _ => nr - (intOf kv).toNat)
              case atStart => exact ⟨0, ao2, m, cap2, by omega, rfl, rfl, Lib.hid (by rw [coll, List.append_nil]; exact hO.out), hB⟩
              case round =>
                obtain ⟨k, ao2, m, cap2, hk, rfl, rfl, hO, hB⟩ := hrel
                obtain ⟨c0, c1, c2, c3, c4, c5⟩ := (DBox.below1 hB.out).cells
                by_cases hkn : k = nr
                · have HO3 : Hid (OwC wr (W.heap.size + 1) (.slice ao2 m cap2) m (blks r s (i + 1))) := Lib.hid (by
                    rw [blks, ← HXE.out, ← HNR.out, ← hkn]; exact hO.out)
                  subst hkn
                  clear hO
                  go_wp2
                  go_roundw
                  case rel => exact ⟨i + 1, ao2, m, cap2, by omega, by go_num, rfl, HO3, hB⟩
                  case measure => first | (simp [intOf]; done) | (simp [intOf]; omega)
                · have hlt2 : k < nr := by omega
                  obtain ⟨b, off, rfl, hq, hcap, hbl, hcl⟩ := HR.out.at (by omega)
                  have hc := cell_later (dbox_up1 hB.out) (hcl k hlt2)
                  have hd := cell_later (dbox_up1 hB.out) HCS.out
                  have hml : m ≤ 100 := by
                    have h1 := owC_len hO.out
                    have h2 := HLEN.out i (by omega)
                    have h3 := coll_len x r k
                    rw [List.length_append] at h1
                    omega
                  obtain ⟨y, hy⟩ : ∃ y, y = r.getD k 0 := ⟨_, rfl⟩
                  by_cases h0 : 0 < y
                  · obtain ⟨g, cap3, w3, hrun, hown, hb, -, -, -⟩ := push_choice (W := wr.drew) (hO.out : OwC wr.drew _ _ _ _) (by omega) (by have h9 := hB.out.size; rw [dbox_size] at h9; exact h9) y x (k : Int)
                    have hrun : Sem.run Try.prog (appC 39 #[.slice ao2 m cap2, .slice (some ⟨wr.heap.size, 0, none⟩) 1 1]) (wr.alloc (.cells #[.int .i64 y, .int .i64 x, .int .i64 (k : Int)] 28)).drew = .ok (.slice (some ⟨g, 0, none⟩) (m + 1) cap3) w3 := hrun
                    have e : blks r s i ++ coll x r k ++ [(y, x, (k : Int))] = blks r s i ++ coll x r (k + 1) := by
                      rw [coll, ← hy, if_pos h0, List.append_assoc]
                    rw [e] at hown
                    rw [← hy] at hc
                    have HO2 := Lib.hid hown
                    have HB2 := Lib.hid (hB.out.drew.trans hb)
                    clear hy hcl hq hown hb hO e
                    go_wp2
                    go_region_law (fail)
                    all_goals (go_wp2; go_roundw; all_goals first | exact ⟨k + 1, some ⟨g, 0, none⟩, m + 1, cap3, by omega, by go_num, rfl, HO2, HB2⟩ | (simp [intOf]; done) | (simp [intOf]; omega))
                  · have e : coll x r (k + 1) = coll x r k := by
                      rw [coll, ← hy, if_neg h0, List.append_nil]
                    have HO2 := Lib.hid hO.out
                    rw [← e] at HO2
                    rw [← hy] at hc
                    clear hy hcl hq hO e
                    go_wp2
                    go_roundw
                    case rel => exact ⟨k + 1, ao2, m, cap2, by omega, by go_num, rfl, HO2, hB⟩
                    case measure => first | (simp [intOf]; done) | (simp [intOf]; omega)
        · have E : Hid (chV r s row = coll 0 row 0) := Lib.hid (by rw [HCH.out, if_neg (by omega)])
          subst hkn
          clear hO hO1 hmn HCH hm
          go_wp2
          go_ret
          exact ⟨_, _, _, rfl, by rw [E.out]; exact owns_mono HO.out (by omega), dbox_up1 hB.out⟩
      · exfalso; omega
  · subst h0
    go_wp2_with (first
      | (go_at_call 28; (with_reducible refine HH.out.mono ?_); rintro e w1 ⟨rfl, hb1⟩; have HB := Lib.hid hb1; obtain ⟨c0, c1, c2, c3, c4, c5⟩ := (DBox.below (dbox_is _ _ _) HB.out).cells; clear hb1)
      | (go_at_call 29; (with_reducible refine (HG.out _ (dbox_up HB.out)).mono ?_); rintro e w2 ⟨rfl, rfl⟩))
    clear c0 c1 c2 c3 c4 c5
    simp only [dbox_size] at HB
    go_loopw [5, 6] (fun ov kv wr => ∃ (k : Nat) (ao2 : Option Addr) (m cap2 : Nat), k ≤ nw ∧ m ≤ k ∧ kv = .int .i64 (k : Nat) ∧ ov = .slice ao2 m cap2 ∧ Hid (OwC wr (W.heap.size + 1) (.slice ao2 m cap2) m (coll 0 row k)) ∧ Hid (Below (W.heap.size + 1) (dbox W (.slice ar nw cr) (.slice az ns cs)) wr)) (fun _ kv _ => nw - (intOf kv).toNat)
    case atStart => exact ⟨0, none, 0, 0, by omega, by omega, rfl, rfl, Lib.hid (World.ownsRow_nil _ _ _ _), HB⟩
    case round =>
      obtain ⟨k, ao2, m, cap2, hk, hm, rfl, rfl, hO, hB⟩ := hrel
      by_cases hkn : k = nw
      · have hO1 := hO.out
        rw [hkn] at hO1
        have HO := Lib.hid hO1
        have hmn := owC_len hO1
        by_cases h0 : m = 0
        · have E : Hid (chV r s row = blks r s ns) := Lib.hid (by rw [HCH.out, if_pos (by omega)])
          have HO2 : Hid (OwC wr (W.heap.size + 1) (.slice ao2 0 cap2) 0 (blks r s 0)) := Lib.hid (by
            have e : coll 0 row nw = [] := List.eq_nil_of_length_eq_zero (by omega)
            rw [e, h0] at hO1; exact hO1)
          subst h0
          have hkn2 : ¬ k < nw := by omega
          clear hO hO1 HO hmn hkn HCH hm
          obtain ⟨c0, c1, c2, c3, c4, c5⟩ := (DBox.below1 hB.out).cells
          go_wp2
          clear c0 c1 c2 c3 c4 c5
          go_loopw [5, 7, 8] (fun ov kv _ wr => ∃ (k : Nat) (ao2 : Option Addr) (m cap2 : Nat), k ≤ ns ∧ kv = .int .i64 (k : Nat) ∧ ov = .slice ao2 m cap2 ∧ Hid (OwC wr (W.heap.size + 1) (.slice ao2 m cap2) m (blks r s k)) ∧ Hid (Below (W.heap.size + 1) (dbox W (.slice ar nw cr) (.slice az ns cs)) wr)) (fun _ kv _ _ => ns - (intOf kv).toNat)
          case atStart => exact ⟨0, ao2, 0, cap2, by omega, rfl, rfl, HO2, hB⟩
          case round =>
            obtain ⟨i, ao2, m, cap2, hi, rfl, rfl, hO, hB⟩ := hrel
            obtain ⟨c0, c1, c2, c3, c4, c5⟩ := (DBox.below1 hB.out).cells
            by_cases hin : i = ns
            · subst hin
              go_wp2
              go_ret
              exact ⟨_, _, _, rfl, by rw [E.out]; exact owns_mono hO.out (by omega), dbox_up1 hB.out⟩
            · have hlt : i < ns := by omega
              obtain ⟨bs, ofs, rfl, hqs, hcaps, hbls, hcls⟩ := HS.out.at (by omega)
              have HCS := Lib.hid (hcls i hlt)
              obtain ⟨x, hx⟩ : ∃ x, x = s.getD i 0 := ⟨_, rfl⟩
              have HXE := Lib.hid hx
              rw [← hx] at HCS
              clear hx hcls hqs hbls
              go_wp2
              clear c0 c1 c2 c3 c4 c5
              go_loopw [5, 8] (fun ov kv wr => ∃ (k : Nat) (ao2 : Option Addr) (m cap2 : Nat), k ≤ nw ∧ kv = .int .i64 (k : Nat) ∧ ov = .slice ao2 m cap2 ∧ Hid (OwC wr (W.heap.size + 1) (.slice ao2 m cap2) m (blks r s i ++ coll x r k)) ∧ Hid (Below (W.heap.size + 1) (dbox W (.slice ar nw cr) (.slice (some ⟨bs, ofs, none⟩) ns cs)) wr)) (fun _ kv _ => nw - (intOf kv).toNat)
              case atStart => exact ⟨0, ao2, m, cap2, by omega, rfl, rfl, Lib.hid (by rw [coll, List.append_nil]; exact hO.out), hB⟩
              case round =>
                obtain ⟨k, ao2, m, cap2, hk, rfl, rfl, hO, hB⟩ := hrel
                obtain ⟨c0, c1, c2, c3, c4, c5⟩ := (DBox.below1 hB.out).cells
                by_cases hkn : k = nw
                · have HO3 : Hid (OwC wr (W.heap.size + 1) (.slice ao2 m cap2) m (blks r s (i + 1))) := Lib.hid (by
                    rw [blks, ← HXE.out, ← HNR.out, ← hkn]; exact hO.out)
                  subst hkn
                  clear hO
                  go_wp2
                  go_roundw
                  case rel => exact ⟨i + 1, ao2, m, cap2, by omega, by go_num, rfl, HO3, hB⟩
                  case measure => first | (simp [intOf]; done) | (simp [intOf]; omega)
                · have hlt2 : k < nw := by omega
                  obtain ⟨b, off, rfl, hq, hcap, hbl, hcl⟩ := HR.out.at (by omega)
                  have hc := cell_later (dbox_up1 hB.out) (hcl k hlt2)
                  have hd := cell_later (dbox_up1 hB.out) HCS.out
                  have hml : m ≤ 100 := by
                    have h1 := owC_len hO.out
                    have h2 := HLEN.out i (by omega)
                    have h3 := coll_len x r k
                    rw [List.length_append] at h1
                    omega
                  obtain ⟨y, hy⟩ : ∃ y, y = r.getD k 0 := ⟨_, rfl⟩
                  by_cases h0 : 0 < y
                  · obtain ⟨g, cap3, w3, hrun, hown, hb, -, -, -⟩ := push_choice (W := wr.drew) (hO.out : OwC wr.drew _ _ _ _) (by omega) (by have h9 := hB.out.size; rw [dbox_size] at h9; exact h9) y x (k : Int)
                    have hrun : Sem.run Try.prog (appC 39 #[.slice ao2 m cap2, .slice (some ⟨wr.heap.size, 0, none⟩) 1 1]) (wr.alloc (.cells #[.int .i64 y, .int .i64 x, .int .i64 (k : Int)] 28)).drew = .ok (.slice (some ⟨g, 0, none⟩) (m + 1) cap3) w3 := hrun
                    have e : blks r s i ++ coll x r k ++ [(y, x, (k : Int))] = blks r s i ++ coll x r (k + 1) := by
                      rw [coll, ← hy, if_pos h0, List.append_assoc]
                    rw [e] at hown
                    rw [← hy] at hc
                    have HO2 := Lib.hid hown
                    have HB2 := Lib.hid (hB.out.drew.trans hb)
                    clear hy hcl hq hown hb hO e
                    go_wp2
                    go_region_law (fail)
                    all_goals (go_wp2; go_roundw; all_goals first | exact ⟨k + 1, some ⟨g, 0, none⟩, m + 1, cap3, by omega, by go_num, rfl, HO2, HB2⟩ | (simp [intOf]; done) | (simp [intOf]; omega))
                  · have e : coll x r (k + 1) = coll x r k := by
                      rw [coll, ← hy, if_neg h0, List.append_nil]
                    have HO2 := Lib.hid hO.out
                    rw [← e] at HO2
                    rw [← hy] at hc
                    clear hy hcl hq hO e
                    go_wp2
                    go_roundw
                    case rel => exact ⟨k + 1, ao2, m, cap2, by omega, by go_num, rfl, HO2, hB⟩
                    case measure => first | (simp [intOf]; done) | (simp [intOf]; omega)
        · have E : Hid (chV r s row = coll 0 row nw) := Lib.hid (by rw [HCH.out, if_neg (by omega)])
          subst hkn
          clear hO hO1 hmn HCH hm
          go_wp2
          go_ret
          exact ⟨_, _, _, rfl, by rw [E.out]; exact owns_mono HO.out (by omega), dbox_up1 hB.out⟩
      · have hlt : k < nw := by omega
        obtain ⟨b, off, rfl, hq, hcap, hbl, hcl⟩ := HX.out.at (by omega)
        have hc := cell_later (dbox_up1 hB.out) (hcl k hlt)
        obtain ⟨x, hx⟩ : ∃ x, x = row.getD k 0 := ⟨_, rfl⟩
        by_cases h0 : 0 < x
        · obtain ⟨g, cap3, w3, hrun, hown, hb, -, -, -⟩ := push_choice hO.out (by omega) (by have h9 := hB.out.size; rw [dbox_size] at h9; exact h9) x 0 (k : Int)
          have e : coll 0 row k ++ [(x, 0, (k : Int))] = coll 0 row (k + 1) := by
            rw [coll, ← hx, if_pos h0]
          rw [e] at hown
          rw [← hx] at hc
          have HO2 := Lib.hid hown
          have HB2 := Lib.hid (hB.out.trans hb)
          clear hx hcl hq hown hb hO e
          go_wp2
          go_roundw
          case rel => exact ⟨k + 1, some ⟨g, 0, none⟩, m + 1, cap3, by omega, by omega, by go_num, rfl, HO2, HB2⟩
          case measure => first | (simp [intOf]; done) | (simp [intOf]; omega)
        · have e : coll 0 row (k + 1) = coll 0 row k := by
            rw [coll, ← hx, if_neg h0, List.append_nil]
          have HO2 := Lib.hid hO.out
          rw [← e] at HO2
          rw [← hx] at hc
          clear hx hcl hq hO e
          go_wp2
          go_roundw
          case rel => exact ⟨k + 1, ao2, m, cap2, by omega, by omega, by go_num, rfl, HO2, hB⟩
          case measure => first | (simp [intOf]; done) | (simp [intOf]; omega)

end Go.Proofs.Ytjlneggfkpjnpaa

namespace Go.Proofs.Ytjlneggfkpjnpaa
open Go.RowKit

set_option maxRecDepth 10000 in
set_option maxHeartbeats 4000000 in
theorem rChoices_any {W : World} {ar az aw : Option Addr} {nr cr ns cs nw cw : Nat} {r s row : List Int} (hr : Ix W (.slice ar nr cr) r) (hs : Ix W (.slice az ns cs) s) (hw : Ix W (.slice aw nw cw) row) (lr : r.length ≤ 8) (ls : s.length ≤ 8) (lw : row.length ≤ 8) :
    Calls Try.prog 12 #[.agg #[.int .i64 0, .slice ar nr cr, .slice az ns cs, .int .i64 0, .int .i64 0, .int .i64 0], .slice aw nw cw] W fun e w' => ∃ ao n cap, e = .returned (.slice ao n cap) ∧ OwC w' W.heap.size (.slice ao n cap) n (chV r s row) ∧ Below W.heap.size W w' := by
  have hnr := hr.size
  have hns := hs.size
  have hnw := hw.size
  have HB0 := Lib.hid (dbox_below W (.slice ar nr cr) (.slice az ns cs))
  have HH := Lib.hid (blocks_any (hr.below HB0.out) (hs.below HB0.out))
  have HG := Lib.hid (fun W' (hb : Below W.heap.size W W') => ranged_any (hw.below hb))
  by_cases hH : hasB r s = true
  · by_cases hF : fitB r row = true
    · exact rChoices_fit hr hs hw lr ls lw hH hF
    · rw [hH] at HH
      have hF : fitB r row = false := by simpa using hF
      rw [chV_no2 hF]
      unfold fitB at hF
      rw [Bool.or_eq_false_iff, decide_eq_false_iff_not, ← hnw, ← hnr] at hF
      obtain ⟨h0, h1⟩ := hF
      obtain ⟨q, hq⟩ : ∃ q, q = inB 0 1048576 row := ⟨_, rfl⟩
      rw [← hq] at HG h1
      cases q with
      | false =>
        clear hr hs hw hnr hns hnw hH lr ls lw h0 h1 hq
        go_enter Try.func12, Try.ntmps12
        go_wp2_with (first
          | (go_at_call 28; (with_reducible refine HH.out.mono ?_); rintro e w1 ⟨rfl, hb1⟩; have HB := Lib.hid hb1; obtain ⟨c0, c1, c2, c3, c4, c5⟩ := (DBox.below (dbox_is _ _ _) HB.out).cells; clear hb1)
          | (go_at_call 29; (with_reducible refine (HG.out _ (dbox_up HB.out)).mono ?_); rintro e w2 ⟨rfl, rfl⟩))
        all_goals (go_ret; exact ⟨_, _, _, rfl, World.ownsRow_nil _ _ _ _, dbox_up HB.out⟩)
      | true =>
        have h2 : ¬ nw = nr := by simpa using h1
        have h3 : ¬ (nw : Int) = (nr : Int) := by omega
        clear hr hs hw hnr hns hnw hH lr ls lw h1 hq
        go_enter Try.func12, Try.ntmps12
        go_wp2_with (first
          | (go_at_call 28; (with_reducible refine HH.out.mono ?_); rintro e w1 ⟨rfl, hb1⟩; have HB := Lib.hid hb1; obtain ⟨c0, c1, c2, c3, c4, c5⟩ := (DBox.below (dbox_is _ _ _) HB.out).cells; clear hb1)
          | (go_at_call 29; (with_reducible refine (HG.out _ (dbox_up HB.out)).mono ?_); rintro e w2 ⟨rfl, rfl⟩))
        all_goals first | (go_ret; exact ⟨_, _, _, rfl, World.ownsRow_nil _ _ _ _, dbox_up HB.out⟩) | (exfalso; rename_i h9 _ _; rcases h9 with h9 | h9 <;> simp at h9 <;> omega)
  · have hH : hasB r s = false := by simpa using hH
    rw [chV_no1 hH]
    rw [hH] at HH
    clear hr hs hw hnr hns hnw hH lr ls lw
    go_enter Try.func12, Try.ntmps12
    go_wp2_with (first
          | (go_at_call 28; (with_reducible refine HH.out.mono ?_); rintro e w1 ⟨rfl, hb1⟩; have HB := Lib.hid hb1; obtain ⟨c0, c1, c2, c3, c4, c5⟩ := (DBox.below (dbox_is _ _ _) HB.out).cells; clear hb1)
          | (go_at_call 29; (with_reducible refine (HG.out _ (dbox_up HB.out)).mono ?_); rintro e w2 ⟨rfl, rfl⟩))
    all_goals (go_ret; exact ⟨_, _, _, rfl, World.ownsRow_nil _ _ _ _, dbox_up HB.out⟩)

end Go.Proofs.Ytjlneggfkpjnpaa

namespace Go.Proofs.Ytjlneggfkpjnpaa
open Go.RowKit

set_option maxRecDepth 10000 in
set_option maxHeartbeats 4000000 in
theorem rNext_no {W : World} {ar az aw : Option Addr} {nr cr ns cs nw cw : Nat} {r s row : List Int} (hr : Ix W (.slice ar nr cr) r) (hs : Ix W (.slice az ns cs) s) (hw : Ix W (.slice aw nw cw) row) (lr : r.length ≤ 8) (ls : s.length ≤ 8) (lw : row.length ≤ 8) {x y z : Int} (hc : ¬ (x, y, z) ∈ chV r s row) :
    Calls Try.prog 19 #[.agg #[.int .i64 0, .slice ar nr cr, .slice az ns cs, .int .i64 0, .int .i64 0, .int .i64 0], .slice aw nw cw, .agg #[.int .i64 x, .int .i64 y, .int .i64 z]] W fun e w' => e = .returned (.tuple #[.slice none 0 0, .bool false]) ∧ Below W.heap.size W w' := by
  have HB := Lib.hid (Below.refl (nbox W (.slice ar nr cr) (.slice az ns cs) x y z).heap.size (nbox W (.slice ar nr cr) (.slice az ns cs) x y z))
  have HCH := Lib.hid (fun W' (hb : Below (nbox W (.slice ar nr cr) (.slice az ns cs) x y z).heap.size (nbox W (.slice ar nr cr) (.slice az ns cs) x y z) W') => rChoices_any (hr.below (nbox_up hb)) (hs.below (nbox_up hb)) (hw.below (nbox_up hb)) lr ls lw)
  have HCO := Lib.hid (fun W' v (B n : Nat) (h : OwC W' B v n (chV r s row)) => has_any (h.chx lr ls lw) x y z)
  rw [decide_eq_false hc] at HCO
  have HKP := Lib.hid (fun W' (hb : Below (nbox W (.slice ar nr cr) (.slice az ns cs) x y z).heap.size (nbox W (.slice ar nr cr) (.slice az ns cs) x y z) W') => nbox_flat hb)
  obtain ⟨k0, k1, k2, k3, k4, k5, k6, k7, k8⟩ := HKP.out _ HB.out
  clear hr hs hw hc lr ls lw
  go_enter Try.func19, Try.ntmps19
  go_wp2
  go_region_held3 (fun W' => W'.cell? ⟨W.heap.size, 0, none⟩ = some (.int .i64 0) ∧ W'.cell? ⟨W.heap.size, 1, none⟩ = some (.slice ar nr cr) ∧ W'.cell? ⟨W.heap.size, 2, none⟩ = some (.slice az ns cs) ∧ W'.cell? ⟨W.heap.size, 3, none⟩ = some (.int .i64 0) ∧ W'.cell? ⟨W.heap.size, 4, none⟩ = some (.int .i64 0) ∧ W'.cell? ⟨W.heap.size, 5, none⟩ = some (.int .i64 0) ∧ W'.cell? ⟨W.heap.size + 1, 0, none⟩ = some (.int .i64 x) ∧ W'.cell? ⟨W.heap.size + 1, 1, none⟩ = some (.int .i64 y) ∧ W'.cell? ⟨W.heap.size + 1, 2, none⟩ = some (.int .i64 z))
    (first | (with_reducible exact HKP.out _ HB.out) | (exact HKP.out _ HB.out.drew) | (with_reducible exact HKP.out _ HB2.out) | (with_reducible exact HKP.out _ HB3.out))
    ((first
    | (go_at_call 12; (refine (HCH.out _ HB.out.drew).mono ?_); rintro e w1 ⟨ao1, n1, cap1, rfl, ho, hb⟩; have HO := Lib.hid ho; have HB2 := Lib.hid (HB.out.drew.trans (hb.mono HB.out.drew.size)); clear ho hb)
    | (go_at_call 36; (with_reducible refine (HCO.out _ _ _ _ HO.out).mono ?_); rintro e w2 ⟨rfl, hb2⟩; have HB3 := Lib.hid (HB2.out.trans (hb2.mono HB2.out.size)); clear hb2)))
  go_wp2
  go_ret2
  exact ⟨rfl, nbox_up HB3.out⟩

theorem less_get {b : List Int} {k j : Nat} (hk : k < b.length) (hj : j < b.length) : (lessV b (k : Int)).getD j 0 = if j = k then b.getD j 0 - 1 else b.getD j 0 := by
  unfold lessV
  rw [Int.toNat_natCast, getD_set hk]
  split
  · rename_i h; rw [h]
  · rfl

theorem take_next {l : List Int} {k : Nat} (h : k < l.length) : l.take (k + 1) = l.take k ++ [l.getD k 0] := by
  rw [List.take_add_one]
  simp [List.getD, List.getElem?_eq_getElem h]

theorem OwI.left0 {W : World} {B n : Nat} {v : Value} {b : List Int} {k : Nat} (h : OwI W B v n (lessV b (k : Int))) (hin : inB 0 1048576 b = true) (hk : k < b.length) (h1 : 1 ≤ b.getD k 0) (hl : b.length ≤ 8) :
    Calls Try.prog 16 #[v] W fun e w' => e = .returned (.int .i64 (leftV (lessV b (k : Int)))) ∧ w' = W := by
  have hlen : (lessV b (k : Int)).length = b.length := by unfold lessV; rw [List.length_set]
  have hn := owI_len h
  exact rLeft_any (h.ix (by omega) (fit_in (less_in hin hk h1))) (by omega)

attribute [local go_sem ↓] appI_rw

set_option maxRecDepth 10000 in
set_option maxHeartbeats 8000000 in
theorem rNext_yes {W : World} {ar az aw : Option Addr} {nr cr ns cs nw cw : Nat} {r s row : List Int} (hr : Ix W (.slice ar nr cr) r) (hs : Ix W (.slice az ns cs) s) (hw : Ix W (.slice aw nw cw) row) (lr : r.length ≤ 8) (ls : s.length ≤ 8) (lw : row.length ≤ 8) {x y z : Int} (hc : (x, y, z) ∈ chV r s row) :
    Calls Try.prog 19 #[.agg #[.int .i64 0, .slice ar nr cr, .slice az ns cs, .int .i64 0, .int .i64 0, .int .i64 0], .slice aw nw cw, .agg #[.int .i64 x, .int .i64 y, .int .i64 z]] W fun e w' => ∃ ao n cap, e = .returned (.tuple #[.slice ao n cap, .bool true]) ∧ OwI w' W.heap.size (.slice ao n cap) n (if leftV (lessV (blockV r row y) z) = 0 then [] else lessV (blockV r row y) z) ∧ Below W.heap.size W w' := by
  obtain ⟨hB, hy, hin, hlen, k, hk, hz, h1, h2⟩ := ch_facts hc
  have HB := Lib.hid (Below.refl (nbox W (.slice ar nr cr) (.slice az ns cs) x y z).heap.size (nbox W (.slice ar nr cr) (.slice az ns cs) x y z))
  have HCH := Lib.hid (fun W' (hb : Below (nbox W (.slice ar nr cr) (.slice az ns cs) x y z).heap.size (nbox W (.slice ar nr cr) (.slice az ns cs) x y z) W') => rChoices_any (hr.below (nbox_up hb)) (hs.below (nbox_up hb)) (hw.below (nbox_up hb)) lr ls lw)
  have HCO := Lib.hid (fun W' v (B n : Nat) (h : OwC W' B v n (chV r s row)) => has_any (h.chx lr ls lw) x y z)
  rw [decide_eq_true hc] at HCO
  have HKP := Lib.hid (fun W' (hb : Below (nbox W (.slice ar nr cr) (.slice az ns cs) x y z).heap.size (nbox W (.slice ar nr cr) (.slice az ns cs) x y z) W') => nbox_flat hb)
  have hnr := hr.size
  have hnw := hw.size
  have hk8 : k < nr := by omega
  have hnr8 : nr ≤ 8 := by omega
  have HLT := Lib.hid (fun (W' : World) (B n : Nat) (v : Value) h => OwI.left0 (W := W') (B := B) (n := n) (v := v) (b := blockV r row y) (k := k) h hin (by omega) h1 (by omega))
  have HBD : Hid (∀ j, j < nr → 0 ≤ (blockV r row y).getD j 0 ∧ (blockV r row y).getD j 0 ≤ 1048576) := Lib.hid fun j hj => (inB_iff.1 hin) j (by omega)
  have HLG : Hid (∀ j, j < nr → (lessV (blockV r row y) (k : Int)).getD j 0 = if j = k then (blockV r row y).getD j 0 - 1 else (blockV r row y).getD j 0) := Lib.hid fun j hj => less_get (by omega) (by omega)
  have HLL : Hid ((lessV (blockV r row y) (k : Int)).length = nr) := Lib.hid (by unfold lessV; rw [List.length_set]; omega)
  have HX := Lib.hid hw
  have HR := Lib.hid hr
  have HRG : Hid (∀ j, j < nr → 0 ≤ r.getD j 0 ∧ r.getD j 0 ≤ 8) := Lib.hid fun j hj => (inB_iff.1 (hasB_iff.1 hB).1.2.2.1) j (by omega)
  obtain ⟨k0, k1, k2, k3, k4, k5, k6, k7, k8⟩ := HKP.out _ HB.out
  have HY : Hid (y = 0 ∧ nw = nr ∧ blockV r row y = row ∨ 1 ≤ y ∧ y ≤ 4 ∧ blockV r row y = r.map fun x => y * x) := Lib.hid (by
    rcases hy with ⟨h3, h4⟩ | h3
    · exact .inl ⟨h3, by omega, by unfold blockV; rw [if_pos h3]⟩
    · exact .inr ⟨h3.1, h3.2, by unfold blockV; rw [if_neg (by omega)]⟩)
  obtain ⟨b, hb⟩ : ∃ b, b = blockV r row y := ⟨_, rfl⟩
  rw [hz]
  rw [← hb] at HLT HBD HLG HLL HY ⊢
  obtain ⟨L, hL⟩ : ∃ L, L = lessV b (k : Int) := ⟨_, rfl⟩
  rw [← hL] at HLT HLG HLL ⊢
  obtain ⟨T, hT⟩ : ∃ T, T = leftV L := ⟨_, rfl⟩
  rw [← hT] at HLT ⊢
  subst hz
  have HNR := Lib.hid hnr
  clear hr hs hw hc lr ls lw hB hy hin hlen hnr hk hL hT h1 h2 hnw hb
  go_enter Try.func19, Try.ntmps19
  go_wp2
  go_region_held3 (fun W' => W'.cell? ⟨W.heap.size, 0, none⟩ = some (.int .i64 0) ∧ W'.cell? ⟨W.heap.size, 1, none⟩ = some (.slice ar nr cr) ∧ W'.cell? ⟨W.heap.size, 2, none⟩ = some (.slice az ns cs) ∧ W'.cell? ⟨W.heap.size, 3, none⟩ = some (.int .i64 0) ∧ W'.cell? ⟨W.heap.size, 4, none⟩ = some (.int .i64 0) ∧ W'.cell? ⟨W.heap.size, 5, none⟩ = some (.int .i64 0) ∧ W'.cell? ⟨W.heap.size + 1, 0, none⟩ = some (.int .i64 x) ∧ W'.cell? ⟨W.heap.size + 1, 1, none⟩ = some (.int .i64 y) ∧ W'.cell? ⟨W.heap.size + 1, 2, none⟩ = some (.int .i64 (k : Int)))
    (first | (with_reducible exact HKP.out _ HB.out) | (exact HKP.out _ HB.out.drew) | (with_reducible exact HKP.out _ HB2.out) | (with_reducible exact HKP.out _ HB3.out))
    ((first
    | (go_at_call 12; (refine (HCH.out _ HB.out.drew).mono ?_); rintro e w1 ⟨ao1, n1, cap1, rfl, ho, hb⟩; have HO := Lib.hid ho; have HB2 := Lib.hid (HB.out.drew.trans (hb.mono HB.out.drew.size)); clear ho hb)
    | (go_at_call 36; (with_reducible refine (HCO.out _ _ _ _ HO.out).mono ?_); rintro e w2 ⟨rfl, hb2⟩; have HB3 := Lib.hid (HB2.out.trans (hb2.mono HB2.out.size)); clear hb2)))
  clear k0 k1 k2 k3 k4 k5 k6 k7 k8
  go_wp2
  go_loopw [8, 9, 10] (fun ov kv _ wr => ∃ (j : Nat) (ao2 : Option Addr) (cap2 : Nat), j ≤ nr ∧ kv = .int .i64 (j : Nat) ∧ ov = .slice ao2 j cap2 ∧ Hid (OwI wr (nbox W (.slice ar nr cr) (.slice az ns cs) x y (k : Int)).heap.size (.slice ao2 j cap2) j (L.take j)) ∧ Hid (Below (nbox W (.slice ar nr cr) (.slice az ns cs) x y (k : Int)).heap.size (nbox W (.slice ar nr cr) (.slice az ns cs) x y (k : Int)) wr)) (fun _ kv _ _ => nr - (intOf kv).toNat)
  case atStart => exact ⟨0, none, 0, by omega, rfl, rfl, Lib.hid (World.ownsRow_nil _ _ _ _), HB3⟩
  case round =>
    obtain ⟨j, ao2, cap2, hj, rfl, rfl, hO, hB⟩ := hrel
    obtain ⟨k0, k1, k2, k3, k4, k5, k6, k7, k8⟩ := HKP.out _ hB.out
    by_cases hjn : j = nr
    · have HO : Hid (OwI wr (nbox W (.slice ar nr cr) (.slice az ns cs) x y (k : Int)).heap.size (.slice ao2 nr cap2) nr L) := Lib.hid (by
        have h9 := hO.out
        rw [hjn, ← HLL.out, List.take_length] at h9
        rw [← HLL.out]; exact h9)
      have HC := Lib.hid (HLT.out wr _ nr _ HO.out)
      subst hjn
      clear hO
      by_cases hT0 : T = 0
      · subst hT0
        go_wp2_with (go_at_call 16; (with_reducible refine HC.out.mono ?_); rintro e w5 ⟨rfl, rfl⟩)
        go_ret2
        exact ⟨none, 0, 0, rfl, World.ownsRow_nil _ _ _ _, nbox_up hB.out⟩
      · go_wp2_with (go_at_call 16; (with_reducible refine HC.out.mono ?_); rintro e w5 ⟨rfl, rfl⟩)
        go_ret2
        exact ⟨_, _, _, rfl, owns_mono HO.out (by simp; omega), nbox_up hB.out⟩
    · have hlt : j < nr := by omega
      obtain ⟨v, hv⟩ : ∃ v, v = L.getD j 0 := ⟨_, rfl⟩
      have hbd := HBD.out j hlt
      have hlg := HLG.out j hlt
      rw [← hv] at hlg
      obtain ⟨g, cap3, w3, hrun, hown, hb3, -, -, -⟩ := push_int (W := wr.drew) (hO.out : OwI wr.drew _ _ _ _) (by omega) (hB.out.size) v
      have hrun : Sem.run Try.prog (appI 25 #[.slice ao2 j cap2, .slice (some ⟨wr.heap.size, 0, none⟩) 1 1]) (wr.alloc (.cells #[.int .i64 v] 3)).drew = .ok (.slice (some ⟨g, 0, none⟩) (j + 1) cap3) w3 := hrun
      rw [hv, ← take_next (by rw [HLL.out]; exact hlt)] at hown
      have HO2 := Lib.hid hown
      have HB2 := Lib.hid (hB.out.drew.trans hb3)
      obtain ⟨br, ofr, rfl, hqr, hcapr, hblr, hclr⟩ := HR.out.at (by omega)
      have hcr := cell_later (nbox_up hB.out) (hclr j hlt)
      have hrg := HRG.out j hlt
      obtain ⟨p, hp⟩ : ∃ p, p = r.getD j 0 := ⟨_, rfl⟩
      rw [← hp] at hcr hrg
      have hy9 := HY.out
      rcases hy9 with ⟨hy0, hnwr, hbe⟩ | ⟨hy1, hy4, hbe⟩
      · obtain ⟨bw, ofw, rfl, hqw, hcapw, hblw, hclw⟩ := HX.out.at (by omega)
        have hcw := cell_later (nbox_up hB.out) (hclw j (by omega))
        rw [← hbe] at hcw
        obtain ⟨u, hu⟩ : ∃ u, u = b.getD j 0 := ⟨_, rfl⟩
        rw [← hu] at hcw hlg hbd
        clear hp hu hqw hqr hclr hclw hO hown hb3 hbe hv
        subst hnwr hy0
        by_cases hjk : j = k
        · subst hjk
          rw [if_pos rfl] at hlg
          subst hlg
          go_wp2
          go_region
          go_wp2
          go_roundw
          case rel => exact ⟨j + 1, some ⟨g, 0, none⟩, cap3, by omega, by go_num, rfl, HO2, HB2⟩
          case measure => simp [intOf]; omega
        · rw [if_neg hjk] at hlg
          subst hlg
          go_wp2
          go_region
          go_wp2
          go_roundw
          case rel => exact ⟨j + 1, some ⟨g, 0, none⟩, cap3, by omega, by go_num, rfl, HO2, HB2⟩
          case measure => simp [intOf]; omega
      · have hbg : b.getD j 0 = y * p := by rw [hbe, getD_map (by rw [← HNR.out]; exact hlt), hp]
        rw [hbg] at hlg hbd
        have hw2 : IntKind.i64.wrap (y * p) = y * p := IntWalk.i64_in _ (by omega)
        have hyz : ¬ y = 0 := by omega
        clear hp hqr hclr hO hown hb3 hbe hbg hv hy1 hy4
        by_cases hjk : j = k
        · subst hjk
          rw [if_pos rfl] at hlg
          subst hlg
          go_wp2
          go_region
          go_wp2
          go_roundw
          case rel => exact ⟨j + 1, some ⟨g, 0, none⟩, cap3, by omega, by go_num, rfl, HO2, HB2⟩
          case measure => simp [intOf]; omega
        · rw [if_neg hjk] at hlg
          subst hlg
          go_wp2
          go_region
          go_wp2
          go_roundw
          case rel => exact ⟨j + 1, some ⟨g, 0, none⟩, cap3, by omega, by go_num, rfl, HO2, HB2⟩
          case measure => simp [intOf]; omega

theorem rNext_any {W : World} {ar az aw : Option Addr} {nr cr ns cs nw cw : Nat} {r s row : List Int} (hr : Ix W (.slice ar nr cr) r) (hs : Ix W (.slice az ns cs) s) (hw : Ix W (.slice aw nw cw) row) (lr : r.length ≤ 8) (ls : s.length ≤ 8) (lw : row.length ≤ 8) (x y z : Int) :
    Calls Try.prog 19 #[.agg #[.int .i64 0, .slice ar nr cr, .slice az ns cs, .int .i64 0, .int .i64 0, .int .i64 0], .slice aw nw cw, .agg #[.int .i64 x, .int .i64 y, .int .i64 z]] W fun e w' => ∃ ao n cap, e = .returned (.tuple #[.slice ao n cap, .bool (nextOk r s row (x, y, z))]) ∧ OwI w' W.heap.size (.slice ao n cap) n (nextV r s row (x, y, z)) ∧ Below W.heap.size W w' := by
  unfold nextV nextOk
  by_cases hc : (x, y, z) ∈ chV r s row
  · rw [decide_eq_true hc, if_pos rfl]
    exact rNext_yes hr hs hw lr ls lw hc
  · rw [decide_eq_false hc, if_neg (by decide)]
    exact (rNext_no hr hs hw lr ls lw hc).mono fun e w' h => ⟨none, 0, 0, h.1, World.ownsRow_nil _ _ _ _, h.2⟩

end Go.Proofs.Ytjlneggfkpjnpaa

namespace Go.Proofs.Ytjlneggfkpjnpaa
open Go.RowKit

/-- A struct that is the one result. -/
theorem results_cell28 {fn : Func} {t g : Nat} {tmps : Array Value} {w : World} {x y z : Value} (h : fn.results = #[.cell t 28]) (hp : tmps.getD t undef = .pointer (some ⟨g, 0, none⟩)) (hg : w.heap[g]? = some (.cells #[x, y, z] 28 (0, 0))) :
    (results fn tmps).run Try.prog w = .ok (.agg #[x, y, z]) w := by
  have h1 := run_loadVar_row (P := Try.prog) w g 28 28 #[x, y, z] (0, 0) _ hg Try.underlying28 rfl (by kernel_rfl)
  have hp' : tmps[t]?.getD undef = .pointer (some ⟨g, 0, none⟩) := by simpa [Array.getD_eq_getD_getElem?] using hp
  simp [results, h, hp', h1, asAddr]

set_option maxRecDepth 10000 in
set_option maxHeartbeats 1000000 in
theorem pick_any (x y z : Int) (W : World) : Calls Try.prog 17 #[.int .i64 x, .int .i64 y, .int .i64 z] W fun e w' => e = .returned (.agg #[.int .i64 x, .int .i64 y, .int .i64 z]) ∧ Below W.heap.size W w' := by
  go_enter Try.func17, Try.ntmps17
  go_wp2
  exact bodyPost_ret (results_cell28 (t := 6) rfl rfl (heap_alloc_new _ _)) rfl ⟨rfl, by go_grown⟩

theorem mod_arith (n : Int) (m : Nat) (h1 : 1 ≤ m) (h2 : m ≤ 1000) : (wrap64 (n.tmod m + m)).tmod m = n % m := by
  have hw : ∀ r : Int, -1000 ≤ r → r ≤ 2000 → wrap64 r = r := fun r _ _ => by simp only [wrap64]; omega
  rcases Int.le_total 0 n with h | h
  · rw [Int.tmod_eq_emod_of_nonneg h]
    have a1 := Int.emod_nonneg n (show (m : Int) ≠ 0 by omega)
    have a2 := Int.emod_lt_of_pos n (show (0 : Int) < m by omega)
    rw [hw _ (by omega) (by omega), Int.tmod_eq_emod_of_nonneg (by omega), Int.add_emod_right, Int.emod_emod_of_dvd _ (Int.dvd_refl _)]
  · have e : n.tmod m = -((-n) % m) := by
      rw [← Int.tmod_eq_emod_of_nonneg (by omega), Int.neg_tmod, Int.neg_neg]
    have a1 := Int.emod_nonneg (-n) (show (m : Int) ≠ 0 by omega)
    have a2 := Int.emod_lt_of_pos (-n) (show (0 : Int) < m by omega)
    rw [e, hw _ (by omega) (by omega), Int.tmod_eq_emod_of_nonneg (by omega)]
    refine Int.emod_eq_emod_iff_emod_sub_eq_zero.2 ?_
    have a3 := Int.mul_ediv_add_emod (-n) m
    refine Int.emod_eq_zero_of_dvd ⟨1 + (-n) / m, ?_⟩
    rw [Int.mul_add, Int.mul_one]
    omega

set_option maxRecDepth 10000 in
set_option maxHeartbeats 1000000 in
theorem mod_any (n : Int) (hn : I64 n) (m : Nat) (hm1 : 1 ≤ m) (hm : m ≤ 1000) (w : World) : Calls Try.prog 11 #[.int .i64 n, .int .i64 m] w fun e w' => e = .returned (.int .i64 (n % m)) ∧ w' = w := by
  have ha := mod_arith n m hm1 hm
  have HA := Lib.hid ha
  have hm0 : ¬ (m : Int) < 1 := by omega
  clear ha
  go_enter Try.func11, Try.ntmps11
  go_wp2
  go_ret
  exact ⟨congrArg (fun z => Ending.returned (Value.int IntKind.i64 z)) HA.out, rfl⟩

theorem Ix.take {w : World} {ao : Option Addr} {n cap : Nat} {l : List Int} (h : Ix w (.slice ao n cap) l) (m : Nat) (hm : m ≤ n) : Ix w (.slice ao m cap) (l.take m) := by
  have hfit : ∀ k, I64 ((l.take m).getD k 0) := fun k => by
    by_cases hk : k < m
    · have := h.fit k
      simpa [List.getD, List.getElem?_take, hk] using this
    · have : (l.take m).getD k 0 = 0 := by simp [List.getD, List.getElem?_take, hk]
      rw [this]
      exact ⟨by decide, by decide⟩
  have hlen := h.len
  rcases h.is with ⟨rfl, ao2, cap2, e⟩ | ⟨b, off, cap2, e, h1, h2, h3⟩
  · injection e with e1 e2 e3
    subst e2
    obtain rfl : m = 0 := by omega
    exact ⟨by simp, hfit, .inl ⟨rfl, _, _, rfl⟩⟩
  · injection e with e1 e2 e3
    subst e1 e2 e3
    have hl : (l.take m).length = m := by rw [List.length_take]; omega
    refine ⟨by rw [hl]; omega, hfit, .inr ⟨b, off, cap, by rw [hl], by rw [hl]; omega, h2, fun j hj => ?_⟩⟩
    rw [hl] at hj
    have := h3 j (by omega)
    have e : (l.take m).getD j 0 = l.getD j 0 := by simp [List.getD, List.getElem?_take, hj]
    rw [e]
    exact this

set_option maxRecDepth 10000 in
set_option maxHeartbeats 1000000 in
theorem cut_any {w : World} {v : Value} {l : List Int} (h : Ix w v l) : Calls Try.prog 10 #[v] w fun e w' => ∃ ao n cap, e = .returned (.slice ao n cap) ∧ Ix w (.slice ao n cap) (l.take 8) ∧ w' = w := by
  obtain ⟨ao, cap, rfl⟩ := h.mk'
  have hlen := h.len
  unfold maxLen at hlen
  have hT := h.take (min l.length 8) (by omega)
  have e2 : l.take (min l.length 8) = l.take 8 := by
    rcases Nat.le_total l.length 8 with h | h
    · rw [Nat.min_eq_left h, List.take_length, List.take_of_length_le h]
    · rw [Nat.min_eq_right h]
  rw [e2] at hT
  have HT := Lib.hid hT
  have HX := Lib.hid h
  obtain ⟨n, hn⟩ : ∃ n, n = l.length := ⟨_, rfl⟩
  have HN := Lib.hid hn
  rw [← hn] at hlen HT HX ⊢
  have hcp : Hid (n ≤ cap ∨ n = 0) := by
    rcases h.is with ⟨rfl, ao2, cap2, e⟩ | ⟨b, off, cap2, e, h1, h2, h3⟩
    · exact Lib.hid (.inr (by simpa using hn))
    · injection e with e1 e2 e3
      subst e3
      exact Lib.hid (.inl (by omega))
  clear hT h hn e2
  have e3 : (min (n : Int) 8).toNat = min n 8 := by omega
  by_cases h0 : n = 0
  · subst h0
    go_enter Try.func10, Try.ntmps10
    go_wp2
    go_ret
    exact ⟨_, _, _, rfl, HT.out, rfl⟩
  · have hc2 : n ≤ cap := by rcases hcp.out with h | h <;> omega
    obtain ⟨b, off, rfl, hq, hq2, hbl, hcl⟩ := HX.out.at h0
    clear hcl hq hbl
    rcases Nat.lt_or_ge 8 n with h8 | h8
    · rw [Nat.min_eq_right (by omega)] at HT
      have e4 : (8 : Int) < (n : Int) := by omega
      clear e3
      go_enter Try.func10, Try.ntmps10
      go_wp2
      all_goals first | (exfalso; omega) | (go_ret; exact ⟨_, _, _, rfl, HT.out, rfl⟩)
    · rw [Nat.min_eq_left (by omega)] at HT
      have e4 : ¬ (8 : Int) < (n : Int) := by omega
      clear e3
      go_enter Try.func10, Try.ntmps10
      go_wp2
      all_goals first | (exfalso; omega) | (go_ret; exact ⟨_, _, _, rfl, HT.out, rfl⟩)

theorem nextV_len {r s row : List Int} {c : Ch} (lr : r.length ≤ 8) : (nextV r s row c).length ≤ 8 := by
  unfold nextV nextOk
  by_cases hc : c ∈ chV r s row
  · rw [decide_eq_true hc, if_pos rfl]
    obtain ⟨x, y, z⟩ := c
    obtain ⟨_, _, _, hlen, _⟩ := ch_facts hc
    split
    · simp
    · show (lessV (blockV r row y) z).length ≤ 8
      unfold lessV
      rw [List.length_set]; omega
  · rw [decide_eq_false hc]; simp

theorem nextV_in {r s row : List Int} {c : Ch} : inB 0 1048576 (nextV r s row c) = true := by
  unfold nextV nextOk
  by_cases hc : c ∈ chV r s row
  · rw [decide_eq_true hc, if_pos rfl]
    obtain ⟨x, y, z⟩ := c
    obtain ⟨_, _, hin, hlen, k, hk, rfl, h1, _⟩ := ch_facts hc
    split
    · rfl
    · have hk2 : k < (blockV r row y).length := by rw [hlen]; exact hk
      exact less_in hin hk2 h1
  · rw [decide_eq_false hc]; rfl

theorem OwI.nx {W : World} {B n : Nat} {v : Value} {r s row : List Int} {c : Ch} (h : OwI W B v n (nextV r s row c)) (lr : r.length ≤ 8) : Ix W v (nextV r s row c) :=
  h.ix (by have := owI_len h; have := nextV_len (s := s) (row := row) (c := c) lr; omega) (fit_in nextV_in)

set_option maxRecDepth 10000 in
set_option maxHeartbeats 2000000 in
theorem goes_any {W : World} {ar az aw : Option Addr} {nr cr ns cs nw cw : Nat} {r s row want : List Int} {vt : Value} (hr : Ix W (.slice ar nr cr) r) (hs : Ix W (.slice az ns cs) s) (hw : Ix W (.slice aw nw cw) row) (ht : Ix W vt want) (lr : r.length ≤ 8) (ls : s.length ≤ 8) (lw : row.length ≤ 8) (x y z : Int) :
    Calls Try.prog 27 #[.agg #[.int .i64 0, .slice ar nr cr, .slice az ns cs, .int .i64 0, .int .i64 0, .int .i64 0], .slice aw nw cw, .agg #[.int .i64 x, .int .i64 y, .int .i64 z], vt] W fun e w' => e = .returned (.bool (nextOk r s row (x, y, z) && decide (nextV r s row (x, y, z) = want))) ∧ Below W.heap.size W w' := by
  have HB0 := Lib.hid (nbox_below W (.slice ar nr cr) (.slice az ns cs) x y z)
  have HN := Lib.hid (next_any (hr.below HB0.out) (hs.below HB0.out) (hw.below HB0.out) lr ls lw x y z)
  have HS := Lib.hid (fun W' v (B n : Nat) (hb : Below W.heap.size W W') (h : OwI W' B v n (nextV r s row (x, y, z))) => sameInts_any (h.nx lr) (ht.below hb))
  obtain ⟨p, hp⟩ : ∃ p, p = nextOk r s row (x, y, z) := ⟨_, rfl⟩
  obtain ⟨q, hq⟩ : ∃ q, q = decide (nextV r s row (x, y, z) = want) := ⟨_, rfl⟩
  rw [← hp] at HN ⊢
  rw [← hq] at HS ⊢
  clear hr hs hw ht lr ls lw hp hq
  cases p
  all_goals
    go_enter Try.func27, Try.ntmps27
    go_wp2_with (first
      | (go_at_call 18; (with_reducible refine HN.out.mono ?_); rintro e w1 ⟨ao, n, cap, rfl, ho, hb⟩; have HO := Lib.hid ho; have HB := Lib.hid (HB0.out.trans (hb.mono HB0.out.size)); clear ho hb)
      | (go_at_call 20; (with_reducible refine (HS.out _ _ _ _ HB.out HO.out).mono ?_); rintro e w2 ⟨rfl, hb⟩; have HB2 := Lib.hid (HB.out.trans (hb.mono HB.out.size)); clear hb))
    go_ret
    first | exact ⟨rfl, HB2.out⟩ | exact ⟨rfl, HB.out⟩ | exact ⟨by simp, HB2.out⟩ | exact ⟨by simp, HB.out⟩

end Go.Proofs.Ytjlneggfkpjnpaa
