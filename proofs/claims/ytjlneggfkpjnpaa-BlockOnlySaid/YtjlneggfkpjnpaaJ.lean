/- Contract of the reference: Choices. Condition: the slices read as ints, at most eight each. -/
import Derived.Test.YtjlneggfkpjnpaaI
namespace Go.Proofs.Ytjlneggfkpjnpaa
open Go.RowKit

theorem coll_nil {w : List Int} (h : inB 0 1048576 w = true) : ∀ k, k ≤ w.length → ((coll 0 w k).length = 0 ↔ (w.take k).sum = 0)
  | 0, _ => by simp [coll]
  | k + 1, hk => by
    have ih := coll_nil h k (by omega)
    have h1 := (inB_iff.1 h) k (by omega)
    have h2 := sum_in h k (by omega)
    rw [coll, List.length_append, sum_take (by omega)]
    split
    · rename_i h3
      simp only [List.length_cons, List.length_nil]
      omega
    · rename_i h3
      simp only [List.length_nil]
      omega

attribute [local go_sem ↓] appC_rw

set_option maxRecDepth 10000 in
set_option maxHeartbeats 4000000 in
theorem rChoices_fit {W : World} {ar az aw : Option Addr} {nr cr ns cs nw cw : Nat} {r s row : List Int} (hr : Ix W (.slice ar nr cr) r) (hs : Ix W (.slice az ns cs) s) (hw : Ix W (.slice aw nw cw) row) (lr : r.length ≤ 8) (ls : s.length ≤ 8) (lw : row.length ≤ 8) (hH : hasB r s = true) (hF : fitB r row = true) :
    Calls Try.prog 12 #[.agg #[.int .i64 0, .slice ar nr cr, .slice az ns cs, .int .i64 0, .int .i64 0, .int .i64 0], .slice aw nw cw] W fun e w' => ∃ ao n cap, e = .returned (.slice ao n cap) ∧ OwC w' W.heap.size (.slice ao n cap) n (chV r s row) ∧ Below W.heap.size W w' := by
  have hnr := hr.size
  have hns := hs.size
  have hnw := hw.size
  have HB0 := Lib.hid (dbox_below W (.slice ar nr cr) (.slice az ns cs))
  have HH := Lib.hid (blocks_any (hr.below HB0.out) (hs.below HB0.out))
  have HG := Lib.hid (fun W' (hb : Below W.heap.size W W') => ranged_any (hw.below hb))
  rw [hH] at HH
  have hno : inB 0 1048576 row = true ∧ (nw = 0 ∨ nw = nr) := by
    unfold fitB at hF
    rw [Bool.or_eq_true, Bool.and_eq_true, decide_eq_true_eq, decide_eq_true_eq] at hF
    rcases hF with hF | hF
    · refine ⟨?_, .inl (by omega)⟩
      rw [List.eq_nil_of_length_eq_zero hF]; rfl
    · exact ⟨hF.2, .inr (by omega)⟩
  obtain ⟨hin, hlen⟩ := hno
  rw [hin] at HG
  have hleft : leftV row = row.sum := by unfold leftV; rw [if_pos hin]
  have hcn := coll_nil hin row.length (Nat.le_refl _)
  rw [List.take_length, ← hleft] at hcn
  have hl0 : 0 ≤ leftV row := by
    have := (sum_in hin row.length (Nat.le_refl _)).1
    rwa [List.take_length, ← hleft] at this
  have HCH : Hid (chV r s row = if (coll 0 row row.length).length = 0 then blks r s s.length else coll 0 row row.length) := Lib.hid (by
    by_cases h0 : (coll 0 row row.length).length = 0
    · rw [if_pos h0, chV_new hH hF (by have := hcn.1 h0; omega)]
    · rw [if_neg h0, chV_row hH hF (by have : ¬ leftV row = 0 := fun e => h0 (hcn.2 e)
                                       omega)])
  have HX := Lib.hid hw
  have HR := Lib.hid hr
  have HS := Lib.hid hs
  have HLEN : Hid (∀ k, k ≤ 8 → (blks r s k).length ≤ 64) := Lib.hid (fun k hk => Nat.le_trans (blks_len r s k) (Nat.le_trans (Nat.mul_le_mul hk lr) (by decide)))
  rw [← hnw] at HCH lw
  rw [← hns] at HCH ls
  have HNR := Lib.hid hnr
  have hnr8 : nr ≤ 8 := by omega
  clear hr hs hw hnr hns hnw hH hF lr hin hleft hcn hl0
  go_enter Try.func12, Try.ntmps12
  rcases (show nw = 0 ∨ (¬ nw = 0 ∧ nw = nr) by omega) with h0 | ⟨hne, h0⟩
  · subst h0
    go_wp2_with (first
      | (go_at_call 28; (with_reducible refine HH.out.mono ?_); rintro e w1 ⟨rfl, hb1⟩; have HB := Lib.hid hb1; obtain ⟨c0, c1, c2, c3, c4, c5⟩ := (DBox.below (dbox_is _ _ _) HB.out).cells; clear hb1)
      | (go_at_call 29; (with_reducible refine (HG.out _ (dbox_up HB.out)).mono ?_); rintro e w2 ⟨rfl, rfl⟩))
    clear c0 c1 c2 c3 c4 c5
    simp only [dbox_size] at HB
    go_loopw [5, 6] (fun ov kv wr => ∃ (k : Nat) (ao2 : Option Addr) (m cap2 : Nat), k ≤ 0 ∧ m ≤ k ∧ kv = .int .i64 (k : Nat) ∧ ov = .slice ao2 m cap2 ∧ Hid (OwC wr (W.heap.size + 1) (.slice ao2 m cap2) m (coll 0 row k)) ∧ Hid (Below (W.heap.size + 1) (dbox W (.slice ar nr cr) (.slice az ns cs)) wr)) (fun _ kv _ => 0 - (intOf kv).toNat)
    case atStart => exact ⟨0, none, 0, 0, by omega, by omega, rfl, rfl, Lib.hid (World.ownsRow_nil _ _ _ _), HB⟩
    case round =>
      obtain ⟨k, ao2, m, cap2, hk, hm, rfl, rfl, hO, hB⟩ := hrel
      by_cases hkn : k = 0
      · have hO1 := hO.out
        rw [hkn] at hO1
        have HO := Lib.hid hO1
        have hmn := owC_len hO1
        by_cases h0 : m = 0
        · have E : Hid (chV r s row = blks r s ns) := Lib.hid (by rw [HCH.out, if_pos (by omega)])
          have HO2 : Hid (OwC wr (W.heap.size + 1) (.slice ao2 0 cap2) 0 (blks r s 0)) := Lib.hid (by
            have e : coll 0 row 0 = [] := List.eq_nil_of_length_eq_zero (by omega)
            rw [e, h0] at hO1; exact hO1)
          subst h0
          have hkn2 : ¬ k < 0 := by omega
          clear hO hO1 HO hmn hkn HCH hm
          obtain ⟨c0, c1, c2, c3, c4, c5⟩ := (DBox.below1 hB.out).cells
          go_wp2
          clear c0 c1 c2 c3 c4 c5
          go_loopw [5, 7, 8] (fun ov kv _ wr => ∃ (k : Nat) (ao2 : Option Addr) (m cap2 : Nat), k ≤ ns ∧ kv = .int .i64 (k : Nat) ∧ ov = .slice ao2 m cap2 ∧ Hid (OwC wr (W.heap.size + 1) (.slice ao2 m cap2) m (blks r s k)) ∧ Hid (Below (W.heap.size + 1) (dbox W (.slice ar nr cr) (.slice az ns cs)) wr)) (fun _ kv _ _ => ns - (intOf kv).toNat)
          case atStart => exact ⟨0, ao2, 0, cap2, by omega, rfl, rfl, HO2, hB⟩
          case round =>
            obtain ⟨i, ao2, m, cap2, hi, rfl, rfl, hO, hB⟩ := hrel
            obtain ⟨c0, c1, c2, c3, c4, c5⟩ := (DBox.below1 hB.out).cells
            by_cases hin : i = ns
            · subst hin
              go_wp2
              go_ret
              exact ⟨_, _, _, rfl, by rw [E.out]; exact owns_mono hO.out (by omega), dbox_up1 hB.out⟩
            · have hlt : i < ns := by omega
              obtain ⟨bs, ofs, rfl, hqs, hcaps, hbls, hcls⟩ := HS.out.at (by omega)
              have HCS := Lib.hid (hcls i hlt)
              obtain ⟨x, hx⟩ : ∃ x, x = s.getD i 0 := ⟨_, rfl⟩
              have HXE := Lib.hid hx
              rw [← hx] at HCS
              clear hx hcls hqs hbls
              go_wp2
              clear c0 c1 c2 c3 c4 c5
              go_loopw [5, 8] (fun ov kv wr => ∃ (k : Nat) (ao2 : Option Addr) (m cap2 : Nat), k ≤ nr ∧ kv = .int .i64 (k : Nat) ∧ ov = .slice ao2 m cap2 ∧ Hid (OwC wr (W.heap.size + 1) (.slice ao2 m cap2) m (blks r s i ++ coll x r k)) ∧ Hid (Below (W.heap.size + 1) (dbox W (.slice ar nr cr) (.slice (some ⟨bs, ofs, none⟩) ns cs)) wr)) (fun _ kv _ => nr - (intOf kv).toNat)
              case atStart => exact ⟨0, ao2, m, cap2, by omega, rfl, rfl, Lib.hid (by rw [coll, List.append_nil]; exact hO.out), hB⟩
              case round =>
                obtain ⟨k, ao2, m, cap2, hk, rfl, rfl, hO, hB⟩ := hrel
                obtain ⟨c0, c1, c2, c3, c4, c5⟩ := (DBox.below1 hB.out).cells
                by_cases hkn : k = nr
                · have HO3 : Hid (OwC wr (W.heap.size + 1) (.slice ao2 m cap2) m (blks r s (i + 1))) := Lib.hid (by
                    rw [blks, ← HXE.out, ← HNR.out, ← hkn]; exact hO.out)
                  subst hkn
                  clear hO
                  go_wp2
                  go_roundw
                  case rel => exact ⟨i + 1, ao2, m, cap2, by omega, by go_num, rfl, HO3, hB⟩
                  case measure => first | (simp [intOf]; done) | (simp [intOf]; omega)
                · have hlt2 : k < nr := by omega
                  obtain ⟨b, off, rfl, hq, hcap, hbl, hcl⟩ := HR.out.at (by omega)
                  have hc := cell_later (dbox_up1 hB.out) (hcl k hlt2)
                  have hd := cell_later (dbox_up1 hB.out) HCS.out
                  have hml : m ≤ 100 := by
                    have h1 := owC_len hO.out
                    have h2 := HLEN.out i (by omega)
                    have h3 := coll_len x r k
                    rw [List.length_append] at h1
                    omega
                  obtain ⟨y, hy⟩ : ∃ y, y = r.getD k 0 := ⟨_, rfl⟩
                  by_cases h0 : 0 < y
                  · obtain ⟨g, cap3, w3, hrun, hown, hb, -, -, -⟩ := push_choice (W := wr.drew) (hO.out : OwC wr.drew _ _ _ _) (by omega) (by have h9 := hB.out.size; rw [dbox_size] at h9; exact h9) y x (k : Int)
                    have hrun : Sem.run Try.prog (appC 39 #[.slice ao2 m cap2, .slice (some ⟨wr.heap.size, 0, none⟩) 1 1]) (wr.alloc (.cells #[.int .i64 y, .int .i64 x, .int .i64 (k : Int)] 28)).drew = .ok (.slice (some ⟨g, 0, none⟩) (m + 1) cap3) w3 := hrun
                    have e : blks r s i ++ coll x r k ++ [(y, x, (k : Int))] = blks r s i ++ coll x r (k + 1) := by
                      rw [coll, ← hy, if_pos h0, List.append_assoc]
                    rw [e] at hown
                    rw [← hy] at hc
                    have HO2 := Lib.hid hown
                    have HB2 := Lib.hid (hB.out.drew.trans hb)
                    clear hy hcl hq hown hb hO e
                    go_wp2
                    go_region_law (fail)
                    all_goals (go_wp2; go_roundw; all_goals first | exact ⟨k + 1, some ⟨g, 0, none⟩, m + 1, cap3, by omega, by go_num, rfl, HO2, HB2⟩ | (simp [intOf]; done) | (simp [intOf]; omega))
                  · have e : coll x r (k + 1) = coll x r k := by
                      rw [coll, ← hy, if_neg h0, List.append_nil]
                    have HO2 := Lib.hid hO.out
                    rw [← e] at HO2
                    rw [← hy] at hc
                    clear hy hcl hq hO e
                    go_wp2
                    go_roundw
                    case rel => exact ⟨k + 1, ao2, m, cap2, by omega, by go_num, rfl, HO2, hB⟩
                    case measure => first | (simp [intOf]; done) | (simp [intOf]; omega)
        · have E : Hid (chV r s row = coll 0 row 0) := Lib.hid (by rw [HCH.out, if_neg (by omega)])
          subst hkn
          clear hO hO1 hmn HCH hm
          go_wp2
          go_ret
          exact ⟨_, _, _, rfl, by rw [E.out]; exact owns_mono HO.out (by omega), dbox_up1 hB.out⟩
      · exfalso; omega
  · subst h0
    go_wp2_with (first
      | (go_at_call 28; (with_reducible refine HH.out.mono ?_); rintro e w1 ⟨rfl, hb1⟩; have HB := Lib.hid hb1; obtain ⟨c0, c1, c2, c3, c4, c5⟩ := (DBox.below (dbox_is _ _ _) HB.out).cells; clear hb1)
      | (go_at_call 29; (with_reducible refine (HG.out _ (dbox_up HB.out)).mono ?_); rintro e w2 ⟨rfl, rfl⟩))
    clear c0 c1 c2 c3 c4 c5
    simp only [dbox_size] at HB
    go_loopw [5, 6] (fun ov kv wr => ∃ (k : Nat) (ao2 : Option Addr) (m cap2 : Nat), k ≤ nw ∧ m ≤ k ∧ kv = .int .i64 (k : Nat) ∧ ov = .slice ao2 m cap2 ∧ Hid (OwC wr (W.heap.size + 1) (.slice ao2 m cap2) m (coll 0 row k)) ∧ Hid (Below (W.heap.size + 1) (dbox W (.slice ar nw cr) (.slice az ns cs)) wr)) (fun _ kv _ => nw - (intOf kv).toNat)
    case atStart => exact ⟨0, none, 0, 0, by omega, by omega, rfl, rfl, Lib.hid (World.ownsRow_nil _ _ _ _), HB⟩
    case round =>
      obtain ⟨k, ao2, m, cap2, hk, hm, rfl, rfl, hO, hB⟩ := hrel
      by_cases hkn : k = nw
      · have hO1 := hO.out
        rw [hkn] at hO1
        have HO := Lib.hid hO1
        have hmn := owC_len hO1
        by_cases h0 : m = 0
        · have E : Hid (chV r s row = blks r s ns) := Lib.hid (by rw [HCH.out, if_pos (by omega)])
          have HO2 : Hid (OwC wr (W.heap.size + 1) (.slice ao2 0 cap2) 0 (blks r s 0)) := Lib.hid (by
            have e : coll 0 row nw = [] := List.eq_nil_of_length_eq_zero (by omega)
            rw [e, h0] at hO1; exact hO1)
          subst h0
          have hkn2 : ¬ k < nw := by omega
          clear hO hO1 HO hmn hkn HCH hm
          obtain ⟨c0, c1, c2, c3, c4, c5⟩ := (DBox.below1 hB.out).cells
          go_wp2
          clear c0 c1 c2 c3 c4 c5
          go_loopw [5, 7, 8] (fun ov kv _ wr => ∃ (k : Nat) (ao2 : Option Addr) (m cap2 : Nat), k ≤ ns ∧ kv = .int .i64 (k : Nat) ∧ ov = .slice ao2 m cap2 ∧ Hid (OwC wr (W.heap.size + 1) (.slice ao2 m cap2) m (blks r s k)) ∧ Hid (Below (W.heap.size + 1) (dbox W (.slice ar nw cr) (.slice az ns cs)) wr)) (fun _ kv _ _ => ns - (intOf kv).toNat)
          case atStart => exact ⟨0, ao2, 0, cap2, by omega, rfl, rfl, HO2, hB⟩
          case round =>
            obtain ⟨i, ao2, m, cap2, hi, rfl, rfl, hO, hB⟩ := hrel
            obtain ⟨c0, c1, c2, c3, c4, c5⟩ := (DBox.below1 hB.out).cells
            by_cases hin : i = ns
            · subst hin
              go_wp2
              go_ret
              exact ⟨_, _, _, rfl, by rw [E.out]; exact owns_mono hO.out (by omega), dbox_up1 hB.out⟩
            · have hlt : i < ns := by omega
              obtain ⟨bs, ofs, rfl, hqs, hcaps, hbls, hcls⟩ := HS.out.at (by omega)
              have HCS := Lib.hid (hcls i hlt)
              obtain ⟨x, hx⟩ : ∃ x, x = s.getD i 0 := ⟨_, rfl⟩
              have HXE := Lib.hid hx
              rw [← hx] at HCS
              clear hx hcls hqs hbls
              go_wp2
              clear c0 c1 c2 c3 c4 c5
              go_loopw [5, 8] (fun ov kv wr => ∃ (k : Nat) (ao2 : Option Addr) (m cap2 : Nat), k ≤ nw ∧ kv = .int .i64 (k : Nat) ∧ ov = .slice ao2 m cap2 ∧ Hid (OwC wr (W.heap.size + 1) (.slice ao2 m cap2) m (blks r s i ++ coll x r k)) ∧ Hid (Below (W.heap.size + 1) (dbox W (.slice ar nw cr) (.slice (some ⟨bs, ofs, none⟩) ns cs)) wr)) (fun _ kv _ => nw - (intOf kv).toNat)
              case atStart => exact ⟨0, ao2, m, cap2, by omega, rfl, rfl, Lib.hid (by rw [coll, List.append_nil]; exact hO.out), hB⟩
              case round =>
                obtain ⟨k, ao2, m, cap2, hk, rfl, rfl, hO, hB⟩ := hrel
                obtain ⟨c0, c1, c2, c3, c4, c5⟩ := (DBox.below1 hB.out).cells
                by_cases hkn : k = nw
                · have HO3 : Hid (OwC wr (W.heap.size + 1) (.slice ao2 m cap2) m (blks r s (i + 1))) := Lib.hid (by
                    rw [blks, ← HXE.out, ← HNR.out, ← hkn]; exact hO.out)
                  subst hkn
                  clear hO
                  go_wp2
                  go_roundw
                  case rel => exact ⟨i + 1, ao2, m, cap2, by omega, by go_num, rfl, HO3, hB⟩
                  case measure => first | (simp [intOf]; done) | (simp [intOf]; omega)
                · have hlt2 : k < nw := by omega
                  obtain ⟨b, off, rfl, hq, hcap, hbl, hcl⟩ := HR.out.at (by omega)
                  have hc := cell_later (dbox_up1 hB.out) (hcl k hlt2)
                  have hd := cell_later (dbox_up1 hB.out) HCS.out
                  have hml : m ≤ 100 := by
                    have h1 := owC_len hO.out
                    have h2 := HLEN.out i (by omega)
                    have h3 := coll_len x r k
                    rw [List.length_append] at h1
                    omega
                  obtain ⟨y, hy⟩ : ∃ y, y = r.getD k 0 := ⟨_, rfl⟩
                  by_cases h0 : 0 < y
                  · obtain ⟨g, cap3, w3, hrun, hown, hb, -, -, -⟩ := push_choice (W := wr.drew) (hO.out : OwC wr.drew _ _ _ _) (by omega) (by have h9 := hB.out.size; rw [dbox_size] at h9; exact h9) y x (k : Int)
                    have hrun : Sem.run Try.prog (appC 39 #[.slice ao2 m cap2, .slice (some ⟨wr.heap.size, 0, none⟩) 1 1]) (wr.alloc (.cells #[.int .i64 y, .int .i64 x, .int .i64 (k : Int)] 28)).drew = .ok (.slice (some ⟨g, 0, none⟩) (m + 1) cap3) w3 := hrun
                    have e : blks r s i ++ coll x r k ++ [(y, x, (k : Int))] = blks r s i ++ coll x r (k + 1) := by
                      rw [coll, ← hy, if_pos h0, List.append_assoc]
                    rw [e] at hown
                    rw [← hy] at hc
                    have HO2 := Lib.hid hown
                    have HB2 := Lib.hid (hB.out.drew.trans hb)
                    clear hy hcl hq hown hb hO e
                    go_wp2
                    go_region_law (fail)
                    all_goals (go_wp2; go_roundw; all_goals first | exact ⟨k + 1, some ⟨g, 0, none⟩, m + 1, cap3, by omega, by go_num, rfl, HO2, HB2⟩ | (simp [intOf]; done) | (simp [intOf]; omega))
                  · have e : coll x r (k + 1) = coll x r k := by
                      rw [coll, ← hy, if_neg h0, List.append_nil]
                    have HO2 := Lib.hid hO.out
                    rw [← e] at HO2
                    rw [← hy] at hc
                    clear hy hcl hq hO e
                    go_wp2
                    go_roundw
                    case rel => exact ⟨k + 1, ao2, m, cap2, by omega, by go_num, rfl, HO2, hB⟩
                    case measure => first | (simp [intOf]; done) | (simp [intOf]; omega)
        · have E : Hid (chV r s row = coll 0 row nw) := Lib.hid (by rw [HCH.out, if_neg (by omega)])
          subst hkn
          clear hO hO1 hmn HCH hm
          go_wp2
          go_ret
          exact ⟨_, _, _, rfl, by rw [E.out]; exact owns_mono HO.out (by omega), dbox_up1 hB.out⟩
      · have hlt : k < nw := by omega
        obtain ⟨b, off, rfl, hq, hcap, hbl, hcl⟩ := HX.out.at (by omega)
        have hc := cell_later (dbox_up1 hB.out) (hcl k hlt)
        obtain ⟨x, hx⟩ : ∃ x, x = row.getD k 0 := ⟨_, rfl⟩
        by_cases h0 : 0 < x
        · obtain ⟨g, cap3, w3, hrun, hown, hb, -, -, -⟩ := push_choice hO.out (by omega) (by have h9 := hB.out.size; rw [dbox_size] at h9; exact h9) x 0 (k : Int)
          have e : coll 0 row k ++ [(x, 0, (k : Int))] = coll 0 row (k + 1) := by
            rw [coll, ← hx, if_pos h0]
          rw [e] at hown
          rw [← hx] at hc
          have HO2 := Lib.hid hown
          have HB2 := Lib.hid (hB.out.trans hb)
          clear hx hcl hq hown hb hO e
          go_wp2
          go_roundw
          case rel => exact ⟨k + 1, some ⟨g, 0, none⟩, m + 1, cap3, by omega, by omega, by go_num, rfl, HO2, HB2⟩
          case measure => first | (simp [intOf]; done) | (simp [intOf]; omega)
        · have e : coll 0 row (k + 1) = coll 0 row k := by
            rw [coll, ← hx, if_neg h0, List.append_nil]
          have HO2 := Lib.hid hO.out
          rw [← e] at HO2
          rw [← hx] at hc
          clear hx hcl hq hO e
          go_wp2
          go_roundw
          case rel => exact ⟨k + 1, ao2, m, cap2, by omega, by omega, by go_num, rfl, HO2, hB⟩
          case measure => first | (simp [intOf]; done) | (simp [intOf]; omega)

end Go.Proofs.Ytjlneggfkpjnpaa
