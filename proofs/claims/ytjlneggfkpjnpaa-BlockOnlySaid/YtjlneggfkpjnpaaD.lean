/- Contracts: collect, Choices. Condition: the slices read as ints, at most eight each. -/
import Derived.Test.YtjlneggfkpjnpaaC
namespace Go.Proofs.Ytjlneggfkpjnpaa
open Go.RowKit

attribute [local go_sem ↓] appC_rw

set_option maxRecDepth 10000 in
set_option maxHeartbeats 2000000 in
theorem collect_any {W0 W : World} {ao : Option Addr} {n cap : Nat} {l0 : List Ch} (hO : OwC W W0.heap.size (.slice ao n cap) n l0) (hn : n ≤ 100) (hb0 : Below W0.heap.size W0 W) {vw : Value} {wl : List Int} (hw : Ix W0 vw wl) (hwl : wl.length ≤ 8) (size : Int) :
    Calls Try.prog 32 #[.slice ao n cap, .int .i64 size, vw] W fun e w' => ∃ ao2 m cap2, e = .returned (.slice ao2 m cap2) ∧ OwC w' W0.heap.size (.slice ao2 m cap2) m (l0 ++ coll size wl wl.length) ∧ Below W0.heap.size W0 w' := by
  obtain ⟨aw, cw, rfl⟩ := hw.mk'
  obtain ⟨nw, hnw⟩ : ∃ nw, nw = wl.length := ⟨_, rfl⟩
  have HN := Lib.hid hnw
  have HX := Lib.hid hw
  have HO := Lib.hid hO
  have HB := Lib.hid hb0
  rw [← hnw] at hwl HX ⊢
  clear hnw hw hO hb0
  go_enter Try.func32, Try.ntmps32
  go_wp2
  go_loopw [0, 7, 10] (fun lv _ kv wr => ∃ (k : Nat) (ao2 : Option Addr) (m cap2 : Nat), k ≤ nw ∧ m ≤ 100 + k ∧ kv = .int .i64 (k : Nat) ∧ lv = .slice ao2 m cap2 ∧ Hid (OwC wr W0.heap.size (.slice ao2 m cap2) m (l0 ++ coll size wl k)) ∧ Hid (Below W0.heap.size W0 wr)) (fun _ _ kv _ => nw - (intOf kv).toNat)
  case atStart => exact ⟨0, ao, n, cap, by omega, by omega, rfl, rfl, Lib.hid (by rw [coll, List.append_nil]; exact HO.out), HB⟩
  case round =>
    obtain ⟨k, ao2, m, cap2, hk, hm, rfl, rfl, hO, hB⟩ := hrel
    by_cases hkn : k = nw
    · subst hkn
      go_wp2
      go_ret
      exact ⟨_, _, _, rfl, hO.out, hB.out⟩
    · have hlt : k < nw := by omega
      obtain ⟨b, off, rfl, hq, hcap, hbl, hcl⟩ := HX.out.at (by omega)
      have hc := cell_later hB.out (hcl k hlt)
      obtain ⟨x, hx⟩ : ∃ x, x = wl.getD k 0 := ⟨_, rfl⟩
      by_cases h0 : 0 < x
      · obtain ⟨g, cap3, w3, hrun, hown, hb, -, -, -⟩ := push_choice hO.out (by omega) hB.out.size x size (k : Int)
        have e : l0 ++ coll size wl k ++ [(x, size, (k : Int))] = l0 ++ coll size wl (k + 1) := by
          rw [coll, ← hx, if_pos h0, List.append_assoc]
        rw [e] at hown
        rw [← hx] at hc
        have HO2 := Lib.hid hown
        have HB2 := Lib.hid (hB.out.trans hb)
        clear hx hcl hq hown hb hO e
        go_wp2
        go_roundw
        case rel => exact ⟨k + 1, some ⟨g, 0, none⟩, m + 1, cap3, by omega, by omega, by go_num, rfl, HO2, HB2⟩
        case measure => simp [intOf]; omega
      · have e : coll size wl (k + 1) = coll size wl k := by
          rw [coll, ← hx, if_neg h0, List.append_nil]
        have HO2 := Lib.hid hO.out
        rw [← e] at HO2
        rw [← hx] at hc
        clear hx hcl hq hO e
        go_wp2
        go_roundw
        case rel => exact ⟨k + 1, ao2, m, cap2, by omega, by omega, by go_num, rfl, HO2, hB⟩
        case measure => simp [intOf]; omega

theorem coll_le8 (size : Int) {w : List Int} (h : w.length ≤ 8) : (coll size w w.length).length ≤ 8 := Nat.le_trans (coll_len _ _ _) h

theorem chV_no1 {r s row : List Int} (h : hasB r s = false) : chV r s row = [] := by unfold chV; rw [h]; rfl
theorem chV_no2 {r s row : List Int} (h : fitB r row = false) : chV r s row = [] := by unfold chV; rw [h, Bool.and_false]; rfl
theorem chV_row {r s row : List Int} (h1 : hasB r s = true) (h2 : fitB r row = true) (h3 : 0 < leftV row) : chV r s row = coll 0 row row.length := by unfold chV; rw [h1, h2, if_pos h3]; rfl
theorem chV_new {r s row : List Int} (h1 : hasB r s = true) (h2 : fitB r row = true) (h3 : ¬ 0 < leftV row) : chV r s row = blks r s s.length := by unfold chV; rw [h1, h2, if_neg h3]; rfl

set_option maxRecDepth 10000 in
set_option maxHeartbeats 4000000 in
theorem choices_any {W : World} {ar az aw : Option Addr} {nr cr ns cs nw cw : Nat} {r s row : List Int} (hr : Ix W (.slice ar nr cr) r) (hs : Ix W (.slice az ns cs) s) (hw : Ix W (.slice aw nw cw) row) (lr : r.length ≤ 8) (ls : s.length ≤ 8) (lw : row.length ≤ 8) :
    Calls Try.prog 14 #[.agg #[.int .i64 0, .slice ar nr cr, .slice az ns cs, .int .i64 0, .int .i64 0, .int .i64 0], .slice aw nw cw] W fun e w' => ∃ ao n cap, e = .returned (.slice ao n cap) ∧ OwC w' W.heap.size (.slice ao n cap) n (chV r s row) ∧ Below W.heap.size W w' := by
  have hnr := hr.size
  have hns := hs.size
  have hnw := hw.size
  have HB0 := Lib.hid (dbox_below W (.slice ar nr cr) (.slice az ns cs))
  have HD0 := Lib.hid (dbox_is W (.slice ar nr cr) (.slice az ns cs))
  have HH := Lib.hid (hasBlocks_any (hr.below HB0.out) (hs.below HB0.out))
  have HF := Lib.hid (fun W' (hb : Below W.heap.size W W') => fits_any (ar := ar) (az := az) (cr := cr) (ns := ns) (cs := cs) hnr (hw.below hb))
  have HL := Lib.hid (fun W' (hb : Below W.heap.size W W') => left_any (hw.below hb) (by omega))
  by_cases hH : hasB r s = true
  · rw [hH] at HH
    by_cases hF : fitB r row = true
    · rw [hF] at HF
      by_cases hl : 0 < leftV row
      · rw [chV_row hH hF hl]
        obtain ⟨S, hS⟩ : ∃ S, S = leftV row := ⟨_, rfl⟩
        rw [← hS] at HL hl
        have HC := Lib.hid (fun W' (hb : Below W.heap.size W W') => collect_any (W0 := W) (W := W') (ao := none) (n := 0) (cap := 0) (l0 := []) (World.ownsRow_nil _ _ _ _) (by omega) hb hw lw 0)
        simp only [List.nil_append] at HC
        clear hr hs hw hnr hns hnw hH hF hS lr ls lw
        go_enter Try.func14, Try.ntmps14
        go_wp2_with (first
          | (go_at_call 30; (with_reducible refine HH.out.mono ?_); rintro e w1 ⟨rfl, hb1⟩; have HB := Lib.hid hb1; have HD := Lib.hid (DBox.below HD0.out hb1); obtain ⟨c0, c1, c2, c3, c4, c5⟩ := HD.out.cells; clear hb1)
          | (go_at_call 31; (with_reducible refine (HF.out _ (dbox_up HB.out)).mono ?_); rintro e w2 ⟨rfl, hb1⟩; have HB := Lib.hid (HB.out.trans (hb1.mono HB.out.size)); clear c0 c1 c2 c3 c4 c5; have HD := Lib.hid (DBox.below HD.out hb1); obtain ⟨c0, c1, c2, c3, c4, c5⟩ := HD.out.cells; clear hb1)
          | (go_at_call 15; (with_reducible refine (HL.out _ (dbox_up HB.out)).mono ?_); rintro e w3 ⟨rfl, hb1⟩; have HB := Lib.hid (HB.out.trans (hb1.mono HB.out.size)); clear c0 c1 c2 c3 c4 c5; have HD := Lib.hid (DBox.below HD.out hb1); obtain ⟨c0, c1, c2, c3, c4, c5⟩ := HD.out.cells; clear hb1)
          | (go_at_call 32; (with_reducible refine (HC.out _ (dbox_up HB.out)).mono ?_); rintro e w4 ⟨ao2, m2, cap2, rfl, ho2, hb2⟩; have HO2 := Lib.hid ho2; have HB2 := Lib.hid hb2; clear ho2 hb2))
        all_goals (go_ret; exact ⟨_, _, _, rfl, HO2.out, HB2.out⟩)
      · rw [chV_new hH hF hl]
        obtain ⟨S, hS⟩ : ∃ S, S = leftV row := ⟨_, rfl⟩
        rw [← hS] at HL hl
        have HC2 := Lib.hid (fun W' ao n cap l0 size (hO : OwC W' (dbox W (.slice ar nr cr) (.slice az ns cs)).heap.size (.slice ao n cap) n l0) (hn : n ≤ 100) (hb : Below (dbox W (.slice ar nr cr) (.slice az ns cs)).heap.size (dbox W (.slice ar nr cr) (.slice az ns cs)) W') => collect_any (W0 := dbox W (.slice ar nr cr) (.slice az ns cs)) (W := W') hO hn hb (hr.below HB0.out) lr size)
        have HLEN : Hid (∀ k, k ≤ 8 → (blks r s k).length ≤ 64) := Lib.hid (fun k hk => Nat.le_trans (blks_len r s k) (Nat.le_trans (Nat.mul_le_mul hk lr) (by decide)))
        have HSX := Lib.hid hs
        have HR8 := Lib.hid ls
        rw [← hns] at ls ⊢
        have HC := HB0
        clear hr hs hw hnr hns hnw hH hF hS lr HR8
        go_enter Try.func14, Try.ntmps14
        go_wp2_with (first
          | (go_at_call 30; (with_reducible refine HH.out.mono ?_); rintro e w1 ⟨rfl, hb1⟩; have HB := Lib.hid hb1; have HD := Lib.hid (DBox.below HD0.out hb1); obtain ⟨c0, c1, c2, c3, c4, c5⟩ := HD.out.cells; clear hb1)
          | (go_at_call 31; (with_reducible refine (HF.out _ (dbox_up HB.out)).mono ?_); rintro e w2 ⟨rfl, hb1⟩; have HB := Lib.hid (HB.out.trans (hb1.mono HB.out.size)); clear c0 c1 c2 c3 c4 c5; have HD := Lib.hid (DBox.below HD.out hb1); obtain ⟨c0, c1, c2, c3, c4, c5⟩ := HD.out.cells; clear hb1)
          | (go_at_call 15; (with_reducible refine (HL.out _ (dbox_up HB.out)).mono ?_); rintro e w3 ⟨rfl, hb1⟩; have HB := Lib.hid (HB.out.trans (hb1.mono HB.out.size)); clear c0 c1 c2 c3 c4 c5; have HD := Lib.hid (DBox.below HD.out hb1); obtain ⟨c0, c1, c2, c3, c4, c5⟩ := HD.out.cells; clear hb1)
          | (go_at_call 32; (with_reducible refine (HC.out _ (dbox_up HB.out)).mono ?_); rintro e w4 ⟨ao2, m2, cap2, rfl, ho2, hb2⟩; have HO2 := Lib.hid ho2; have HB2 := Lib.hid hb2; clear ho2 hb2))
        clear c0 c1 c2 c3 c4 c5
        go_loopw [5, 7, 25] (fun lv _ kv wr => ∃ (k : Nat) (ao2 : Option Addr) (m cap2 : Nat), k ≤ ns ∧ kv = .int .i64 (k : Nat) ∧ lv = .slice ao2 m cap2 ∧ Hid (OwC wr (dbox W (.slice ar nr cr) (.slice az ns cs)).heap.size (.slice ao2 m cap2) m (blks r s k)) ∧ Hid (Below (dbox W (.slice ar nr cr) (.slice az ns cs)).heap.size (dbox W (.slice ar nr cr) (.slice az ns cs)) wr)) (fun _ _ kv _ => ns - (intOf kv).toNat)
        case atStart => exact ⟨0, none, 0, 0, by omega, rfl, rfl, Lib.hid (World.ownsRow_nil _ _ _ _), HB⟩
        case round =>
          obtain ⟨k, ao2, m, cap2, hk, rfl, rfl, hO, hB⟩ := hrel
          by_cases hkn : k = ns
          · subst hkn
            go_wp2
            go_ret
            exact ⟨_, _, _, rfl, owns_mono hO.out (by simp), dbox_up hB.out⟩
          · have hlt : k < ns := by omega
            obtain ⟨b, off, rfl, hq, hcap, hbl, hcl⟩ := HSX.out.at (by omega)
            have hc := cell_later (dbox_up hB.out) (hcl k hlt)
            have hD := DBox.below HD0.out hB.out
            obtain ⟨c0, c1, c2, c3, c4, c5⟩ := DBox.cells hD
            have hm : m ≤ 64 := by
              have := owC_len hO.out
              have := HLEN.out k (by omega)
              omega
            have HCC := Lib.hid (HC2.out wr ao2 m cap2 (blks r s k) (s.getD k 0) hO.out (by omega) hB.out)
            have e : blks r s k ++ coll (s.getD k 0) r r.length = blks r s (k + 1) := rfl
            rw [e] at HCC
            obtain ⟨x, hx⟩ : ∃ x, x = s.getD k 0 := ⟨_, rfl⟩
            rw [← hx] at hc HCC
            clear hx hcl hq hD e hm
            go_wp2_with (go_at_call 32; (with_reducible refine HCC.out.mono ?_); rintro e w4 ⟨ao3, m3, cap3, rfl, ho2, hb2⟩; have HO2 := Lib.hid ho2; have HB2 := Lib.hid hb2; clear ho2 hb2)
            go_roundw
            case rel => exact ⟨k + 1, ao3, m3, cap3, by omega, by go_num, rfl, HO2, HB2⟩
            case measure => simp [intOf]; omega
    · have hF : fitB r row = false := by simpa using hF
      rw [chV_no2 hF]
      rw [hF] at HF
      have HC := HB0
      clear hr hs hw hnr hns hnw hH hF lr ls lw
      go_enter Try.func14, Try.ntmps14
      go_wp2_with (first
          | (go_at_call 30; (with_reducible refine HH.out.mono ?_); rintro e w1 ⟨rfl, hb1⟩; have HB := Lib.hid hb1; have HD := Lib.hid (DBox.below HD0.out hb1); obtain ⟨c0, c1, c2, c3, c4, c5⟩ := HD.out.cells; clear hb1)
          | (go_at_call 31; (with_reducible refine (HF.out _ (dbox_up HB.out)).mono ?_); rintro e w2 ⟨rfl, hb1⟩; have HB := Lib.hid (HB.out.trans (hb1.mono HB.out.size)); clear c0 c1 c2 c3 c4 c5; have HD := Lib.hid (DBox.below HD.out hb1); obtain ⟨c0, c1, c2, c3, c4, c5⟩ := HD.out.cells; clear hb1)
          | (go_at_call 15; (with_reducible refine (HL.out _ (dbox_up HB.out)).mono ?_); rintro e w3 ⟨rfl, hb1⟩; have HB := Lib.hid (HB.out.trans (hb1.mono HB.out.size)); clear c0 c1 c2 c3 c4 c5; have HD := Lib.hid (DBox.below HD.out hb1); obtain ⟨c0, c1, c2, c3, c4, c5⟩ := HD.out.cells; clear hb1)
          | (go_at_call 32; (with_reducible refine (HC.out _ (dbox_up HB.out)).mono ?_); rintro e w4 ⟨ao2, m2, cap2, rfl, ho2, hb2⟩; have HO2 := Lib.hid ho2; have HB2 := Lib.hid hb2; clear ho2 hb2))
      all_goals (go_ret; exact ⟨_, _, _, rfl, World.ownsRow_nil _ _ _ _, dbox_up HB.out⟩)
  · have hH : hasB r s = false := by simpa using hH
    rw [chV_no1 hH]
    rw [hH] at HH
    have HC := HB0
    clear hr hs hw hnr hns hnw hH lr ls lw
    go_enter Try.func14, Try.ntmps14
    go_wp2_with (first
          | (go_at_call 30; (with_reducible refine HH.out.mono ?_); rintro e w1 ⟨rfl, hb1⟩; have HB := Lib.hid hb1; have HD := Lib.hid (DBox.below HD0.out hb1); obtain ⟨c0, c1, c2, c3, c4, c5⟩ := HD.out.cells; clear hb1)
          | (go_at_call 31; (with_reducible refine (HF.out _ (dbox_up HB.out)).mono ?_); rintro e w2 ⟨rfl, hb1⟩; have HB := Lib.hid (HB.out.trans (hb1.mono HB.out.size)); clear c0 c1 c2 c3 c4 c5; have HD := Lib.hid (DBox.below HD.out hb1); obtain ⟨c0, c1, c2, c3, c4, c5⟩ := HD.out.cells; clear hb1)
          | (go_at_call 15; (with_reducible refine (HL.out _ (dbox_up HB.out)).mono ?_); rintro e w3 ⟨rfl, hb1⟩; have HB := Lib.hid (HB.out.trans (hb1.mono HB.out.size)); clear c0 c1 c2 c3 c4 c5; have HD := Lib.hid (DBox.below HD.out hb1); obtain ⟨c0, c1, c2, c3, c4, c5⟩ := HD.out.cells; clear hb1)
          | (go_at_call 32; (with_reducible refine (HC.out _ (dbox_up HB.out)).mono ?_); rintro e w4 ⟨ao2, m2, cap2, rfl, ho2, hb2⟩; have HO2 := Lib.hid ho2; have HB2 := Lib.hid hb2; clear ho2 hb2))
    all_goals (go_ret; exact ⟨_, _, _, rfl, World.ownsRow_nil _ _ _ _, dbox_up HB.out⟩)

end Go.Proofs.Ytjlneggfkpjnpaa
