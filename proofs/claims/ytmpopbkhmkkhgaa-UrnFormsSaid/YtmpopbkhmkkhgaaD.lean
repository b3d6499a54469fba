/- Contracts of the reference: usable, formed, Balls. Condition: the slices read as ints, few of them. -/
import Derived.Test.YtmpopbkhmkkhgaaC
namespace Go.Proofs.Ytmpopbkhmkkhgaa
open Go.RowKit

theorem inB_no {lo hi : Int} {l : List Int} {k : Nat} (hk : k < l.length) (h : ¬ (lo ≤ l.getD k 0 ∧ l.getD k 0 ≤ hi)) : inB lo hi l = false := by
  cases hb : inB lo hi l with
  | false => rfl
  | true => exact absurd ((inB_iff.1 hb) k hk) h

theorem usB_no {r : List Int} {a : Int} (h : 6 < r.length ∨ a < 0 ∨ 8 < a) : usB r a = false := by
  unfold usB
  rcases h with h | h | h
  · rw [decide_eq_false (by omega)]; rfl
  · rw [decide_eq_false (show ¬ 0 ≤ a by omega)]; simp
  · rw [decide_eq_false (show ¬ a ≤ 8 by omega)]; simp
theorem usB_yes {r : List Int} {a : Int} (h1 : r.length ≤ 6) (h2 : 0 ≤ a) (h3 : a ≤ 8) : usB r a = inB 0 8 r := by
  unfold usB
  rw [decide_eq_true h1, decide_eq_true h2, decide_eq_true h3]; simp

set_option maxRecDepth 10000 in
set_option maxHeartbeats 2000000 in
theorem rUsable_any {W : World} {ar : Option Addr} {nr cr : Nat} {r : List Int} (hr : Ix W (.slice ar nr cr) r) (kd a : Int) :
    Calls Try.prog 27 #[DV kd (.slice ar nr cr) a] W fun e w' => e = .returned (.bool (usB r a)) ∧ Below W.heap.size W w' := by
  have hnr := hr.size
  have HB0 := Lib.hid (dbox_below W kd (.slice ar nr cr) a)
  have HX := Lib.hid (hr.below HB0.out)
  by_cases h1 : 6 < nr
  · rw [usB_no (.inl (by omega))]
    clear hr hnr HX
    go_enter Try.func27, Try.ntmps27
    go_wp2
    go_ret
    exact ⟨rfl, HB0.out⟩
  · by_cases h2 : a < 0
    · rw [usB_no (.inr (.inl h2))]
      clear hr hnr HX
      go_enter Try.func27, Try.ntmps27
      go_wp2
      go_ret
      exact ⟨rfl, HB0.out⟩
    · by_cases h3 : 8 < a
      · rw [usB_no (.inr (.inr h3))]
        clear hr hnr HX
        go_enter Try.func27, Try.ntmps27
        go_wp2
        go_ret
        exact ⟨rfl, HB0.out⟩
      · rw [usB_yes (by omega) (by omega) (by omega)]
        have HN := Lib.hid hnr
        obtain ⟨R, hR⟩ : ∃ R, R = inB 0 8 r := ⟨_, rfl⟩
        have HR := Lib.hid hR
        rw [← hR]
        have hnr6 : nr ≤ 6 := by omega
        obtain ⟨k0, k1, -, k3, -, -⟩ := (dbox_is W kd (.slice ar nr cr) a).cells
        clear hr hnr hR
        go_enter Try.func27, Try.ntmps27
        go_wp2
        go_loop [3] (fun kv => ∃ k : Nat, k ≤ nr ∧ kv = .int .i64 (k : Nat) ∧ Hid (∀ j, j < k → 0 ≤ r.getD j 0 ∧ r.getD j 0 ≤ 8)) (fun kv => nr - (intOf kv).toNat)
        case atStart => exact ⟨0, by omega, rfl, Lib.hid (fun j h => by omega)⟩
        case round =>
          obtain ⟨k, hk, rfl, hJ⟩ := hrel
          by_cases hkn : k = nr
          · have E : Hid (R = true) := Lib.hid (by
              rw [HR.out]; exact inB_iff.2 fun j hj => hJ.out j (by rw [hkn, HN.out]; exact hj))
            subst hkn
            clear hJ
            go_wp2
            go_ret
            exact ⟨by rw [E.out] <;> rfl, HB0.out⟩
          · have hlt : k < nr := by omega
            obtain ⟨b, off, rfl, hq, hcap, hbl, hcl⟩ := HX.out.at (by omega)
            have hc := hcl k hlt
            by_cases hin : 0 ≤ r.getD k 0 ∧ r.getD k 0 ≤ 8
            · have HJ2 : Hid (∀ j, j < k + 1 → 0 ≤ r.getD j 0 ∧ r.getD j 0 ≤ 8) := Lib.hid fun j hj => by
                rcases Nat.lt_or_ge j k with h | h
                · exact hJ.out j h
                · rw [show j = k by omega]; exact hin
              obtain ⟨x, hx⟩ : ∃ x, x = r.getD k 0 := ⟨_, rfl⟩
              rw [← hx] at hc hin
              obtain ⟨h4, h5⟩ := hin
              clear hx hcl hq hJ
              go_wp2
              go_round
              case rel => exact ⟨k + 1, by omega, by go_num, HJ2⟩
              case measure => simp [intOf]; omega
            · have E : Hid (R = false) := Lib.hid (by rw [HR.out]; exact inB_no (by rw [← HN.out]; exact hlt) hin)
              obtain ⟨x, hx⟩ : ∃ x, x = r.getD k 0 := ⟨_, rfl⟩
              rw [← hx] at hc hin
              clear hx hcl hq hJ
              by_cases h4 : x < 0
              · clear hin
                go_wp2
                go_ret
                exact ⟨by rw [E.out] <;> rfl, HB0.out⟩
              · have h5 : 8 < x := by omega
                clear hin
                go_wp2
                go_ret
                exact ⟨by rw [E.out] <;> rfl, HB0.out⟩

theorem fitB_no {r row : List Int} (h0 : ¬ row.length = 0) (h : ¬ row.length = r.length) : fitB r row = false := by
  unfold fitB; rw [decide_eq_false h0, decide_eq_false h]; rfl
theorem fitB_yes {r row : List Int} (h : row.length = 0 ∨ row.length = r.length) : fitB r row = inB 0 1048576 row := by
  unfold fitB
  rcases Nat.eq_zero_or_pos row.length with h0 | h0
  · rw [decide_eq_true h0, List.eq_nil_of_length_eq_zero h0]; rfl
  · rw [decide_eq_false (show ¬ row.length = 0 by omega), decide_eq_true (show row.length = r.length by omega)]; simp

set_option maxRecDepth 10000 in
set_option maxHeartbeats 2000000 in
theorem formed_any {W : World} {ar aw : Option Addr} {nr cr nw cw : Nat} {r row : List Int} (hr : nr = r.length) (hw : Ix W (.slice aw nw cw) row) (kd a : Int) :
    Calls Try.prog 28 #[DV kd (.slice ar nr cr) a, .slice aw nw cw] W fun e w' => e = .returned (.bool (fitB r row)) ∧ Below W.heap.size W w' := by
  have hnw := hw.size
  have hln := hw.len
  unfold maxLen at hln
  have HB0 := Lib.hid (dbox_below W kd (.slice ar nr cr) a)
  have HX := Lib.hid (hw.below HB0.out)
  by_cases h1 : ¬ nw = 0 ∧ ¬ nw = nr
  · rw [fitB_no (by omega) (by omega)]
    obtain ⟨h1, h2⟩ := h1
    have h3 : ¬ (nw : Int) = (nr : Int) := by omega
    clear hr hw hnw hln HX
    go_enter Try.func28, Try.ntmps28
    go_wp2
    all_goals first | (go_ret; exact ⟨by first | rfl | (simp [h1, h3]; done), HB0.out⟩) | (exfalso; rename_i hq _ _; rcases hq with hq | hq <;> first | omega | (simp at hq; omega))
  · have h2 : nw = 0 ∨ (¬ nw = 0 ∧ nw = nr) := by omega
    rw [fitB_yes (by omega)]
    have HN := Lib.hid hnw
    obtain ⟨R, hR⟩ : ∃ R, R = inB 0 1048576 row := ⟨_, rfl⟩
    have HR := Lib.hid hR
    rw [← hR]
    rw [← hnw] at hln
    clear hr hw hnw hR h1
    rcases h2 with h2 | ⟨h1, h2⟩
    · subst h2
      go_enter Try.func28, Try.ntmps28
      go_wp2
      go_loop [5] (fun kv => ∃ k : Nat, k ≤ 0 ∧ kv = .int .i64 (k : Nat)) (fun kv => 0 - (intOf kv).toNat)
      case atStart => exact ⟨0, by omega, rfl⟩
      case round =>
        obtain ⟨k, hk, rfl⟩ := hrel
        obtain rfl : k = 0 := by omega
        have E : Hid (R = true) := Lib.hid (by
          rw [HR.out]; exact inB_iff.2 fun j hj => absurd hj (by rw [← HN.out]; omega))
        go_wp2
        go_ret
        exact ⟨by rw [E.out] <;> rfl, HB0.out⟩
    · subst h2
      go_enter Try.func28, Try.ntmps28
      go_wp2
      go_loop [5] (fun kv => ∃ k : Nat, k ≤ nw ∧ kv = .int .i64 (k : Nat) ∧ Hid (∀ j, j < k → 0 ≤ row.getD j 0 ∧ row.getD j 0 ≤ 1048576)) (fun kv => nw - (intOf kv).toNat)
      case atStart => exact ⟨0, by omega, rfl, Lib.hid (fun j h => by omega)⟩
      case round =>
        obtain ⟨k, hk, rfl, hJ⟩ := hrel
        by_cases hkn : k = nw
        · have E : Hid (R = true) := Lib.hid (by
            rw [HR.out]; exact inB_iff.2 fun j hj => hJ.out j (by rw [hkn, HN.out]; exact hj))
          subst hkn
          clear hJ
          go_wp2
          go_ret
          exact ⟨by rw [E.out] <;> rfl, HB0.out⟩
        · have hlt : k < nw := by omega
          obtain ⟨b, off, rfl, hq, hcap, hbl, hcl⟩ := HX.out.at (by omega)
          have hc := hcl k hlt
          by_cases hin : 0 ≤ row.getD k 0 ∧ row.getD k 0 ≤ 1048576
          · have HJ2 : Hid (∀ j, j < k + 1 → 0 ≤ row.getD j 0 ∧ row.getD j 0 ≤ 1048576) := Lib.hid fun j hj => by
              rcases Nat.lt_or_ge j k with h | h
              · exact hJ.out j h
              · rw [show j = k by omega]; exact hin
            obtain ⟨x, hx⟩ : ∃ x, x = row.getD k 0 := ⟨_, rfl⟩
            rw [← hx] at hc hin
            obtain ⟨h4, h5⟩ := hin
            clear hx hcl hq hJ
            go_wp2
            go_round
            case rel => exact ⟨k + 1, by omega, by go_num, HJ2⟩
            case measure => simp [intOf]; omega
          · have E : Hid (R = false) := Lib.hid (by rw [HR.out]; exact inB_no (by rw [← HN.out]; exact hlt) hin)
            obtain ⟨x, hx⟩ : ∃ x, x = row.getD k 0 := ⟨_, rfl⟩
            rw [← hx] at hc hin
            clear hx hcl hq hJ
            by_cases h4 : x < 0
            · clear hin
              go_wp2
              go_ret
              exact ⟨by rw [E.out] <;> rfl, HB0.out⟩
            · have h5 : 1048576 < x := by omega
              clear hin
              go_wp2
              go_ret
              exact ⟨by rw [E.out] <;> rfl, HB0.out⟩

attribute [local go_sem ↓] appI_rw

set_option maxRecDepth 10000 in
set_option maxHeartbeats 4000000 in
theorem rBalls_any {W : World} {ar aw : Option Addr} {nr cr nw cw : Nat} {r row : List Int} (hr : Ix W (.slice ar nr cr) r) (hw : Ix W (.slice aw nw cw) row) (lr : r.length ≤ 8) (lw : row.length ≤ 8) (kd a : Int) :
    Calls Try.prog 14 #[DV kd (.slice ar nr cr) a, .slice aw nw cw] W fun e w' => ∃ ao n cap, e = .returned (.slice ao n cap) ∧ OwI w' W.heap.size (.slice ao n cap) n (balV r a row) ∧ Below W.heap.size W w' := by
  have hnr := hr.size
  have hnw := hw.size
  have HB0 := Lib.hid (dbox_below W kd (.slice ar nr cr) a)
  have HD0 := Lib.hid (dbox_is W kd (.slice ar nr cr) a)
  have HU := Lib.hid (rUsable_any (hr.below HB0.out) kd a)
  have HF := Lib.hid (fun W' (hb : Below W.heap.size W W') => formed_any (ar := ar) (nr := nr) (cr := cr) (kd := kd) (a := a) hnr (hw.below hb))
  have HC1 := Lib.hid (fun W' (hb : Below W.heap.size W W') => clone_run (hr.below hb) (by omega))
  have HC2 := Lib.hid (fun W' (hb : Below W.heap.size W W') => clone_run (hw.below hb) (by omega))
  by_cases hU : usB r a = true
  · rw [hU] at HU
    by_cases hF : fitB r row = true
    · rw [hF] at HF
      by_cases h0 : nw = 0
      · rw [balV_new hU hF (by omega)]
        subst h0
        clear hr hw hnr hnw hU hF lr lw
        go_enter Try.func14, Try.ntmps14
        go_wp2_with (first
          | (go_at_call 27; (with_reducible refine HU.out.mono ?_); rintro e w1 ⟨rfl, hb1⟩; have HB := Lib.hid (HB0.out.trans (hb1.mono HB0.out.size)); have HD := Lib.hid (DBox.below HD0.out hb1); obtain ⟨c0, c1, c2, c3, c4, c5⟩ := HD.out.cells; clear hb1)
          | (go_at_call 28; (with_reducible refine (HF.out _ HB.out).mono ?_); rintro e w2 ⟨rfl, hb1⟩; have HB := Lib.hid (HB.out.trans (hb1.mono HB.out.size)); clear c0 c1 c2 c3 c4 c5; have HD := Lib.hid (DBox.below HD.out hb1); obtain ⟨c0, c1, c2, c3, c4, c5⟩ := HD.out.cells; have hltd := (Array.getElem?_eq_some_iff.1 HD.out).1; obtain ⟨ao2, cap2, w4, hrun, ho2, hb2⟩ := HC1.out _ HB.out; have HO2 := Lib.hid (owns_mono ho2 HB.out.size); have HB2 := Lib.hid (HB.out.trans (hb2.mono HB.out.size)); clear ho2 hb2; clear hb1))
        all_goals (go_ret; exact ⟨_, _, _, rfl, HO2.out, HB2.out⟩)
      · rw [balV_row hU hF (by omega)]
        clear hr hw hnr hnw hU hF lr lw
        go_enter Try.func14, Try.ntmps14
        go_wp2_with (first
          | (go_at_call 27; (with_reducible refine HU.out.mono ?_); rintro e w1 ⟨rfl, hb1⟩; have HB := Lib.hid (HB0.out.trans (hb1.mono HB0.out.size)); have HD := Lib.hid (DBox.below HD0.out hb1); obtain ⟨c0, c1, c2, c3, c4, c5⟩ := HD.out.cells; clear hb1)
          | (go_at_call 28; (with_reducible refine (HF.out _ HB.out).mono ?_); rintro e w2 ⟨rfl, hb1⟩; have HB := Lib.hid (HB.out.trans (hb1.mono HB.out.size)); clear c0 c1 c2 c3 c4 c5; have HD := Lib.hid (DBox.below HD.out hb1); obtain ⟨c0, c1, c2, c3, c4, c5⟩ := HD.out.cells; obtain ⟨ao2, cap2, w4, hrun, ho2, hb2⟩ := HC2.out _ HB.out; have HO2 := Lib.hid (owns_mono ho2 HB.out.size); have HB2 := Lib.hid (HB.out.trans (hb2.mono HB.out.size)); clear ho2 hb2; clear hb1))
        all_goals (go_ret; exact ⟨_, _, _, rfl, HO2.out, HB2.out⟩)
    · have hF : fitB r row = false := by simpa using hF
      rw [balV_no2 hF]
      rw [hF] at HF
      clear hr hw hnr hnw hU hF lr lw HC1 HC2
      go_enter Try.func14, Try.ntmps14
      go_wp2_with (first
        | (go_at_call 27; (with_reducible refine HU.out.mono ?_); rintro e w1 ⟨rfl, hb1⟩; have HB := Lib.hid (HB0.out.trans (hb1.mono HB0.out.size)); have HD := Lib.hid (DBox.below HD0.out hb1); obtain ⟨c0, c1, c2, c3, c4, c5⟩ := HD.out.cells; clear hb1)
        | (go_at_call 28; (with_reducible refine (HF.out _ HB.out).mono ?_); rintro e w2 ⟨rfl, hb1⟩; have HB := Lib.hid (HB.out.trans (hb1.mono HB.out.size)); clear c0 c1 c2 c3 c4 c5; have HD := Lib.hid (DBox.below HD.out hb1); obtain ⟨c0, c1, c2, c3, c4, c5⟩ := HD.out.cells; clear hb1))
      all_goals (go_ret; exact ⟨_, _, _, rfl, World.ownsRow_nil _ _ _ _, HB.out⟩)
  · have hU : usB r a = false := by simpa using hU
    rw [balV_no1 hU]
    rw [hU] at HU
    clear hr hw hnr hnw hU lr lw HC1 HC2 HF
    go_enter Try.func14, Try.ntmps14
    go_wp2_with (go_at_call 27; (with_reducible refine HU.out.mono ?_); rintro e w1 ⟨rfl, hb1⟩; have HB := Lib.hid (HB0.out.trans (hb1.mono HB0.out.size)); clear hb1)
    all_goals (go_ret; exact ⟨_, _, _, rfl, World.ownsRow_nil _ _ _ _, HB.out⟩)

end Go.Proofs.Ytmpopbkhmkkhgaa
