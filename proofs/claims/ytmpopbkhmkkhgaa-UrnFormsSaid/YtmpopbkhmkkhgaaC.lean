/- Contracts of urn: usable, wellFormed, Balls. Condition: the slices read as ints, few of them. -/
import Derived.Test.YtmpopbkhmkkhgaaH
namespace Go.Proofs.Ytmpopbkhmkkhgaa
open Go.RowKit

set_option maxRecDepth 10000 in
set_option maxHeartbeats 1000000 in
theorem usable_any {W : World} {ar : Option Addr} {nr cr : Nat} {r : List Int} (hr : Ix W (.slice ar nr cr) r) (kd a : Int) :
    Calls Try.prog 24 #[DV kd (.slice ar nr cr) a] W fun e w' => e = .returned (.bool (usB r a)) ∧ Below W.heap.size W w' := by
  have hnr := hr.size
  have HB0 := Lib.hid (dbox_below W kd (.slice ar nr cr) a)
  have HD0 := Lib.hid (dbox_is W kd (.slice ar nr cr) a)
  have HW := Lib.hid (within_any (hr.below HB0.out) 0 8)
  unfold usB
  rw [← hnr]
  by_cases h1 : nr ≤ 6
  · rw [decide_eq_true h1, Bool.true_and]
    obtain ⟨q, hq⟩ : ∃ q, q = inB 0 8 r := ⟨_, rfl⟩
    rw [← hq] at HW ⊢
    clear hr hnr hq
    cases q with
    | false =>
      rw [Bool.false_and]
      go_enter Try.func24, Try.ntmps24
      go_wp2_with (go_at_call 32; (with_reducible refine HW.out.mono ?_); rintro e w1 ⟨rfl, hb1⟩; have HB1 := Lib.hid (HB0.out.trans (hb1.mono HB0.out.size)); obtain ⟨c0, c1, c2, c3, -, -⟩ := (DBox.below HD0.out hb1).cells; clear hb1)
      go_ret
      exact ⟨rfl, HB1.out⟩
    | true =>
      rw [Bool.true_and]
      by_cases h2 : 0 ≤ a
      · rw [decide_eq_true h2, Bool.true_and]
        by_cases h3 : a ≤ 8
        · rw [decide_eq_true h3]
          go_enter Try.func24, Try.ntmps24
          go_wp2_with (go_at_call 32; (with_reducible refine HW.out.mono ?_); rintro e w1 ⟨rfl, hb1⟩; have HB1 := Lib.hid (HB0.out.trans (hb1.mono HB0.out.size)); obtain ⟨c0, c1, c2, c3, -, -⟩ := (DBox.below HD0.out hb1).cells; clear hb1)
          all_goals (go_ret; exact ⟨by first | rfl | (simp [h2, h3]; done), HB1.out⟩)
        · rw [decide_eq_false h3]
          have h4 : ¬ a ≤ 8 := h3
          go_enter Try.func24, Try.ntmps24
          go_wp2_with (go_at_call 32; (with_reducible refine HW.out.mono ?_); rintro e w1 ⟨rfl, hb1⟩; have HB1 := Lib.hid (HB0.out.trans (hb1.mono HB0.out.size)); obtain ⟨c0, c1, c2, c3, -, -⟩ := (DBox.below HD0.out hb1).cells; clear hb1)
          all_goals (go_ret; exact ⟨by first | rfl | (simp [h2, h3]; done), HB1.out⟩)
      · rw [decide_eq_false h2, Bool.false_and]
        go_enter Try.func24, Try.ntmps24
        go_wp2_with (go_at_call 32; (with_reducible refine HW.out.mono ?_); rintro e w1 ⟨rfl, hb1⟩; have HB1 := Lib.hid (HB0.out.trans (hb1.mono HB0.out.size)); obtain ⟨c0, c1, c2, c3, -, -⟩ := (DBox.below HD0.out hb1).cells; clear hb1)
        all_goals (go_ret; exact ⟨by first | rfl | (simp [h2]; done), HB1.out⟩)
  · rw [decide_eq_false h1, Bool.false_and, Bool.false_and]
    clear hr hnr
    go_enter Try.func24, Try.ntmps24
    go_wp2
    go_ret
    exact ⟨rfl, HB0.out⟩

set_option maxRecDepth 10000 in
set_option maxHeartbeats 1000000 in
theorem wellFormed_any {W : World} {ar aw : Option Addr} {nr cr nw cw : Nat} {r row : List Int} (hr : nr = r.length) (hw : Ix W (.slice aw nw cw) row) (kd a : Int) :
    Calls Try.prog 25 #[DV kd (.slice ar nr cr) a, .slice aw nw cw] W fun e w' => e = .returned (.bool (fitB r row)) ∧ Below W.heap.size W w' := by
  have hnw := hw.size
  have HB0 := Lib.hid (dbox_below W kd (.slice ar nr cr) a)
  have HD0 := Lib.hid (dbox_is W kd (.slice ar nr cr) a)
  have HW := Lib.hid (within_any (hw.below HB0.out) 0 1048576)
  unfold fitB
  rw [← hr, ← hnw]
  obtain ⟨q, hq⟩ : ∃ q, q = inB 0 1048576 row := ⟨_, rfl⟩
  rw [← hq] at HW ⊢
  clear hr hw hnw hq
  by_cases h1 : nw = 0
  · subst h1
    go_enter Try.func25, Try.ntmps25
    go_wp2
    go_ret
    exact ⟨rfl, HB0.out⟩
  · have e1 : decide (nw = 0) = false := by simpa using h1
    rw [e1]
    clear e1
    by_cases h2 : nw = nr
    · subst h2
      have e2 : (false || (decide (nw = nw) && q)) = q := by simp
      rw [e2]
      clear e2
      go_enter Try.func25, Try.ntmps25
      go_wp2_with (go_at_call 32; (with_reducible refine HW.out.mono ?_); rintro e w1 ⟨rfl, hb1⟩; have HB1 := Lib.hid (HB0.out.trans (hb1.mono HB0.out.size)); clear hb1)
      go_ret
      exact ⟨by first | rfl | (simp [h1]; done) | (simp [h1, h3]; done), HB1.out⟩
    · have e2 : (false || (decide (nw = nr) && q)) = false := by simp [h2]
      rw [e2]
      have h3 : ¬ (nw : Int) = (nr : Int) := by omega
      clear e2
      go_enter Try.func25, Try.ntmps25
      go_wp2
      go_ret
      exact ⟨by first | rfl | (simp [h1]; done) | (simp [h1, h3]; done), HB0.out⟩

theorem balV_no1 {r row : List Int} {a : Int} (h : usB r a = false) : balV r a row = [] := by unfold balV; rw [h]; rfl
theorem balV_no2 {r row : List Int} {a : Int} (h : fitB r row = false) : balV r a row = [] := by unfold balV; rw [h, Bool.and_false]; rfl
theorem balV_new {r row : List Int} {a : Int} (h1 : usB r a = true) (h2 : fitB r row = true) (h : row.length = 0) : balV r a row = r := by unfold balV; rw [h1, h2, if_pos h]; rfl
theorem balV_row {r row : List Int} {a : Int} (h1 : usB r a = true) (h2 : fitB r row = true) (h : ¬ row.length = 0) : balV r a row = row := by unfold balV; rw [h1, h2, if_neg h]; rfl

set_option maxRecDepth 10000 in
set_option maxHeartbeats 4000000 in
theorem balls_any {W : World} {ar aw : Option Addr} {nr cr nw cw : Nat} {r row : List Int} (hr : Ix W (.slice ar nr cr) r) (hw : Ix W (.slice aw nw cw) row) (lr : r.length ≤ 8) (lw : row.length ≤ 8) (kd a : Int) :
    Calls Try.prog 13 #[DV kd (.slice ar nr cr) a, .slice aw nw cw] W fun e w' => ∃ ao n cap, e = .returned (.slice ao n cap) ∧ OwI w' W.heap.size (.slice ao n cap) n (balV r a row) ∧ Below W.heap.size W w' := by
  have hnr := hr.size
  have hnw := hw.size
  have HB0 := Lib.hid (dbox_below W kd (.slice ar nr cr) a)
  have HD0 := Lib.hid (dbox_is W kd (.slice ar nr cr) a)
  have HU := Lib.hid (usable_any (hr.below HB0.out) kd a)
  have HF := Lib.hid (fun W' (hb : Below W.heap.size W W') => wellFormed_any (ar := ar) (nr := nr) (cr := cr) (kd := kd) (a := a) hnr (hw.below hb))
  have HC1 := Lib.hid (fun W' (hb : Below W.heap.size W W') => clone_any (hr.below hb) (by omega))
  have HC2 := Lib.hid (fun W' (hb : Below W.heap.size W W') => clone_any (hw.below hb) (by omega))
  by_cases hU : usB r a = true
  · rw [hU] at HU
    by_cases hF : fitB r row = true
    · rw [hF] at HF
      by_cases h0 : nw = 0
      · rw [balV_new hU hF (by omega)]
        subst h0
        clear hr hw hnr hnw hU hF lr lw
        go_enter Try.func13, Try.ntmps13
        go_wp2_with (first
          | (go_at_call 24; (with_reducible refine HU.out.mono ?_); rintro e w1 ⟨rfl, hb1⟩; have HB := Lib.hid (HB0.out.trans (hb1.mono HB0.out.size)); have HD := Lib.hid (DBox.below HD0.out hb1); obtain ⟨c0, c1, c2, c3, c4, c5⟩ := HD.out.cells; clear hb1)
          | (go_at_call 25; (with_reducible refine (HF.out _ HB.out).mono ?_); rintro e w2 ⟨rfl, hb1⟩; have HB := Lib.hid (HB.out.trans (hb1.mono HB.out.size)); clear c0 c1 c2 c3 c4 c5; have HD := Lib.hid (DBox.below HD.out hb1); obtain ⟨c0, c1, c2, c3, c4, c5⟩ := HD.out.cells; clear hb1)
          | (go_at_call 26; (with_reducible refine (HC1.out _ HB.out).mono ?_); rintro e w4 ⟨ao2, cap2, rfl, ho2, hb2⟩; have HO2 := Lib.hid (owns_mono ho2 HB.out.size); have HB2 := Lib.hid (HB.out.trans (hb2.mono HB.out.size)); clear ho2 hb2))
        all_goals (go_ret; exact ⟨_, _, _, rfl, HO2.out, HB2.out⟩)
      · rw [balV_row hU hF (by omega)]
        clear hr hw hnr hnw hU hF lr lw
        go_enter Try.func13, Try.ntmps13
        go_wp2_with (first
          | (go_at_call 24; (with_reducible refine HU.out.mono ?_); rintro e w1 ⟨rfl, hb1⟩; have HB := Lib.hid (HB0.out.trans (hb1.mono HB0.out.size)); have HD := Lib.hid (DBox.below HD0.out hb1); obtain ⟨c0, c1, c2, c3, c4, c5⟩ := HD.out.cells; clear hb1)
          | (go_at_call 25; (with_reducible refine (HF.out _ HB.out).mono ?_); rintro e w2 ⟨rfl, hb1⟩; have HB := Lib.hid (HB.out.trans (hb1.mono HB.out.size)); clear c0 c1 c2 c3 c4 c5; have HD := Lib.hid (DBox.below HD.out hb1); obtain ⟨c0, c1, c2, c3, c4, c5⟩ := HD.out.cells; clear hb1)
          | (go_at_call 26; (with_reducible refine (HC2.out _ HB.out).mono ?_); rintro e w4 ⟨ao2, cap2, rfl, ho2, hb2⟩; have HO2 := Lib.hid (owns_mono ho2 HB.out.size); have HB2 := Lib.hid (HB.out.trans (hb2.mono HB.out.size)); clear ho2 hb2))
        all_goals (go_ret; exact ⟨_, _, _, rfl, HO2.out, HB2.out⟩)
    · have hF : fitB r row = false := by simpa using hF
      rw [balV_no2 hF]
      rw [hF] at HF
      clear hr hw hnr hnw hU hF lr lw HC1 HC2
      go_enter Try.func13, Try.ntmps13
      go_wp2_with (first
        | (go_at_call 24; (with_reducible refine HU.out.mono ?_); rintro e w1 ⟨rfl, hb1⟩; have HB := Lib.hid (HB0.out.trans (hb1.mono HB0.out.size)); have HD := Lib.hid (DBox.below HD0.out hb1); obtain ⟨c0, c1, c2, c3, c4, c5⟩ := HD.out.cells; clear hb1)
        | (go_at_call 25; (with_reducible refine (HF.out _ HB.out).mono ?_); rintro e w2 ⟨rfl, hb1⟩; have HB := Lib.hid (HB.out.trans (hb1.mono HB.out.size)); clear c0 c1 c2 c3 c4 c5; have HD := Lib.hid (DBox.below HD.out hb1); obtain ⟨c0, c1, c2, c3, c4, c5⟩ := HD.out.cells; clear hb1))
      all_goals (go_ret; exact ⟨_, _, _, rfl, World.ownsRow_nil _ _ _ _, HB.out⟩)
  · have hU : usB r a = false := by simpa using hU
    rw [balV_no1 hU]
    rw [hU] at HU
    clear hr hw hnr hnw hU lr lw HC1 HC2 HF
    go_enter Try.func13, Try.ntmps13
    go_wp2_with (go_at_call 24; (with_reducible refine HU.out.mono ?_); rintro e w1 ⟨rfl, hb1⟩; have HB := Lib.hid (HB0.out.trans (hb1.mono HB0.out.size)); clear hb1)
    all_goals (go_ret; exact ⟨_, _, _, rfl, World.ownsRow_nil _ _ _ _, HB.out⟩)

end Go.Proofs.Ytmpopbkhmkkhgaa
