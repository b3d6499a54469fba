/- Contract of the reference: Choices, all cases. Condition: the slices read as ints, at most eight each. -/
import Derived.Test.YtjlneggfkpjnpaaJ
namespace Go.Proofs.Ytjlneggfkpjnpaa
open Go.RowKit

set_option maxRecDepth 10000 in
set_option maxHeartbeats 4000000 in
theorem rChoices_any {W : World} {ar az aw : Option Addr} {nr cr ns cs nw cw : Nat} {r s row : List Int} (hr : Ix W (.slice ar nr cr) r) (hs : Ix W (.slice az ns cs) s) (hw : Ix W (.slice aw nw cw) row) (lr : r.length ≤ 8) (ls : s.length ≤ 8) (lw : row.length ≤ 8) :
    Calls Try.prog 12 #[.agg #[.int .i64 0, .slice ar nr cr, .slice az ns cs, .int .i64 0, .int .i64 0, .int .i64 0], .slice aw nw cw] W fun e w' => ∃ ao n cap, e = .returned (.slice ao n cap) ∧ OwC w' W.heap.size (.slice ao n cap) n (chV r s row) ∧ Below W.heap.size W w' := by
  have hnr := hr.size
  have hns := hs.size
  have hnw := hw.size
  have HB0 := Lib.hid (dbox_below W (.slice ar nr cr) (.slice az ns cs))
  have HH := Lib.hid (blocks_any (hr.below HB0.out) (hs.below HB0.out))
  have HG := Lib.hid (fun W' (hb : Below W.heap.size W W') => ranged_any (hw.below hb))
  by_cases hH : hasB r s = true
  · by_cases hF : fitB r row = true
    · exact rChoices_fit hr hs hw lr ls lw hH hF
    · rw [hH] at HH
      have hF : fitB r row = false := by simpa using hF
      rw [chV_no2 hF]
      unfold fitB at hF
      rw [Bool.or_eq_false_iff, decide_eq_false_iff_not, ← hnw, ← hnr] at hF
      obtain ⟨h0, h1⟩ := hF
      obtain ⟨q, hq⟩ : ∃ q, q = inB 0 1048576 row := ⟨_, rfl⟩
      rw [← hq] at HG h1
      cases q with
      | false =>
        clear hr hs hw hnr hns hnw hH lr ls lw h0 h1 hq
        go_enter Try.func12, Try.ntmps12
        go_wp2_with (first
          | (go_at_call 28; (with_reducible refine HH.out.mono ?_); rintro e w1 ⟨rfl, hb1⟩; have HB := Lib.hid hb1; obtain ⟨c0, c1, c2, c3, c4, c5⟩ := (DBox.below (dbox_is _ _ _) HB.out).cells; clear hb1)
          | (go_at_call 29; (with_reducible refine (HG.out _ (dbox_up HB.out)).mono ?_); rintro e w2 ⟨rfl, rfl⟩))
        all_goals (go_ret; exact ⟨_, _, _, rfl, World.ownsRow_nil _ _ _ _, dbox_up HB.out⟩)
      | true =>
        have h2 : ¬ nw = nr := by simpa using h1
        have h3 : ¬ (nw : Int) = (nr : Int) := by omega
        clear hr hs hw hnr hns hnw hH lr ls lw h1 hq
        go_enter Try.func12, Try.ntmps12
        go_wp2_with (first
          | (go_at_call 28; (with_reducible refine HH.out.mono ?_); rintro e w1 ⟨rfl, hb1⟩; have HB := Lib.hid hb1; obtain ⟨c0, c1, c2, c3, c4, c5⟩ := (DBox.below (dbox_is _ _ _) HB.out).cells; clear hb1)
          | (go_at_call 29; (with_reducible refine (HG.out _ (dbox_up HB.out)).mono ?_); rintro e w2 ⟨rfl, rfl⟩))
        all_goals first | (go_ret; exact ⟨_, _, _, rfl, World.ownsRow_nil _ _ _ _, dbox_up HB.out⟩) | (exfalso; rename_i h9 _ _; rcases h9 with h9 | h9 <;> simp at h9 <;> omega)
  · have hH : hasB r s = false := by simpa using hH
    rw [chV_no1 hH]
    rw [hH] at HH
    clear hr hs hw hnr hns hnw hH lr ls lw
    go_enter Try.func12, Try.ntmps12
    go_wp2_with (first
          | (go_at_call 28; (with_reducible refine HH.out.mono ?_); rintro e w1 ⟨rfl, hb1⟩; have HB := Lib.hid hb1; obtain ⟨c0, c1, c2, c3, c4, c5⟩ := (DBox.below (dbox_is _ _ _) HB.out).cells; clear hb1)
          | (go_at_call 29; (with_reducible refine (HG.out _ (dbox_up HB.out)).mono ?_); rintro e w2 ⟨rfl, rfl⟩))
    all_goals (go_ret; exact ⟨_, _, _, rfl, World.ownsRow_nil _ _ _ _, dbox_up HB.out⟩)

end Go.Proofs.Ytjlneggfkpjnpaa
