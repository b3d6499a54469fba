/- Contract: the law's sanity. No condition. -/
import Derived.Test.YtafdjohgoopcmaaXN
namespace Go.Proofs.Ytafdjohgoopcmaa
open Go.RowKit

set_option maxRecDepth 100000 in
set_option maxHeartbeats 4000000 in
theorem sanity_any (w : World) : Calls Try.prog 9 #[] w fun e w' => e = .returned (.bool true) ∧ Below w.heap.size w w' := by
  have N1 := Lib.hid num_one
  have N2 := Lib.hid (num_no (-1) 5 ⟨by decide, by decide⟩ ⟨by decide, by decide⟩ (by decide))
  have N3 := Lib.hid (num_no 0 0 ⟨by decide, by decide⟩ ⟨by decide, by decide⟩ (by decide))
  have N4 := Lib.hid (num_no 0 1073741825 ⟨by decide, by decide⟩ ⟨by decide, by decide⟩ (by decide))
  have C1 := Lib.hid ch_one
  have C2 := Lib.hid ch_two
  have P1 := Lib.hid pick_one
  have P2 := Lib.hid (fun W => pick_no W (.slice none 0 0) [] ⟨by simp, fun k => ⟨by simp, by simp⟩, .inl ⟨rfl, _, _, rfl⟩⟩ (by decide))
  have P3 := Lib.hid (fun W v h => pick_no W v [(1, 0, 0), (0, 0, 1)] h (by decide))
  have S0 := Lib.hid shuf_zero
  have S1 := Lib.hid shuf_one
  have S4 := Lib.hid shuf_no
  have NZ := Lib.hid num_zero
  have J0 := Lib.hid join_none
  have J6 := Lib.hid join_six
  have J1 := Lib.hid join_a
  have CM := Lib.hid (fun W => commit_any ⟨#[97]⟩ (by decide) W)
  obtain ⟨cs, hcs⟩ : ∃ cs, cs = commitS ⟨#[97]⟩ := ⟨_, rfl⟩
  have hz : cs.size = 8 := by rw [hcs]; exact commitS_size _
  rw [← hcs] at CM
  clear hcs
  have HB := Lib.hid (Below.refl w.heap.size w)
  go_enter Try.func9, Try.ntmps9
  go_wp2_with (first
    | (go_at_call 11; (with_reducible refine (N1.out _).mono ?_); rintro e w1 ⟨rfl, hb⟩; have HB := Lib.hid (HB.out.trans (hb.mono HB.out.size)); clear hb)
    | (go_at_call 11; (with_reducible refine (N2.out _).mono ?_); rintro e w1 ⟨rfl, hb⟩; have HB := Lib.hid (HB.out.trans (hb.mono HB.out.size)); clear hb)
    | (go_at_call 11; (with_reducible refine (N3.out _).mono ?_); rintro e w1 ⟨rfl, hb⟩; have HB := Lib.hid (HB.out.trans (hb.mono HB.out.size)); clear hb)
    | (go_at_call 11; (with_reducible refine (N4.out _).mono ?_); rintro e w1 ⟨rfl, hb⟩; have HB := Lib.hid (HB.out.trans (hb.mono HB.out.size)); clear hb)
    | (go_at_call 22; (with_reducible refine (C1.out _ _ ?_).mono ?_); (first | rfl | simp); rintro e w1 ⟨ao, cap, rfl, hcx, hb⟩; have HCX := Lib.hid hcx; have HB := Lib.hid (HB.out.trans (hb.mono HB.out.size)); clear hb hcx)
    | (go_at_call 22; (with_reducible refine (C2.out _ _ ?_).mono ?_); (first | rfl | simp); rintro e w1 ⟨ao, cap, rfl, hcx, hb⟩; have HCX := Lib.hid hcx; have HB := Lib.hid (HB.out.trans (hb.mono HB.out.size)); clear hb hcx)
    | (go_at_call 14; (with_reducible refine (P1.out _ _ HCX.out).mono ?_); rintro e w1 ⟨rfl, hb⟩; have HB := Lib.hid (HB.out.trans (hb.mono HB.out.size)); clear hb)
    | (go_at_call 14; (with_reducible refine (P2.out _).mono ?_); rintro e w1 ⟨rfl, hb⟩; have HB := Lib.hid (HB.out.trans (hb.mono HB.out.size)); clear hb)
    | (go_at_call 14; (with_reducible refine (P3.out _ _ HCX.out).mono ?_); rintro e w1 ⟨rfl, hb⟩; have HB := Lib.hid (HB.out.trans (hb.mono HB.out.size)); clear hb)
    | (go_at_call 20; (with_reducible refine (S0.out _).mono ?_); rintro e w1 ⟨rfl, hb⟩; have HB := Lib.hid (HB.out.trans (hb.mono HB.out.size)); clear hb)
    | (go_at_call 20; (with_reducible refine (S1.out _).mono ?_); rintro e w1 ⟨rfl, hr, hb⟩; have HR := Lib.hid hr; have HB := Lib.hid (HB.out.trans (hb.mono HB.out.size)); clear hr hb)
    | (go_at_call 20; (with_reducible refine (S4.out _).mono ?_); rintro e w1 ⟨rfl, hb⟩; have HR := Lib.hid (HR.out.below hb); have HB := Lib.hid (HB.out.trans (hb.mono HB.out.size)); clear hb)
    | (go_at_call 21; (with_reducible refine (NZ.out _ _ _ HR.out ?_).mono ?_); (first | rfl | simp); rintro e w1 ⟨rfl, hb⟩; have HB := Lib.hid (HB.out.trans (hb.mono HB.out.size)); clear hb)
    | (go_at_call 16; (with_reducible refine (J0.out _).mono ?_); rintro e w1 ⟨rfl, hb⟩; have HB := Lib.hid (HB.out.trans (hb.mono HB.out.size)); clear hb)
    | (go_at_call 16; (with_reducible refine (J6.out _ _ ?_).mono ?_); (first | rfl | simp); rintro e w1 ⟨rfl, hb⟩; have HB := Lib.hid (HB.out.trans (hb.mono HB.out.size)); clear hb)
    | (go_at_call 16; (with_reducible refine (J1.out _ _ ?_).mono ?_); (first | rfl | simp); rintro e w1 ⟨s, hs8, rfl, hb⟩; have HB := Lib.hid (HB.out.trans (hb.mono HB.out.size)); clear hb)
    | (go_at_call 18; (with_reducible refine (CM.out _).mono ?_); rintro e w1 ⟨rfl, hb⟩; have HB := Lib.hid (HB.out.trans (hb.mono HB.out.size)); clear hb))
  go_ret
  exact ⟨rfl, HB.out⟩

end Go.Proofs.Ytafdjohgoopcmaa
