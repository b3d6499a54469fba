/- Contract: the law's walk. Condition: a design that has blocks; the slices read as ints and as numbers of two bytes. -/
import Derived.Test.YtjlneggfkpjnpaaO
namespace Go.Proofs.Ytjlneggfkpjnpaa
open Go.RowKit

attribute [local go_sem ↓] appC_rw appR_rw

theorem wRow_ix {W : World} {B n : Nat} {v : Value} {r s l : List Int} {k : Nat} (h : OwI W B v n (wRow r s l k)) (lr : r.length ≤ 8) : Ix W v (wRow r s l k) :=
  h.ix (by have := owI_len h; have := wRow_len (s := s) (l := l) lr k; omega) (fit_in (wRow_in r s l k))

set_option maxRecDepth 10000 in
set_option maxHeartbeats 4000000 in
theorem walk_own {W : World} {ar az : Option Addr} {nr cr ns cs : Nat} {r s l : List Int} {vl : Value} (hr : Ix W (.slice ar nr cr) r) (hs : Ix W (.slice az ns cs) s) (lr : r.length ≤ 8) (ls : s.length ≤ 8) (hBl : hasB r s = true) (hl : Hx W vl l) :
    Calls Try.prog 21 #[.agg #[.int .i64 0, .slice ar nr cr, .slice az ns cs, .int .i64 0, .int .i64 0, .int .i64 0], vl] W fun e w' => ∃ aT cT aR cR vals W0, e = .returned (.tuple #[.slice aT (min l.length 400) cT, .slice aR (min l.length 400) cR, .bool true]) ∧ WkI W0 w' r s l (.slice aT (min l.length 400) cT) (.slice aR (min l.length 400) cR) vals (min l.length 400) ∧ Below W.heap.size W w' := by
  obtain ⟨al, cl, rfl⟩ := hl.mk'
  have hlen := hl.len
  unfold maxLen at hlen
  obtain ⟨n, hn⟩ : ∃ n, n = l.length := ⟨_, rfl⟩
  have HX := Lib.hid hl
  rw [← hn] at hlen HX ⊢
  have HD0 := Lib.hid (dbox_is W (.slice ar nr cr) (.slice az ns cs))
  have hb0 := dbox_below W (.slice ar nr cr) (.slice az ns cs)
  have HR := Lib.hid (hr.below hb0)
  have HS := Lib.hid (hs.below hb0)
  have HX0 := Lib.hid (HX.out.below hb0)
  have HM := Lib.hid (fun k => wCh_mem (l := l) hBl (fun k => (hl.fit k).1) k)
  have HP := Lib.hid (fun k => pick_mem (r := r) (s := s) (row := wRow r s l k) ((hl.fit k).1) (ch_some hBl (wRow_fit r s l k)))
  have HNE := Lib.hid (fun k => ch_some (s := s) hBl (wRow_fit r s l k))
  have HFIT := Lib.hid hl.fit
  obtain ⟨m, hm⟩ : ∃ m, m = min n 400 := ⟨_, rfl⟩
  rw [← hm]
  have hm1 : m ≤ n := by omega
  have hm2 : m ≤ 400 := by omega
  have hm3 : m = n ∨ m = 400 := by omega
  have HM3 := Lib.hid hm3
  have HW0 := Lib.hid hb0
  clear hm hm3 hl hn hr hs hb0 HX
  go_enter Try.func21, Try.ntmps21
  go_wp2
  change Code.wp _ _ _ _ (dbox W (.slice ar nr cr) (.slice az ns cs))
  revert HD0 HR HS HX0 HW0
  generalize dbox W (.slice ar nr cr) (.slice az ns cs) = W0
  intro HD0 HR HS HX0 HW0
  go_loopw [7, 8, 9, 10] (fun tv rv wv kv wr => ∃ (k : Nat) (aT aR aw : Option Addr) (cT cR nw cw : Nat) (vals : List Value), k ≤ m ∧ kv = .int .i64 (k : Nat) ∧ tv = .slice aT k cT ∧ rv = .slice aR k cR ∧ wv = .slice aw nw cw ∧ Hid (WkI W0 wr r s l (.slice aT k cT) (.slice aR k cR) vals k) ∧ Hid (OwI wr W0.heap.size (.slice aw nw cw) nw (wRow r s l k))) (fun _ _ _ kv _ => m - (intOf kv).toNat)
  case atStart => exact ⟨0, none, none, none, 0, 0, 0, 0, [], by omega, rfl, rfl, rfl, rfl, Lib.hid ⟨World.ownsRow_nil _ _ _ _, World.ownsRow_nil _ _ _ _, fun j hj => by omega, Below.refl _ _⟩, Lib.hid (World.ownsRow_nil _ _ _ _)⟩
  case round =>
    obtain ⟨k, aT, aR, aw, cT, cR, nw, cw, vals, hk, rfl, rfl, rfl, rfl, hI, hO⟩ := hrel
    by_cases hkm : k = m
    · have hend : k = n ∨ k = 400 := by have := HM3.out; omega
      subst hkm
      rcases Nat.lt_or_ge k n with hkn | hkn
      all_goals
        go_wp2
        exact bodyPost_ret (results_tmp3 rfl _ _ _) rfl ⟨_, _, _, _, _, W0, rfl, hI.out, HW0.out.trans (hI.out.fb.mono HW0.out.size)⟩
    · have hlt : k < m := by omega
      have hkn : k < n := by omega
      have hk4 : k < 400 := by omega
      have hB := hI.out.fb
      obtain ⟨bl, ol, rfl, hcapl, hbll, hcll⟩ := HX0.out.at (by omega)
      have hcl := hcll k hkn
      have hfit := HFIT.out k
      obtain ⟨d0, d1, d2, d3, d4, d5⟩ := (DBox.below HD0.out hB).cells
      have hix := wRow_ix hO.out lr
      have HCH := Lib.hid (choices_any (HR.out.below hB) (HS.out.below hB) hix lr ls (wRow_len lr k))
      have hmem := HM.out k
      have hpk := (HP.out k).2
      have hne := HNE.out k
      have hcd : (chV r s (wRow r s l k)).getD (l.getD k 0 % ((chV r s (wRow r s l k)).length : Int)).toNat (0, 0, 0) = wCh r s l k := rfl
      have HNX := Lib.hid (fun W' (hb : Below wr.heap.size wr W') (x y z : Int) => next_any (HR.out.below (hB.trans (hb.mono hB.size))) (HS.out.below (hB.trans (hb.mono hB.size))) (hix.below hb) lr ls (wRow_len lr k) x y z)
      obtain ⟨cx, cy, cz, hceq⟩ : ∃ cx cy cz, wCh r s l k = (cx, cy, cz) := ⟨_, _, _, rfl⟩
      have hok : nextOk r s (wRow r s l k) (cx, cy, cz) = true ∧ nextV r s (wRow r s l k) (cx, cy, cz) = wRow r s l (k + 1) := by
        rw [← hceq]; exact ⟨decide_eq_true hmem, rfl⟩
      have HNY := Lib.hid (fun W' (hb : Below wr.heap.size wr W') => by
        have := HNX.out W' hb cx cy cz
        rw [hok.1, hok.2] at this
        exact this)
      have HCX := Lib.hid (fun W' v (B n : Nat) (h : OwC W' B v n (chV r s (wRow r s l k))) => (And.intro (owC_len h) (h.chx lr ls (wRow_len lr k))))
      have HST := Lib.hid (fun W' (hb : Below wr.heap.size wr W') (ao : Option Addr) (n cap : Nat) (h : OwI W' W0.heap.size (.slice ao n cap) n (wRow r s l (k + 1))) => by
        have := (hI.out.later hb).step (by omega) h
        rw [hceq] at this
        exact this)
      obtain ⟨X, hX⟩ : ∃ X, X = l.getD k 0 := ⟨_, rfl⟩
      rw [← hX] at hcl hfit hpk hcd
      rw [hceq] at hcd
      obtain ⟨L, hL⟩ : ∃ L, L = chV r s (wRow r s l k) := ⟨_, rfl⟩
      rw [← hL] at hcd hpk hne HCX HCH
      obtain ⟨N, hN⟩ : ∃ N, N = L.length := ⟨_, rfl⟩
      rw [← hN] at hcd hpk hne
      have h1 := Int.emod_nonneg X (show (N : Int) ≠ 0 by omega)
      obtain ⟨ix, hixx⟩ : ∃ ix : Nat, X % (N : Int) = (ix : Int) := ⟨(X % (N : Int)).toNat, by omega⟩
      have htm : X.tmod (N : Int) = (ix : Int) := by rw [Int.tmod_eq_emod_of_nonneg hfit.1, hixx]
      rw [hixx, Int.toNat_natCast] at hcd hpk
      have HCD := Lib.hid hcd
      have HN := Lib.hid hN
      have hw : IntKind.i64.wrap X = X := IntWalk.i64_in _ (by omega)
      have hsz := hB.size
      have HSZ := Lib.hid hsz
      have hN0 : ¬ N = 0 := hne
      clear hX hL hN hcd hixx h1 hmem hceq hok hfit hcll hbll hne hix hsz hO
      go_wp2_with (first
        | (go_at_call 14; (with_reducible refine HCH.out.mono ?_); rintro e w1 ⟨aC, nC, cC, rfl, ho, hb⟩; obtain ⟨hnC, hcx⟩ := HCX.out _ _ _ _ ho; rw [← HN.out] at hnC; subst hnC; obtain ⟨bC, oC, rfl, hcapC, hbC, hclC⟩ := hcx.at hN0; obtain ⟨c0, c1, c2⟩ := hclC ix hpk; rw [HCD.out] at c0 c1 c2; simp only at c0 c1 c2; have hcl := cell_later (hB.trans (hb.mono HSZ.out)) hcl; have HB1 := Lib.hid hb; clear d0 d1 d2 d3 d4 d5; obtain ⟨d0, d1, d2, d3, d4, d5⟩ := (DBox.below HD0.out (hB.trans (hb.mono HSZ.out))).cells; have hq1 := (Array.getElem?_eq_some_iff.1 (DBox.below HD0.out (hB.trans (hb.mono HSZ.out)))).1; clear hclC hcx ho hb)
        | (go_at_call 18; (with_reducible refine (HNY.out _ (HB1.out.alloc HB1.out.size _)).mono ?_); rintro e w2 ⟨aN, nN, cN, rfl, ho, hb⟩; have hbb := (HB1.out.alloc HB1.out.size (.cells #[.int .i64 cx, .int .i64 cy, .int .i64 cz] 28)).trans (hb.mono (HB1.out.alloc HB1.out.size _).size); obtain ⟨c0, c1, c2⟩ := ((cbox_is w1 (cx, cy, cz)).below hb).cells; have ho2 := owns_mono ho (Nat.le_trans HSZ.out (HB1.out.alloc HB1.out.size (.cells #[.int .i64 cx, .int .i64 cy, .int .i64 cz] 28)).size); obtain ⟨g1, cp1, w3, g2, cp2, w4, hr1, hr2, hI2, hO2⟩ := HST.out w2 hbb aN nN cN ho2; have HI2 := Lib.hid hI2; have HO2 := Lib.hid hO2; clear hI2 hO2 ho ho2 hb hbb d0 d1 d2 d3 d4 d5))
      go_roundw
      case rel => exact ⟨k + 1, _, _, _, _, _, _, _, _, by omega, by go_num, rfl, rfl, rfl, HI2, HO2⟩
      case measure => simp [intOf]; omega

end Go.Proofs.Ytjlneggfkpjnpaa
