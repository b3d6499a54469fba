/- Contract of num's texts: groups. -/
import Derived.OwnWalk
import Derived.Test.YtdgmjmckeeeljaaGreatDoorHH
namespace Go.Proofs.YtdgmjmckeeeljaaGreatDoor
open Go.RowKit

/-- The slice lies in a row of digits. -/
def Ty59 (w : World) (ao : Option Addr) : Prop := ∀ bb off, ao = some ⟨bb, off, none⟩ → ∃ cs f, w.heap[bb]? = some (.cells cs 59 f)

theorem grp_len2 {x n : Nat} (h : (digs x).length ≤ n) (h0 : n ≠ 0) : (grp x).length ≤ 2 * n := by
  have h1 := digs_length_le.1 h
  have h2 : 4294967296 ^ n ≤ (1000000000 ^ 2) ^ n := Nat.pow_le_pow_left (by omega) n
  rw [← Nat.pow_mul] at h2
  have h3 := grp_len (2 * n - 1) x (by
    rw [show 2 * n - 1 + 1 = 2 * n by omega]
    exact Nat.lt_of_lt_of_le h1 h2)
  omega

theorem grp_pos (x : Nat) : 1 ≤ (grp x).length := by
  rw [grp_step]; simp

/-- The first group is cut off. -/
theorem grpI_start {w W1 W2 : World} {x cap n0 b0 off0 : Nat} {ds : List Nat} (hb1 : Below w.heap.size w W1) (hb2 : Below w.heap.size W1 W2) (hs : Sw w.heap.size W2 (.slice (some ⟨b0, off0, none⟩) n0 cap) ds) (hv : val ds = x / 1000000000) {n : Nat} (hn : n = (digs (val ds)).length) :
    GrpI w W1.heap.size x (some ⟨b0, off0, none⟩) cap (W2.alloc (.cells #[.int .u32 ((x % 1000000000 : Nat) : Int)] 59)) (x / 1000000000) n (.slice (some ⟨W2.heap.size, 0, none⟩) 1 1) 1 := by
  have h1 := hb1.size
  have h2 := hb2.size
  have hbb : Below w.heap.size w W2 := hb1.trans hb2
  refine ⟨?_, by rw [hn, hv], Nat.div_le_self _ _, ⟨[x % 1000000000], rfl, ?_, (grp_step x).symm⟩, hbb.alloc (by omega) _, by simp; omega⟩
  · have hal : Below W2.heap.size W2 (W2.alloc (.cells #[.int .u32 ((x % 1000000000 : Nat) : Int)] 59)) := (Below.refl _ _).alloc (Nat.le_refl _) _
    have := (hs.below hal).trim
    rw [hv] at this hn
    rw [hn]
    exact this
  · exact World.ownsRow_lit (base := W1.heap.size) (size := 1) W2 #[.int .u32 ((x % 1000000000 : Nat) : Int)] 1 (by omega) (by decide) rfl

/-- A round of groups. -/
theorem GrpI.step {w wr W2 W3 : World} {B1 x y n k cap b0 off0 m : Nat} {lv v' : Value} {ds : List Nat} (h : GrpI w B1 x (some ⟨b0, off0, none⟩) cap wr y n lv k) (hy : y ≠ 0) (hb0 : b0 < B1) (hB : w.heap.size ≤ B1) (hs : Sw w.heap.size W2 (.slice (some ⟨b0, off0, none⟩) n cap) ds) (hv : val ds = y / 1000000000) (hbl : Below w.heap.size wr W2)
    (hm : m = (digs (val ds)).length) (hw : ∀ gs, gs.length = k → gs ++ (y % 1000000000 :: (if y / 1000000000 = 0 then [] else grp (y / 1000000000))) = grp x → W3.ownsRow B1 59 1 v' (k + 1) ((gs ++ [y % 1000000000]).map u32v)) (hg : (W2.alloc (.cells #[.int .u32 ((y % 1000000000 : Nat) : Int)] 59)).grownBy W3 lv.ownBlock) (hlv : ∀ b, lv.ownBlock = some b → B1 ≤ b) :
    GrpI w B1 x (some ⟨b0, off0, none⟩) cap W3 (y / 1000000000) m v' (k + 1) := by
  have h2 := hbl.size
  have hal : Below W2.heap.size W2 (W2.alloc (.cells #[.int .u32 ((y % 1000000000 : Nat) : Int)] 59)) := (Below.refl _ _).alloc (Nat.le_refl _) _
  have h3 := hg.size
  have h4 := h.below.size
  simp at h3
  obtain ⟨gs, e1, _, e3⟩ := h.own
  rw [if_neg hy, grp_step y] at e3
  refine ⟨?_, by rw [hm, hv], Nat.le_trans (Nat.div_le_self _ _) h.le, ⟨gs ++ [y % 1000000000], by simp [e1], hw gs e1 e3, by rw [List.append_assoc]; exact e3⟩, ?_, by have := h.big; omega⟩
  · have := ((hs.below hal).keptNe hg (fun b off e => by cases e; intro e'; have := hlv _ e'; omega)).trim
    rw [hv] at this hm
    rw [hm]
    exact this
  · exact ((h.below.trans hbl).trans (hal.mono (by omega))).grown hg (by simp; omega) (fun r e => Nat.le_trans hB (hlv r e))

set_option maxRecDepth 10000 in
set_option maxHeartbeats 2000000 in
theorem groups_pos {w : World} {v : Value} {x : Nat} (h : Sl w v (digs x)) (hl : (digs x).length ≤ 256) (h0 : x ≠ 0) :
    Calls Tryz.prog 57 #[v] w fun e w' => ∃ ao cap, e = .returned (.slice ao (grp x).length cap) ∧ Sw w.heap.size w' (.slice ao (grp x).length cap) (grp x) ∧ Below w.heap.size w w' ∧ Ty59 w' ao := by
  have hn0 : (digs x).length ≠ 0 := fun e => h0 (digs_inj (by rw [digs_zero]; exact List.eq_nil_of_length_eq_zero e))
  have HCL : Hid (∀ W, Sl W v (digs x) → Calls Tryz.prog 74 #[v] W fun e w' => ∃ b off cap, e = .returned (.slice (some ⟨b, off, none⟩) (digs x).length cap) ∧ Sw W.heap.size w' (.slice (some ⟨b, off, none⟩) (digs x).length cap) (digs x) ∧ Below W.heap.size W w' ∧ b < w'.heap.size) := fun W hW => (clone_any hW (by omega)).mono fun e w' ⟨ao, cap, e1, e2, e3⟩ => by
    obtain ⟨b, off, rfl, _, hlt, _⟩ := e2.sl.at hn0
    exact ⟨b, off, cap, e1, e2, e3, hlt⟩
  obtain ⟨G, hG⟩ : ∃ G, G = grp x := ⟨_, rfl⟩
  have hG2 : G.length ≤ 512 := by rw [hG]; exact Nat.le_trans (grp_len2 hl (by omega)) (by omega)
  have HGL := Lib.hid hG
  have HCU : Hid (∀ W b off n cap y, Sw w.heap.size W (.slice (some ⟨b, off, none⟩) n cap) (digs y) → n ≤ 256 → w.heap.size ≤ W.heap.size → Calls Tryz.prog 75 #[.slice (some ⟨b, off, none⟩) n cap, .int .u32 1000000000] W fun e w' => e = .returned (.int .u32 (y % 1000000000 : Nat)) ∧ (∃ ds, val ds = y / 1000000000 ∧ Sw w.heap.size w' (.slice (some ⟨b, off, none⟩) n cap) ds) ∧ Below w.heap.size W w' ∧ (∀ g, g < W.heap.size → (∀ b' off', (some ⟨b, off, none⟩ : Option Addr) = some ⟨b', off', none⟩ → b' ≠ g) → w'.heap[g]? = W.heap[g]?)) := fun W b off n cap y h1 h2 h3 => (cut_kept _ n cap _ 1000000000 h1 (by omega) (by omega) (by omega) h3).mono fun e w' hh => by
    rw [val_digs] at hh
    obtain ⟨q1, ⟨ds, _, q2, q3⟩, q4⟩ := hh
    exact ⟨q1, ⟨ds, q2, q3⟩, q4⟩
  obtain ⟨n0, hn⟩ : ∃ n, n = (digs x).length := ⟨_, rfl⟩
  rw [← hn] at hl hn0 HCL
  rw [← hG]
  have HN := Lib.hid hn
  clear hn hG
  go_enter Tryz.func57, Tryz.ntmps57
  go_wp2_with (first | (go_at_call 74; refine (HCL.out _ h).mono ?_; rintro e W1 ⟨b0, off0, cap, rfl, hs1, hb1, hlt⟩) | (go_at_call 75; refine (HCU.out _ _ _ _ _ _ hs1 hl hb1.size).mono ?_; rintro e W2 ⟨rfl, ⟨ds, hv, hs2⟩, hb2, hk2⟩; have HV := Lib.hid hv; clear hv; obtain ⟨m, hm⟩ : ∃ m, m = (digs (val ds)).length := ⟨_, rfl⟩) | (go_at_call 76; refine (trim_any _ _ _ (hs2.sl.below (by go_grown))).mono ?_; rintro e w' ⟨rfl, rfl⟩; rw [← hm]))
  subst hm
  have hst := grpI_start hb1 hb2 hs2 HV.out rfl
  rw [show ((x % 1000000000 : Nat) : Int) = ((x % 1000000000 : Nat) : Int) from rfl] at hst
  have HST := Lib.hid hst
  obtain ⟨B1, hB1⟩ : ∃ B1, B1 = W1.heap.size := ⟨_, rfl⟩
  rw [← hB1] at HST
  have hBw : w.heap.size ≤ B1 := by rw [hB1]; exact hb1.size
  have hb0B : b0 < B1 := by rw [hB1]; exact hlt
  have HA : Hid (∀ W y n m k lv W2 ds, GrpI w B1 x (some ⟨b0, off0, none⟩) cap W y n lv k → y ≠ 0 → Sw w.heap.size W2 (.slice (some ⟨b0, off0, none⟩) n cap) ds → val ds = y / 1000000000 → Below w.heap.size W W2 → m = (digs (val ds)).length → ∀ v' W3, (∀ gs, gs.length = k → gs ++ (y % 1000000000 :: (if y / 1000000000 = 0 then [] else grp (y / 1000000000))) = grp x → W3.ownsRow B1 59 1 v' (k + 1) ((gs ++ [y % 1000000000]).map u32v)) → (W2.alloc (.cells #[.int .u32 ((y % 1000000000 : Nat) : Int)] 59)).grownBy W3 lv.ownBlock → (∀ b, lv.ownBlock = some b → B1 ≤ b) → GrpI w B1 x (some ⟨b0, off0, none⟩) cap W3 (y / 1000000000) m v' (k + 1)) :=
    fun W y n m k lv W2 ds h1 h2 h3 h4 h5 h6 v' W3 h7 h8 h9 => h1.step h2 hb0B hBw h3 h4 h5 h6 h7 h8 h9
  obtain ⟨i0, hi, hz0, hz1, hz2⟩ := info_parts Tryz.info59
  have hW1s := hb1.size
  clear hst hs2 hs1 hb2 hk2 hn0
  go_loopw [3, 4] (fun rv lv wr => ∃ y n k ao c, rv = .slice (some ⟨b0, off0, none⟩) n cap ∧ lv = .slice ao k c ∧ k ≤ 512 ∧ n ≤ 256 ∧ Hid (GrpI w B1 x (some ⟨b0, off0, none⟩) cap wr y n lv k)) (fun _ lv _ => match lv with | .slice _ k _ => 1024 - k | _ => 1025)
  case atStart => exact ⟨_, _, 1, _, _, rfl, rfl, by omega, by rw [HV.out]; exact Nat.le_trans (digs_mono (Nat.div_le_self _ _)) (by rw [← HN.out]; exact hl), HST⟩
  case round =>
    obtain ⟨y, n, k, ao, c, rfl, rfl, hk, hn, HI⟩ := hrel
    by_cases hz : n = 0
    · subst hz
      have hy : y = 0 := digs_inj (by rw [digs_zero]; exact List.eq_nil_of_length_eq_zero HI.out.len.symm)
      obtain ⟨gs, e1, e2, e3⟩ := HI.out.own
      rw [if_pos hy, List.append_nil, ← HGL.out] at e3
      subst e3
      rw [← e1] at e2 ⊢
      have e7 : Ty59 wr ao := fun bb off e => by
        rcases e2.2 with ⟨h1, _⟩ | ⟨g, _, cur, h1, _, h2, _⟩
        · injection h1 with q1
          rw [q1] at e
          cases e
        · injection h1 with q1
          rw [q1] at e
          cases e
          exact ⟨_, _, h2⟩
      obtain ⟨ao', cap', e4, e5⟩ := sw_of_owns (by intro d hd; have := grp_bd x d (by rw [← HGL.out]; exact hd); omega) e2
      cases e4
      have HE5 := Lib.hid (e5.mono hBw)
      have HE6 := Lib.hid HI.out.below
      have HE7 := Lib.hid e7
      clear e1 e2 e5 e7
      go_wp2
      go_ret
      exact ⟨_, _, rfl, HE5.out, HE6.out, HE7.out⟩
    · have hy : y ≠ 0 := fun e => hz (by rw [HI.out.len, e, digs_zero]; rfl)
      have hpos : 0 < (n : Int) := by omega
      go_wp2_with (first | (go_at_call 75; refine (HCU.out _ _ _ _ _ _ HI.out.rest hn HI.out.below.size).mono ?_; rintro e W2' ⟨rfl, ⟨ds', hv, hs2⟩, hb2, hk2⟩; have HV' := Lib.hid hv; clear hv; obtain ⟨m', hm⟩ : ∃ m, m = (digs (val ds')).length := ⟨_, rfl⟩; obtain ⟨gs, g1, g2, g3⟩ := HI.out.cut hBw hb2 hk2 (fun b off e => by cases e; exact hb0B)) | (at_builtin; refine wpList_append_own _ rfl _ _ 25 rfl B1 59 i0 (.int .u32 0) 1 4 Tryz.underlying25 hi hz0 hz1 hz2 rfl (by decide) _ _ _ rfl (g2.alloc _) ⟨W2'.heap.size, 0, none⟩ 1 1 [.int .u32 ((y % 1000000000 : Nat) : Int)] rfl rfl (cell_one_new _ _ _) (fun x hx => by simp at hx; subst hx; rfl) (by unfold maxLen; omega) (by omega) (by have := HI.out.big; have := hb2.size; simp; omega) ?_; intro v' w3 hown' hgrow3 hnil3; have hlv : ∀ b, (Value.slice ao k c).ownBlock = some b → B1 ≤ b := fun b e => (g2.lt b e).1; have hs3 := (hs2.below ((Below.refl _ _).alloc (Nat.le_refl _) _)).keptNe hgrow3 (fun b off e => by cases e; intro e'; have := hlv _ e'; omega)) | (go_at_call 76; refine (trim_any _ _ _ hs3.sl).mono ?_; rintro e w' ⟨rfl, rfl⟩; rw [← hm]))
      subst hm
      have hk1 : k + 1 ≤ 512 := by
        have := congrArg List.length g3
        rw [if_neg hy, List.length_append, g1, ← HGL.out] at this
        have := grp_pos y
        omega
      have hnl : (digs (val ds')).length ≤ 256 := by
        rw [HV'.out]
        exact Nat.le_trans (digs_mono (Nat.le_trans (Nat.div_le_self _ _) HI.out.le)) (by rw [← HN.out]; exact hl)
      have hG := HA.out _ y n _ k _ W2' ds' HI.out hy hs2 HV'.out hb2 rfl v' w' (fun gs' e1 e2 => by
        have e3 : gs' = gs := List.append_cancel_right (e2.trans (by rw [← g3, if_neg hy, grp_step y]))
        rw [e3, List.map_append]
        exact hown') hgrow3 hlv
      have HG := Lib.hid hG
      obtain ⟨ao2, c2, rfl⟩ : ∃ ao2 c2, v' = .slice ao2 (k + 1) c2 := by
        rcases hown'.2 with ⟨_, e⟩ | ⟨g, cc, _, e, _⟩
        · omega
        · exact ⟨_, _, e⟩
      clear hG hown' hgrow3 hs3 hs2
      go_roundw
      case rel => exact ⟨_, _, k + 1, _, _, rfl, rfl, hk1, hnl, HG⟩
      case measure => simp only []; omega

set_option maxRecDepth 10000 in
set_option maxHeartbeats 1000000 in
theorem groups_zero {w : World} {v : Value} (h : Sl w v (digs 0)) :
    Calls Tryz.prog 57 #[v] w fun e w' => ∃ ao cap, e = .returned (.slice ao (grp 0).length cap) ∧ Sw w.heap.size w' (.slice ao (grp 0).length cap) (grp 0) ∧ Below w.heap.size w w' ∧ Ty59 w' ao := by
  have eg : grp 0 = [0] := by rw [grp]; rfl
  rw [eg]
  rw [digs_zero] at h
  have HCL : Hid (∀ W, Sl W v [] → Calls Tryz.prog 74 #[v] W fun e w' => ∃ ao cap, e = .returned (.slice ao 0 cap) ∧ Sw W.heap.size w' (.slice ao 0 cap) [] ∧ Below W.heap.size W w') := fun W hW => clone_any hW (by simp)
  have HCU : Hid (∀ W ao cap, Sw w.heap.size W (.slice ao 0 cap) [] → w.heap.size ≤ W.heap.size → Calls Tryz.prog 75 #[.slice ao 0 cap, .int .u32 1000000000] W fun e w' => e = .returned (.int .u32 0) ∧ Below w.heap.size W w') := fun W ao cap h1 h2 => (cut_kept ao 0 cap [] 1000000000 h1 (by omega) (by omega) (by omega) h2).mono fun e w' hh => ⟨hh.1, hh.2.2.1⟩
  have HTR : Hid (∀ W ao cap, Calls Tryz.prog 76 #[.slice ao 0 cap] W fun e w' => e = .returned (.slice ao 0 cap) ∧ w' = W) := fun W ao cap => by
    have := trim_any ao 0 cap (Sl.nil W ao cap)
    rwa [show val [] = 0 from rfl, digs_zero] at this
  clear eg
  go_enter Tryz.func57, Tryz.ntmps57
  go_wp2_with (first | (go_at_call 74; refine (HCL.out _ h).mono ?_; rintro e W1 ⟨ao, cap, rfl, hs1, hb1⟩) | (go_at_call 75; refine (HCU.out _ _ _ hs1 hb1.size).mono ?_; rintro e W2 ⟨rfl, hb2⟩) | (go_at_call 76; refine (HTR.out _ _ _).mono ?_; rintro e w' ⟨rfl, rfl⟩))
  refine wp_loop_rounds 1 ?_
  rw [rounds_succ]
  go_wp2
  go_ret
  have h1 := hb1.size
  have h2 := hb2.size
  exact ⟨_, _, rfl, (sl_one W2 0 (by omega)).mono (by omega), (hb1.trans hb2).alloc (by omega) _, fun bb off e => by cases e; exact ⟨_, _, heap_alloc_new _ _⟩⟩

/-- num.groups of at most 256 digits. -/
theorem groups_any {w : World} {v : Value} {x : Nat} (h : Sl w v (digs x)) (hl : (digs x).length ≤ 256) :
    Calls Tryz.prog 57 #[v] w fun e w' => ∃ ao cap, e = .returned (.slice ao (grp x).length cap) ∧ Sw w.heap.size w' (.slice ao (grp x).length cap) (grp x) ∧ Below w.heap.size w w' ∧ Ty59 w' ao := by
  by_cases h0 : x = 0
  · subst h0
    exact groups_zero h
  · exact groups_pos h hl h0

end Go.Proofs.YtdgmjmckeeeljaaGreatDoor
