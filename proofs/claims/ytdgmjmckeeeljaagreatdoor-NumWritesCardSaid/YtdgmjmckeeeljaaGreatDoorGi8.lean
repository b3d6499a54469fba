/- Contract of the reference's Text, for a right number and for one that is not right. No condition. What the reference's Parse returns: the number, if its text is the string. What a text stands for, and when it is written so. Contract of the reference's Parse. No condition. Arithmetic of the reference's long division in binary. No condition beyond those that each states. Contracts of the reference: divide, for at most two digits each. Contracts of the reference: divide, where the first number has fewer binary digits. A region that draws its order, of which each operation's result is known by its kind, and which lays at most one number into a box of its own. No condition. A region that draws its order, of which each operation's result is known beforehand, and which stores once into a cell that it may load. No condition. Contracts of the reference: divide, long. -/
import Derived.Lib.SlBytesRow
import Derived.Test.YtdgmjmckeeeljaaGreatDoorGi7
import Derived.Test.YtdgmjmckeeeljaaGreatDoorGi6
import Derived.Test.YtdgmjmckeeeljaaGreatDoorGi4
import Derived.Test.YtdgmjmckeeeljaaGreatDoorGi3
import Derived.Deep.CutRange
import Derived.Deep.RegionLaw
import Derived.Test.YtdgmjmckeeeljaaGreatDoorGi5
import Derived.BigRegion
namespace Go.Proofs.YtdgmjmckeeeljaaGreatDoor
open Go.RowKit

abbrev by2 (s : ByteArray) : List UInt8 := s.data.toList
theorem by2_app (a b : ByteArray) : by2 (a ++ b) = by2 a ++ by2 b := by simp [by2]
theorem by2_inj {a b : ByteArray} (h : by2 a = by2 b) : a = b := by
  cases a; cases b
  simp [by2] at h
  rw [h]
theorem by2_len (s : ByteArray) : (by2 s).length = s.size := Array.length_toList

theorem one_conv56 (W : World) (b : UInt8) (z : Int) (hz : z = b.toNat) : (convert 56 9 (.slice (some ⟨W.heap.size, 0, none⟩) 1 1)).run Tryz.prog (W.alloc (.cells #[.int .u8 z] 5)) = .ok (.string ⟨#[b]⟩) (W.alloc (.cells #[.int .u8 z] 5)) := by
  subst hz
  have h : Lib.Bytes (W.alloc (.cells #[.int .u8 b.toNat] 5)) W.heap.size 0 ⟨#[b]⟩ := fun i hi => by
    have hi0 : i = 0 := by have : (⟨#[b]⟩ : ByteArray).size = 1 := rfl; omega
    subst hi0
    rw [cell_of_row _ _ _ _ _ _ (heap_alloc_new _ _)]
    rfl
  exact Lib.run_convert_whole (P := Tryz.prog) _ 56 5 9 Tryz.underlying56 Tryz.underlying5 Tryz.underlying9 W.heap.size 0 ⟨#[b]⟩ h 1

def strLen : Value → Nat | .string s => s.size | _ => 0
def dpre (X : Nat) : List UInt8 := if X = 0 then [] else Lib.decDigits X
theorem dec_pos (X : Nat) : 1 ≤ (Lib.decDigits X).length := by
  by_cases h : X < 10
  · rw [Lib.decDigits_one h]; simp
  · rw [dec_ge h]; simp
theorem dpre_step {X : Nat} (h : X ≠ 0) : dpre X = dpre (X / 10) ++ [UInt8.ofNat (48 + X % 10)] := by
  unfold dpre
  rw [if_neg h]
  by_cases h1 : X < 10
  · rw [if_pos (by omega), Lib.decDigits_one h1, Nat.mod_eq_of_lt h1]; rfl
  · rw [if_neg (by omega), dec_ge h1]

set_option maxRecDepth 10000 in
set_option maxHeartbeats 1000000 in
theorem rText_no {w : World} {na : Bool} {sa : Value} {xs : List Nat} (ha : Sl w sa xs) (hla : xs.length ≤ 1000) (h : rightB na xs = false) :
    Calls Tryz.prog 22 #[.agg #[.bool na, sa]] w fun e w' => e = .returned (.string ⟨#[]⟩) ∧ Below w.heap.size w w' := by
  obtain ⟨ao, cap, rfl⟩ := ha.mk'
  obtain ⟨W0, hW0⟩ : ∃ W0, W0 = w.alloc (.cells #[.bool na, .slice ao xs.length cap] 27) := ⟨_, rfl⟩
  have hb0 : Below w.heap.size w W0 := by rw [hW0]; exact (Below.refl _ _).alloc (Nat.le_refl _) _
  have HR := Lib.hid (right41_any na (ha.below hb0) (by omega))
  rw [h] at HR
  obtain ⟨n, hn⟩ : ∃ n, n = xs.length := ⟨_, rfl⟩
  rw [← hn] at HR hW0 ⊢
  have HB0 := Lib.hid hb0
  have HW0 := Lib.hid hW0
  clear hb0 hn ha hla h hW0
  go_enter Tryz.func22, Tryz.ntmps22
  go_wp2_with (go_at_call 41; rw [← HW0.out]; refine HR.out.mono ?_; rintro e w1 ⟨rfl, hw⟩; subst w1)
  go_ret
  exact ⟨rfl, HB0.out.alloc HB0.out.size _⟩

attribute [local go_sem ↓] appN_rw

set_option maxRecDepth 100000 in
set_option maxHeartbeats 4000000 in
theorem rText_any {w : World} {v : Value} {a : Int} (hN : Nu w v a) : Calls Tryz.prog 22 #[v] w fun e w' => e = .returned (.string ⟨(txt a).toArray⟩) ∧ Below w.heap.size w w' := by
  obtain ⟨s, rfl, hs, hl⟩ := hN
  have hr := rightB_digs a hl
  obtain ⟨X0, hX⟩ : ∃ x, x = a.natAbs := ⟨_, rfl⟩
  have htx : txt a = (if a < 0 then [45] else []) ++ Lib.decDigits X0 := by rw [hX]; rfl
  rw [← hX] at hs hl hr
  obtain ⟨na, hna⟩ : ∃ na, na = decide (a < 0) := ⟨_, rfl⟩
  have htx2 : txt a = (if na = true then [45] else []) ++ Lib.decDigits X0 := by
    rw [htx, hna]
    by_cases h : a < 0
    · rw [if_pos h, if_pos (decide_eq_true h)]
    · rw [if_neg h, if_neg (by simpa using h)]
  rw [← hna] at hr ⊢
  obtain ⟨R, hR⟩ : ∃ R : ByteArray, R = ⟨(txt a).toArray⟩ := ⟨_, rfl⟩
  have hRb : by2 R = (if na = true then [45] else []) ++ Lib.decDigits X0 := by rw [hR, ← htx2]
  rw [← hR]
  have hdl := dec_small hl
  obtain ⟨ao, cap, rfl⟩ := hs.mk'
  obtain ⟨W0, hW0⟩ : ∃ W0, W0 = w.alloc (.cells #[.bool na, .slice ao (digs X0).length cap] 27) := ⟨_, rfl⟩
  have hb0 : Below w.heap.size w W0 := by rw [hW0]; exact (Below.refl _ _).alloc (Nat.le_refl _) _
  have HRT := Lib.hid (right41_any na (hs.below hb0) (by omega))
  rw [hr] at HRT
  obtain ⟨W1, hW1⟩ : ∃ W1, W1 = W0.alloc (.cells #[.bool na, .slice ao (digs X0).length cap] 27) := ⟨_, rfl⟩
  rw [← hW1] at HRT
  have hb1 : Below W0.heap.size W0 W1 := by rw [hW1]; exact (Below.refl _ _).alloc (Nat.le_refl _) _
  have row : W0.heap[w.heap.size]? = some (.cells #[.bool na, .slice ao (digs X0).length cap] 27 (0, 0)) := by rw [hW0]; exact heap_alloc_new _ _
  have HROW : Hid (∀ W, Below W1.heap.size W1 W → W.heap[w.heap.size]? = some (.cells #[.bool na, .slice ao (digs X0).length cap] 27 (0, 0))) := Lib.hid fun W h => by
    have r1 := (hb1.block _ (Array.getElem?_eq_some_iff.1 row).1).trans row
    exact (h.block _ (Array.getElem?_eq_some_iff.1 r1).1).trans r1
  have r1 := HROW.out W1 (Below.refl _ _)
  have c0 : W1.cell? ⟨w.heap.size, 0, none⟩ = some (.bool na) := by rw [cell_of_row _ _ _ _ _ _ r1]; rfl
  have c1 : W1.cell? ⟨w.heap.size, 1, none⟩ = some (.slice ao (digs X0).length cap) := by rw [cell_of_row _ _ _ _ _ _ r1]; rfl
  have HB01 : Hid (Below w.heap.size w W1) := Lib.hid (hb0.trans (hb1.mono hb0.size))
  have hs1 := hs.below HB01.out
  have HW0 := Lib.hid hW0
  have HRB := Lib.hid hRb
  by_cases hx0 : X0 = 0
  · have hz : (digs X0).length = 0 := by rw [hx0, digs_zero]; rfl
    have hR0 : R = ⟨#[48]⟩ := by
      apply by2_inj
      rw [hRb, hx0]
      have : na = false := by rw [hna]; simp; omega
      rw [this, Lib.decDigits_one (by omega)]
      rfl
    rw [hz] at HRT c1 hW0 ⊢
    have HW02 := Lib.hid hW0
    subst hR0
    clear hs1 HW0 hs hl hr hRb HRB hdl r1 row HROW hb0 hb1 hW1 hW0 htx htx2 hR hx0 hz hX hna
    go_enter Tryz.func22, Tryz.ntmps22
    go_wp2_with (go_at_call 41; rw [← HW02.out]; refine HRT.out.mono ?_; rintro e w1 ⟨rfl, hw⟩; subst w1)
    go_ret
    exact ⟨rfl, HB01.out⟩
  · obtain ⟨n, hn⟩ : ∃ n, n = (digs X0).length := ⟨_, rfl⟩
    have hn0 : n ≠ 0 := by
      rw [hn]; intro h
      have h2 := val_digs X0
      rw [List.eq_nil_of_length_eq_zero h] at h2
      exact hx0 h2.symm
    rw [← hn] at hs1 HRT c1 hW0 HROW hl ⊢
    have HW02 := Lib.hid hW0
    obtain ⟨ao2, cap2, W2, hrun, hsw, hb2⟩ := copy_run hs1 hn0 (by omega)
    have c1' : (W1.alloc (.cells #[] 59)).cell? ⟨w.heap.size, 1, none⟩ = some (.slice ao n cap) := cell_later ((Below.refl _ _).alloc (Nat.le_refl _) _) c1
    have HSW := Lib.hid hsw
    have HB2 := Lib.hid hb2
    have HN := Lib.hid hn
    obtain ⟨D, hD⟩ : ∃ D, D = Lib.decDigits X0 := ⟨_, rfl⟩
    rw [← hD] at hdl
    have HD := Lib.hid hD
    have HX0 := Lib.hid hx0
    have hnz : ((n : Int) == 0) = false := by simpa using hn0
    clear hs1 HW0 hs hr hRb r1 row hb0 hb1 hW1 hW0 htx htx2 hR hx0 hX hna hsw hb2 hn hD
    go_enter Tryz.func22, Tryz.ntmps22
    go_wp2_with (go_at_call 41; rw [← HW02.out]; refine HRT.out.mono ?_; rintro e w1 ⟨rfl, hw⟩; subst w1)
    go_loopw [3, 4, 5, 6] (fun ov dv _ _ wr => ∃ (X : Nat) (o : ByteArray) (ao3 : Option Addr) (cap3 n3 : Nat), n3 ≤ 256 ∧ o.size ≤ 2561 ∧ ov = .string o ∧ dv = .slice ao3 n3 cap3 ∧ Hid (n3 = (digs X).length) ∧ Hid (Sw W1.heap.size wr (.slice ao3 n3 cap3) (digs X)) ∧ Hid (dpre X ++ by2 o = D) ∧ Hid (Below W1.heap.size W1 wr)) (fun ov _ _ _ _ => 2562 - strLen ov)
    case atStart => exact ⟨X0, ⟨#[]⟩, ao2, cap2, n, hl, Nat.zero_le _, rfl, rfl, HN, HSW, Lib.hid (by rw [HD.out, dpre, if_neg HX0.out]; simp [by2]), HB2⟩
    case round =>
      obtain ⟨X, o, ao3, cap3, n3, hn3, ho, rfl, rfl, hN3, hS, hJ, hB⟩ := hrel
      by_cases hx : X = 0
      · have hz3 : n3 = 0 := by rw [hN3.out, hx, digs_zero]; rfl
        have e1 : by2 o = D := by rw [← hJ.out, hx]; rfl
        have r2 := HROW.out wr hB.out
        have d0 : wr.cell? ⟨w.heap.size, 0, none⟩ = some (.bool na) := by rw [cell_of_row _ _ _ _ _ _ r2]; rfl
        have HE : Hid (R = if na = true then ⟨#[45]⟩ ++ o else o) := Lib.hid (by
          apply by2_inj
          rw [HRB.out, ← HD.out, ← e1]
          cases na
          · simp [by2]
          · simp [by2])
        subst hz3
        clear e1 r2 hx hS hJ
        cases na with
        | false =>
          go_wp2
          go_ret
          exact ⟨by rw [HE.out]; rfl, HB01.out.trans (hB.out.mono HB01.out.size)⟩
        | true =>
          go_wp2
          go_ret
          exact ⟨by rw [HE.out]; rfl, HB01.out.trans (hB.out.mono HB01.out.size)⟩
      · have hn30 : n3 ≠ 0 := by
          rw [hN3.out]; intro h
          have h2 := val_digs X
          rw [List.eq_nil_of_length_eq_zero h] at h2
          exact hx h2.symm
        obtain ⟨b, off, rfl, hbB, _⟩ := hS.out.own ao3 n3 cap3 rfl hn30
        have hst := dpre_step hx
        have hq := div10_quo (digs X)
        rw [val_digs] at hq
        obtain ⟨ds, hds⟩ : ∃ ds, ds = digs X := ⟨_, rfl⟩
        have HD6 : Hid (n3 = (digs X).length) := Lib.hid hN3.out
        rw [← hds] at hq hS hN3
        have HQ := Lib.hid hq
        have HST := Lib.hid hst
        have HBB := Lib.hid hbB
        have hlen1 : (by2 o).length + 1 ≤ D.length := by
          rw [← hJ.out, hst]
          simp only [List.length_append, List.length_singleton]
          omega
        rw [by2_len] at hlen1
        have ho2 : o.size + 1 ≤ 2561 := by omega
        have HSTART : Hid (Sw W1.heap.size wr (.slice (some ⟨b, off, none⟩) n3 cap3) (ds.take n3 ++ (div10 (ds.drop n3)).1)) := Lib.hid (by
          rw [hN3.out, List.take_length, List.drop_length]
          simpa [div10, ← hN3.out] using hS.out)
        have HR0 : Hid ((div10 (ds.drop n3)).2 = 0) := Lib.hid (by rw [hN3.out, List.drop_length]; rfl)
        have HBD : Hid (Bd ds) := Lib.hid hS.out.sl.bd
        clear hst hq hds hlen1 hbB hS hx
        go_wp2
        go_loopw [5, 6] (fun rv kv wq => ∃ m r : Nat, m ≤ n3 ∧ r < 10 ∧ rv = .int .u64 (r : Nat) ∧ kv = .int .i64 ((m : Int) - 1) ∧ Hid (r = (div10 (ds.drop m)).2) ∧ Hid (Sw W1.heap.size wq (.slice (some ⟨b, off, none⟩) n3 cap3) (ds.take m ++ (div10 (ds.drop m)).1)) ∧ Hid (Below W1.heap.size W1 wq)) (fun _ kv _ => (intOf kv + 1).toNat)
        case atStart => exact ⟨n3, 0, Nat.le_refl _, by omega, rfl, rfl, Lib.hid HR0.out.symm, HSTART, hB⟩
        case round =>
          obtain ⟨m, r, hm, hr10, rfl, rfl, hr, hS, hB⟩ := hrel
          by_cases hm0 : m = 0
          · subst hm0
            have hS2 : Sw W1.heap.size wr (.slice (some ⟨b, off, none⟩) n3 cap3) (div10 ds).1 := by simpa using hS.out
            have hr2 : r = X % 10 := by rw [hr.out, List.drop_zero]; exact HQ.out.2
            have htr := hS2.trim
            rw [HQ.out.1] at htr
            have HTR := Lib.hid htr
            have HT : Hid (∀ W, Below wr.heap.size wr W → Calls Tryz.prog 55 #[.slice (some ⟨b, off, none⟩) n3 cap3] W fun e w' => e = .returned (.slice (some ⟨b, off, none⟩) (digs (X / 10)).length cap3) ∧ w' = W) := Lib.hid fun W hb => by
              have := rtrim_any _ _ _ (hS2.sl.below hb)
              rwa [HQ.out.1] at this
            have hconv := one_conv56 wr (UInt8.ofNat (48 + r)) (48 + (r : Int)) (by simp; omega)
            obtain ⟨c, hc⟩ : ∃ c : ByteArray, c = ⟨#[UInt8.ofNat (48 + r)]⟩ := ⟨_, rfl⟩
            have hc1 : c.size = 1 := by rw [hc]; rfl
            have HJ2 : Hid (dpre (X / 10) ++ by2 (c ++ o) = D) := Lib.hid (by
              rw [← hJ.out, HST.out, by2_app, hc, ← hr2]
              simp [by2])
            rw [← hc] at hconv
            have hn5 : (digs (X / 10)).length ≤ 256 := by
              have h1 := htr.sl.size
              have h2 := digs_length_le.1 (show (digs X).length ≤ 256 by rw [← HD6.out]; exact hn3)
              exact digs_length_le.2 (Nat.lt_of_le_of_lt (Nat.div_le_self _ _) h2)
            obtain ⟨n5, hn5e⟩ : ∃ n5, n5 = (digs (X / 10)).length := ⟨_, rfl⟩
            rw [← hn5e] at HT HTR hn5
            have HN5 := Lib.hid hn5e
            clear hS hS2 hr hr2 htr hc hn5e
            go_wp2_with (go_at_call 55; refine (HT.out _ ((Below.refl _ _).alloc (Nat.le_refl _) _)).mono ?_; rintro e w2 ⟨rfl, hw⟩; subst w2)
            go_roundw
            case rel => exact ⟨X / 10, c ++ o, some ⟨b, off, none⟩, cap3, n5, hn5, by rw [ByteArray.size_append]; omega, rfl, rfl, HN5, Lib.hid (HTR.out.below ((Below.refl _ _).alloc (Nat.le_refl _) _)), HJ2, Lib.hid (hB.out.alloc hB.out.size _)⟩
            case measure => simp [strLen] <;> omega
          · obtain ⟨j, rfl⟩ : ∃ j, m = j + 1 := ⟨m - 1, by omega⟩
            have hjl : j < ds.length := by rw [← hN3.out]; omega
            have hcell : wr.cell? ⟨b, off + j, none⟩ = some (.int .u32 (ds.getD j 0 : Nat)) := by
              obtain ⟨b', off', e, _, _, hcl⟩ := hS.out.sl.at hn30
              cases e
              have := hcl j (by rw [← hS.out.sl.size]; omega)
              rwa [half_get hjl] at this
            obtain ⟨b', off', e, _, hfz⟩ := hS.out.own _ n3 cap3 rfl hn30
            cases e
            have hf := hfz j (by omega)
            have hd := HBD.out (ds.getD j 0) (by
              rw [List.getD_eq_getElem?_getD, List.getElem?_eq_getElem hjl]
              exact List.getElem_mem hjl)
            have hstep := div10_step hjl
            rw [← hr.out] at hstep
            have hset := hS.out.set j ((r * 4294967296 + ds.getD j 0) / 10) (by omega) (by omega)
            rw [half_set hjl] at hset
            have e1 : ds.take j ++ (r * 4294967296 + ds.getD j 0) / 10 :: (div10 (ds.drop (j + 1))).1 = ds.take j ++ (div10 (ds.drop j)).1 := by rw [hstep]
            rw [e1] at hset
            have e2 : (r * 4294967296 + ds.getD j 0) % 10 = (div10 (ds.drop j)).2 := by rw [hstep]
            have E2 := Lib.hid e2
            have HSET := Lib.hid hset
            have hbw : W1.heap.size ≤ b := HBB.out
            have HB5 : Hid (Below W1.heap.size W1 (wr.setCell ⟨b, off + j, none⟩ (.int .u32 (((r * 4294967296 + ds.getD j 0) / 10 : Nat) : Int)))) := Lib.hid (hB.out.setCell (p := ⟨b, off + j, none⟩) hbw _)
            revert hcell hd E2 HSET HB5
            generalize ds.getD j 0 = x
            intro hcell hd E2 HSET HB5
            obtain ⟨y, hy⟩ : ∃ y, y = r * 4294967296 + x := ⟨_, rfl⟩
            have hyI : (r : Int) * 4294967296 + (x : Int) = (y : Int) := by omega
            have hyl : y < 42949672960 := by omega
            rw [← hy] at E2 HSET HB5
            clear hstep hset e1 e2 hy hS hbw hfz hjl
            go_wp2
            go_roundw
            case rel => exact ⟨j, y % 10, by omega, by omega, by go_num, rfl, E2, HSET, HB5⟩
            case measure => simp [intOf] <;> omega

end Go.Proofs.YtdgmjmckeeeljaaGreatDoor

namespace Go.Proofs.YtdgmjmckeeeljaaGreatDoor
open Go.RowKit

/-- A list of digits without a needless zero. -/
def canon (l : List UInt8) : Bool := decide (l ≠ []) && (decide ((l.getD 0 0).toNat ≠ 48) || decide (l.length = 1))

theorem dig_char {c : UInt8} (h : digB c = true) : 48 ≤ c.toNat ∧ c.toNat ≤ 57 := by simpa [digB] using h

theorem dec_canon : ∀ (l : List UInt8), l.all digB = true → canon l = true → Lib.decDigits (decV 0 l) = l := by
  intro l
  induction hn : l.length generalizing l with
  | zero =>
    intro _ h
    rw [List.eq_nil_of_length_eq_zero hn] at h
    simp [canon] at h
  | succ n ih =>
    intro hd hc
    have hne : l ≠ [] := fun e => by rw [e] at hn; simp at hn
    obtain ⟨m, c, rfl⟩ : ∃ m c, l = m ++ [c] := ⟨l.dropLast, l.getLast hne, (List.dropLast_concat_getLast hne).symm⟩
    have hml : m.length = n := by simpa using hn
    rw [List.all_append, Bool.and_eq_true] at hd
    have hcd := dig_char (by simpa using hd.2)
    have ev : decV 0 (m ++ [c]) = decV 0 m * 10 + (c.toNat - 48) := by simp [decV]
    rw [ev]
    have ec : UInt8.ofNat (48 + (c.toNat - 48)) = c := by
      rw [show 48 + (c.toNat - 48) = c.toNat by omega]; simp
    by_cases hm : m = []
    · subst hm
      have : decV 0 ([] : List UInt8) = 0 := rfl
      rw [this, Nat.zero_mul, Nat.zero_add, Lib.decDigits_one (by omega), ec]
      rfl
    · have hh : (m.getD 0 0).toNat ≠ 48 := by
        have h1 : ((m ++ [c]).getD 0 0) = m.getD 0 0 := by
          cases m with
          | nil => exact absurd rfl hm
          | cons a m => rfl
        simp only [canon, Bool.and_eq_true, Bool.or_eq_true, decide_eq_true_eq, h1, List.length_append, List.length_singleton] at hc
        rcases hc.2 with h | h
        · exact h
        · have : m.length = 0 := by omega
          exact absurd (List.eq_nil_of_length_eq_zero this) hm
      have hcm : canon m = true := by unfold canon; rw [decide_eq_true hm, decide_eq_true hh]; rfl
      have i1 := ih m hml hd.1 hcm
      have h0 : decV 0 m ≠ 0 := fun e => by
        rw [e, Lib.decDigits_one (by omega)] at i1
        rw [← i1] at hh
        exact hh rfl
      rw [dec_snoc h0 (by omega), i1, ec]

theorem canon_dec (u : Nat) : canon (Lib.decDigits u) = true := by
  unfold canon
  by_cases h : u = 0
  · subst h; rw [Lib.decDigits_one (by omega)]; rfl
  · rw [decide_eq_true (dec_ne u), decide_eq_true (dec_head u h)]; rfl

/-- The sign, and what stands behind it. -/
def from_ (l : List UInt8) : Bool := Lib.hasPrefix l [45]
def body (l : List UInt8) : List UInt8 := if from_ l = true then l.drop 1 else l

/-- The number that the digits mean. -/
def meant (l : List UInt8) : Int := if from_ l = true then -((decV 0 (body l) : Nat) : Int) else ((decV 0 (body l) : Nat) : Int)

end Go.Proofs.YtdgmjmckeeeljaaGreatDoor

namespace Go.Proofs.YtdgmjmckeeeljaaGreatDoor
open Go.RowKit

theorem cutT_body (s : ByteArray) : (cutT s).data.toList = body (by2 s) := by
  unfold cutT body from_ Lib.trimPrefix
  show (if Lib.hasPrefix (by2 s) [45] = true then (by2 s).drop 1 else by2 s) = _
  rfl

theorem from_cons {l : List UInt8} (h : from_ l = true) : l = 45 :: body l := by
  unfold body
  rw [if_pos h]
  match l, h with
  | b :: r, h =>
    have h2 : ((45 : UInt8) == b && [].isPrefixOf r) = true := h
    rw [Bool.and_eq_true, beq_iff_eq] at h2
    rw [← h2.1]
    rfl

theorem parse_only {s : ByteArray} {z : Int} (h : parseZ s = some z) : z = meant (by2 s) ∧ txt z = by2 s ∧ (body (by2 s)).all digB = true := by
  unfold parseZ at h
  split at h
  case isFalse => cases h
  case isTrue hc =>
    obtain ⟨hd, hz⟩ := hc
    have hd0 := hd
    injection h with h
    rw [cutT_body] at h
    have hz2 : from_ (by2 s) = true → isZ (cutT s) = false := fun e => by
      cases hb : isZ (cutT s)
      · rfl
      · exact absurd ⟨e, hb⟩ hz
    have hm : z = meant (by2 s) := h.symm
    unfold decB at hd
    simp only [Bool.and_eq_true, Bool.or_eq_true, decide_eq_true_eq] at hd
    obtain ⟨⟨⟨h1, _⟩, h3⟩, h4⟩ := hd
    have hsz : (cutT s).size = (body (by2 s)).length := by rw [← cutT_body]; exact (Array.length_toList).symm
    rw [cutT_body] at h3 h4
    rw [hsz] at h1 h3
    have hcan : canon (body (by2 s)) = true := by
      unfold canon
      rw [decide_eq_true (show body (by2 s) ≠ [] from fun e => h1 (by rw [e]; rfl)), Bool.true_and, Bool.or_eq_true, decide_eq_true_eq, decide_eq_true_eq]
      exact h3
    have hdc := dec_canon _ h4 hcan
    refine ⟨hm, ?_, h4⟩
    rw [hm]
    unfold meant
    cases hf : from_ (by2 s)
    · have hb : body (by2 s) = by2 s := by unfold body; rw [hf]; rfl
      rw [hb] at hdc ⊢
      have e1 : ¬ (((decV 0 (by2 s) : Nat) : Int) < 0) := by omega
      simp only [Bool.false_eq_true, if_false]
      unfold txt
      rw [if_neg e1, Int.natAbs_natCast, hdc]
      rfl
    · have hp := decV_pos (cutT s) hd0 (hz2 hf)
      rw [cutT_body] at hp
      have e1 : (-((decV 0 (body (by2 s)) : Nat) : Int) < 0) := by omega
      simp only [if_true]
      unfold txt
      rw [if_pos e1, Int.natAbs_neg, Int.natAbs_natCast, hdc]
      exact (from_cons hf).symm

theorem pow_cut (a m n k l e : Nat) (h : m * n = k * l + e) : (a ^ m) ^ n = (a ^ k) ^ l * a ^ e := by rw [← Nat.pow_mul, ← Nat.pow_mul, ← Nat.pow_add, h]
theorem pow_cut1 (a n k l e : Nat) (h : n = k * l + e) : a ^ n = (a ^ k) ^ l * a ^ e := by rw [← Nat.pow_mul, ← Nat.pow_add, h]
theorem pow_8192 : (4294967296 : Nat) ^ 256 ≤ 10 ^ 2467 := by
  rw [show (4294967296 : Nat) = 2 ^ 32 by decide, pow_cut 2 32 256 93 88 8 (by decide), pow_cut1 10 2467 28 88 3 (by decide)]
  exact Nat.mul_le_mul (Nat.pow_le_pow_left (by decide) 88) (by decide)

theorem fits_small {n : Nat} (h : (digs n).length ≤ 256) : n < 10 ^ 2467 :=
  Nat.lt_of_lt_of_le (digs_length_le.1 h) pow_8192

theorem parse_of {s : ByteArray} (h : txt (meant (by2 s)) = by2 s) (hs : (meant (by2 s)).natAbs < 10 ^ 2467) : parseZ s = some (meant (by2 s)) := by
  have := parse_txt _ hs
  rw [h] at this
  exact this

/-- No number, or one that is too large: the answer is false. -/
theorem parse_res_no {w : World} {s : ByteArray} {w' : World} (h : ∀ z, parseZ s = some z → fitsB z.natAbs = false) (hb : Below w.heap.size w w') :
    ParseRes w (parseZ s) (.returned (.tuple #[.agg #[.bool false, .slice none 0 0], .bool false])) w' := by
  cases hp : parseZ s with
  | none => exact ⟨rfl, hb⟩
  | some z =>
    have hf := h z hp
    exact ⟨false, none, 0, 0, by rw [hf], hb, fun e => absurd (hf.symm.trans e) (by decide), fun _ => ⟨rfl, rfl, rfl, rfl⟩⟩

/-- What the first k bytes mean. -/
def preP (l : List UInt8) (k : Nat) : Nat := decV 0 ((body l).take (k - (if from_ l = true then 1 else 0)))

theorem body_drop (l : List UInt8) : body l = l.drop (if from_ l = true then 1 else 0) := by
  unfold body
  cases from_ l <;> rfl

theorem preP_step {l : List UInt8} {k : Nat} (h1 : (if from_ l = true then 1 else 0) ≤ k) (h2 : k < l.length) : preP l (k + 1) = preP l k * 10 + ((l.getD k 0).toNat - 48) := by
  unfold preP
  rw [body_drop]
  revert h1
  generalize (if from_ l = true then 1 else 0) = f
  intro h1
  have hk : k - f < (l.drop f).length := by rw [List.length_drop]; omega
  rw [show k + 1 - f = k - f + 1 by omega, List.take_add_one, List.getElem?_eq_getElem hk, List.getElem_drop]
  simp only [show f + (k - f) = k by omega]
  rw [show (some l[k]).toList = [l[k]] from rfl, decV_append, show l.getD k 0 = l[k] by simp [List.getD, h2]]
  rfl

theorem preP_end (l : List UInt8) : preP l l.length = decV 0 (body l) := by
  unfold preP
  rw [List.take_of_length_le]
  rw [body_drop, List.length_drop]
  exact Nat.le_refl _

theorem preP_mono (l : List UInt8) (k : Nat) : preP l k ≤ decV 0 (body l) := by
  unfold preP
  generalize k - _ = j
  have e : decV 0 (body l) = decV (decV 0 ((body l).take j)) ((body l).drop j) := by rw [← decV_append, List.take_append_drop]
  rw [e, decV_acc (decV 0 ((body l).take j))]
  exact Nat.le_trans (Nat.le_mul_of_pos_right _ (Nat.pow_pos (show 0 < 10 by omega))) (Nat.le_add_right _ _)

theorem meant_abs (l : List UInt8) : (meant l).natAbs = decV 0 (body l) := by
  unfold meant
  split <;> omega

theorem parse_big {s : ByteArray} {k : Nat} (h : 256 < (digs (preP (by2 s) k)).length) : ∀ z, parseZ s = some z → fitsB z.natAbs = false := by
  intro z hz
  rw [(parse_only hz).1, meant_abs]
  refine decide_eq_false fun h2 => ?_
  have h3 := Nat.lt_of_le_of_lt (preP_mono (by2 s) k) (digs_length_le.1 h2)
  have := digs_length_le.2 h3
  omega

theorem parse_nodig {s : ByteArray} {k : Nat} (h1 : (if from_ (by2 s) = true then 1 else 0) ≤ k) (h2 : k < (by2 s).length) (h3 : ((by2 s).getD k 0).toNat < 48 ∨ 57 < ((by2 s).getD k 0).toNat) : ∀ z, parseZ s = some z → fitsB z.natAbs = false := by
  intro z hz
  have hd := (parse_only hz).2.2
  rw [body_drop, List.all_eq_true] at hd
  revert h1 hd
  generalize (if from_ (by2 s) = true then 1 else 0) = f
  intro h1 hd
  have hm : (by2 s).getD k 0 ∈ (by2 s).drop f := by
    rw [show (by2 s).getD k 0 = (by2 s)[k] by rw [List.getD, List.getElem?_eq_getElem h2]; rfl]
    have hk : k - f < ((by2 s).drop f).length := by rw [List.length_drop]; omega
    have : ((by2 s).drop f)[k - f] = (by2 s)[k] := by rw [List.getElem_drop]; simp only [show f + (k - f) = k by omega]
    rw [← this]
    exact List.getElem_mem _
  have := hd _ hm
  simp only [digB, Bool.and_eq_true, decide_eq_true_eq] at this
  omega

theorem parse_mismatch {s : ByteArray} (h : txt (meant (by2 s)) ≠ by2 s) : ∀ z, parseZ s = some z → fitsB z.natAbs = false := by
  intro z hz
  obtain ⟨h1, h2, _⟩ := parse_only hz
  rw [h1] at h2
  exact absurd h2 h

theorem index_at (s : ByteArray) (j : Nat) (h : j < s.size) (w : World) : (Instr.index 9 (.string s) (.int .i64 (j : Int))).run Tryz.prog w = .ok (.int .u8 ((by2 s).getD j 0).toNat) w := by
  rw [run_index_string w 9 s .i64 j Tryz.underlying9, dif_pos ⟨by omega, by omega⟩]
  simp [by2, List.getD, h, ByteArray.getElem_eq_getElem_data]

theorem from_head {s : ByteArray} : from_ (by2 s) = true ↔ 0 < s.size ∧ ((by2 s).getD 0 0).toNat = 45 := by
  rw [← by2_len]
  unfold from_ Lib.hasPrefix
  match by2 s with
  | [] => simp [List.isPrefixOf]
  | b :: r =>
    show ((45 : UInt8) == b && [].isPrefixOf r) = true ↔ _
    rw [Bool.and_eq_true, beq_iff_eq]
    simp only [List.getD, List.length_cons, List.getElem?_cons_zero, Option.getD_some]
    constructor
    · rintro ⟨rfl, _⟩
      exact ⟨by omega, rfl⟩
    · rintro ⟨_, h⟩
      exact ⟨(UInt8.toNat_inj.1 h).symm, by simp [List.isPrefixOf]⟩

end Go.Proofs.YtdgmjmckeeeljaaGreatDoor

namespace Go.Proofs.YtdgmjmckeeeljaaGreatDoor
open Go.RowKit

abbrev NoP : Ending := .returned (.tuple #[.agg #[.bool false, .slice none 0 0], .bool false])

theorem times_dig {w : World} {ao : Option Addr} {cap n x b m : Nat} (ha : Sl w (.slice ao n cap) (digs x)) (hb : Sl w (.slice (some ⟨b, 0, none⟩) 1 1) [10]) (hn : n ≤ 256) (hm : (digs (x * 10)).length = m) :
    Calls Tryz.prog 54 #[.slice ao n cap, .slice (some ⟨b, 0, none⟩) 1 1] w fun e w' => ∃ ao2 cap2, e = .returned (.slice ao2 m cap2) ∧ Sw w.heap.size w' (.slice ao2 m cap2) (digs (x * 10)) ∧ Below w.heap.size w w' := by
  have hl := ha.size
  refine (times54_any ha hb (by omega) (by simp)).mono ?_
  rintro e w' ⟨v, rfl, hs, hbl⟩
  rw [val_digs, show val [10] = 10 from rfl] at hs
  obtain ⟨ao2, cap2, rfl⟩ := hs.sl.mk'
  rw [hm] at hs ⊢
  exact ⟨ao2, cap2, rfl, hs, hbl⟩

theorem plus_dig {w : World} {ao : Option Addr} {cap n x b c m : Nat} (ha : Sl w (.slice ao n cap) (digs x)) (hb : Sl w (.slice (some ⟨b, 0, none⟩) 1 1) [c]) (hn : n ≤ 1000) (hm : (digs (x + c)).length = m) :
    Calls Tryz.prog 49 #[.slice ao n cap, .slice (some ⟨b, 0, none⟩) 1 1] w fun e w' => ∃ ao2 cap2, e = .returned (.slice ao2 m cap2) ∧ Sw w.heap.size w' (.slice ao2 m cap2) (digs (x + c)) ∧ Below w.heap.size w w' := by
  have hl := ha.size
  refine (plus49_any ha hb (by omega) (by simp)).mono ?_
  rintro e w' ⟨v, rfl, hs, hbl⟩
  rw [val_digs, show val [c] = c by simp [val]] at hs
  obtain ⟨ao2, cap2, rfl⟩ := hs.sl.mk'
  rw [hm] at hs ⊢
  exact ⟨ao2, cap2, rfl, hs, hbl⟩

theorem digs_ten1 {x k : Nat} (h : (digs x).length ≤ k) : (digs (x * 10)).length ≤ k + 1 := by
  have h1 := digs_length_le.1 h
  refine digs_length_le.2 ?_
  rw [Nat.pow_succ]
  exact Nat.lt_of_le_of_lt (Nat.mul_le_mul_right 10 (Nat.le_of_lt h1)) (Nat.mul_lt_mul_of_pos_left (by omega) (Nat.pow_pos (show 0 < 4294967296 by omega)))
theorem digs_ten {x : Nat} (h : (digs x).length ≤ 256) : (digs (x * 10)).length ≤ 257 := digs_ten1 h

theorem NumRes.yesS {w w' : World} {z : Int} {e : Ending} (h : NumRes w z e w') (hf : fitsB z.natAbs = true) : ∃ ao2 n2 cap2, e = .returned (.tuple #[.agg #[.bool (decide (z < 0)), .slice ao2 n2 cap2], .bool true]) ∧ Below w.heap.size w w' ∧ Sw w.heap.size w' (.slice ao2 n2 cap2) (digs z.natAbs) := by
  obtain ⟨neg, ao, n, cap, he, hb, h1, _⟩ := h
  obtain ⟨hn, hs⟩ := h1 hf
  exact ⟨ao, n, cap, by rw [he, hf, hn], hb, hs⟩

set_option maxRecDepth 100000 in
set_option maxHeartbeats 4000000 in
theorem rparse_any (s : ByteArray) (hsz : s.size ≤ 140737488355328) (w : World) : Calls Tryz.prog 25 #[.string s] w (ParseRes w (parseZ s)) := by
  obtain ⟨f, hf⟩ : ∃ f : Nat, f = if from_ (by2 s) = true then 1 else 0 := ⟨_, rfl⟩
  obtain ⟨neg, hneg⟩ : ∃ neg : Bool, neg = from_ (by2 s) := ⟨_, rfl⟩
  obtain ⟨R, hR⟩ : ∃ R, R = parseZ s := ⟨_, rfl⟩
  obtain ⟨z, hz⟩ : ∃ z, z = meant (by2 s) := ⟨_, rfl⟩
  obtain ⟨P, hP⟩ : ∃ P, P = preP (by2 s) := ⟨_, rfl⟩
  obtain ⟨n, hn⟩ : ∃ n, n = s.size := ⟨_, rfl⟩
  have hnl : (by2 s).length = n := by rw [by2_len, hn]
  have HSTEP : Hid (∀ k, f ≤ k → k < n → P (k + 1) = P k * 10 + (((by2 s).getD k 0).toNat - 48)) := Lib.hid fun k h1 h2 => by rw [hP]; exact preP_step (by rw [← hf]; exact h1) (by rw [hnl]; exact h2)
  have HSTART : Hid (P f = 0) := Lib.hid (by rw [hP, hf]; unfold preP; rw [Nat.sub_self]; rfl)
  have HBIG : Hid (∀ k, 256 < (digs (P k)).length → ∀ w', Below w.heap.size w w' → ParseRes w R NoP w') := Lib.hid fun k h w' hb => by rw [hR]; exact parse_res_no (parse_big (k := k) (by rw [← hP]; exact h)) hb
  have HNOD : Hid (∀ k, f ≤ k → k < n → ((by2 s).getD k 0).toNat < 48 ∨ 57 < ((by2 s).getD k 0).toNat → ∀ w', Below w.heap.size w w' → ParseRes w R NoP w') := Lib.hid fun k h1 h2 h w' hb => by rw [hR]; exact parse_res_no (parse_nodig (by rw [← hf]; exact h1) (by rw [hnl]; exact h2) h) hb
  have HMIS : Hid (txt z ≠ by2 s → ∀ w', Below w.heap.size w w' → ParseRes w R NoP w') := Lib.hid fun h w' hb => by rw [hR]; exact parse_res_no (parse_mismatch (by rw [← hz]; exact h)) hb
  have HYES : Hid (txt z = by2 s → (digs z.natAbs).length ≤ 256 → R = some z) := Lib.hid fun h h2 => by rw [hR, hz] at *; exact parse_of h (fits_small h2)
  have HZ : Hid (z = if neg = true then -((P n : Nat) : Int) else ((P n : Nat) : Int)) := Lib.hid (by rw [hz, hP, ← hnl, preP_end, hneg]; rfl)
  rw [← hR]
  have HIX : Hid (∀ k, k < n → ∀ w : World, (Instr.index 9 (.string s) (.int .i64 (k : Int))).run Tryz.prog w = .ok (.int .u8 ((by2 s).getD k 0).toNat) w) := Lib.hid fun k hk w => index_at s k (by rw [← hn]; exact hk) w
  have HLEN : Hid ((s.size : Int) = (n : Int)) := Lib.hid (by rw [hn])
  have hfn : f ≤ n := by
    rw [hf]
    split
    · rename_i h
      have := (from_head.1 h).1
      omega
    · omega
  have hf1 : f ≤ 1 := by rw [hf]; split <;> omega
  have HFN := Lib.hid (show (f : Int) = if neg = true then 1 else 0 by rw [hf, hneg]; split <;> rfl)
  have hcase : (n = 0 ∧ f = 0 ∧ neg = false) ∨ (0 < n ∧ ((by2 s).getD 0 0).toNat = 45 ∧ f = 1 ∧ neg = true) ∨ (0 < n ∧ ((by2 s).getD 0 0).toNat ≠ 45 ∧ f = 0 ∧ neg = false) := by
    cases hfr : from_ (by2 s) with
    | false =>
      rw [hfr] at hf hneg
      by_cases h0 : n = 0
      · exact .inl ⟨h0, hf, hneg⟩
      · refine .inr (.inr ⟨by omega, fun h1 => ?_, hf, hneg⟩)
        have := from_head.2 ⟨by omega, h1⟩
        rw [hfr] at this
        cases this
    | true =>
      rw [hfr] at hf hneg
      have := from_head.1 hfr
      exact .inr (.inl ⟨by omega, this.2, hf, hneg⟩)
  have hn' : n ≤ 140737488355328 := by omega
  have HCASE := Lib.hid hcase
  clear hcase hsz hf hneg hR hz hP hn hnl
  obtain ⟨W0, hW0⟩ : ∃ W0, W0 = w.alloc (.cells #[.bool false, .slice none 0 0] 27) := ⟨_, rfl⟩
  have HRB : Hid (ResBox W0 w.heap.size) := Lib.hid (by rw [hW0]; exact resbox_new w)
  have HB0 : Hid (Below w.heap.size w W0) := Lib.hid (by rw [hW0]; exact (Below.refl _ _).alloc (Nat.le_refl _) _)
  have hlen := HLEN.out
  go_enter Tryz.func25, Tryz.ntmps25
  go_upto_region 2 with fail
  rw [← hW0]
  clear hW0
  go_cut [16] from 9 to 16 (fun s16 wx => s16 = .bool neg ∧ wx = W0)
  case first =>
    rcases HCASE.out with ⟨h0, h1, h2⟩ | ⟨h0, h1, h2, h5⟩ | ⟨h0, h1, h2, h5⟩
    · have hb : ¬ ((s.size : Int) > 0) := by omega
      go_wp2_with fail
      go_meet
      exact ⟨by rw [h2], rfl⟩
    · have hb : ((s.size : Int) > 0) := by omega
      have h3 : ∀ w : World, (Instr.index 9 (.string s) (.int .i64 0)).run Tryz.prog w = .ok (.int .u8 45) w := fun w => by have := HIX.out 0 h0 w; rw [h1] at this; exact this
      go_wp2_with fail
      go_meet
      exact ⟨by rw [h5], rfl⟩
    · have hb : ((s.size : Int) > 0) := by omega
      obtain ⟨b0, hb0⟩ : ∃ b0, b0 = ((by2 s).getD 0 0).toNat := ⟨_, rfl⟩
      have h3 : ∀ w : World, (Instr.index 9 (.string s) (.int .i64 0)).run Tryz.prog w = .ok (.int .u8 b0) w := fun w => by have := HIX.out 0 h0 w; rw [← hb0] at this; exact this
      rw [← hb0] at h1
      have h4 : ((b0 : Int) == 45) = false := by rw [beq_eq_false_iff_ne]; omega
      clear hb0
      go_wp2_with fail
      go_meet
      exact ⟨by rw [h5], rfl⟩
  case rest =>
   obtain ⟨rfl, rfl⟩ := hcut
   go_upto_if 16 with fail
   go_cut [4] from 4 to 16 (fun s4 wx => s4 = .int .i64 f ∧ wx = wc)
   case first =>
    have hfi := HFN.out
    cases neg
    · go_wp2_with fail
      go_meet
      exact ⟨by rw [hfi]; rfl, rfl⟩
    · go_wp2_with fail
      go_meet
      exact ⟨by rw [hfi]; rfl, rfl⟩
   case rest =>
    obtain ⟨rfl, rfl⟩ := hcut
    have hlt := HRB.out.lt
    go_wp2
    go_loopw [5, 6] (fun dv kv wr => ∃ (k : Nat) (ao : Option Addr) (cap m : Nat), f ≤ k ∧ k ≤ n ∧ m ≤ 256 ∧ dv = .slice ao m cap ∧ kv = .int .i64 k ∧ Hid (m = (digs (P k)).length) ∧ Hid (Sl wr (.slice ao m cap) (digs (P k))) ∧ Hid (Below wc.heap.size wc wr)) (fun _ kv _ => (n - intOf kv).toNat)
    case atStart => exact ⟨f, none, 0, 0, Nat.le_refl _, hfn, by omega, rfl, rfl, Lib.hid (by rw [HSTART.out, digs_zero]; rfl), Lib.hid (by rw [HSTART.out, digs_zero]; exact Sl.nil _ _ _), Lib.hid (Below.refl _ _)⟩
    case round =>
      obtain ⟨k, ao, cap, m, hfk, hkn, hm, rfl, rfl, hM, hS, hB⟩ := hrel
      by_cases hk : k < n
      · have hI := HIX.out k hk
        have hst := HSTEP.out k hfk hk
        have hnod := Lib.hid (HNOD.out k hfk hk)
        obtain ⟨b, hb⟩ : ∃ b, b = ((by2 s).getD k 0).toNat := ⟨_, rfl⟩
        rw [← hb] at hI hst hnod
        have hb256 : b < 256 := by rw [hb]; exact UInt8.toNat_lt _
        have hkI : (k : Int) < (s.size : Int) := by omega
        have HK := Lib.hid hst
        clear hst hb
        by_cases h48 : b < 48
        · have h48I : (b : Int) < 48 := by omega
          have hr := HRB.out.below hB.out
          obtain ⟨r0, r1, f0, f1⟩ := hr.cells
          obtain ⟨q0, q1⟩ := hr.stored (.bool false) (.slice none 0 0)
          have HFIN := hnod.out (.inl h48)
          have HBW : Below w.heap.size w wr := HB0.out.trans (hB.out.mono HB0.out.size)
          have HFI := Lib.hid HFIN
          have hfw : Below w.heap.size w ((wr.setCell ⟨w.heap.size, 0, none⟩ (.bool false)).setCell ⟨w.heap.size, 1, none⟩ (.slice none 0 0)) := (HBW.setCell (Nat.le_refl _) _).setCell (Nat.le_refl _) _
          clear HFIN
          go_wp2_with fail
          refine bodyPost_ret (v := .tuple #[.agg #[.bool false, .slice none 0 0], .bool false]) (by simp [results, Tryz.results25, go_sem, q0, q1]) rfl ?_
          exact HFI.out _ hfw
        · by_cases h57 : 57 < b
          · have h48I : ¬ (b : Int) < 48 := by omega
            have h57I : (b : Int) > 57 := by omega
            have hr := HRB.out.below hB.out
            obtain ⟨r0, r1, f0, f1⟩ := hr.cells
            obtain ⟨q0, q1⟩ := hr.stored (.bool false) (.slice none 0 0)
            have HFIN := hnod.out (.inr h57)
            have HBW : Below w.heap.size w wr := HB0.out.trans (hB.out.mono HB0.out.size)
            have HFI := Lib.hid HFIN
            have hfw : Below w.heap.size w ((wr.setCell ⟨w.heap.size, 0, none⟩ (.bool false)).setCell ⟨w.heap.size, 1, none⟩ (.slice none 0 0)) := (HBW.setCell (Nat.le_refl _) _).setCell (Nat.le_refl _) _
            clear HFIN
            go_wp2_with fail
            refine bodyPost_ret (v := .tuple #[.agg #[.bool false, .slice none 0 0], .bool false]) (by simp [results, Tryz.results25, go_sem, q0, q1]) rfl ?_
            exact HFI.out _ hfw
          · have h48I : ¬ (b : Int) < 48 := by omega
            have h57I : ¬ (b : Int) > 57 := by omega
            obtain ⟨c, rfl⟩ : ∃ c, b = c + 48 := ⟨b - 48, by omega⟩
            have hc10 : c < 10 := by omega
            have hw1 : IntKind.u8.wrap (((c + 48 : Nat) : Int) - 48) = (c : Int) := by rw [show (((c + 48 : Nat) : Int) - 48) = c by omega, IntKind.wrap_u8]; omega
            have hw3 : IntKind.u8.wrap (c : Int) = (c : Int) := by rw [IntKind.wrap_u8]; omega
            have hw2 : IntKind.u32.wrap (c : Int) = (c : Int) := by rw [IntKind.wrap_u32]; omega
            rw [Nat.add_sub_cancel] at HK
            obtain ⟨m1, hm1⟩ : ∃ m1, m1 = (digs (P k * 10)).length := ⟨_, rfl⟩
            obtain ⟨m2, hm2⟩ : ∃ m2, m2 = (digs (P (k + 1))).length := ⟨_, rfl⟩
            have hm1b : m1 ≤ 1000 := by
              rw [hm1]
              have := digs_ten (show (digs (P k)).length ≤ 256 by rw [← hM.out]; exact hm)
              omega
            have HT : Hid (∀ W B, Below wr.heap.size wr W → Sl W (.slice (some ⟨B, 0, none⟩) 1 1) [10] → Calls Tryz.prog 54 #[.slice ao m cap, .slice (some ⟨B, 0, none⟩) 1 1] W fun e w' => ∃ ao2 cap2, e = .returned (.slice ao2 m1 cap2) ∧ Sl w' (.slice ao2 m1 cap2) (digs (P k * 10)) ∧ Below wr.heap.size wr w' ∧ Below W.heap.size W w') := Lib.hid fun W B hb hten => (times_dig (hS.out.below hb) hten hm hm1.symm).mono fun e w' ⟨a1, a2, a3, a4, a5⟩ => ⟨a1, a2, a3, a4.sl, hb.trans (a5.mono hb.size), a5⟩
            have HP : Hid (∀ W B ao2 cap2, Below wr.heap.size wr W → Sl W (.slice ao2 m1 cap2) (digs (P k * 10)) → Sl W (.slice (some ⟨B, 0, none⟩) 1 1) [c] → Calls Tryz.prog 49 #[.slice ao2 m1 cap2, .slice (some ⟨B, 0, none⟩) 1 1] W fun e w' => ∃ ao2 cap2, e = .returned (.slice ao2 m2 cap2) ∧ Sl w' (.slice ao2 m2 cap2) (digs (P (k + 1))) ∧ Below wr.heap.size wr w') := Lib.hid fun W B ao2 cap2 hb h1 h2 => by
              rw [HK.out] at hm2 ⊢
              exact (plus_dig h1 h2 hm1b hm2.symm).mono fun e w' ⟨a1, a2, a3, a4, a5⟩ => ⟨a1, a2, a3, a4.sl, hb.trans (a5.mono hb.size)⟩
            have HM2 := Lib.hid hm2
            have HO : Hid (∀ (W : World) (x : Nat), x < 11 → Sl (W.alloc (.cells #[.int .u32 x] 59)) (.slice (some ⟨W.heap.size, 0, none⟩) 1 1) [x]) := Lib.hid fun W x hx => (sl_one W x (by omega)).sl
            have HO10 : Hid (∀ (W : World), Sl (W.alloc (.cells #[.int .u32 10] 59)) (.slice (some ⟨W.heap.size, 0, none⟩) 1 1) [10]) := Lib.hid fun W => (sl_one W 10 (by omega)).sl
            have HBW : Hid (Below w.heap.size w wr) := Lib.hid (HB0.out.trans (hB.out.mono HB0.out.size))
            clear hm1 hm2
            go_upto_region 10 with fail
            go_cut [5] from 18 to 48 (fun dv wx => ∃ ao2 cap2, dv = .slice ao2 m2 cap2 ∧ Hid (Sl wx (.slice ao2 m2 cap2) (digs (P (k + 1)))) ∧ Hid (Below wr.heap.size wr wx))
            case first =>
              go_region_law (go_simp; first | (go_at_call 54; refine (HT.out _ _ ?_ ?_).mono ?_; go_grown; (first | (exact (HO10.out wr).below (by go_grown)) | (have h10 := HO10.out (wr.alloc (.cells #[.int .u32 (c : Int)] 59)); simp only [World.size_alloc] at h10; exact h10.below (by go_grown))); rintro e w2 ⟨ao2, cap2, rfl, hs2, hb2, hb3⟩; have hz2 := hb2.size) | (go_at_call 49; refine (HP.out _ _ _ _ ?_ ?_ ?_).mono ?_; (first | (exact hb2.trans (Below.mono (by go_grown) hz2)) | exact hb2); (first | exact hs2 | (exact hs2.below (by go_grown))); (first | (exact HO.out w2 c (by omega)) | (have hc2 := HO.out (wr.alloc (.cells #[.int .u32 10] 59)) c (by omega); simp only [World.size_alloc] at hc2; exact (hc2.below (by go_grown)).below hb3) | (exact ((HO.out wr c (by omega)).below (by go_grown)).below hb3)); rintro e w3 ⟨ao3, cap3, rfl, hs3, hb4⟩))
              all_goals (go_wp2_with fail; go_meet; exact ⟨ao3, cap3, rfl, Lib.hid hs3, Lib.hid hb4⟩)
            case rest =>
              obtain ⟨ao3, cap3, rfl, hs3, hb4⟩ := hcut
              clear HT HP HO HO10 hI
              by_cases hm2 : m2 ≤ 256
              · have hm2I : ¬ (m2 : Int) > 256 := by omega
                have hkw : IntKind.i64.wrap ((k : Int) + 1) = (k : Int) + 1 := by rw [IntKind.wrap_i64]; omega
                go_wp2_with fail
                go_roundw
                case rel => exact ⟨k + 1, ao3, cap3, m2, by omega, by omega, hm2, rfl, by go_num, HM2, hs3, Lib.hid (hB.out.trans (hb4.out.mono hB.out.size))⟩
                case measure => simp [intOf]; omega
              · have hm2I : (m2 : Int) > 256 := by omega
                have HFI := Lib.hid (HBIG.out (k + 1) (by rw [← HM2.out]; omega))
                have hr := (HRB.out.below hB.out).below hb4.out
                obtain ⟨r0, r1, f0, f1⟩ := hr.cells
                obtain ⟨q0, q1⟩ := hr.stored (.bool false) (.slice none 0 0)
                have hfw : Below w.heap.size w ((wc.setCell ⟨w.heap.size, 0, none⟩ (.bool false)).setCell ⟨w.heap.size, 1, none⟩ (.slice none 0 0)) := ((HBW.out.trans (hb4.out.mono HBW.out.size)).setCell (Nat.le_refl _) _).setCell (Nat.le_refl _) _
                go_wp2_with fail
                refine bodyPost_ret (v := .tuple #[.agg #[.bool false, .slice none 0 0], .bool false]) (by simp [results, Tryz.results25, go_sem, q0, q1]) rfl ?_
                exact HFI.out _ hfw
      · have hkn2 : k = n := by omega
        subst hkn2
        have hkI : ¬ (k : Int) < (s.size : Int) := by omega
        have hzn : z.natAbs = P k := by
          rw [HZ.out]
          split <;> omega
        have hdl : (digs z.natAbs).length ≤ 256 := by rw [hzn, ← hM.out]; exact hm
        have hft : fitsB z.natAbs = true := decide_eq_true hdl
        have HS36 : Hid (Calls Tryz.prog 36 #[.bool neg, .slice ao m cap] wr fun e w' => ∃ ao2 n2 cap2, e = .returned (.tuple #[.agg #[.bool (decide (z < 0)), .slice ao2 n2 cap2], .bool true]) ∧ Below wr.heap.size wr w' ∧ Sw wr.heap.size w' (.slice ao2 n2 cap2) (digs z.natAbs)) := Lib.hid ((signed36_at neg hS.out HZ.out).mono fun e w' h => h.yesS hft)
        have HT22 : Hid (∀ W v, Sl W v (digs z.natAbs) → Calls Tryz.prog 22 #[.agg #[.bool (decide (z < 0)), v]] W fun e w' => e = .returned (.string ⟨(txt z).toArray⟩) ∧ Below W.heap.size W w') := Lib.hid fun W v h => rText_any ⟨v, rfl, h, hdl⟩
        obtain ⟨nz, hnz⟩ : ∃ nz : Bool, nz = decide (z < 0) := ⟨_, rfl⟩
        obtain ⟨X, hX⟩ : ∃ X : ByteArray, X = ⟨(txt z).toArray⟩ := ⟨_, rfl⟩
        have hXs : (X.toList == s.toList) = decide (txt z = by2 s) := by
          rw [ByteArray.toList_eq, ByteArray.toList_eq, hX]
          show ((txt z).toArray.toList == by2 s) = _
          simp only [List.toList_toArray]
          by_cases he : txt z = by2 s
          · rw [decide_eq_true he, he]; simp
          · rw [decide_eq_false he]; simpa using he
        have HNZ := Lib.hid hnz
        have HFT := Lib.hid hft
        rw [← hnz] at HS36 HT22
        rw [← hX] at HT22
        have HBW : Hid (Below w.heap.size w wr) := Lib.hid (HB0.out.trans (hB.out.mono HB0.out.size))
        have HRW : Hid (ResBox wr w.heap.size) := Lib.hid (HRB.out.below hB.out)
        have hcase2 : (neg = false ∧ f = 0) ∨ (neg = true ∧ f = 1) := by
          rcases HCASE.out with h | h | h
          · exact .inl ⟨h.2.2, h.2.1⟩
          · exact .inr ⟨h.2.2.2, h.2.2.1⟩
          · exact .inl ⟨h.2.2.2, h.2.2.1⟩
        obtain ⟨p, hp⟩ : ∃ p : Bool, p = decide (txt z = by2 s) := ⟨_, rfl⟩
        rw [← hp] at hXs
        have HP := Lib.hid hp
        have HY2 : Hid (p = true → R = some z) := Lib.hid fun h => HYES.out (of_decide_eq_true (hp.symm.trans h)) hdl
        have HM2 : Hid (p = false → ∀ w', Below w.heap.size w w' → ParseRes w R NoP w') := Lib.hid fun h => HMIS.out (of_decide_eq_false (hp.symm.trans h))
        clear hzn hdl hft hnz hX hp HYES HMIS HZ HIX HSTEP HSTART HBIG HNOD HFN hM hS hB HCASE
        have hlt2 := HRW.out.lt
        rcases hcase2 with ⟨rfl, rfl⟩ | ⟨rfl, rfl⟩
        · go_upto_region 14 with (go_at_call 36; refine HS36.out.mono ?_; rintro e w2 ⟨ao2, n2, cap2, rfl, hb2, hs2⟩; have hz2 := hb2.size)
          obtain ⟨W, hW⟩ : ∃ W, W = w2.alloc (.cells #[.bool nz, .slice ao2 n2 cap2] 27) := ⟨_, rfl⟩
          have rW : W.heap[w2.heap.size]? = some (.cells #[.bool nz, .slice ao2 n2 cap2] 27 (0, 0)) := by rw [hW]; exact heap_alloc_new _ _
          have hbw2 : Below w2.heap.size w2 W := by rw [hW]; exact alloc_b _ _
          rw [← hW]
          have HKP : Hid (∀ W', Below W.heap.size W W' → W'.cell? ⟨w2.heap.size, 0, none⟩ = some (.bool nz) ∧ W'.cell? ⟨w2.heap.size, 1, none⟩ = some (.slice ao2 n2 cap2)) := Lib.hid fun W' h => by
            have q0 := (h.block _ (Array.getElem?_eq_some_iff.1 rW).1).trans rW
            exact ⟨by rw [cell_of_row _ _ _ _ _ _ q0]; rfl, by rw [cell_of_row _ _ _ _ _ _ q0]; rfl⟩
          have HSW : Hid (Sw wr.heap.size W (.slice ao2 n2 cap2) (digs z.natAbs)) := Lib.hid (hs2.below hbw2)
          have HRW2 : Hid (ResBox W w.heap.size) := Lib.hid ((HRW.out.below hb2).below hbw2)
          have HBW2 : Hid (Below w.heap.size w W) := Lib.hid ((HBW.out.trans (hb2.mono HBW.out.size)).trans (hbw2.mono (Nat.le_trans HBW.out.size hz2)))
          obtain ⟨c0, c1⟩ := HKP.out _ (Below.refl _ _)
          clear hs2 hb2 hbw2 rW hW
          cases p
          · have HFI := Lib.hid (HM2.out rfl)
            go_wp2_with (go_at_call 22; refine (HT22.out _ _ HSW.out.sl).mono ?_; rintro e w3 ⟨rfl, hb3⟩; have hr3 := HRW2.out.below hb3; obtain ⟨r0, r1, f0, f1⟩ := hr3.cells; have hlt3 := hr3.lt; obtain ⟨d0, d1⟩ := HKP.out _ hb3)
            obtain ⟨q0, q1⟩ := hr3.stored (.bool false) (.slice none 0 0)
            have hfw : Below w.heap.size w ((w3.setCell ⟨w.heap.size, 0, none⟩ (.bool false)).setCell ⟨w.heap.size, 1, none⟩ (.slice none 0 0)) := ((HBW2.out.trans (hb3.mono HBW2.out.size)).setCell (Nat.le_refl _) _).setCell (Nat.le_refl _) _
            refine bodyPost_ret (v := .tuple #[.agg #[.bool false, .slice none 0 0], .bool false]) (by simp [results, Tryz.results25, go_sem, q0, q1]) rfl ?_
            exact HFI.out _ hfw
          · have HYR := Lib.hid (HY2.out rfl)
            go_wp2_with (go_at_call 22; refine (HT22.out _ _ HSW.out.sl).mono ?_; rintro e w3 ⟨rfl, hb3⟩; have hr3 := HRW2.out.below hb3; obtain ⟨r0, r1, f0, f1⟩ := hr3.cells; have hlt3 := hr3.lt; obtain ⟨d0, d1⟩ := HKP.out _ hb3)
            obtain ⟨q0, q1⟩ := hr3.stored (.bool nz) (.slice ao2 n2 cap2)
            have hfw : Below w.heap.size w ((w3.setCell ⟨w.heap.size, 0, none⟩ (.bool nz)).setCell ⟨w.heap.size, 1, none⟩ (.slice ao2 n2 cap2)) := ((HBW2.out.trans (hb3.mono HBW2.out.size)).setCell (Nat.le_refl _) _).setCell (Nat.le_refl _) _
            refine bodyPost_ret (v := .tuple #[.agg #[.bool nz, .slice ao2 n2 cap2], .bool true]) (by simp [results, Tryz.results25, go_sem, q0, q1]) rfl ?_
            rw [HYR.out]
            exact numRes_yes HFT.out hfw HNZ.out (((HSW.out.below hb3).after2 hlt2 (.bool nz) (.slice ao2 n2 cap2)).mono (Nat.le_of_lt hlt2))
        · go_upto_region 14 with (go_at_call 36; refine HS36.out.mono ?_; rintro e w2 ⟨ao2, n2, cap2, rfl, hb2, hs2⟩; have hz2 := hb2.size)
          obtain ⟨W, hW⟩ : ∃ W, W = w2.alloc (.cells #[.bool nz, .slice ao2 n2 cap2] 27) := ⟨_, rfl⟩
          have rW : W.heap[w2.heap.size]? = some (.cells #[.bool nz, .slice ao2 n2 cap2] 27 (0, 0)) := by rw [hW]; exact heap_alloc_new _ _
          have hbw2 : Below w2.heap.size w2 W := by rw [hW]; exact alloc_b _ _
          rw [← hW]
          have HKP : Hid (∀ W', Below W.heap.size W W' → W'.cell? ⟨w2.heap.size, 0, none⟩ = some (.bool nz) ∧ W'.cell? ⟨w2.heap.size, 1, none⟩ = some (.slice ao2 n2 cap2)) := Lib.hid fun W' h => by
            have q0 := (h.block _ (Array.getElem?_eq_some_iff.1 rW).1).trans rW
            exact ⟨by rw [cell_of_row _ _ _ _ _ _ q0]; rfl, by rw [cell_of_row _ _ _ _ _ _ q0]; rfl⟩
          have HSW : Hid (Sw wr.heap.size W (.slice ao2 n2 cap2) (digs z.natAbs)) := Lib.hid (hs2.below hbw2)
          have HRW2 : Hid (ResBox W w.heap.size) := Lib.hid ((HRW.out.below hb2).below hbw2)
          have HBW2 : Hid (Below w.heap.size w W) := Lib.hid ((HBW.out.trans (hb2.mono HBW.out.size)).trans (hbw2.mono (Nat.le_trans HBW.out.size hz2)))
          obtain ⟨c0, c1⟩ := HKP.out _ (Below.refl _ _)
          clear hs2 hb2 hbw2 rW hW
          cases p
          · have HFI := Lib.hid (HM2.out rfl)
            go_wp2_with (go_at_call 22; refine (HT22.out _ _ HSW.out.sl).mono ?_; rintro e w3 ⟨rfl, hb3⟩; have hr3 := HRW2.out.below hb3; obtain ⟨r0, r1, f0, f1⟩ := hr3.cells; have hlt3 := hr3.lt; obtain ⟨d0, d1⟩ := HKP.out _ hb3)
            obtain ⟨q0, q1⟩ := hr3.stored (.bool false) (.slice none 0 0)
            have hfw : Below w.heap.size w ((w3.setCell ⟨w.heap.size, 0, none⟩ (.bool false)).setCell ⟨w.heap.size, 1, none⟩ (.slice none 0 0)) := ((HBW2.out.trans (hb3.mono HBW2.out.size)).setCell (Nat.le_refl _) _).setCell (Nat.le_refl _) _
            refine bodyPost_ret (v := .tuple #[.agg #[.bool false, .slice none 0 0], .bool false]) (by simp [results, Tryz.results25, go_sem, q0, q1]) rfl ?_
            exact HFI.out _ hfw
          · have HYR := Lib.hid (HY2.out rfl)
            go_wp2_with (go_at_call 22; refine (HT22.out _ _ HSW.out.sl).mono ?_; rintro e w3 ⟨rfl, hb3⟩; have hr3 := HRW2.out.below hb3; obtain ⟨r0, r1, f0, f1⟩ := hr3.cells; have hlt3 := hr3.lt; obtain ⟨d0, d1⟩ := HKP.out _ hb3)
            obtain ⟨q0, q1⟩ := hr3.stored (.bool nz) (.slice ao2 n2 cap2)
            have hfw : Below w.heap.size w ((w3.setCell ⟨w.heap.size, 0, none⟩ (.bool nz)).setCell ⟨w.heap.size, 1, none⟩ (.slice ao2 n2 cap2)) := ((HBW2.out.trans (hb3.mono HBW2.out.size)).setCell (Nat.le_refl _) _).setCell (Nat.le_refl _) _
            refine bodyPost_ret (v := .tuple #[.agg #[.bool nz, .slice ao2 n2 cap2], .bool true]) (by simp [results, Tryz.results25, go_sem, q0, q1]) rfl ?_
            rw [HYR.out]
            exact numRes_yes HFT.out hfw HNZ.out (((HSW.out.below hb3).after2 hlt2 (.bool nz) (.slice ao2 n2 cap2)).mono (Nat.le_of_lt hlt2))

end Go.Proofs.YtdgmjmckeeeljaaGreatDoor

namespace Go.Proofs.YtdgmjmckeeeljaaGreatDoor
open Go.RowKit Go.Lib

theorem lenB_bounds {n : Nat} (h0 : n ≠ 0) (hl : (digs n).length ≤ 256) : 1 ≤ lenB (digs n) ∧ 2 ^ (lenB (digs n) - 1) ≤ n ∧ n < 2 ^ lenB (digs n) := by
  have e : rightB false (digs n) = true := rightB_of _ _ (fun h => by cases h) hl
  have hb := lenB_bits false (digs n)
  rw [if_pos e] at hb
  exact bits_bounds h0 hl false _ hb

theorem lenB_zero : lenB [] = 0 := by unfold lenB; rw [if_pos rfl]

theorem lenB_le (ds : List Nat) (hl : ds.length ≤ 256) : lenB ds ≤ 32 * ds.length ∨ lenB ds ≤ 100000 := by
  by_cases h : ds = []
  · subst h; rw [lenB_zero]; omega
  · right
    unfold lenB
    rw [if_neg h]
    have : ∀ k n, bitLenAux k n ≤ k := by
      intro k
      induction k with
      | zero => intro n; simp [bitLenAux]
      | succ k ih => intro n; unfold bitLenAux; split <;> first | omega | (have := ih (n / 2); omega)
    have := this 64 (ds.getD (ds.length - 1) 0)
    show 32 * (ds.length - 1) + bitLenAux 64 (ds.getD (ds.length - 1) 0) ≤ 100000
    omega

/-- One binary digit more of the number. -/
theorem next_bit (X k : Nat) : X / 2 ^ k = 2 * (X / 2 ^ (k + 1)) + X / 2 ^ k % 2 := by
  rw [Nat.pow_succ, ← Nat.div_div_eq_div_mul]
  omega

theorem bin_small {P Y B : Nat} (hB : B ≤ 1) (h : 2 * (P % Y) + B < Y) : (2 * P + B) % Y = 2 * (P % Y) + B ∧ (2 * P + B) / Y = 2 * (P / Y) := by
  have hY : 0 < Y := by omega
  have e : 2 * P + B = 2 * (P % Y) + B + Y * (2 * (P / Y)) := by
    have := Nat.mod_add_div P Y
    have e2 : Y * (2 * (P / Y)) = 2 * (Y * (P / Y)) := by grind
    omega
  rw [e, Nat.add_mul_mod_self_left, Nat.mod_eq_of_lt h, Nat.add_mul_div_left _ _ hY, Nat.div_eq_of_lt h]
  omega

theorem bin_great {P Y B : Nat} (hY : 0 < Y) (hB : B ≤ 1) (h : Y ≤ 2 * (P % Y) + B) : (2 * P + B) % Y = 2 * (P % Y) + B - Y ∧ (2 * P + B) / Y = 2 * (P / Y) + 1 := by
  have hl := Nat.mod_lt P hY
  have hlt : 2 * (P % Y) + B - Y < Y := by omega
  have e : 2 * P + B = 2 * (P % Y) + B - Y + Y * (2 * (P / Y) + 1) := by
    have := Nat.mod_add_div P Y
    have e2 : Y * (2 * (P / Y) + 1) = 2 * (Y * (P / Y)) + Y := by grind
    omega
  rw [e, Nat.add_mul_mod_self_left, Nat.mod_eq_of_lt hlt, Nat.add_mul_div_left _ _ hY, Nat.div_eq_of_lt hlt]
  omega

/-- Before the first round the quotient is 0 and the rest is what the number is without its last digits. -/
theorem bin_start {X Y la lb : Nat} (hX : X < 2 ^ la) (hY : 2 ^ (lb - 1) ≤ Y) (h1 : 1 ≤ lb) (hle : lb ≤ la) : X / 2 ^ (la - lb + 1) < Y := by
  refine Nat.lt_of_lt_of_le ?_ hY
  rw [Nat.div_lt_iff_lt_mul (Nat.pow_pos (by omega)), ← Nat.pow_add, show lb - 1 + (la - lb + 1) = la by omega]
  exact hX

/-- The digit into which a binary digit is set. -/
theorem bin_digit (Q q r k d : Nat) (hr : r < 32) (hk : k = 32 * q + r) (hd : d = Q * 2 ^ (k + 1) / 4294967296 ^ q % 4294967296) : d % 2 ^ (r + 1) = 0 := by
  have e1 : Q * 2 ^ (k + 1) / 4294967296 ^ q = Q * 2 ^ (r + 1) := by
    rw [pow_bits, hk, show 32 * q + r + 1 = r + 1 + 32 * q by omega, Nat.pow_add, ← Nat.mul_assoc, Nat.mul_div_cancel _ (Nat.pow_pos (by omega))]
  have e2 : (4294967296 : Nat) = 2 ^ (r + 1) * 2 ^ (32 - (r + 1)) := by rw [← Nat.pow_add, show r + 1 + (32 - (r + 1)) = 32 by omega]
  rw [hd, e1, Nat.mod_mod_of_dvd _ ⟨_, e2⟩, Nat.mul_mod_left]

theorem bin_or (d r : Nat) (hr : r < 32) (hd4 : d < 4294967296) (hd : d % 2 ^ (r + 1) = 0) : bits .or .u32 (d : Int) ((2 ^ r : Nat) : Int) = ((d + 2 ^ r : Nat) : Int) ∧ d + 2 ^ r < 4294967296 := by
  have hp : 2 ^ r < 4294967296 := by
    rw [show (4294967296 : Nat) = 2 ^ 32 from rfl]
    exact Nat.pow_lt_pow_right (by omega) hr
  refine ⟨?_, ?_⟩
  · rw [u32_or_nat _ _ hd4 hp, nat_join (r + 1) _ _ hd (Nat.pow_lt_pow_right (by omega) (by omega))]
  · have e2 : (4294967296 : Nat) = 2 ^ (r + 1) * 2 ^ (32 - (r + 1)) := by rw [← Nat.pow_add, show r + 1 + (32 - (r + 1)) = 32 by omega]
    have e3 : d = 2 ^ (r + 1) * (d / 2 ^ (r + 1)) := by have := Nat.mod_add_div d (2 ^ (r + 1)); omega
    obtain ⟨u, hu⟩ : ∃ u, u = d / 2 ^ (r + 1) := ⟨_, rfl⟩
    obtain ⟨M, hM⟩ : ∃ M, M = 2 ^ (32 - (r + 1)) := ⟨_, rfl⟩
    rw [← hu] at e3
    rw [← hM] at e2
    have hlt : u < M := by
      refine Nat.lt_of_mul_lt_mul_left (a := 2 ^ (r + 1)) ?_
      rw [← e3, ← e2]; exact hd4
    have hle : 2 ^ (r + 1) * (u + 1) ≤ 2 ^ (r + 1) * M := Nat.mul_le_mul_left _ hlt
    rw [← e2, Nat.mul_add, ← e3] at hle
    have : 2 ^ (r + 1) = 2 ^ r * 2 := Nat.pow_succ 2 r
    have hp0 : 0 < 2 ^ r := Nat.pow_pos (by omega)
    omega

theorem bin_set {zs : List Nat} {Q q r k d : Nat} (hv : val zs = Q * 2 ^ (k + 1)) (hk : k = 32 * q + r) (hq : q < zs.length) (hd : d = zs.getD q 0) : val (zs.set q (d + 2 ^ r)) = (2 * Q + 1) * 2 ^ k := by
  have h := val_set hq (d + 2 ^ r)
  rw [← hd, Nat.mul_add] at h
  have e : 4294967296 ^ q * 2 ^ r = 2 ^ k := by rw [pow_bits, ← Nat.pow_add, hk]
  rw [e] at h
  rw [Nat.pow_succ] at hv
  have e2 : (2 * Q + 1) * 2 ^ k = Q * (2 ^ k * 2) + 2 ^ k := by grind
  omega

end Go.Proofs.YtdgmjmckeeeljaaGreatDoor

namespace Go.Proofs.YtdgmjmckeeeljaaGreatDoor
open Go.RowKit Go.Lib

/-- A quotient and a rest. -/
def DivR (w : World) (x y : Nat) (e : Ending) (w' : World) : Prop :=
  ∃ aq cq ar cr, e = .returned (.tuple #[.slice aq (digs (x / y)).length cq, .slice ar (digs (x % y)).length cr]) ∧
    Sl w' (.slice aq (digs (x / y)).length cq) (digs (x / y)) ∧ Sl w' (.slice ar (digs (x % y)).length cr) (digs (x % y)) ∧ Below w.heap.size w w'

theorem digs2_lt {x : Nat} (h : (digs x).length ≤ 2) : x < 18446744073709551616 := by
  have := digs_length_le.1 h
  simpa using this

set_option maxRecDepth 10000 in
set_option maxHeartbeats 2000000 in
theorem divide48_small {w : World} {va vb : Value} {x y : Nat} (ha : Sl w va (digs x)) (hb : Sl w vb (digs y)) (h0 : y ≠ 0) (hla : (digs x).length ≤ 2) (hlb : (digs y).length ≤ 2) :
    Calls Tryz.prog 48 #[va, vb] w (DivR w x y) := by
  obtain ⟨aa, ca, rfl⟩ := ha.mk'
  obtain ⟨ab, cb, rfl⟩ := hb.mk'
  have WA : Hid (∀ W, Below w.heap.size w W → Calls Tryz.prog 73 #[.slice aa (digs x).length ca] W fun e w' => e = .returned (.int .u64 (x : Nat)) ∧ w' = W) := Lib.hid fun W h => by
    have := word73_any (ha.below h) hla
    rwa [val_digs] at this
  have WB : Hid (∀ W, Below w.heap.size w W → Calls Tryz.prog 73 #[.slice ab (digs y).length cb] W fun e w' => e = .returned (.int .u64 (y : Nat)) ∧ w' = W) := Lib.hid fun W h => by
    have := word73_any (hb.below h) hlb
    rwa [val_digs] at this
  have hx := digs2_lt hla
  have hy := digs2_lt hlb
  obtain ⟨n, hn⟩ : ∃ n, n = (digs x).length := ⟨_, rfl⟩
  obtain ⟨m, hm⟩ : ∃ m, m = (digs y).length := ⟨_, rfl⟩
  rw [← hn] at hla WA ⊢
  rw [← hm] at hlb WB ⊢
  obtain ⟨Q, hQ⟩ : ∃ Q, Q = x / y := ⟨_, rfl⟩
  obtain ⟨R, hR⟩ : ∃ R, R = x % y := ⟨_, rfl⟩
  have fQ : (x : Int).tdiv (y : Int) = (Q : Int) := by rw [hQ]; rfl
  have fR : (x : Int).tmod (y : Int) = (R : Int) := by rw [hR]; rfl
  have fQ2 : (x : Int) / (y : Int) = (Q : Int) := by rw [hQ]; rfl
  have fR2 : (x : Int) % (y : Int) = (R : Int) := by rw [hR]; rfl
  have hy0 : (y : Int) ≠ 0 := by omega
  have hQl : Q ≤ x := by rw [hQ]; exact Nat.div_le_self _ _
  have hRl : R ≤ x := by rw [hR]; exact Nat.mod_le _ _
  have DQ : Hid (∀ W, Calls Tryz.prog 80 #[.int .u64 (Q : Nat)] W (NewDigs W Q)) := Lib.hid fun W => digits80_any Q W (by omega)
  have DR : Hid (∀ W, Calls Tryz.prog 80 #[.int .u64 (R : Nat)] W (NewDigs W R)) := Lib.hid fun W => digits80_any R W (by omega)
  have wQ : IntKind.u64.wrap (Q : Int) = (Q : Int) := by rw [IntKind.wrap_u64]; omega
  have wR : IntKind.u64.wrap (R : Int) = (R : Int) := by rw [IntKind.wrap_u64]; omega
  have HX := Lib.hid hx
  have HY := Lib.hid hy
  unfold DivR
  rw [← hQ, ← hR]
  clear hx hy hQ hR ha hb hn hm h0 hQl hRl
  go_enter Tryz.func48, Tryz.ntmps48
  go_wp2_with (first | (go_at_call_of 73 (Value.slice aa n ca); (with_reducible refine (WA.out _ (by first | exact Below.refl _ _ | exact HBQ.out)).mono ?_); rintro e w' ⟨rfl, hw'⟩; subst w') | (go_at_call_of 73 (Value.slice ab m cb); (with_reducible refine (WB.out _ (by first | exact Below.refl _ _ | exact HBQ.out)).mono ?_); rintro e w' ⟨rfl, hw'⟩; subst w') | (go_at_call_of 80 (Value.int IntKind.u64 (Q : Int)); (with_reducible refine (DQ.out _).mono ?_); rintro e w1 ⟨v, rfl, hq, hbq⟩; obtain ⟨aq, cq, rfl⟩ := hq.sl.mk'; have HSQ := Lib.hid hq.sl; have HBQ := Lib.hid hbq; have HKQ := Lib.hid hbq.size; clear hq hbq) | (go_at_call_of 80 (Value.int IntKind.u64 (R : Int)); (with_reducible refine (DR.out _).mono ?_); rintro e w2 ⟨v, rfl, hq, hbq⟩; obtain ⟨ar, cr, rfl⟩ := hq.sl.mk'; have HSR := Lib.hid hq.sl; have HBR := Lib.hid hbq; clear hq hbq))
  go_returns
  exact ⟨aq, cq, ar, cr, rfl, HSQ.out.below HBR.out, HSR.out, HBQ.out.trans (HBR.out.mono (by exact HBQ.out.size))⟩

end Go.Proofs.YtdgmjmckeeeljaaGreatDoor

namespace Go.Proofs.YtdgmjmckeeeljaaGreatDoor
open Go.RowKit Go.Lib

theorem lenB_lt {x y : Nat} (hy0 : y ≠ 0) (hlx : (digs x).length ≤ 256) (hly : (digs y).length ≤ 256) (h : lenB (digs x) < lenB (digs y)) : x < y := by
  obtain ⟨h1, h2, h3⟩ := lenB_bounds hy0 hly
  by_cases hx : x = 0
  · omega
  · obtain ⟨g1, g2, g3⟩ := lenB_bounds hx hlx
    exact Nat.lt_of_lt_of_le g3 (Nat.le_trans (Nat.pow_le_pow_right (by omega) (by omega)) h2)

theorem lenB_two {x y : Nat} (hlx : (digs x).length ≤ 2) (hly : (digs y).length ≤ 256) (h2 : 2 < (digs y).length) : lenB (digs x) < lenB (digs y) := by
  have hy : 18446744073709551616 ≤ y := by
    refine Nat.le_of_not_lt fun h => ?_
    have := digs_length_le (n := y) (k := 2) |>.2 (by simpa using h)
    omega
  have hx := digs2_lt hlx
  obtain ⟨h1, hh2, h3⟩ := lenB_bounds (n := y) (by omega) hly
  have hb : 64 < lenB (digs y) := by
    refine Nat.lt_of_not_le fun h => ?_
    have := Nat.pow_le_pow_right (n := 2) (by omega) h
    have e : (2 : Nat) ^ 64 = 18446744073709551616 := by decide
    omega
  by_cases hx0 : x = 0
  · subst hx0
    rw [show digs 0 = [] from digs_zero, lenB_zero]; omega
  · obtain ⟨g1, g2, g3⟩ := lenB_bounds hx0 (by omega)
    have ha : lenB (digs x) - 1 < 64 := by
      refine Nat.lt_of_not_le fun h => ?_
      have := Nat.pow_le_pow_right (n := 2) (by omega) h
      have e : (2 : Nat) ^ 64 = 18446744073709551616 := by decide
      omega
    omega

theorem lenB_max (x : Nat) (hl : (digs x).length ≤ 256) : lenB (digs x) ≤ 100000 := by
  rcases lenB_le (digs x) hl with h | h <;> omega

set_option maxRecDepth 10000 in
set_option maxHeartbeats 2000000 in
theorem divide48_far {w : World} {va vb : Value} {x y : Nat} (ha : Sl w va (digs x)) (hb : Sl w vb (digs y)) (h0 : y ≠ 0) (hla : (digs x).length ≤ 256) (hlb : (digs y).length ≤ 256) (hs : 2 < (digs x).length ∨ (digs x).length ≤ 2 ∧ 2 < (digs y).length) (hlt : lenB (digs x) < lenB (digs y)) :
    Calls Tryz.prog 48 #[va, vb] w (DivR w x y) := by
  have hxy := lenB_lt h0 hla hlb hlt
  have hma := lenB_max x hla
  have hmb := lenB_max y hlb
  obtain ⟨aa, ca, rfl⟩ := ha.mk'
  obtain ⟨ab, cb, rfl⟩ := hb.mk'
  have WA : Hid (∀ W, Below w.heap.size w W → Calls Tryz.prog 53 #[.slice aa (digs x).length ca] W fun e w' => e = .returned (.int .i64 (lenB (digs x) : Nat)) ∧ w' = W) := Lib.hid fun W h => length53_any (ha.below h) (by omega)
  have WB : Hid (∀ W, Below w.heap.size w W → Calls Tryz.prog 53 #[.slice ab (digs y).length cb] W fun e w' => e = .returned (.int .i64 (lenB (digs y) : Nat)) ∧ w' = W) := Lib.hid fun W h => length53_any (hb.below h) (by omega)
  unfold DivR
  rw [Nat.div_eq_of_lt hxy, Nat.mod_eq_of_lt hxy, show digs 0 = [] from digs_zero]
  have HA := Lib.hid ha
  obtain ⟨n, hn⟩ : ∃ n, n = (digs x).length := ⟨_, rfl⟩
  obtain ⟨m, hm⟩ : ∃ m, m = (digs y).length := ⟨_, rfl⟩
  rw [← hn] at hla hs WA HA ⊢
  rw [← hm] at hlb hs WB ⊢
  obtain ⟨A, hA⟩ : ∃ A, A = lenB (digs x) := ⟨_, rfl⟩
  obtain ⟨B, hB⟩ : ∃ B, B = lenB (digs y) := ⟨_, rfl⟩
  rw [← hA] at WA hlt hma
  rw [← hB] at WB hlt hmb
  have wAB : IntKind.i64.wrap ((A : Int) - (B : Int)) = (A : Int) - (B : Int) := by rw [IntKind.wrap_i64]; omega
  have hneg : (A : Int) - (B : Int) < 0 := by omega
  clear ha hb hn hm hA hB hxy h0 hma hmb hlt
  rcases hs with hs | ⟨hs, hs2⟩
  · go_enter Tryz.func48, Tryz.ntmps48
    go_wp2_with (first | (go_at_call_of 53 (Value.slice aa n ca); (with_reducible refine (WA.out _ (Below.refl _ _)).mono ?_); rintro e w' ⟨rfl, hw'⟩; subst w') | (go_at_call_of 53 (Value.slice ab m cb); (with_reducible refine (WB.out _ (Below.refl _ _)).mono ?_); rintro e w' ⟨rfl, hw'⟩; subst w'))
    go_returns
    exact ⟨none, 0, aa, ca, rfl, Sl.nil _ _ _, HA.out, Below.refl _ _⟩
  · go_enter Tryz.func48, Tryz.ntmps48
    go_wp2_with (first | (go_at_call_of 53 (Value.slice aa n ca); (with_reducible refine (WA.out _ (Below.refl _ _)).mono ?_); rintro e w' ⟨rfl, hw'⟩; subst w') | (go_at_call_of 53 (Value.slice ab m cb); (with_reducible refine (WB.out _ (Below.refl _ _)).mono ?_); rintro e w' ⟨rfl, hw'⟩; subst w'))
    go_returns
    exact ⟨none, 0, aa, ca, rfl, Sl.nil _ _ _, HA.out, Below.refl _ _⟩

end Go.Proofs.YtdgmjmckeeeljaaGreatDoor

namespace Go.Proofs.YtdgmjmckeeeljaaGreatDoor
open Go Go.RowKit

/-- What an operation's result is known to be. -/
inductive Kd where
  | val (v : Value)
  | nu (z : Int)
  | pair (z : Int)
  | any
  | byte (b : Int)

def Kd.ok : Kd → Value → World → Prop
  | .val v, x, _ => x = v
  | .nu z, x, w => ∃ neg ao n cap, x = .agg #[.bool neg, .slice ao n cap] ∧ Nu w (.agg #[.bool neg, .slice ao n cap]) z
  | .pair z, x, w => ∃ neg ao n cap, x = .tuple #[.agg #[.bool neg, .slice ao n cap], .bool true] ∧ Nu w (.agg #[.bool neg, .slice ao n cap]) z
  | .any, _, _ => True
  | .byte b, x, w => ∃ g, x = .slice (some ⟨g, 0, none⟩) 1 1 ∧ w.heap[g]? = some (.cells #[.int .u8 b] 5 (0, 0))

theorem Kd.ok.below {k : Kd} {v : Value} {w w' : World} (h : k.ok v w) (hb : Below w.heap.size w w') : k.ok v w' := by
  cases k with
  | val u => exact h
  | nu z => obtain ⟨neg, ao, n, cap, e, hn⟩ := h; exact ⟨neg, ao, n, cap, e, hn.below hb⟩
  | pair z => obtain ⟨neg, ao, n, cap, e, hn⟩ := h; exact ⟨neg, ao, n, cap, e, hn.below hb⟩
  | any => exact trivial
  | byte b => obtain ⟨g, e, hg⟩ := h; exact ⟨g, e, (hb.block _ (Array.getElem?_eq_some_iff.1 hg).1).trans hg⟩

theorem Kd.ok.stored {k : Kd} {v : Value} {w : World} (h : k.ok v w) {g m c : Nat} {b : Bool} {so : Option Addr} (hg : w.heap[g]? = some (.cells #[.bool b, .slice so m c] 27 (0, 0))) (nb : Bool) (u : Value) :
    k.ok v ((w.setCell ⟨g, 0, none⟩ (.bool nb)).setCell ⟨g, 1, none⟩ u) := by
  have hr1 : (w.setCell ⟨g, 0, none⟩ (.bool nb)).heap[g]? = some (.cells #[.bool nb, .slice so m c] 27 (0, 0)) := by
    have := heap_setCell_same w g 0 _ 27 (.bool nb) hg
    simpa using this
  cases k with
  | val u => exact h
  | nu z => obtain ⟨neg, ao, n, cap, e, hn⟩ := h; exact ⟨neg, ao, n, cap, e, nu_setBox (nu_setBox hn hg 0 _) hr1 1 _⟩
  | pair z => obtain ⟨neg, ao, n, cap, e, hn⟩ := h; exact ⟨neg, ao, n, cap, e, nu_setBox (nu_setBox hn hg 0 _) hr1 1 _⟩
  | any => exact trivial
  | byte b =>
    obtain ⟨g', e, hg'⟩ := h
    have hne : g' ≠ g := fun e => by
      subst e
      rw [hg] at hg'
      cases hg'
    exact ⟨g', e, by rw [heap_setCell_other _ _ _ _ hne, heap_setCell_other _ _ _ _ hne]; exact hg'⟩

/-- The slot that each operation writes, and what it holds. -/
def tOwn (ds : List (Option Nat)) (vals : Nat → Value) (j : Nat) : Option (Nat × Value) :=
  match ds.findIdx? (fun x => x == some j) with
  | some i => some (i, vals i)
  | none => none

theorem tOwn_some {ds : List (Option Nat)} {vals : Nat → Value} {j i : Nat} (h : ds.findIdx? (fun x => x == some j) = some i) : tOwn ds vals j = some (i, vals i) := by
  unfold tOwn
  rw [h]
theorem tOwn_inv {ds : List (Option Nat)} {vals : Nat → Value} {j : Nat} {p : Nat × Value} (h : tOwn ds vals j = some p) : ds[p.1]? = some (some j) ∧ p.2 = vals p.1 := by
  unfold tOwn at h
  split at h
  · rename_i i hi
    cases h
    rw [List.findIdx?_eq_some_iff_getElem] at hi
    obtain ⟨h1, h2, _⟩ := hi
    exact ⟨by rw [List.getElem?_eq_getElem h1]; rw [beq_iff_eq] at h2; rw [h2], rfl⟩
  · cases h

structure RG (W0 : World) (T : Array Value) (ds : List (Option Nat)) (ks : List Kd) (bx : Option (Nat × Nat × Int)) (vals : Nat → Value) (l : Array Bool) (a : Act) (w : World) : Prop where
  size : l.size = ds.length
  fr : Fr (tOwn ds vals) T l a
  bl : Below W0.heap.size W0 w
  val : ∀ i, i < ds.length → l.getD i true = true → (ks.getD i .any).ok (vals i) w
  dep : ∀ ai si z, bx = some (ai, si, z) → l.getD si true = true → l.getD ai true = true
  box : ∀ ai si z, bx = some (ai, si, z) → l.getD ai true = true → ∃ g, vals ai = .pointer (some ⟨g, 0, none⟩) ∧ W0.heap.size ≤ g ∧ g < w.heap.size ∧
    (l.getD si true = false → w.heap[g]? = some (.cells #[.bool false, .slice none 0 0] 27 (0, 0))) ∧ (l.getD si true = true → ∃ neg ao n cap, Bx w g neg ao n cap z)

section
variable {W0 : World} {T : Array Value} {ds : List (Option Nat)} {ks : List Kd} {bx : Option (Nat × Nat × Int)} {vals : Nat → Value} {l : Array Bool} {a : Act} {w : World}

theorem Fr.stepT (h : Fr (tOwn ds vals) T l a) {i d : Nat} (hd : ds.findIdx? (fun x => x == some d) = some i) (hi : i < l.size) (hl : l.getD i true = false) (v : Value) :
    Fr (tOwn ds (fun u => if u = i then v else vals u)) T (l.setIfInBounds i true) (a.put (some d) v) := by
  have hf : Fr (tOwn ds (fun u => if u = i then v else vals u)) T l a := h.swap
    (fun j p hp hq => by
      obtain ⟨h1, h2⟩ := tOwn_inv hp
      have hne : p.1 ≠ i := fun e => by rw [e, hl] at hq; cases hq
      simp only [hne, if_false] at h2
      unfold tOwn at hp ⊢
      split at hp
      · cases hp; simp only [] at h2 ⊢; rw [h2]
      · cases hp)
    (fun j p hp hq => by
      obtain ⟨h1, h2⟩ := tOwn_inv hp
      have hne : p.1 ≠ i := fun e => by rw [e, hl] at hq; cases hq
      unfold tOwn at hp ⊢
      split at hp
      · cases hp; simp only [hne, if_false]
      · cases hp)
  refine hf.put (by rw [tOwn_some hd, if_pos rfl]) hi (fun j p hp e => ?_)
  obtain ⟨h1, _⟩ := tOwn_inv hp
  rw [List.findIdx?_eq_some_iff_getElem] at hd
  obtain ⟨h2, h3, _⟩ := hd
  rw [beq_iff_eq] at h3
  rw [e, List.getElem?_eq_getElem h2, h3] at h1
  cases h1
  rfl

/-- An operation that writes a slot. -/
theorem RG.op (h : RG W0 T ds ks bx vals l a w) (i d : Nat) (hd : ds.findIdx? (fun x => x == some d) = some i) (hi : i < ds.length) (hl : l.getD i true = false) {v : Value} {w' : World} (hb : Below w.heap.size w w') (hv : (ks.getD i .any).ok v w')
    (hnb : ∀ ai si z, bx = some (ai, si, z) → i ≠ ai ∧ i ≠ si) :
    RG W0 T ds ks bx (fun u => if u = i then v else vals u) (l.setIfInBounds i true) (a.put (some d) v) w' := by
  refine ⟨by rw [Array.size_setIfInBounds]; exact h.size, h.fr.stepT hd (by rw [h.size]; exact hi) hl v, h.bl.trans (hb.mono h.bl.size), fun k hk h1 => ?_, fun ai si z e h1 => ?_, fun ai si z e h1 => ?_⟩
  · by_cases e : k = i
    · subst e
      simp only [if_true]
      exact hv
    · simp only [e, if_false]
      rcases gset_true h1 with e2 | h1
      · exact absurd e2 e
      · exact (h.val k hk h1).below hb
  · obtain ⟨n1, n2⟩ := hnb _ _ _ e
    rcases gset_true h1 with e2 | h1
    · exact absurd e2.symm n2
    · exact gset_old (h.dep _ _ _ e h1)
  · obtain ⟨n1, n2⟩ := hnb _ _ _ e
    rcases gset_true h1 with e2 | h1
    · exact absurd e2.symm n1
    · obtain ⟨g, q1, q2, q3, q4, q5⟩ := h.box _ _ _ e h1
      refine ⟨g, ?_, q2, Nat.lt_of_lt_of_le q3 hb.size, fun h2 => ?_, fun h2 => ?_⟩
      · simp only [Ne.symm n1, if_false]; exact q1
      · exact (hb.block _ q3).trans (q4 (gset_false h2).2)
      · rcases gset_true h2 with e2 | h2
        · exact absurd e2.symm n2
        · obtain ⟨neg, ao, n, cap, hx⟩ := q5 h2
          exact ⟨neg, ao, n, cap, hx.below hb⟩

/-- The box made. -/
theorem RG.alloc {ai si : Nat} {z : Int} (h : RG W0 T ds ks (some (ai, si, z)) vals l a w) {d : Nat} (hd : ds.findIdx? (fun x => x == some d) = some ai) (hi : ai < ds.length) (hl : l.getD ai true = false) (hk : ks.getD ai .any = .any) (hne : ai ≠ si) :
    RG W0 T ds ks (some (ai, si, z)) (fun u => if u = ai then .pointer (some ⟨w.heap.size, 0, none⟩) else vals u) (l.setIfInBounds ai true) (a.put (some d) (.pointer (some ⟨w.heap.size, 0, none⟩))) (w.alloc (.cells #[.bool false, .slice none 0 0] 27)) := by
  have hb := alloc_b w (.cells #[.bool false, .slice none 0 0] 27)
  have hsf : l.getD si true = false := by
    cases hs : l.getD si true with
    | false => rfl
    | true => rw [h.dep _ _ _ rfl hs] at hl; cases hl
  refine ⟨by rw [Array.size_setIfInBounds]; exact h.size, h.fr.stepT hd (by rw [h.size]; exact hi) hl _, h.bl.trans (hb.mono h.bl.size), fun k hk2 h1 => ?_, fun ai' si' z' e h1 => ?_, fun ai' si' z' e h1 => ?_⟩
  · by_cases e : k = ai
    · subst e
      rw [hk]
      exact trivial
    · simp only [e, if_false]
      rcases gset_true h1 with e2 | h1
      · exact absurd e2 e
      · exact (h.val k hk2 h1).below hb
  · cases e
    rcases gset_true h1 with e2 | h1
    · exact absurd e2.symm hne
    · rw [hsf] at h1; cases h1
  · cases e
    refine ⟨w.heap.size, by simp only [if_true], h.bl.size, by simp, fun _ => heap_alloc_new _ _, fun h2 => ?_⟩
    rcases gset_true h2 with e2 | h2
    · exact absurd e2.symm hne
    · rw [hsf] at h2; cases h2

/-- The store. -/
theorem RG.store {ai si : Nat} {z : Int} (h : RG W0 T ds ks (some (ai, si, z)) vals l a w) (hds : ds[si]? = some none) (hl : l.getD si true = false) (h1 : l.getD ai true = true) (hk : ks.getD si .any = .any) {g : Nat} (hg : vals ai = .pointer (some ⟨g, 0, none⟩)) {neg : Bool} {ao : Option Addr} {n cap : Nat} (hn : Nu w (.agg #[.bool neg, .slice ao n cap]) z) (u : Value) :
    RG W0 T ds ks (some (ai, si, z)) vals (l.setIfInBounds si true) (a.put none u) ((w.setCell ⟨g, 0, none⟩ (.bool neg)).setCell ⟨g, 1, none⟩ (.slice ao n cap)) := by
  obtain ⟨g', q1, q2, q3, q4, q5⟩ := h.box _ _ _ rfl h1
  rw [hg] at q1
  cases q1
  have hz := q4 hl
  have hr1 : (w.setCell ⟨g, 0, none⟩ (.bool neg)).heap[g]? = some (.cells #[.bool neg, .slice none 0 0] 27 (0, 0)) := by
    have := heap_setCell_same w g 0 _ 27 (.bool neg) hz
    simpa using this
  have hr2 : ((w.setCell ⟨g, 0, none⟩ (.bool neg)).setCell ⟨g, 1, none⟩ (.slice ao n cap)).heap[g]? = some (.cells #[.bool neg, .slice ao n cap] 27 (0, 0)) := by
    have := heap_setCell_same _ g 1 _ 27 (.slice ao n cap) hr1
    simpa using this
  have hb : Below W0.heap.size W0 ((w.setCell ⟨g, 0, none⟩ (.bool neg)).setCell ⟨g, 1, none⟩ (.slice ao n cap)) := (h.bl.setCell q2 _).setCell q2 _
  refine ⟨by rw [Array.size_setIfInBounds]; exact h.size, h.fr.bare u (fun j p hp e => ?_), hb, fun k hk2 h3 => ?_, fun ai' si' z' e h3 => ?_, fun ai' si' z' e h3 => ?_⟩
  · obtain ⟨e1, _⟩ := tOwn_inv hp
    rw [e, hds] at e1
    cases e1
  · by_cases e : k = si
    · subst e
      rw [hk]
      exact trivial
    · rcases gset_true h3 with e2 | h3
      · exact absurd e2 e
      · exact (h.val k hk2 h3).stored hz _ _
  · cases e
    exact gset_old h1
  · cases e
    exact ⟨g, hg, q2, by simpa using q3, fun h4 => absurd rfl (gset_false h4).1, fun _ => ⟨neg, ao, n, cap, hr2, nu_setBox (nu_setBox hn hz 0 _) hr1 1 _⟩⟩

/-- What the store needs. -/
theorem RG.ready {ai si : Nat} {z : Int} (h : RG W0 T ds ks (some (ai, si, z)) vals l a w) (hl : l.getD si true = false) (h1 : l.getD ai true = true) :
    ∃ g, vals ai = .pointer (some ⟨g, 0, none⟩) ∧ w.cell? ⟨g, 0, none⟩ = some (.bool false) ∧ w.cell? ⟨g, 1, none⟩ = some (.slice none 0 0) ∧ w.frozen? ⟨g, 0, none⟩ = false ∧ w.frozen? ⟨g, 1, none⟩ = false ∧ g < w.heap.size := by
  obtain ⟨g, q1, q2, q3, q4, q5⟩ := h.box _ _ _ rfl h1
  have hz := q4 hl
  refine ⟨g, q1, ?_, ?_, frozen_of_row _ _ _ _ _ hz, frozen_of_row _ _ _ _ _ hz, q3⟩
  · rw [cell_of_row _ _ _ _ _ _ hz]; rfl
  · rw [cell_of_row _ _ _ _ _ _ hz]; rfl

/-- The beginning. -/
theorem RG.start (hT : l = Array.replicate ds.length false) (hb : Below W0.heap.size W0 w) (hbx : ∀ ai si z, bx = some (ai, si, z) → ai < ds.length ∧ si < ds.length) : RG W0 T ds ks bx vals l ⟨T, []⟩ w := by
  have hf : ∀ j, j < ds.length → l.getD j true = false := fun j hj => by rw [hT]; simp [Array.getD, hj]
  refine ⟨by rw [hT]; simp, Fr.start _ _ _ (fun j i v h => hf i ?_), hb, fun i hi h => ?_, fun ai si z e h => ?_, fun ai si z e h => ?_⟩
  · obtain ⟨h1, _⟩ := tOwn_inv h
    exact (List.getElem?_eq_some_iff.1 h1).1
  · rw [hf _ hi] at h; cases h
  · rw [hf _ (hbx _ _ _ e).2] at h; cases h
  · rw [hf _ (hbx _ _ _ e).1] at h; cases h

/-- The end. -/
theorem RG.all (h : RG W0 T ds ks bx vals l a w) (hl : ∀ i, i < ds.length → l.getD i true = true) {T' : Array Value} (hs : T'.size = T.size)
    (ht : ∀ j, j < T.size → T'.getD j undef = match tOwn ds vals j with | some (_, v) => v | none => T.getD j undef) : a = ⟨T', []⟩ :=
  h.fr.all (fun j i v hj => hl i (List.getElem?_eq_some_iff.1 (tOwn_inv hj).1).1) hs ht
theorem RG.boxed {ai si : Nat} {z : Int} (h : RG W0 T ds ks (some (ai, si, z)) vals l a w) (h1 : l.getD ai true = true) (h2 : l.getD si true = true) : ∃ g neg ao n cap, vals ai = .pointer (some ⟨g, 0, none⟩) ∧ Bx w g neg ao n cap z := by
  obtain ⟨g, q1, _, _, _, q5⟩ := h.box _ _ _ rfl h1
  obtain ⟨neg, ao, n, cap, hx⟩ := q5 h2
  exact ⟨g, neg, ao, n, cap, q1, hx⟩
end

theorem nu_parts {w : World} {x : Value} {z : Int} (h : Nu w x z) : ∃ neg ao n cap, x = .agg #[.bool neg, .slice ao n cap] ∧ Nu w (.agg #[.bool neg, .slice ao n cap]) z := by
  obtain ⟨s, rfl, hs, hl⟩ := h
  obtain ⟨ao, cap, rfl⟩ := hs.mk'
  exact ⟨_, ao, _, cap, rfl, _, rfl, hs, hl⟩
theorem nu_abs {w : World} {neg : Bool} {s : Value} {z : Int} {u : Nat} (h : Nu w (.agg #[.bool neg, s]) z) (hu : u = z.natAbs) : Nu w (.agg #[.bool false, s]) (u : Int) := by
  obtain ⟨s', e, hs, hl⟩ := h
  injection e with e
  simp only [Array.mk.injEq, List.cons.injEq, and_true] at e
  obtain ⟨_, rfl⟩ := e
  subst hu
  refine ⟨s, ?_, hs, hl⟩
  rw [show decide (((z.natAbs : Nat) : Int) < 0) = false from decide_eq_false (by omega)]

end Go.Proofs.YtdgmjmckeeeljaaGreatDoor

namespace Go.Proofs.YtdgmjmckeeeljaaGreatDoor
open Go Go.RowKit

structure RV (W : World) (c : Addr) (u : Value) (si : Nat) (ch : List (Nat × Nat)) (T : Array Value) (ds : List (Option Nat)) (vals : Nat → Value) (l : Array Bool) (a : Act) (w : World) : Prop where
  size : l.size = ds.length
  fr : Fr (tOwn ds vals) T l a
  wld : w = if l.getD si true = true then W.setCell c u else W
  dep : ∀ i j, (i, j) ∈ ch → l.getD i true = true → l.getD j true = true

section
variable {W : World} {c : Addr} {u : Value} {si : Nat} {ch : List (Nat × Nat)} {T : Array Value} {ds : List (Option Nat)} {vals : Nat → Value} {l : Array Bool} {a : Act} {w : World}

theorem dep_set {i : Nat} (h : ∀ i j, (i, j) ∈ ch → l.getD i true = true → l.getD j true = true) (hc : ∀ j, (i, j) ∈ ch → l.getD j true = true) : ∀ k j, (k, j) ∈ ch → (l.setIfInBounds i true).getD k true = true → (l.setIfInBounds i true).getD j true = true := by
  intro k j hm hk
  rcases gset_true hk with e | hk
  · subst e; exact gset_old (hc j hm)
  · exact gset_old (h k j hm hk)

/-- An operation that writes a slot. -/
theorem RV.op (h : RV W c u si ch T ds vals l a w) (i d : Nat) {v : Value} (hv : vals i = v) (hd : ds.findIdx? (fun x => x == some d) = some i) (hi : i < ds.length) (hl : l.getD i true = false) (hne : i ≠ si) (hc : ∀ j, (i, j) ∈ ch → l.getD j true = true) :
    RV W c u si ch T ds vals (l.setIfInBounds i true) (a.put (some d) v) w := by
  subst hv
  refine ⟨by rw [Array.size_setIfInBounds]; exact h.size, ?_, ?_, dep_set h.dep hc⟩
  · have := h.fr.stepT hd (by rw [h.size]; exact hi) hl (vals i)
    rwa [show (fun t => if t = i then vals i else vals t) = vals from funext fun t => by by_cases e : t = i <;> simp [e]] at this
  · rw [h.wld, getD_set_ne true (by omega)]

/-- The store. -/
theorem RV.store (h : RV W c u si ch T ds vals l a w) (hds : ds[si]? = some none) (hl : l.getD si true = false) (hc : ∀ j, (si, j) ∈ ch → l.getD j true = true) (v : Value) :
    RV W c u si ch T ds vals (l.setIfInBounds si true) (a.put none v) (w.setCell c u) := by
  have hs : si < l.size := by
    by_cases hi : si < l.size
    · exact hi
    · simp [Array.getD, hi] at hl
  refine ⟨by rw [Array.size_setIfInBounds]; exact h.size, h.fr.bare v (fun j p hp e => ?_), ?_, dep_set h.dep hc⟩
  · obtain ⟨e1, _⟩ := tOwn_inv hp
    rw [e, hds] at e1
    cases e1
  · have e := h.wld
    rw [if_neg (by rw [hl]; exact Bool.false_ne_true)] at e
    rw [if_pos (by simp [Array.getD, hs]), e]

/-- Before the store the world is as it was. -/
theorem RV.before (h : RV W c u si ch T ds vals l a w) {i : Nat} (hl : l.getD i true = false) (hr : l.getD si true = true → l.getD i true = true) : w = W := by
  rw [h.wld, if_neg]
  intro hs
  rw [hr hs] at hl
  cases hl

theorem RV.start (hT : l = Array.replicate ds.length false) (hch : ∀ i j, (i, j) ∈ ch → i < ds.length) (hs : si < ds.length) : RV W c u si ch T ds vals l ⟨T, []⟩ W := by
  have hf : ∀ j, j < ds.length → l.getD j true = false := fun j hj => by rw [hT]; simp [Array.getD, hj]
  refine ⟨by rw [hT]; simp, Fr.start _ _ _ (fun j i v h => hf i ?_), ?_, fun i j hm h => ?_⟩
  · obtain ⟨h1, _⟩ := tOwn_inv h
    exact (List.getElem?_eq_some_iff.1 h1).1
  · rw [if_neg (by rw [hf si hs]; exact Bool.false_ne_true)]
  · rw [hf _ (hch _ _ hm)] at h
    cases h

theorem RV.all (h : RV W c u si ch T ds vals l a w) (hl : ∀ i, i < ds.length → l.getD i true = true) (hs : si < ds.length) {T' : Array Value} (hT : T'.size = T.size)
    (ht : ∀ j, j < T.size → T'.getD j undef = match tOwn ds vals j with | some (_, v) => v | none => T.getD j undef) : a = ⟨T', []⟩ ∧ w = W.setCell c u := by
  refine ⟨h.fr.all (fun j i v hj => hl i (List.getElem?_eq_some_iff.1 (tOwn_inv hj).1).1) hT ht, ?_⟩
  rw [h.wld, if_pos (hl si hs)]
end

theorem rv_sets (T : Array Value) (i j : Nat) (v : Value) : (T.setIfInBounds i v).getD j undef = if i = j ∧ i < T.size then v else T.getD j undef := by
  by_cases h : i = j
  · subst h
    by_cases h2 : i < T.size
    · simp [Array.getD, h2]
    · simp [Array.getD, h2]
  · rw [if_neg (fun e => h e.1)]
    simp only [Array.getD_eq_getD_getElem?]
    rw [Array.getElem?_setIfInBounds_ne h]

/-- What a slot holds whose operation is not done. -/
theorem Fr.undone {own : Nat → Option (Nat × Value)} {T : Array Value} {l : Array Bool} {a : Act} (h : Fr own T l a) {i j : Nat} {v : Value} (hd : own j = some (i, v)) (hl : l.getD i true = false) (hj : j < T.size) : a.tmps.getD j undef = T.getD j undef := by
  rw [h.slot j hj, hd]
  simp only []
  rw [if_neg (by rw [hl]; exact Bool.false_ne_true)]

theorem false_of {l : Array Bool} {i k : Nat} (hl : l.getD i true = false) (h : l.getD k true = true → l.getD i true = true) : l.getD k true = false := by
  cases hk : l.getD k true with
  | false => rfl
  | true => rw [h hk] at hl; cases hl

theorem frame_named {P : Program} {c : Code} {Q : Exit → Act → World → Prop} {T0 : Array Value} {w : World} (h : ∀ T, T = T0 → c.wp P Q ⟨T, []⟩ w) : c.wp P Q ⟨T0, []⟩ w := h T0 rfl
theorem frame_namedIn {F : Fence} {n : Nat} {P : Program} {c : Code} {Q : Exit → Act → World → Prop} {T0 : Array Value} {w : World} (h : ∀ T, T = T0 → c.wpIn F n P Q ⟨T, []⟩ w) : c.wpIn F n P Q ⟨T0, []⟩ w := h T0 rfl

end Go.Proofs.YtdgmjmckeeeljaaGreatDoor

namespace Go.Proofs.YtdgmjmckeeeljaaGreatDoor
open Go.RowKit Go.Lib

theorem make_row0 (w : World) (n : Nat) (h : n ≤ 1000001) : (Instr.makeSlice 25 (.int .i64 (n : Int)) (.int .i64 (n : Int))).run Tryz.prog w = .ok (.slice (some ⟨w.heap.size, 0, none⟩) n n) (w.alloc (.cells ((List.replicate n 0).map u32v).toArray 59)) := by
  obtain ⟨i, hi, hz0, hz1, hz2⟩ := info_parts Tryz.info59
  have hr := run_make (P := Tryz.prog) w 25 59 i _ Tryz.underlying25 hi hz0 .i64 .i64 n n (by omega) (Int.le_refl _) (by rw [hz2]; omega) (by omega)
  simp only [Int.toNat_natCast, hz1] at hr
  rw [zeros_cells] at hr
  exact hr

def dvCh : List (Nat × Nat) := [(13, 12), (13, 11), (12, 2), (12, 0), (11, 10), (11, 7), (10, 9), (9, 8), (7, 6), (6, 5), (6, 3), (5, 4), (2, 1)]

def DivL (w : World) (x y F n g : Nat) (rv kv : Value) (wr : World) : Prop :=
  ∃ (j : Nat) (kz : Int) (zs : List Nat) (R : Nat) (ao : Option Addr) (cap : Nat), rv = .slice ao (digs R).length cap ∧ kv = .int .i64 kz ∧ kz + 1 = (j : Int) ∧ j ≤ F + 1 ∧ R = x / 2 ^ j % y ∧ val zs = x / 2 ^ j / y * 2 ^ j ∧ zs.length = n ∧ Bd zs ∧ Row wr g zs ∧ Sw (g + 1) wr (.slice ao (digs R).length cap) (digs R) ∧ Below g w wr

theorem digs_len_le {a b : Nat} (h : a ≤ b) : (digs a).length ≤ (digs b).length := digs_length_le.2 (Nat.lt_of_le_of_lt h (digs_length_le.1 (Nat.le_refl _)))

theorem digs_len_twice {a : Nat} {l : Nat} (h : (digs a).length ≤ l) (B : Nat) (hB : B ≤ 1) : (digs (2 * a + B)).length ≤ l + 1 := by
  refine digs_length_le.2 ?_
  have := digs_length_le.1 h
  rw [Nat.pow_succ]
  omega

theorem cmpN_ge {T y : Nat} (h : y ≤ T) : 0 ≤ cmpN T y := by
  unfold cmpN
  rw [if_neg (by omega)]
  split <;> omega

set_option maxRecDepth 10000 in
set_option maxHeartbeats 4000000 in
theorem divide48_long {w : World} {va vb : Value} {x y : Nat} (ha : Sl w va (digs x)) (hb : Sl w vb (digs y)) (h0 : y ≠ 0) (hla : (digs x).length ≤ 256) (hlb : (digs y).length ≤ 256) (hs : 2 < (digs x).length) (hge : lenB (digs y) ≤ lenB (digs x)) :
    Calls Tryz.prog 48 #[va, vb] w (DivR w x y) := by
  have hx0 : x ≠ 0 := fun e => by subst e; rw [show digs 0 = [] from digs_zero] at hs; simp at hs
  have hma := lenB_max x hla
  have hmb := lenB_max y hlb
  obtain ⟨b1, b2, b3⟩ := lenB_bounds h0 hlb
  obtain ⟨a1, a2, a3⟩ := lenB_bounds hx0 hla
  have hst := bin_start a3 b2 b1 hge
  obtain ⟨aa, ca, rfl⟩ := ha.mk'
  obtain ⟨ab, cb, rfl⟩ := hb.mk'
  have WA : Hid (∀ W, Below w.heap.size w W → Calls Tryz.prog 53 #[.slice aa (digs x).length ca] W fun e w' => e = .returned (.int .i64 (lenB (digs x) : Nat)) ∧ w' = W) := Lib.hid fun W h => length53_any (ha.below h) (by omega)
  have WB : Hid (∀ W, Below w.heap.size w W → Calls Tryz.prog 53 #[.slice ab (digs y).length cb] W fun e w' => e = .returned (.int .i64 (lenB (digs y) : Nat)) ∧ w' = W) := Lib.hid fun W h => length53_any (hb.below h) (by omega)
  have WO : Hid (∀ W (s : Nat), Below w.heap.size w W → s ≤ 1000000 → Calls Tryz.prog 81 #[.slice aa (digs x).length ca, .int .i64 (s : Nat)] W (NewDigs W (x / 2 ^ s))) := Lib.hid fun W s h h2 => by
    have := without81_any (ha.below h) (by omega) s h2
    rwa [val_digs] at this
  have BT : Hid (∀ W (k : Nat), Below w.heap.size w W → k < 32 * (digs x).length → Calls Tryz.prog 83 #[.slice aa (digs x).length ca, .int .i64 (k : Nat)] W fun e w' => e = .returned (.int .u32 (x / 2 ^ k % 2 : Nat)) ∧ w' = W) := Lib.hid fun W k h h2 => by
    have := bit83_any (ha.below h) k h2 (by omega)
    rwa [val_digs] at this
  have HB := Lib.hid hb
  have HA := Lib.hid ha
  have hkl : lenB (digs x) ≤ 32 * (digs x).length := by
    refine Nat.le_of_not_lt fun h => ?_
    have := digs_length_le.1 (Nat.le_refl (digs x).length)
    rw [pow_bits] at this
    have h5 := Nat.lt_of_le_of_lt a2 this
    have h6 := (Nat.pow_lt_pow_iff_right (a := 2) (by omega)).1 h5
    omega
  obtain ⟨n0, hn⟩ : ∃ n, n = (digs x).length := ⟨_, rfl⟩
  obtain ⟨m0, hm⟩ : ∃ m, m = (digs y).length := ⟨_, rfl⟩
  obtain ⟨A, hA⟩ : ∃ A, A = lenB (digs x) := ⟨_, rfl⟩
  obtain ⟨B, hB⟩ : ∃ B, B = lenB (digs y) := ⟨_, rfl⟩
  rw [← hn] at hla hs WA HA WO BT hkl ⊢
  rw [← hm] at hlb WB HB ⊢
  rw [← hA] at WA hge hma hst hkl
  rw [← hB] at WB hge hmb hst b1
  obtain ⟨F, hF⟩ : ∃ F, F = A - B := ⟨_, rfl⟩
  rw [← hF] at hst
  obtain ⟨q0, hq0⟩ : ∃ q, q = F / 32 := ⟨_, rfl⟩
  obtain ⟨n, hn2⟩ : ∃ n, n = F / 32 + 1 := ⟨_, rfl⟩
  have wAB : IntKind.i64.wrap ((A : Int) - (B : Int)) = (F : Int) := by rw [IntKind.wrap_i64]; omega
  obtain ⟨F1, hF1⟩ : ∃ F1, F1 = F + 1 := ⟨_, rfl⟩
  have fF : (F : Int).tdiv 32 = (q0 : Int) := by rw [hq0]; rfl
  have fF1 : IntKind.i64.wrap (q0 : Int) = (q0 : Int) := by rw [IntKind.wrap_i64]; omega
  have fF2 : IntKind.i64.wrap ((q0 : Int) + 1) = (n : Int) := by rw [IntKind.wrap_i64]; omega
  have fF3 : IntKind.i64.wrap ((F : Int) + 1) = (F1 : Int) := by rw [IntKind.wrap_i64]; omega
  have HF1 := Lib.hid hF1
  have hmk := fun W => make_row0 W n (by omega)
  have HNN := Lib.hid hn2
  have HKL : Hid (F < 32 * n0) := Lib.hid (by omega)
  have hwo := WO.out
  have HST := Lib.hid hst
  have HNX := Lib.hid hn
  have HMY := Lib.hid hm
  have HFX : Hid (F ≤ 100000) := Lib.hid (by omega)
  have HN1 : Hid (1 ≤ n ∧ n ≤ 10000) := Lib.hid (by omega)
  have HY0 := Lib.hid h0
  have hnn1 : 1 ≤ n := by omega
  clear ha hb hn hm hA hB hF hn2 hq0 hF1 hst h0 hx0 a1 a2 a3 b1 b2 b3 hma hmb hge hkl hwo
  go_enter Tryz.func48, Tryz.ntmps48
  go_wp2_with (first | (go_at_call_of 53 (Value.slice aa n0 ca); (with_reducible refine (WA.out _ (Below.refl _ _)).mono ?_); rintro e w' ⟨rfl, hw'⟩; subst w') | (go_at_call_of 53 (Value.slice ab m0 cb); (with_reducible refine (WB.out _ (Below.refl _ _)).mono ?_); rintro e w' ⟨rfl, hw'⟩; subst w') | (go_at_call 81; (with_reducible refine (WO.out _ F1 (alloc_b _ _) (by have := HFX.out; have := HF1.out; omega)).mono ?_); rintro e w1 ⟨v, rfl, hq, hbq⟩))
  obtain ⟨ao, cap, rfl⟩ := hq.sl.mk'
  have hR0 : Row (w.alloc (.cells (Array.replicate n (u32v 0)) 59)) w.heap.size (List.replicate n 0) := by
    have := row_new w (List.replicate n 0)
    rwa [List.map_replicate, List.toArray_replicate] at this
  have hR1 : Row w1 w.heap.size (List.replicate n 0) := hR0.below hbq
  have hb1 : Below w.heap.size w w1 := (alloc_b w _).trans (hbq.mono (by simp))
  have hq1 : Sw (w.heap.size + 1) w1 (.slice ao (digs (x / 2 ^ F1)).length cap) (digs (x / 2 ^ F1)) := by simpa using hq
  clear hq hbq hmk fF fF1 fF2 fF3 wAB WA WB WO
  have hg0 : ∃ g, g = w.heap.size := ⟨_, rfl⟩
  obtain ⟨g, hg⟩ := hg0
  rw [← hg] at hR1 hb1 hq1 BT ⊢
  have HG := Lib.hid hg
  have HR1 := Lib.hid hR1
  have HB1 := Lib.hid hb1
  have HQ1 := Lib.hid hq1
  clear hg hR1 hb1 hq1
  go_loopw [8, 9] (fun rv kv wr => DivL w x y F n g rv kv wr) (fun _ kv _ => (RowKit.intOf kv + 1).toNat)
  case atStart =>
    refine ⟨F + 1, F, List.replicate n 0, x / 2 ^ F1, ao, cap, rfl, rfl, by omega, by omega, ?_, ?_, by simp, ?_, HR1.out, HQ1.out, HB1.out⟩
    · rw [HF1.out, Nat.mod_eq_of_lt HST.out]
    · rw [Nat.div_eq_of_lt HST.out, Nat.zero_mul]; exact val_zeros n
    · exact fun d hd => by rw [(List.mem_replicate.1 hd).2]; omega
  case round =>
    obtain ⟨j, kz, zs, R, ao, cap, rfl, rfl, hkz, hj, hR, hv, hzl, hbz, hrow, hsw, hbl⟩ := hrel
    have HROW := Lib.hid hrow
    have HSW := Lib.hid hsw
    have HBL := Lib.hid hbl
    have HBZ := Lib.hid hbz
    have HZL := Lib.hid hzl
    rcases Nat.eq_zero_or_pos j with rfl | hpos
    · obtain rfl : kz = -1 := by omega
      rw [Nat.pow_zero, Nat.div_one] at hR hv
      rw [Nat.mul_one] at hv
      have hss := (hrow.sw' (B := 0) (Nat.zero_le _) hbz hzl (by have := HN1.out; unfold maxLen; omega)).sl
      have ht := rtrim_any _ _ _ hss
      have hu := hss.trim
      rw [hv] at ht hu
      have HU := Lib.hid hu
      have HRR := Lib.hid hR
      clear hrow hsw hbl hbz hzl hv hss hu hR
      go_wp2_with (go_at_call 55; (with_reducible refine ht.mono ?_); rintro e w' ⟨rfl, hw'⟩; subst w'; clear ht)
      go_returns
      refine ⟨some ⟨g, 0, none⟩, n, ao, cap, ?_, HU.out, ?_, by rw [← HG.out]; exact HBL.out⟩
      · rw [← HRR.out]; rfl
      · rw [← HRR.out]; exact HSW.out.sl
    · obtain ⟨k, rfl⟩ : ∃ k, j = k + 1 := ⟨j - 1, by omega⟩
      obtain rfl : kz = (k : Int) := by omega
      have hkF : k ≤ F := by omega
      obtain ⟨B, hB⟩ : ∃ B, B = x / 2 ^ k % 2 := ⟨_, rfl⟩
      have hB1 : B ≤ 1 := by omega
      have hnb := next_bit x k
      rw [← hB] at hnb
      obtain ⟨T, hT⟩ : ∃ T, T = 2 * R + B := ⟨_, rfl⟩
      have hbt := BT.out wr k hbl (by have := HKL.out; omega)
      rw [← hB] at hbt
      have hRy : R < y := by rw [hR]; exact Nat.mod_lt _ (Nat.pos_of_ne_zero HY0.out)
      have hRl : (digs R).length ≤ m0 := by rw [HMY.out]; exact digs_len_le (Nat.le_of_lt hRy)
      have hTl : (digs T).length ≤ m0 + 1 := by rw [hT]; exact digs_len_twice hRl B hB1
      have htw := twice82_any hsw.sl (by omega) B hB1
      rw [val_digs, ← hT] at htw
      have HTW := Lib.hid htw
      have HBT := Lib.hid hbt
      have HTT := Lib.hid hT
      have HNB := Lib.hid hnb
      have HRX := Lib.hid hR
      have HV := Lib.hid hv
      have HKF := Lib.hid hkF
      have HTL := Lib.hid hTl
      have HB1B := Lib.hid hB1
      have wk : IntKind.i64.wrap ((k : Int) - 1) = (k : Int) - 1 := by rw [IntKind.wrap_i64]; have := HFX.out; omega
      by_cases hyT : y ≤ T
      · obtain ⟨c, hc⟩ : ∃ c, c = cmpN T y := ⟨_, rfl⟩
        have hc0 : 0 ≤ c := by rw [hc]; exact cmpN_ge hyT
        have hcmp := fun W v (h : Sl W v (digs T)) (hw : Below g w W) => compare71_any h (HB.out.below (HG.out ▸ hw)) (by omega) (by rw [← HMY.out]; omega)
        rw [← hc] at hcmp
        have HC := Lib.hid hcmp
        have hmin := fun W v (h : Sl W v (digs T)) (hw : Below g w W) => minus50_any h (HB.out.below (HG.out ▸ hw)) (by omega) (by rw [← HMY.out]; omega) (by rw [val_digs, val_digs]; exact hyT)
        rw [val_digs, val_digs] at hmin
        obtain ⟨D, hD⟩ : ∃ D, D = T - y := ⟨_, rfl⟩
        rw [← hD] at hmin
        have HM := Lib.hid hmin
        have HDD := Lib.hid hD
        have HYT := Lib.hid hyT
        obtain ⟨q, hq⟩ : ∃ q, q = k / 32 := ⟨_, rfl⟩
        obtain ⟨r, hr⟩ : ∃ r, r = k % 32 := ⟨_, rfl⟩
        have f1 : (k : Int).tdiv 32 = (q : Int) := by rw [hq]; rfl
        have f2 : (k : Int).tmod 32 = (r : Int) := by rw [hr]; rfl
        have hqn : q < n := by have := HNN.out; omega
        have hqI : (q : Int) < (n : Int) := by omega
        have hr32 : r < 32 := by omega
        have hkq : k = 32 * q + r := by omega
        have HKQ := Lib.hid hkq
        obtain ⟨d, hd⟩ : ∃ d, d = zs.getD q 0 := ⟨_, rfl⟩
        have hd4 : d < 4294967296 := by rw [hd, val_digit hbz]; exact Nat.mod_lt _ (by omega)
        have hdm := bin_digit (x / 2 ^ (k + 1) / y) q r k d hr32 hkq (by rw [hd, val_digit hbz, hv])
        obtain ⟨fo, hd24⟩ := bin_or d r hr32 hd4 hdm
        obtain ⟨p, hp⟩ : ∃ p, p = 2 ^ r := ⟨_, rfl⟩
        rw [← hp] at fo hd24
        obtain ⟨d2, hd2⟩ : ∃ d2, d2 = d + p := ⟨_, rfl⟩
        rw [← hd2] at fo hd24
        have HVS : Hid (val (zs.set q d2) = (2 * (x / 2 ^ (k + 1) / y) + 1) * 2 ^ k) := Lib.hid (by
          have := bin_set (d := d) hv hkq (by omega) hd
          rwa [← hp, ← hd2] at this)
        have hp32 : p < 4294967296 := by omega
        have fp : IntKind.u32.wrap ((2 : Int) ^ r) = (p : Int) := by
          rw [show ((2 : Int) ^ r) = (p : Int) by rw [hp]; push_cast; rfl, IntKind.wrap_u32]
          omega
        have wq : IntKind.i64.wrap (q : Int) = (q : Int) := by rw [IntKind.wrap_i64]; have := HN1.out; omega
        have HP := Lib.hid hp
        have HDZ := Lib.hid hd
        have HD24 := Lib.hid hd24
        clear hrow hsw hbl hbz hzl hv hR hnb hT htw hbt hRl hTl hRy hB hyT hcmp hB1 hc hmin hD hq hr hkq hd hdm hp hd2
        go_wp2_with (first | (go_at_call 83; (with_reducible refine HBT.out.mono ?_); rintro e w' ⟨rfl, hw'⟩; subst w') | (go_at_call 82; (with_reducible refine HTW.out.mono ?_); rintro e w1 ⟨v, rfl, hq, hbq⟩; obtain ⟨a1, c1, rfl⟩ := hq.sl.mk'; have HS1 := Lib.hid hq; have HB2 := Lib.hid hbq; clear hq hbq; have HB3 := Lib.hid (HBL.out.trans (HB2.out.mono (by have := HROW.out.lt; omega)))) | (go_at_call 71; (with_reducible refine (HC.out _ _ HS1.out.sl HB3.out).mono ?_); rintro e w2 ⟨rfl, hbq⟩; have HB4 := Lib.hid hbq; clear hbq; have HB5 := Lib.hid (HB3.out.trans (HB4.out.mono (by have := HROW.out.lt; have := HB2.out.size; omega)))) | (go_at_call 50; (with_reducible refine (HM.out _ _ (HS1.out.sl.below HB4.out) HB5.out).mono ?_); rintro e w3 ⟨v, rfl, hq, hbq⟩; obtain ⟨a3, c3, rfl⟩ := hq.sl.mk'; have HS3 := Lib.hid hq; have HB6 := Lib.hid hbq; clear hq hbq))
        have hlt1 := HROW.out.lt
        have hsz1 := HB2.out.size
        have hsz2 := HB4.out.size
        have hsz3 := HB6.out.size
        have HR3 := Lib.hid (((HROW.out.below HB2.out).below HB4.out).below HB6.out)
        have hx : w3.drew.cell? ⟨g, q, none⟩ = some (.int .u32 (d : Int)) := by rw [HDZ.out]; exact (show Row w3.drew g zs from HR3.out).cell q (by rw [HZL.out]; exact hqn)
        have hfree : w3.drew.frozen? ⟨g, q, none⟩ = false := (show Row w3.drew g zs from HR3.out).free q
        refine frame_named ?_
        intro T hT
        obtain ⟨vals, hvals⟩ : ∃ vals : Nat → Value, vals = (fun ix => if ix = 0 then .slice (some ⟨g, 0, none⟩) n n else if ix = 1 then .int .i64 (k : Nat) else if ix = 2 then .int .i64 (q : Nat) else if ix = 3 then .slice (some ⟨g, 0, none⟩) n n else if ix = 4 then .int .i64 (k : Nat) else if ix = 5 then .int .i64 (q : Nat) else if ix = 6 then .pointer (some ⟨g, q, none⟩) else if ix = 7 then .int .u32 (d : Nat) else if ix = 8 then .int .i64 (k : Nat) else if ix = 9 then .int .i64 (r : Nat) else if ix = 10 then .int .u32 (p : Nat) else if ix = 11 then .int .u32 (d2 : Nat) else if ix = 12 then .pointer (some ⟨g, q, none⟩) else undef) := ⟨_, rfl⟩
        have v0 : vals 0 = .slice (some ⟨g, 0, none⟩) n n := by rw [hvals]; rfl
        have v1 : vals 1 = .int .i64 (k : Nat) := by rw [hvals]; rfl
        have v2 : vals 2 = .int .i64 (q : Nat) := by rw [hvals]; rfl
        have v3 : vals 3 = .slice (some ⟨g, 0, none⟩) n n := by rw [hvals]; rfl
        have v4 : vals 4 = .int .i64 (k : Nat) := by rw [hvals]; rfl
        have v5 : vals 5 = .int .i64 (q : Nat) := by rw [hvals]; rfl
        have v6 : vals 6 = .pointer (some ⟨g, q, none⟩) := by rw [hvals]; rfl
        have v7 : vals 7 = .int .u32 (d : Nat) := by rw [hvals]; rfl
        have v8 : vals 8 = .int .i64 (k : Nat) := by rw [hvals]; rfl
        have v9 : vals 9 = .int .i64 (r : Nat) := by rw [hvals]; rfl
        have v10 : vals 10 = .int .u32 (p : Nat) := by rw [hvals]; rfl
        have v11 : vals 11 = .int .u32 (d2 : Nat) := by rw [hvals]; rfl
        have v12 : vals 12 = .pointer (some ⟨g, q, none⟩) := by rw [hvals]; rfl
        clear hvals
        refine regionP_inv (by kernel_rfl) (fun l a w' => RV w3.drew ⟨g, q, none⟩ (.int .u32 (d2 : Nat)) 13 dvCh T [some 63, some 64, some 65, some 66, some 67, some 68, some 69, some 70, some 71, some 72, some 73, some 74, some 75, none] vals l a w') ?h0v1 ?stepv1 ?finv1
        case h0v1 => exact RV.start rfl (fun i j h => by simp [dvCh] at h; simp only [List.length_cons, List.length_nil]; omega) (by decide)
        case stepv1 =>
            rintro l a w' i' hR hi'
            obtain ⟨hl0, o, ho, hdep⟩ := mem_ready.1 hi'
            have h15 : i' < 14 := by
              have := (Array.getElem?_eq_some_iff.1 ho).1
              simpa using this
            rcases (show i' = 0 ∨ i' = 1 ∨ i' = 2 ∨ i' = 3 ∨ i' = 4 ∨ i' = 5 ∨ i' = 6 ∨ i' = 7 ∨ i' = 8 ∨ i' = 9 ∨ i' = 10 ∨ i' = 11 ∨ i' = 12 ∨ i' = 13 by omega) with rfl | rfl | rfl | rfl | rfl | rfl | rfl | rfl | rfl | rfl | rfl | rfl | rfl | rfl
            · simp at ho
              subst ho
              simp [Region.binds] at hdep
              have k0 : a.tmps.getD 7 undef = _ := (hR.fr.kept rfl (by simp [hT])).trans (by rw [hT]; try rfl)
              have hc : ∀ j, (0, j) ∈ dvCh → l.getD j true = true := by intro j hj; simp [dvCh] at hj
              clear hi' hdep
              unfold wpOp
              simp [Region.wanted]
              refine .inl ?_
              unfold Oper.wp
              simp [execOp, go_sem, Act.eval, k0]
              exact hR.op 0 63 v0 rfl (by decide) hl0 (by decide) hc
            · simp at ho
              subst ho
              simp [Region.binds] at hdep
              have k0 : a.tmps.getD 9 undef = _ := (hR.fr.kept rfl (by simp [hT])).trans (by rw [hT]; try rfl)
              have hc : ∀ j, (1, j) ∈ dvCh → l.getD j true = true := by intro j hj; simp [dvCh] at hj
              clear hi' hdep
              unfold wpOp
              simp [Region.wanted]
              refine .inl ?_
              unfold Oper.wp
              simp [execOp, go_sem, Act.eval, k0]
              exact hR.op 1 64 v1 rfl (by decide) hl0 (by decide) hc
            · simp at ho
              subst ho
              simp [Region.binds] at hdep
              have k0 : a.tmps.getD 64 undef = _ := (hR.fr.done (i := 1) rfl (by simp_all) (by simp [hT])).trans v1
              have hc : ∀ j, (2, j) ∈ dvCh → l.getD j true = true := by intro j hj; simp [dvCh] at hj; rcases hj with rfl <;> exact getD_true (by simp_all)
              clear hi' hdep
              unfold wpOp
              simp [Region.wanted]
              refine .inl ?_
              unfold Oper.wp
              simp [execOp, go_sem, Act.eval, k0, f1, wq]
              exact hR.op 2 65 v2 rfl (by decide) hl0 (by decide) hc
            · simp at ho
              subst ho
              simp [Region.binds] at hdep
              have k0 : a.tmps.getD 7 undef = _ := (hR.fr.kept rfl (by simp [hT])).trans (by rw [hT]; try rfl)
              have hc : ∀ j, (3, j) ∈ dvCh → l.getD j true = true := by intro j hj; simp [dvCh] at hj
              clear hi' hdep
              unfold wpOp
              simp [Region.wanted]
              refine .inl ?_
              unfold Oper.wp
              simp [execOp, go_sem, Act.eval, k0]
              exact hR.op 3 66 v3 rfl (by decide) hl0 (by decide) hc
            · simp at ho
              subst ho
              simp [Region.binds] at hdep
              have k0 : a.tmps.getD 9 undef = _ := (hR.fr.kept rfl (by simp [hT])).trans (by rw [hT]; try rfl)
              have hc : ∀ j, (4, j) ∈ dvCh → l.getD j true = true := by intro j hj; simp [dvCh] at hj
              clear hi' hdep
              unfold wpOp
              simp [Region.wanted]
              refine .inl ?_
              unfold Oper.wp
              simp [execOp, go_sem, Act.eval, k0]
              exact hR.op 4 67 v4 rfl (by decide) hl0 (by decide) hc
            · simp at ho
              subst ho
              simp [Region.binds] at hdep
              have k0 : a.tmps.getD 67 undef = _ := (hR.fr.done (i := 4) rfl (by simp_all) (by simp [hT])).trans v4
              have hc : ∀ j, (5, j) ∈ dvCh → l.getD j true = true := by intro j hj; simp [dvCh] at hj; rcases hj with rfl <;> exact getD_true (by simp_all)
              clear hi' hdep
              unfold wpOp
              simp [Region.wanted]
              refine .inl ?_
              unfold Oper.wp
              simp [execOp, go_sem, Act.eval, k0, f1, wq]
              exact hR.op 5 68 v5 rfl (by decide) hl0 (by decide) hc
            · simp at ho
              subst ho
              simp [Region.binds] at hdep
              have k0 : a.tmps.getD 66 undef = _ := (hR.fr.done (i := 3) rfl (by simp_all) (by simp [hT])).trans v3
              have k1 : a.tmps.getD 68 undef = _ := (hR.fr.done (i := 5) rfl (by simp_all) (by simp [hT])).trans v5
              have hc : ∀ j, (6, j) ∈ dvCh → l.getD j true = true := by intro j hj; simp [dvCh] at hj; rcases hj with rfl | rfl <;> exact getD_true (by simp_all)
              clear hi' hdep
              unfold wpOp
              simp [Region.wanted]
              refine .inl ?_
              unfold Oper.wp
              simp [execOp, go_sem, Act.eval, k0, k1, hqI]
              exact hR.op 6 69 v6 rfl (by decide) hl0 (by decide) hc
            · simp at ho
              subst ho
              simp [Region.binds] at hdep
              have k0 : a.tmps.getD 69 undef = _ := (hR.fr.done (i := 6) rfl (by simp_all) (by simp [hT])).trans v6
              have hc : ∀ j, (7, j) ∈ dvCh → l.getD j true = true := by intro j hj; simp [dvCh] at hj; rcases hj with rfl <;> exact getD_true (by simp_all)
              have hw' := hR.before hl0 (fun hs => (hR.dep 11 7 (by decide) (hR.dep 13 11 (by decide) hs)))
              subst hw'
              clear hi' hdep
              unfold wpOp
              simp [Region.wanted]
              refine .inl ?_
              unfold Oper.wp
              simp [execOp, go_sem, Act.eval, k0, hx]
              exact hR.op 7 70 v7 rfl (by decide) hl0 (by decide) hc
            · simp at ho
              subst ho
              simp [Region.binds] at hdep
              have k0 : a.tmps.getD 9 undef = _ := (hR.fr.kept rfl (by simp [hT])).trans (by rw [hT]; try rfl)
              have hc : ∀ j, (8, j) ∈ dvCh → l.getD j true = true := by intro j hj; simp [dvCh] at hj
              clear hi' hdep
              unfold wpOp
              simp [Region.wanted]
              refine .inl ?_
              unfold Oper.wp
              simp [execOp, go_sem, Act.eval, k0]
              exact hR.op 8 71 v8 rfl (by decide) hl0 (by decide) hc
            · simp at ho
              subst ho
              simp [Region.binds] at hdep
              have k0 : a.tmps.getD 71 undef = _ := (hR.fr.done (i := 8) rfl (by simp_all) (by simp [hT])).trans v8
              have hc : ∀ j, (9, j) ∈ dvCh → l.getD j true = true := by intro j hj; simp [dvCh] at hj; rcases hj with rfl <;> exact getD_true (by simp_all)
              clear hi' hdep
              unfold wpOp
              simp [Region.wanted]
              refine .inl ?_
              unfold Oper.wp
              simp [execOp, go_sem, Act.eval, k0, f2]
              exact hR.op 9 72 v9 rfl (by decide) hl0 (by decide) hc
            · simp at ho
              subst ho
              simp [Region.binds] at hdep
              have k0 : a.tmps.getD 72 undef = _ := (hR.fr.done (i := 9) rfl (by simp_all) (by simp [hT])).trans v9
              have hc : ∀ j, (10, j) ∈ dvCh → l.getD j true = true := by intro j hj; simp [dvCh] at hj; rcases hj with rfl <;> exact getD_true (by simp_all)
              clear hi' hdep
              unfold wpOp
              simp [Region.wanted]
              refine .inl ?_
              unfold Oper.wp
              simp [execOp, go_sem, Act.eval, k0, hr32, fp]
              exact hR.op 10 73 v10 rfl (by decide) hl0 (by decide) hc
            · simp at ho
              subst ho
              simp [Region.binds] at hdep
              have k0 : a.tmps.getD 70 undef = _ := (hR.fr.done (i := 7) rfl (by simp_all) (by simp [hT])).trans v7
              have k1 : a.tmps.getD 73 undef = _ := (hR.fr.done (i := 10) rfl (by simp_all) (by simp [hT])).trans v10
              have hc : ∀ j, (11, j) ∈ dvCh → l.getD j true = true := by intro j hj; simp [dvCh] at hj; rcases hj with rfl | rfl <;> exact getD_true (by simp_all)
              clear hi' hdep
              unfold wpOp
              simp [Region.wanted]
              refine .inl ?_
              unfold Oper.wp
              simp [execOp, go_sem, Act.eval, k0, k1, fo]
              exact hR.op 11 74 v11 rfl (by decide) hl0 (by decide) hc
            · simp at ho
              subst ho
              simp [Region.binds] at hdep
              have k0 : a.tmps.getD 63 undef = _ := (hR.fr.done (i := 0) rfl (by simp_all) (by simp [hT])).trans v0
              have k1 : a.tmps.getD 65 undef = _ := (hR.fr.done (i := 2) rfl (by simp_all) (by simp [hT])).trans v2
              have hc : ∀ j, (12, j) ∈ dvCh → l.getD j true = true := by intro j hj; simp [dvCh] at hj; rcases hj with rfl | rfl <;> exact getD_true (by simp_all)
              clear hi' hdep
              unfold wpOp
              simp [Region.wanted]
              refine .inl ?_
              unfold Oper.wp
              simp [execOp, go_sem, Act.eval, k0, k1, hqI]
              exact hR.op 12 75 v12 rfl (by decide) hl0 (by decide) hc
            · simp at ho
              subst ho
              simp [Region.binds] at hdep
              have k0 : a.tmps.getD 75 undef = _ := (hR.fr.done (i := 12) rfl (by simp_all) (by simp [hT])).trans v12
              have k1 : a.tmps.getD 74 undef = _ := (hR.fr.done (i := 11) rfl (by simp_all) (by simp [hT])).trans v11
              have hc : ∀ j, (13, j) ∈ dvCh → l.getD j true = true := by intro j hj; simp [dvCh] at hj; rcases hj with rfl | rfl <;> exact getD_true (by simp_all)
              have hw' := hR.before hl0 (fun hs => hs)
              subst hw'
              clear hi' hdep
              unfold wpOp
              simp [Region.wanted]
              refine .inl ?_
              unfold Oper.wp
              simp [execOp, go_sem, Act.eval, k0, k1, hx, hfree]
              exact hR.store rfl hl0 hc undef
        case' finv1 =>
            rintro l a w' hR hz
            have hnot := List.eq_nil_iff_forall_not_mem.1 hz
            have hk : ∀ k, k < 14 → (l.getD k true = false → False) → l.getD k false = true := fun k h12 h => by
              have hs := hR.size
              cases h' : l.getD k true with
              | false => exact (h h').elim
              | true => simp at hs; simp [Array.getD, hs, h12] at h' ⊢; exact h'
            have st0 := hk 0 (by omega) (fun h => hnot 0 (mem_ready.2 ⟨h, _, rfl, by simp [Region.binds]⟩))
            have st1 := hk 1 (by omega) (fun h => hnot 1 (mem_ready.2 ⟨h, _, rfl, by simp [Region.binds]⟩))
            have st2 := hk 2 (by omega) (fun h => hnot 2 (mem_ready.2 ⟨h, _, rfl, by simp [Region.binds] <;> simp_all⟩))
            have st3 := hk 3 (by omega) (fun h => hnot 3 (mem_ready.2 ⟨h, _, rfl, by simp [Region.binds]⟩))
            have st4 := hk 4 (by omega) (fun h => hnot 4 (mem_ready.2 ⟨h, _, rfl, by simp [Region.binds]⟩))
            have st5 := hk 5 (by omega) (fun h => hnot 5 (mem_ready.2 ⟨h, _, rfl, by simp [Region.binds] <;> simp_all⟩))
            have st6 := hk 6 (by omega) (fun h => hnot 6 (mem_ready.2 ⟨h, _, rfl, by simp [Region.binds] <;> simp_all⟩))
            have st7 := hk 7 (by omega) (fun h => hnot 7 (mem_ready.2 ⟨h, _, rfl, by simp [Region.binds] <;> simp_all⟩))
            have st8 := hk 8 (by omega) (fun h => hnot 8 (mem_ready.2 ⟨h, _, rfl, by simp [Region.binds]⟩))
            have st9 := hk 9 (by omega) (fun h => hnot 9 (mem_ready.2 ⟨h, _, rfl, by simp [Region.binds] <;> simp_all⟩))
            have st10 := hk 10 (by omega) (fun h => hnot 10 (mem_ready.2 ⟨h, _, rfl, by simp [Region.binds] <;> simp_all⟩))
            have st11 := hk 11 (by omega) (fun h => hnot 11 (mem_ready.2 ⟨h, _, rfl, by simp [Region.binds] <;> simp_all⟩))
            have st12 := hk 12 (by omega) (fun h => hnot 12 (mem_ready.2 ⟨h, _, rfl, by simp [Region.binds] <;> simp_all⟩))
            have st13 := hk 13 (by omega) (fun h => hnot 13 (mem_ready.2 ⟨h, _, rfl, by simp [Region.binds] <;> simp_all⟩))
            have hall : ∀ i, i < 14 → l.getD i true = true := fun i hi => by
              rcases (show i = 0 ∨ i = 1 ∨ i = 2 ∨ i = 3 ∨ i = 4 ∨ i = 5 ∨ i = 6 ∨ i = 7 ∨ i = 8 ∨ i = 9 ∨ i = 10 ∨ i = 11 ∨ i = 12 ∨ i = 13 by omega) with rfl | rfl | rfl | rfl | rfl | rfl | rfl | rfl | rfl | rfl | rfl | rfl | rfl | rfl
              · exact getD_true st0
              · exact getD_true st1
              · exact getD_true st2
              · exact getD_true st3
              · exact getD_true st4
              · exact getD_true st5
              · exact getD_true st6
              · exact getD_true st7
              · exact getD_true st8
              · exact getD_true st9
              · exact getD_true st10
              · exact getD_true st11
              · exact getD_true st12
              · exact getD_true st13
            clear st0 st1 st2 st3 st4 st5 st6 st7 st8 st9 st10 st11 st12 st13 hk hnot hz
            have hTs : T.size = 79 := by rw [hT]; rfl
            obtain ⟨ha, hw'⟩ := hR.all (T' := (((((((((((((T.setIfInBounds 63 (vals 0)).setIfInBounds 64 (vals 1)).setIfInBounds 65 (vals 2)).setIfInBounds 66 (vals 3)).setIfInBounds 67 (vals 4)).setIfInBounds 68 (vals 5)).setIfInBounds 69 (vals 6)).setIfInBounds 70 (vals 7)).setIfInBounds 71 (vals 8)).setIfInBounds 72 (vals 9)).setIfInBounds 73 (vals 10)).setIfInBounds 74 (vals 11)).setIfInBounds 75 (vals 12))) (fun i hi => hall i (by simpa using hi)) (by decide) (by simp) (fun j hj => by
              by_cases h1 : j = 63 ∨ j = 64 ∨ j = 65 ∨ j = 66 ∨ j = 67 ∨ j = 68 ∨ j = 69 ∨ j = 70 ∨ j = 71 ∨ j = 72 ∨ j = 73 ∨ j = 74 ∨ j = 75
              · rcases h1 with rfl | rfl | rfl | rfl | rfl | rfl | rfl | rfl | rfl | rfl | rfl | rfl | rfl <;> simp [rv_sets, tOwn, List.findIdx?, List.findIdx?.go, hTs]
              · simp only [not_or] at h1
                obtain ⟨m63, m64, m65, m66, m67, m68, m69, m70, m71, m72, m73, m74, m75⟩ := h1
                have e : tOwn [some 63, some 64, some 65, some 66, some 67, some 68, some 69, some 70, some 71, some 72, some 73, some 74, some 75, none] vals j = none := by
                  unfold tOwn
                  simp [List.findIdx?, List.findIdx?.go, Ne.symm m63, Ne.symm m64, Ne.symm m65, Ne.symm m66, Ne.symm m67, Ne.symm m68, Ne.symm m69, Ne.symm m70, Ne.symm m71, Ne.symm m72, Ne.symm m73, Ne.symm m74, Ne.symm m75]
                rw [e]
                simp only [rv_sets]
                repeat rw [if_neg (by omega)])
            subst ha hw'
            clear hR hall hTs
            rw [v0, v1, v2, v3, v4, v5, v6, v7, v8, v9, v10, v11, v12, hT]
            simp only [List.setIfInBounds_toArray, List.set_cons_succ, List.set_cons_zero]
            clear v0 v1 v2 v3 v4 v5 v6 v7 v8 v9 v10 v11 v12 vals hT T
        clear f1 f2 wq fp fo
        go_wp2
        go_roundw
        case rel =>
          have HQN := Lib.hid hqn
          obtain ⟨e1, e2⟩ := bin_great (P := x / 2 ^ (k + 1)) (Y := y) (B := B) (Nat.pos_of_ne_zero HY0.out) HB1B.out (by rw [← HRX.out, ← HTT.out]; exact HYT.out)
          have hown : Sw (g + 1) w3 (.slice a3 (digs D).length c3) (digs D) := HS3.out.mono (by omega)
          have hbd : Below w3.heap.size w3 w3.drew := ⟨rfl, rfl, rfl, Nat.le_refl _, fun _ _ => rfl⟩
          have hbw3 : Below g w w3.drew := (HB5.out.trans (HB6.out.mono (by omega))).trans (hbd.mono (by omega))
          refine ⟨k, (k : Int) - 1, zs.set q d2, D, a3, c3, rfl, by go_num, by omega, by have := HKF.out; omega, ?_, ?_, by rw [List.length_set]; exact HZL.out, ?_, (show Row w3.drew g zs from HR3.out).set q d2, ?_, ?_⟩
          · rw [HNB.out, e1, ← HRX.out, ← HTT.out]; exact HDD.out
          · rw [HNB.out, e2]; exact HVS.out
          · exact HBZ.out.set _ HD24.out
          · exact (hown.below hbd).setOther _ _ (fun b off n cap e hn => by obtain ⟨b', o', e', h', _⟩ := hown.own _ _ _ e hn; cases e'; omega)
          · exact hbw3.setCell (p := ⟨g, q, none⟩) (Nat.le_refl g) _
        case measure => simp [RowKit.intOf]
      · have hcmp := fun W v (h : Sl W v (digs T)) (hw : Below g w W) => compare71_any h (HB.out.below (HG.out ▸ hw)) (by omega) (by rw [← HMY.out]; omega)
        rw [cmpN_lt (Nat.lt_of_not_le hyT)] at hcmp
        have HC := Lib.hid hcmp
        have HYT := Lib.hid hyT
        clear hrow hsw hbl hbz hzl hv hR hnb hT htw hbt hRl hTl hRy hB hyT hcmp hB1
        go_wp2_with (first | (go_at_call 83; (with_reducible refine HBT.out.mono ?_); rintro e w' ⟨rfl, hw'⟩; subst w') | (go_at_call 82; (with_reducible refine HTW.out.mono ?_); rintro e w1 ⟨v, rfl, hq, hbq⟩; obtain ⟨a1, c1, rfl⟩ := hq.sl.mk'; have HS1 := Lib.hid hq; have HB2 := Lib.hid hbq; clear hq hbq; have HB3 := Lib.hid (HBL.out.trans (HB2.out.mono (by have := HROW.out.lt; omega)))) | (go_at_call 71; (with_reducible refine (HC.out _ _ HS1.out.sl HB3.out).mono ?_); rintro e w2 ⟨rfl, hbq⟩; have HB4 := Lib.hid hbq; clear hbq))
        have hlt1 := HROW.out.lt
        have hsz1 := HB2.out.size
        have hsz2 := HB4.out.size
        go_roundw
        case rel =>
          obtain ⟨e1, e2⟩ := bin_small (P := x / 2 ^ (k + 1)) (Y := y) (B := B) HB1B.out (by rw [← HRX.out, ← HTT.out]; exact Nat.lt_of_not_le HYT.out)
          refine ⟨k, (k : Int) - 1, zs, T, a1, c1, rfl, by go_num, by omega, by have := HKF.out; omega, ?_, ?_, HZL.out, HBZ.out, (HROW.out.below HB2.out).below HB4.out, (HS1.out.mono (by omega)).below HB4.out, HB3.out.trans (HB4.out.mono (by omega))⟩
          · rw [HNB.out, e1, ← HRX.out]; exact HTT.out
          · rw [HNB.out, e2, HV.out, Nat.pow_succ]; grind
        case measure => simp [RowKit.intOf]

end Go.Proofs.YtdgmjmckeeeljaaGreatDoor
