/- The law DrawShuffles, walked. Condition: the arguments fit their types. -/
import Derived.Test.YtafdjohgoopcmaaLT
namespace Go.Proofs.Ytafdjohgoopcmaa
open Go.RowKit

theorem numbers_rows {W : World} {g1 g2 n : Nat} {L : List Nat} (h1 : RowI W g1 L) (h2 : RowI W g2 L) (hn : n = L.length) (hl : n ≤ 1000) (hs : ∀ k, L.getD k 0 ≤ 1000000) :
    Calls Try.prog 21 #[.slice (some ⟨g1, 0, none⟩) n n, .slice (some ⟨g2, 0, none⟩) n n] W fun e w' => e = .returned (.bool true) ∧ Below W.heap.size W w' :=
  (numbers_any (row_ix h1 hn hl hs) (row_ix h2 hn hl hs)).mono fun e w' h => ⟨by rw [h.1]; simp, h.2⟩

theorem two_rows (W : World) (M : Nat) (hM : M ≤ 1000) : ∃ W3 W4, (Instr.makeSlice 46 (.int .i64 (M : Int)) (.int .i64 (M : Int))).run Try.prog W = .ok (.slice (some ⟨W.heap.size, 0, none⟩) M M) W3 ∧ (Instr.makeSlice 34 (.int .i64 (M : Int)) (.int .i64 (M : Int))).run Try.prog W3 = .ok (.slice (some ⟨W.heap.size + 1, 0, none⟩) M M) W4 ∧ RowB W4 W.heap.size (List.replicate M false) ∧ RowI W4 (W.heap.size + 1) (List.replicate M 0) ∧ Below W.heap.size W W4 := by
  refine ⟨_, ((W.alloc (.cells ((List.replicate M false).map bv).toArray 4)).alloc (.cells ((List.replicate M 0).map iv).toArray 3)), makeB_run M hM W, ?_, ?_, ?_, ?_⟩
  · have h := make_run M hM (W.alloc (.cells ((List.replicate M false).map bv).toArray 4))
    rw [World.size_alloc] at h
    exact h
  · exact RowB.below (heap_alloc_new _ _) ((Below.refl _ _).alloc (Nat.le_refl _) _)
  · have h := heap_alloc_new (W.alloc (.cells ((List.replicate M false).map bv).toArray 4)) (.cells ((List.replicate M 0).map iv).toArray 3)
    rw [World.size_alloc] at h
    exact h
  · exact ((Below.refl _ _).alloc (Nat.le_refl _) _).alloc (by simp) _

set_option maxRecDepth 100000 in
set_option maxHeartbeats 8000000 in
theorem drawShuffles_any (s : ByteArray) (hs : s.size ≤ 9223372036854775807) (a : Int) (ha : 0 ≤ a ∧ a ≤ 255) (w : World) :
    Calls Try.prog 7 #[.string s, .int .u8 a] w fun e w' => e = .returned (.bool true) ∧ Below w.heap.size w w' := by
  have HS := Lib.hid (fun W => sanity_any W)
  have hcut := cutS_eq s
  have hz : (cutS s 70).size ≤ 70 := by rw [cutS_size]; omega
  obtain ⟨s2, hs2⟩ : ∃ s2, s2 = cutS s 70 := ⟨_, rfl⟩
  rw [← hs2] at hcut hz
  obtain ⟨ha0, ha1⟩ := ha
  obtain ⟨M, hM⟩ : ∃ M : Nat, a % 60 = (M : Int) := ⟨(a % 60).toNat, by omega⟩
  have hM60 : M < 60 := by omega
  clear hs2
  by_cases h0 : s2.size = 0
  · have he : s2.toList.isEmpty = true := by rw [List.isEmpty_iff, empty_iff]; exact h0
    have HB := Lib.hid (fun W => shuffle_bad s2 (by omega) (M : Int) ⟨by omega, by omega⟩ (.inl h0) W)
    clear h0
    go_enter Try.func7, Try.ntmps7
    go_wp2_with (first | (go_at_call 9; refine (HS.out _).mono ?_; rintro e w1 ⟨rfl, hb1⟩; have HB1 := Lib.hid hb1; clear hb1) | (go_at_call 20; refine (HB.out _).mono ?_; rintro e w2 ⟨rfl, hw⟩; subst w2))
    go_ret
    exact ⟨rfl, HB1.out⟩
  · have he : s2.toList.isEmpty = false := by
      cases hq : s2.toList with
      | nil => exact absurd ((empty_iff s2).1 hq) h0
      | cons a l => rfl
    have HG := Lib.hid (fun W => shuffle_good s2 (by omega) h0 M (by omega) W)
    have hgood := good_shuf (s := s2) h0 (n := M) (by omega)
    have HNB : Hid (∀ (i : Nat) W, i < 400 → Calls Try.prog 11 #[.string s2, .int .i64 i, .int .i64 ((i : Int) + 1)] W fun e w' => e = .returned (.tuple #[.int .i64 (numV s2 i ((i : Int) + 1) : Nat), .bool true]) ∧ Below W.heap.size W w') := Lib.hid fun i W hi => by
      have := number_any s2 (by omega) i ((i : Int) + 1) ⟨by omega, by omega⟩ ⟨by omega, by omega⟩ W
      rw [(numV_self h0 (by omega)).1] at this
      exact this
    have HNS := Lib.hid (fun (i : Nat) (hi : i < 1073741824) => (numV_self h0 hi).2)
    have HSH : Hid (shufV s2 M = shufD s2 (M - 1) (List.range M)) := Lib.hid rfl
    obtain ⟨L, hL⟩ : ∃ L, L = shufV s2 M := ⟨_, rfl⟩
    rw [← hL] at HG hgood HSH
    have HGD := Lib.hid hgood
    clear hL hgood h0
    go_enter Try.func7, Try.ntmps7
    go_wp2_with (first | (go_at_call 9; refine (HS.out _).mono ?_; rintro e w1 ⟨rfl, hb1⟩; have HB1 := Lib.hid hb1; clear hb1) | (go_at_call 20; refine (HG.out _).mono ?_; rintro e w2 ⟨rfl, hr, hb⟩; have HR2 := Lib.hid hr; have HB2 := Lib.hid (HB1.out.trans (hb.mono HB1.out.size)); obtain ⟨W3, W4, hmb, hmi, hr3, hr4, hb4⟩ := two_rows w2 M (by omega); have HR3 := Lib.hid hr3; have HR4 := Lib.hid hr4; have HB4 := Lib.hid hb4; clear hr3 hr4 hb4; have HLT := Lib.hid hr.lt; clear hr hb))
    have hr30 : RowB W4 w2.heap.size (marks L M 0) := by rw [marks_zero]; exact HR3.out
    have hr40 : RowI W4 (w2.heap.size + 1) (upto M 0) := by rw [upto_zero]; exact HR4.out
    have HR30 := Lib.hid hr30
    have HR40 := Lib.hid hr40
    have HR10 : Hid (RowI W4 w1.heap.size L) := Lib.hid (HR2.out.below HB4.out)
    have HBB : Hid (Below w.heap.size w W4) := Lib.hid (HB2.out.trans (HB4.out.mono HB2.out.size))
    have hlt := HLT.out
    have hbs : w.heap.size ≤ w1.heap.size := HB1.out.size
    obtain ⟨g1, hg1⟩ : ∃ g1, g1 = w1.heap.size := ⟨_, rfl⟩
    obtain ⟨g2, hg2⟩ : ∃ g2, g2 = w2.heap.size := ⟨_, rfl⟩
    rw [← hg1, ← hg2] at hlt
    rw [← hg1] at HR10 hbs
    rw [← hg2] at HR30 HR40
    rw [← hg1, ← hg2]
    have HLT := Lib.hid hlt
    have HBS := Lib.hid hbs
    clear hmb hmi hr30 hr40 hlt hbs hg1 hg2 HR2 HR3 HR4
    go_loopw [11, 56] (fun _ kv wr => ∃ k : Nat, k ≤ M ∧ kv = .int .i64 (k : Nat) ∧ Hid (RowI wr g1 L) ∧ Hid (RowB wr g2 (marks L M k)) ∧ Hid (RowI wr (g2 + 1) (upto M k)) ∧ Hid (Below w.heap.size w wr)) (fun _ kv _ => M - (intOf kv).toNat)
    case atStart => exact ⟨0, by omega, rfl, HR10, HR30, HR40, HBB⟩
    case round =>
      obtain ⟨k, hk, rfl, hJ1, hJ2, hJ3, hB⟩ := hrel
      by_cases hkM : k = M
      · subst hkM
        have hJ4 : Hid (RowI wr (g2 + 1) (List.range k)) := Lib.hid (by have := hJ3.out; rwa [upto_end] at this)
        clear hJ2 hJ3
        go_wp2
        go_loopw [12, 13, 14] (fun jv _ _ wr => ∃ (i : Int) (T : List Nat), -1 ≤ i ∧ i < k ∧ jv = .int .i64 i ∧ Hid (T.length = k) ∧ Hid (shufD s2 i.toNat T = L) ∧ Hid (RowI wr (g2 + 1) T) ∧ Hid (RowI wr g1 L) ∧ Hid (Below w.heap.size w wr)) (fun jv _ _ _ => (intOf jv).toNat)
        case atStart => exact ⟨(k : Int) - 1, List.range k, by omega, by omega, rfl, Lib.hid (by simp), Lib.hid (by rw [show ((k : Int) - 1).toNat = k - 1 by omega]; exact HSH.out.symm), hJ4, hJ1, hB⟩
        case round =>
          obtain ⟨i, T, hi1, hi2, rfl, hL, hS, hR, hR1, hB2⟩ := hrel
          by_cases hi0 : i ≤ 0
          · have e1 : T = L := by rw [← hS.out, show i.toNat = 0 by omega]; rfl
            have HR3 := hR.out
            rw [e1] at HR3
            have HN := Lib.hid (numbers_rows hR1.out HR3 HGD.out.len.symm (by omega) (fun q => by
              by_cases hq : q < k
              · have := HGD.out.lt q hq; omega
              · simp [List.getD, List.getElem?_eq_none (show L.length ≤ q by rw [HGD.out.len]; omega)]))
            clear HR3 e1
            go_wp2_with (go_at_call 21; refine HN.out.mono ?_; rintro e w3 ⟨rfl, hb3⟩; have HB3 := Lib.hid hb3; clear hb3)
            go_ret
            exact ⟨rfl, hB2.out.trans (HB3.out.mono hB2.out.size)⟩
          · obtain ⟨j, rfl⟩ : ∃ j : Nat, i = (j : Int) + 1 := ⟨(i - 1).toNat, by omega⟩
            have hj := HNB.out (j + 1) wr (by omega)
            have ho := HNS.out (j + 1) (by omega)
            have hS2 : shufD s2 j (swp s2 (j + 1) T) = L := by rw [← hS.out, show ((j : Int) + 1).toNat = j + 1 by omega]; rfl
            have hlen := hL.out
            have c1 := fun (o : Nat) (h : o ≤ j + 1) => hR.out.cell (j := o) (by omega)
            unfold swp at hS2
            rw [show ((j + 1 : Nat) : Int) = (j : Int) + 1 by omega] at hj ho hS2
            obtain ⟨o, hoe⟩ : ∃ o, o = numV s2 ((j : Int) + 1) ((j : Int) + 1 + 1) := ⟨_, rfl⟩
            rw [← hoe] at hj ho hS2
            have ca := c1 (j + 1) (by omega)
            have cb := c1 o ho
            have HS2 := Lib.hid hS2
            have HJ := Lib.hid hj
            have HLN := Lib.hid hlen
            obtain ⟨a2, hae⟩ : ∃ a2, a2 = T.getD (j + 1) 0 := ⟨_, rfl⟩
            obtain ⟨b2, hbe⟩ : ∃ b2, b2 = T.getD o 0 := ⟨_, rfl⟩
            rw [← hae] at ca HS2
            rw [← hbe] at cb HS2
            have hoi : (o : Int) ≤ (j : Int) + 1 := by omega
            clear hoe hae hbe hS2 hj hlen c1 hS hL
            go_wp2_with (go_at_call 11; refine HJ.out.mono ?_; rintro e w3 ⟨rfl, hb2⟩; have ca2 := cell_later hb2 ca; have cb2 := cell_later hb2 cb; have HR2 := Lib.hid (hR.out.below hb2); have HR1 := Lib.hid (hR1.out.below hb2); have f2 := HR2.out.free (j + 1); have f3 := HR2.out.free o; have HB3 := Lib.hid (hB2.out.trans (hb2.mono hB2.out.size)); clear hb2)
            have hok : o < k := by omega
            have hR3 : RowI ((w3.setCell ⟨g2 + 1, j + 1, none⟩ (.int .i64 (b2 : Nat))).drew) (g2 + 1) (T.set (j + 1) b2) := HR2.out.set (j + 1) b2
            have cc := hR3.cell (j := o) (by rw [List.length_set, HLN.out]; exact hok)
            have fc := hR3.free o
            have hg1n : g1 ≠ g2 + 1 := by have := HLT.out; omega
            have HR4 : Hid (RowI (((w3.setCell ⟨g2 + 1, j + 1, none⟩ (.int .i64 (b2 : Nat))).setCell ⟨g2 + 1, o, none⟩ (.int .i64 (a2 : Nat))).drew) (g2 + 1) ((T.set (j + 1) b2).set o a2)) := Lib.hid (hR3.set o a2)
            have HR5 : Hid (RowI (((w3.setCell ⟨g2 + 1, j + 1, none⟩ (.int .i64 (b2 : Nat))).setCell ⟨g2 + 1, o, none⟩ (.int .i64 (a2 : Nat))).drew) g1 L) := Lib.hid (RowI.other (RowI.other HR1.out hg1n) hg1n)
            have hgw : w.heap.size ≤ g2 + 1 := by have := HLT.out; have := HBS.out; omega
            have HB4 : Hid (Below w.heap.size w (((w3.setCell ⟨g2 + 1, j + 1, none⟩ (.int .i64 (b2 : Nat))).setCell ⟨g2 + 1, o, none⟩ (.int .i64 (a2 : Nat))).drew)) := Lib.hid (((HB3.out.setCell (p := ⟨g2 + 1, j + 1, none⟩) hgw _).setCell (p := ⟨g2 + 1, o, none⟩) hgw _).drew)
            have HL4 : Hid (((T.set (j + 1) b2).set o a2).length = k) := Lib.hid (by simp [HLN.out])
            clear hR3 hg1n hgw
            go_region
            go_wp2
            go_roundw
            case rel => exact ⟨(j : Int), _, by omega, by omega, rfl, HL4, Lib.hid (by rw [Int.toNat_natCast]; exact HS2.out), HR4, HR5, HB4⟩
            case measure => simp [intOf]
      · have hkl : k < M := by omega
        have c1 := hJ1.out.cell (j := k) (by rw [HGD.out.len]; exact hkl)
        have hx := HGD.out.lt k hkl
        have c2 := hJ2.out.cell (j := L.getD k 0) (by rw [marks_len]; exact hx)
        rw [marks_get HGD.out hkl] at c2
        have f2 := hJ2.out.free (L.getD k 0)
        have hn12 : g1 ≠ g2 := by have := HLT.out; omega
        have hn13 : g1 ≠ g2 + 1 := by have := HLT.out; omega
        have hr2 := hJ2.out.set (L.getD k 0) true
        rw [marks_set HGD.out hkl] at hr2
        obtain ⟨x, hxe⟩ : ∃ x, x = L.getD k 0 := ⟨_, rfl⟩
        rw [← hxe] at c1 hx c2 f2 hr2
        have hr1 : RowI (wr.setCell ⟨g2, x, none⟩ (.bool true)) g1 L := hJ1.out.other hn12
        have hr3 : RowI (wr.setCell ⟨g2, x, none⟩ (.bool true)) (g2 + 1) (upto M k) := hJ3.out.other (by omega)
        have c3 := hr3.cell (j := k) (by rw [upto_len hk]; exact hkl)
        have f3 := hr3.free k
        have q3 := hr3.set k k
        rw [upto_set hkl] at q3
        have Q1 : Hid (RowI ((wr.setCell ⟨g2, x, none⟩ (.bool true)).setCell ⟨g2 + 1, k, none⟩ (.int .i64 (k : Nat))) g1 L) := Lib.hid (hr1.other hn13)
        have Q2 : Hid (RowB ((wr.setCell ⟨g2, x, none⟩ (.bool true)).setCell ⟨g2 + 1, k, none⟩ (.int .i64 (k : Nat))) g2 (marks L M (k + 1))) := Lib.hid (RowB.other hr2 (by omega))
        have Q3 := Lib.hid q3
        have QB : Hid (Below w.heap.size w ((wr.setCell ⟨g2, x, none⟩ (.bool true)).setCell ⟨g2 + 1, k, none⟩ (.int .i64 (k : Nat)))) := Lib.hid ((hB.out.setCell (p := ⟨g2, x, none⟩) (by have := HLT.out; have := HBS.out; simp only; omega) _).setCell (p := ⟨g2 + 1, k, none⟩) (by have := HLT.out; have := HBS.out; simp only; omega) _)
        clear hxe hr1 hr2 hr3 q3 hJ1 hJ2 hJ3 hn12 hn13
        go_wp2
        go_roundw
        case rel => exact ⟨k + 1, by omega, by go_num, Q1, Q2, Q3, QB⟩
        case measure => simp [intOf]; omega

end Go.Proofs.Ytafdjohgoopcmaa
