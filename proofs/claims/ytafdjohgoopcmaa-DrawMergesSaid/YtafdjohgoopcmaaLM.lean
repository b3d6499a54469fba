/- The law DrawMerges, walked. Condition: the arguments fit their types. -/
import Derived.Deep.QuietTactic
import Derived.BigQuiet
import Derived.BigRegion
import Derived.Test.YtafdjohgoopcmaaLY
namespace Go.Proofs.Ytafdjohgoopcmaa
open Go.RowKit

attribute [local go_sem ↓] appC_rw

set_option maxRecDepth 100000 in
set_option maxHeartbeats 8000000 in
theorem drawMerges_any {w : World} {v : Value} {l : List Int} (hX : Ux w v l) (s : ByteArray) (hs : s.size ≤ 9223372036854775807) (k : Int) (hk : I64 k) (t : Int) (ht : 0 ≤ t ∧ t ≤ 255) :
    Calls Try.prog 8 #[.string s, .int .i64 k, v, .int .u8 t] w fun e w' => e = .returned (.bool true) ∧ Below w.heap.size w w' := by
  have HS := Lib.hid (fun W => sanity_any W)
  have hcut := cutS_eq s
  have hz : (cutS s 70).size ≤ 70 := by rw [cutS_size]; omega
  obtain ⟨s2, hs2⟩ : ∃ s2, s2 = cutS s 70 := ⟨_, rfl⟩
  rw [← hs2] at hcut hz
  obtain ⟨ht0, ht1⟩ := ht
  have HX := Lib.hid hX
  obtain ⟨ao0, cap0, rfl⟩ := hX.mk'
  obtain ⟨n, hn⟩ : ∃ n, n = l.length := ⟨_, rfl⟩
  have hn63 := hX.len
  unfold maxLen at hn63
  rw [← hn] at HX hn63 ⊢
  obtain ⟨m, hm⟩ : ∃ m, m = min n 20 := ⟨_, rfl⟩
  have hm20 : m ≤ 20 := by omega
  have hmn : m ≤ n := by omega
  have HM := Lib.hid hm
  clear hs2 hn hX hm
  go_enter Try.func8, Try.ntmps8
  go_wp2_with (go_at_call 9; refine (HS.out _).mono ?_; rintro e w1 ⟨rfl, hb1⟩; have HB1 := Lib.hid hb1; clear hb1)
  go_loopw [10, 11] (fun cv kv wr => ∃ (j : Nat) (ao2 : Option Addr) (cap2 : Nat), j ≤ m ∧ kv = .int .i64 (j : Nat) ∧ cv = .slice ao2 j cap2 ∧ Hid (OwC wr w1.heap.size (.slice ao2 j cap2) j (wl l j)) ∧ Hid (Below w1.heap.size w1 wr)) (fun _ kv _ => m - (intOf kv).toNat)
  case atStart => exact ⟨0, none, 0, by omega, rfl, rfl, Lib.hid (World.ownsRow_nil _ _ _ _), Lib.hid (Below.refl _ _)⟩
  case round =>
    obtain ⟨j, ao2, cap2, hj, rfl, rfl, hO, hB⟩ := hrel
    by_cases hjm : j = m
    · have hend : ¬ j < n ∨ ¬ j < 20 := by have := HM.out; omega
      subst hjm
      have hco := OwC.cx hO.out (by omega) (wl_fit l j)
      have HCX := Lib.hid hco
      have HBW : Hid (Below w.heap.size w wr) := Lib.hid (HB1.out.trans (hB.out.mono HB1.out.size))
      clear hO hB hco
      by_cases hj2 : j < 2
      · have hj2i : (j : Int) < 2 := by omega
        rcases Nat.lt_or_ge j n with h1 | h1
        all_goals
          go_wp2
          all_goals
            go_ret
            exact ⟨rfl, HBW.out⟩
      · have hj2i : ¬ (j : Int) < 2 := by omega
        obtain ⟨J, hJ⟩ : ∃ J : Nat, t % ((j : Int) - 1) = (J : Int) := ⟨(t % ((j : Int) - 1)).toNat, by have := Int.emod_nonneg t (show (j : Int) - 1 ≠ 0 by omega); omega⟩
        have hJj : J + 2 ≤ j := by have := Int.emod_lt_of_pos t (show 0 < (j : Int) - 1 by omega); omega
        have hjm1 : t.tmod ((j : Int) - 1) = (J : Int) := by rw [Int.tmod_eq_emod_of_nonneg ht0]; exact hJ
        obtain ⟨b2, off2, rfl, hcap2, hb2, hcl2⟩ := HCX.out.at (by omega)
        have HCL : Hid (∀ i, i < j → wr.cell? ⟨b2, off2 + i * 3, none⟩ = some (.int .i64 (at3 (wl l j) i).1) ∧ wr.cell? ⟨b2, off2 + i * 3 + 1, none⟩ = some (.int .i64 (at3 (wl l j) i).2.1) ∧ wr.cell? ⟨b2, off2 + i * 3 + 2, none⟩ = some (.int .i64 (at3 (wl l j) i).2.2)) := Lib.hid hcl2
        have HW1 : Hid (∀ i, i < j → 1 ≤ (at3 (wl l j) i).1 ∧ (at3 (wl l j) i).1 ≤ 30) := Lib.hid fun i hi => by
          have e : at3 (wl l j) i = (1 + l.getD i 0 % 30, 0, (i : Int) % 6) := wl_get l hi
          rw [e]
          constructor <;> (simp only; omega)
        have hll : (wl l j).length = j := wl_len l j
        obtain ⟨L, hL⟩ : ∃ L, L = wl l j := ⟨_, rfl⟩
        have htot : total L = pre L j := by rw [hL]; exact total_wl l j hm20
        have hpl : pre L j ≤ 600 := by rw [hL]; have := pre_wl_le l j j (Nat.le_refl _); omega
        rw [← hL] at HCX HCL HW1 hll
        have HLL := Lib.hid hll
        clear hL hcl2 hb2 hll
        obtain ⟨B5, hB5⟩ : ∃ B5, B5 = wr.heap.size := ⟨_, rfl⟩
        have HB5 := Lib.hid hB5
        clear hB5
        rcases Nat.lt_or_ge j n with h1 | h1
        all_goals
          go_wp2
          go_loopw [13, 14, 60] (fun cv _ kv wq => ∃ (i nn : Nat) (ao3 : Option Addr) (cap3 : Nat), i ≤ j ∧ nn ≤ 20 ∧ kv = .int .i64 (i : Nat) ∧ cv = .slice ao3 nn cap3 ∧ Hid (OwC wq B5 (.slice ao3 nn cap3) nn (mg L J i)) ∧ Hid (Below wr.heap.size wr wq)) (fun _ _ kv _ => j - (intOf kv).toNat)
          case atStart => exact ⟨0, 0, none, 0, by omega, by omega, rfl, rfl, Lib.hid (World.ownsRow_nil _ _ _ _), Lib.hid (Below.refl _ _)⟩
          case round =>
            obtain ⟨i, nn, ao3, cap3, hi, hnn, rfl, rfl, hO, hQ⟩ := hrel
            by_cases hij : i = j
            · subst hij
              have hall := mg_all L J (by rw [HLL.out]; exact hJj)
              have hpar := parts L J (by rw [HLL.out]; exact hJj)
              rw [HLL.out] at hall
              have hw1 := HW1.out J (by omega)
              have hw2 := HW1.out (J + 1) (by omega)
              have hmem : ∀ c ∈ L, 1 ≤ c.1 ∧ c.1 ≤ 30 := fun c hc => by
                obtain ⟨q, hq, he⟩ := List.getElem_of_mem hc
                have := HW1.out q (by rw [← HLL.out]; exact hq)
                rw [show at3 L q = c by simp [at3, List.getD, hq, he]] at this
                exact this
              have hfm : ∀ q, I64 ((mg L J i).getD q (0, 0, 0)).1 := fit_ch fun c hc => by
                rw [hall, List.mem_append, List.mem_cons] at hc
                rcases hc with h | h | h
                · have := hmem c (List.mem_of_mem_take h)
                  constructor <;> omega
                · subst h
                  simp only [jn]
                  constructor <;> omega
                · have := hmem c (List.mem_of_mem_drop h)
                  constructor <;> omega
              have hmc := OwC.cx hO.out (by omega) hfm
              have hlc := HCX.out.below hQ.out
              have hsum : total (mg L J i) = total L := by
                unfold total
                have := merge_sum (at3 L J) (at3 L (J + 1)) (jn L J) (L.drop (J + 2)) hw1.1 hw2.1 rfl (L.take J) 0
                rw [← hpar, ← hall] at this
                rw [this]
              have hab : okN s2 k (total L) = true → (if J < pickV s2 k L then pickV s2 k L - 1 else pickV s2 k L) = pickV s2 k (mg L J i) := fun hok => by
                have hok2 : okN s2 k (total (mg L J i)) = true := by rw [hsum]; exact hok
                have h1 : pickV s2 k L = above (numV s2 k (total L)) 0 L := by rw [pickV, if_pos hok]
                have h2 : pickV s2 k (mg L J i) = above (numV s2 k (total L)) 0 (mg L J i) := by rw [pickV, if_pos hok2, hsum]
                have := merge_above (numV s2 k (total L)) (at3 L J) (at3 L (J + 1)) (jn L J) (L.drop (J + 2)) (by simp only [jn]; omega) (L.take J) 0
                rw [← hpar, ← hall, List.length_take, show min J L.length = J by rw [HLL.out]; omega] at this
                rw [h1, h2]
                exact this
              have hno : okN s2 k (total L) = false → pickV s2 k L = 0 ∧ pickV s2 k (mg L J i) = 0 := fun hok => by
                have hok2 : ¬ okN s2 k (total (mg L J i)) = true := by rw [hsum, hok]; decide
                have hok1 : ¬ okN s2 k (total L) = true := by rw [hok]; decide
                exact ⟨by rw [pickV, if_neg hok1], by rw [pickV, if_neg hok2]⟩
              have HP1 := Lib.hid (fun (W : World) (hb : Below wr.heap.size wr W) => pick_any (hlc.below hb) s2 (by omega) k hk)
              have HP2 := Lib.hid (fun (W : World) (hb : Below wr.heap.size wr W) => pick_any (hmc.below hb) s2 (by omega) k hk)
              rw [hsum] at HP2
              have hb1 : pickV s2 k L ≤ 1000 := by have := pickV_le s2 k L; rw [HLL.out] at this; omega
              obtain ⟨O, hOe⟩ : ∃ O, O = okN s2 k (total L) := ⟨_, rfl⟩
              obtain ⟨A, hA⟩ : ∃ A, A = pickV s2 k L := ⟨_, rfl⟩
              obtain ⟨B, hBe⟩ : ∃ B, B = pickV s2 k (mg L J i) := ⟨_, rfl⟩
              rw [← hOe, ← hA] at HP1
              rw [← hOe, ← hBe] at HP2
              rw [← hOe, ← hA, ← hBe] at hab hno
              rw [← hA] at hb1
              clear hOe hA hBe hsum hall hpar hmem hfm hmc hlc hw1 hw2
              cases O with
              | false =>
                obtain ⟨rfl, rfl⟩ := hno rfl
                clear hab hno hb1
                go_wp2_with (go_at_call 14; (with_reducible first | refine (HP1.out _ (Below.refl _ _)).mono ?_ | refine (HP2.out _ HBX.out).mono ?_); rintro e w4 ⟨rfl, hb⟩; (first | (have HBX := Lib.hid (HBX.out.trans (hb.mono HBX.out.size))) | (have HBX := Lib.hid hb)); clear hb)
                go_ret
                exact ⟨rfl, HBW.out.trans ((hQ.out.trans (HBX.out.mono hQ.out.size)).mono HBW.out.size)⟩
              | true =>
                have hab := hab rfl
                clear hno
                by_cases hJA : J < A
                · rw [if_pos hJA] at hab
                  have h3 : (A : Int) - 1 = (B : Int) := by omega
                  have h4 : (J : Int) < (A : Int) := by omega
                  clear hab
                  go_wp2_with (go_at_call 14; (with_reducible first | refine (HP1.out _ (Below.refl _ _)).mono ?_ | refine (HP2.out _ HBX.out).mono ?_); rintro e w4 ⟨rfl, hb⟩; (first | (have HBX := Lib.hid (HBX.out.trans (hb.mono HBX.out.size))) | (have HBX := Lib.hid hb)); clear hb)
                  go_ret
                  exact ⟨rfl, HBW.out.trans ((hQ.out.trans (HBX.out.mono hQ.out.size)).mono HBW.out.size)⟩
                · rw [if_neg hJA] at hab
                  subst hab
                  have h4 : ¬ (J : Int) < (A : Int) := by omega
                  go_wp2_with (go_at_call 14; (with_reducible first | refine (HP1.out _ (Below.refl _ _)).mono ?_ | refine (HP2.out _ HBX.out).mono ?_); rintro e w4 ⟨rfl, hb⟩; (first | (have HBX := Lib.hid (HBX.out.trans (hb.mono HBX.out.size))) | (have HBX := Lib.hid hb)); clear hb)
                  go_ret
                  exact ⟨rfl, HBW.out.trans ((hQ.out.trans (HBX.out.mono hQ.out.size)).mono HBW.out.size)⟩
            · have hil : i < j := by omega
              obtain ⟨d0, d1, d2⟩ := HCL.out i hil
              have d0 := cell_later hQ.out d0
              have d1 := cell_later hQ.out d1
              have d2 := cell_later hQ.out d2
              have hw1 := HW1.out i hil
              by_cases hiJ : i = J + 1
              · subst hiJ
                have hlo := mg_low L J (J + 1) (Nat.le_refl _) (by rw [HLL.out]; omega)
                have hnl : nn = J + 1 := by rw [owC_len hO.out, hlo, List.length_take, HLL.out]; omega
                obtain ⟨g, hg, hgB, hfz, hgc, hown⟩ := own_weight hO.out (J := J) (by omega) ((at3 (mg L J (J + 1)) J).1 + (at3 L (J + 1)).1)
                have e3 : at3 (mg L J (J + 1)) J = at3 L J := by rw [hlo]; simp [at3, List.getD, List.getElem?_take]
                have emg := mg_join L J
                rw [emg] at hown
                have hw2 := HW1.out J (by omega)
                rw [e3] at hgc hown
                subst hg hnl
                revert d0 hgc hown hw1 hw2
                generalize (at3 L (J + 1)).1 = q
                generalize (at3 L J).1 = p
                intro d0 hw1 hgc hw2 hown
                have hp1 : 1 ≤ p := hw2.1
                have hp2 : p ≤ 30 := hw2.2
                have hq1 : 1 ≤ q := hw1.1
                have hq2 : q ≤ 30 := hw1.2
                have hwr : IntKind.i64.wrap (p + q) = p + q := by rw [IntKind.wrap_i64]; omega
                have HO2 : Hid (OwC ((wr.setCell ⟨g, J * 3, none⟩ (.int .i64 (p + q))).drew) B5 (.slice (some ⟨g, 0, none⟩) (J + 1) cap3) (J + 1) (mg L J (J + 1 + 1))) := Lib.hid hown.drew
                have hgB2 := hgB
                rw [HB5.out] at hgB2
                have HQ2 := Lib.hid ((hQ.out.setCell (p := ⟨g, J * 3, none⟩) hgB2 (.int .i64 (p + q))).drew)
                have i1 : (0 : Int) ≤ (J : Int) := by omega
                have i2 : J < J + 1 := by omega
                have i3 : (J : Int) < (J : Int) + 1 := by omega
                have i4 : (J : Int) + 1 < (j : Int) := by omega
                have i5 : J + 1 < j := by omega
                clear hown hgB hgB2 emg e3 hlo hO hw1 hw2 d1 d2
                go_wp2
                go_region
                go_wp2
                go_roundw
                case rel => exact ⟨J + 1 + 1, J + 1, some ⟨g, 0, none⟩, cap3, by omega, by omega, by go_num, rfl, HO2, HQ2⟩
                case measure => simp [intOf]; omega
              · have hne : ¬ (i : Int) = (J : Int) + 1 := by omega
                obtain ⟨ao4, cap4, w4, hrun, hown, hb4⟩ := push_choice hO.out (by omega) (by rw [HB5.out]; exact hQ.out.size) (at3 L i).1 (at3 L i).2.1 (at3 L i).2.2
                have emg : mg L J i ++ [((at3 L i).1, (at3 L i).2.1, (at3 L i).2.2)] = mg L J (i + 1) := by rw [mg, if_neg hiJ]
                rw [emg] at hown
                have hnn2 : nn + 1 ≤ 20 := by have h1 := owC_len hO.out; have h2 := mg_len L J i; omega
                have HO2 := Lib.hid hown
                rw [HB5.out] at hb4
                have HQ2 := Lib.hid (hQ.out.trans hb4)
                revert d0 d1 d2 hrun hw1
                generalize at3 L i = c
                obtain ⟨x, y, z⟩ := c
                intro d0 d1 d2 hw1 hrun
                simp only at d0 d1 d2 hrun
                clear emg hown hb4 hiJ hO hw1
                go_wp2
                go_roundw
                case rel => exact ⟨i + 1, nn + 1, ao4, cap4, by omega, hnn2, by go_num, rfl, HO2, HQ2⟩
                case measure => simp [intOf]; omega
    · have hlt : j < m := by omega
      have hjn : j < n := by omega
      have hj20 : (j : Int) < 20 := by omega
      obtain ⟨b, off, rfl, hcap, hbl, hcl⟩ := HX.out.at (by omega)
      have c0 := cell_later (HB1.out.trans (hB.out.mono HB1.out.size)) (hcl j hjn)
      have hfit := HX.out.fit j
      obtain ⟨ao3, cap3, w3, hrun, hown, hb3⟩ := push_choice hO.out (by omega) hB.out.size (1 + l.getD j 0 % 30) 0 ((j : Int) % 6)
      rw [← wl_succ] at hown
      revert c0 hfit hrun
      generalize l.getD j 0 = x
      intro c0 hfit hrun
      have hx0 : 0 ≤ x := hfit.1
      have hx1 : x ≤ 255 := hfit.2
      have HO3 := Lib.hid hown
      have HB3 : Hid (Below w1.heap.size w1 w3) := Lib.hid (hB.out.trans hb3)
      clear hfit hown hb3 hcl hbl
      go_wp2
      go_roundw
      case rel => exact ⟨j + 1, ao3, cap3, by omega, by go_num, rfl, HO3, HB3⟩
      case measure => simp [intOf]; omega

end Go.Proofs.Ytafdjohgoopcmaa
