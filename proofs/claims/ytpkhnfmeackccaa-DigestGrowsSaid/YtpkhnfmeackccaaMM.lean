/- The law DigestGrows, walked. Conditions: strings of lengths that Go permits. -/
import Derived.BigRegion
import Derived.Test.YtpkhnfmeackccaaLL
namespace Go.Proofs.Ytpkhnfmeackccaa
open Go.RowKit

attribute [local go_sem ↓] appX_rw

set_option maxRecDepth 10000 in
set_option maxHeartbeats 2000000 in
theorem grows_any {w : World} {v : Value} {l : List ByteArray} (hX : Sx w v l) (a : UInt8) (t0 : ByteArray) (ht : t0.size ≤ 9223372036854775807) :
    Calls Try.prog 9 #[v, .string t0, .int .u8 a.toNat] w fun e w' => e = .returned (.bool true) ∧ Below w.heap.size w w' := by
  have HSA := Lib.hid (fun W => sanity_any W)
  obtain ⟨L, hL⟩ : ∃ L, L = cutL l := ⟨_, rfl⟩
  have hL20 : L.length ≤ 20 := by rw [hL, cutL_len]; omega
  have hL30 : ∀ s ∈ L, s.size ≤ 60 := by rw [hL]; exact fun s hs => Nat.le_trans (cutL_size l s hs) (by omega)
  have HL : Hid (∀ W, Below w.heap.size w W → Calls Try.prog 21 #[v] W fun e w' => ∃ ao cap, e = .returned (.slice ao L.length cap) ∧ Sx w' (.slice ao L.length cap) L ∧ Below W.heap.size W w') := fun W hW => by rw [hL]; exact list_S hX hW
  clear hL
  obtain ⟨n, hn⟩ : ∃ n, n = L.length := ⟨_, rfl⟩
  rw [← hn] at HL hL20
  have ha := a.toNat_lt
  obtain ⟨A, hA⟩ : ∃ A : Nat, A = a.toNat := ⟨_, rfl⟩
  rw [← hA]
  rw [← hA] at ha
  obtain ⟨T, hT⟩ : ∃ T, T = cutS t0 60 := ⟨_, rfl⟩
  have ht60 : T.size ≤ 60 := by rw [hT]; exact cut60 t0
  have HSH : Hid (∀ W, Calls Try.prog 11 #[.string t0] W fun e w' => e = .returned (.string T) ∧ W = w') := fun W => by
    rw [hT]
    exact (short_any t0 ht W).mono fun e w' ⟨h1, h2⟩ => ⟨h1, h2.symm⟩
  have HD : Hid (Below w.heap.size w w) := Lib.hid (Below.refl _ _)
  have HE : Hid (w.heap.size ≤ w.heap.size) := Lib.hid (Nat.le_refl _)
  clear hA hT
  by_cases hn0 : n = 0
  · subst hn0
    clear hL30 hn hX
    go_enter Try.func9, Try.ntmps9
    go_wp2_with (first | (go_at_call 10; refine (HSA.out _).mono ?_; rintro e w0 ⟨rfl, hb⟩; have HDD := step1 HD HE hb; have HD := HDD.1; have HE := HDD.2; clear HDD hb) | (go_at_call 21; refine (HL.out _ HD.out).mono ?_; rintro e w1 ⟨ao, cap, rfl, hsx, hb⟩; have HDD := step1 HD HE hb; have HD := HDD.1; have HE := HDD.2; clear HDD hb hsx))
    go_ret
    exact ⟨rfl, HD.out⟩
  · obtain ⟨i, hi⟩ : ∃ i, i = A % n := ⟨_, rfl⟩
    have hin : i < n := by rw [hi]; exact Nat.mod_lt _ (by omega)
    have hki : ((A : Int) % (n : Int)) = (i : Nat) := by rw [hi]; simp
    obtain ⟨m, hm, hnm, hlo⟩ := wid_pow n
    have hm5 : m ≤ 5 := by
      apply Nat.le_of_not_lt
      intro h
      have h4 := hlo (by omega)
      have h5 : 2 ^ 5 ≤ 2 ^ (m - 1) := Nat.pow_le_pow_right (by omega) (by omega)
      omega
    have hand := and_pred (m := m) (n := n) (by omega) (by omega) (by omega) hnm hlo
    obtain ⟨m2, hm2, hcase⟩ : ∃ m2, wid (L ++ [T]).length = 2 ^ m2 ∧ ((n = 2 ^ m ∧ m2 = m + 1 ∧ ∀ k, k < m → (proofS L m i).getD k ⟨#[]⟩ = (proofS (L ++ [T]) m2 i).getD k ⟨#[]⟩) ∨ (n ≠ 2 ^ m ∧ m2 = m ∧ ∃ p, ∀ k, k < m → k ≠ p → (proofS L m i).getD k ⟨#[]⟩ = (proofS (L ++ [T]) m2 i).getD k ⟨#[]⟩)) := by
      by_cases hf : n = 2 ^ m
      · obtain ⟨h1, h2⟩ := grow_full (L := L) (t := T) (m := m) (i := i) (by rw [← hn]; exact hm) (by rw [← hn]; exact hf) (by rw [← hn]; exact hin)
        exact ⟨m + 1, h1, .inl ⟨hf, rfl, h2⟩⟩
      · obtain ⟨h1, h2⟩ := grow_same (L := L) (t := T) (m := m) (i := i) (by rw [← hn]; exact hm) (by rw [← hn]; exact hlo) (by rw [← hn]; omega) (by rw [← hn]; exact hin)
        exact ⟨m, h1, .inr ⟨hf, rfl, h2⟩⟩
    have hsz : ∀ k, (L.getD k ⟨#[]⟩).size ≤ 140737488355000 := fun k => Nat.le_trans (getD_le hL30 k) (by omega)
    have hsz2 : ∀ k, ((L ++ [T]).getD k ⟨#[]⟩).size ≤ 140737488355000 := fun k => Nat.le_trans (getD_le (n := 60) (fun s hs => by
      rcases List.mem_append.1 hs with h | h
      · exact hL30 s h
      · rw [List.mem_singleton.1 h]; exact ht60) k) (by omega)
    have hl1 : (L ++ [T]).length = n + 1 := by rw [List.length_append, ← hn]; rfl
    have HP : Hid (∀ W v, Sx W v L → Calls Try.prog 24 #[v, .int .i64 i] W fun e w' => ∃ ao cap, e = .returned (.tuple #[.slice ao m cap, .bool true]) ∧ Sx w' (.slice ao m cap) (proofS L m i) ∧ Below W.heap.size W w') := fun W v h => prove_S h (by omega) hsz (by rw [← hn]; exact hm) (by rw [← hn]; exact hin)
    have HQ : Hid (∀ W v, Sx W v (L ++ [T]) → Calls Try.prog 24 #[v, .int .i64 i] W fun e w' => ∃ ao cap, e = .returned (.tuple #[.slice ao m2 cap, .bool true]) ∧ Sx w' (.slice ao m2 cap) (proofS (L ++ [T]) m2 i) ∧ Below W.heap.size W w') := fun W v h => prove_S h (by omega) hsz2 hm2 (by omega)
    have hPl := proofS_len L m i
    have hQl := proofS_len (L ++ [T]) m2 i
    have hP8 := proofS_eight (L := L) (by rw [← hn]; exact hm) (show i < 2 ^ m by omega)
    obtain ⟨P, hP⟩ : ∃ P, P = proofS L m i := ⟨_, rfl⟩
    obtain ⟨Q, hQ⟩ : ∃ Q, Q = proofS (L ++ [T]) m2 i := ⟨_, rfl⟩
    rw [← hP] at hcase HP hPl
    rw [← hQ] at hcase HQ hQl
    have HN := Lib.hid hn
    have HNE : Hid (L ≠ []) := fun e => by rw [e] at hn; simp at hn; omega
    clear hi hn hP8 hP hQ hsz hsz2 hm hm2 hl1 hX hL30 hlo
    go_enter Try.func9, Try.ntmps9
    go_wp2_with (first | (go_at_call 10; refine (HSA.out _).mono ?_; rintro e w0 ⟨rfl, hb⟩; have HDD := step1 HD HE hb; have HD := HDD.1; have HE := HDD.2; clear HDD hb) | (go_at_call 21; refine (HL.out _ HD.out).mono ?_; rintro e w1 ⟨ao, cap, rfl, hsx, hb⟩; have HDD := step1 HD HE hb; have HD := HDD.1; have HE := HDD.2; have HSX := Lib.hid hsx; clear HDD hb hsx))
    obtain ⟨i0, hii, hz0, hz1, hz2⟩ := info_parts Try.info9
    obtain ⟨b', off, cap', hv, hlt, hcl⟩ := HSX.out.at HNE.out
    rw [← HN.out] at hv
    injection hv with hv1 hv2 hv3
    subst hv1 hv3
    have hbA : Below w1.heap.size w1 (w1.alloc (.cells #[] 9)) := (Below.refl _ _).alloc (Nat.le_refl _) _
    have hown0 : (w1.alloc (.cells #[] 9)).ownsRow w1.heap.size 9 1 (.slice (some ⟨w1.heap.size, 0, none⟩) 0 0) 0 (sv []) := ⟨rfl, .inr ⟨w1.heap.size, 0, #[], rfl, Nat.le_refl _, heap_alloc_new _ _, Nat.le_refl _, Nat.zero_le _, rfl, rfl⟩⟩
    obtain ⟨v2, w2, hrun, hown2, hgrow2, _⟩ := run_append_own (P := Try.prog) (w := w1.alloc (.cells #[] 9)) w1.heap.size 29 29 9 i0 (.string ⟨#[]⟩) 1 16 Try.underlying29 hii hz0 hz1 hz2 rfl (by decide) _ 0 _ hown0 ⟨b', off, none⟩ n cap (sv L) (by rw [sv, List.length_map, ← HN.out]; omega)
      (fun j u hu => by
        have hj : j < L.length := by
          have := (List.getElem?_eq_some_iff.1 hu).1
          simpa [sv] using this
        have hc := cell_later hbA (hcl j hj)
        have e : (Addr.mk b' off none).add j = ⟨b', off + j, none⟩ := by
          unfold Addr.add
          by_cases hj0 : j = 0
          · subst hj0; rfl
          · rw [if_neg hj0]
        rw [e, hc, ← hu]
        simp [sv, List.getD, hj])
      (fun u hu => by
        simp only [sv, List.mem_map] at hu
        obtain ⟨s, _, rfl⟩ := hu
        rfl) (by unfold maxLen; omega) (by omega) (by simp)
    rw [appX_rw] at hrun
    rw [Nat.zero_add] at hown2
    have hown2' : w2.ownsRow w1.heap.size 9 1 v2 n (sv L) := hown2
    have hb2 : Below w1.heap.size w1 w2 := hbA.grown hgrow2 (by simp) (fun j hj => (hown0.lt j hj).1)
    obtain ⟨ao2, n2, cap2, rfl⟩ := slice_of_owns hown2'
    have hown3 : (w2.alloc (.cells #[.string T] 9)).ownsRow w1.heap.size 9 1 (.slice ao2 n2 cap2) n (sv L) := owns_kept hown2' (KeptC.of_below ((Below.refl _ _).alloc (Nat.le_refl _) _))
    obtain ⟨v4, w4, hrun4, hown4, hgrow4, _⟩ := run_append_own (P := Try.prog) (w := w2.alloc (.cells #[.string T] 9)) w1.heap.size 29 29 9 i0 (.string ⟨#[]⟩) 1 16 Try.underlying29 hii hz0 hz1 hz2 rfl (by decide) _ n _ hown3 ⟨w2.heap.size, 0, none⟩ 1 1 [.string T] rfl (cell_one_new w2 (.string T) 9) (fun x hx => by simp at hx; subst hx; rfl) (by unfold maxLen; omega) (by omega) (by have := hb2.size; simp; omega)
    rw [appX_rw] at hrun4
    have hb4 : Below w1.heap.size w1 w4 := (hb2.alloc hb2.size _).grown hgrow4 (by have := hb2.size; simp; omega) (fun j hj => (hown3.lt j hj).1)
    obtain ⟨ao4, n4, cap4, rfl⟩ := slice_of_owns hown4
    have HS4 := Lib.hid (Sx.of_sv (l := L ++ [T]) (by rw [sv_append]; exact hown4)).1
    have HS1 := Lib.hid (HSX.out.below hb4)
    have HD4 := Lib.hid (HD.out.trans (hb4.mono HE.out))
    have HE4 : Hid (w.heap.size ≤ w4.heap.size) := Lib.hid HD4.out.size
    clear hown4 hown3 hown2' hown2 hgrow4 hgrow2 hown0 hbA hcl hv2 hlt hb2 hb4 hii hz0 hz1 hz2
    rcases hcase with ⟨hf, rfl, heq⟩ | ⟨hf, hmm, p, heq⟩
    · have hz : bits .and .i64 (n : Int) ((n : Int) - 1) = 0 := by
        rw [decide_eq_true hf, decide_eq_true_eq] at hand; exact hand
      have hcm : cntS P Q m = 0 := cntS_zero heq m (Nat.le_refl _)
      clear heq hand hf
      rw [hrun]
      simp only [Result.andThen]
      rw [Oper.upon_value]
      go_wp2_with (first | (go_at_call 11; refine (HSH.out _).mono ?_; rintro e w3 ⟨rfl, rfl⟩) | (go_at_call_of 24 (Value.slice (some ⟨b', off, none⟩) n cap); refine (HP.out _ _ HS1.out).mono ?_; rintro e w5 ⟨ao5, cap5, rfl, hps, hb⟩; have HPS := Lib.hid hps; have HG := Lib.hid hb; have HDD := step1 HD4 HE4 hb; have HD4 := HDD.1; have HE4 := HDD.2; clear HDD; clear hps hb) | (go_at_call_of 24 (Value.slice ao4 n4 cap4); refine (HQ.out _ _ (HS4.out.below HG.out)).mono ?_; rintro e w6 ⟨ao6, cap6, rfl, hqs, hb⟩; have HQS := Lib.hid hqs; have HPS := Lib.hid (HPS.out.below hb); have HDD := step1 HD4 HE4 hb; have HD4 := HDD.1; have HE4 := HDD.2; clear HDD; clear hqs hb))
      · exfalso
        rename_i h
        rcases h with h | h
        · omega
        · rw [decide_eq_true (show (m : Int) < m + 1 by omega)] at h
          cases h
      have HI0 : Hid (Below w6.heap.size w6 w6) := Lib.hid (Below.refl _ _)
      have HC := Lib.hid hcm
      clear hcm
      go_loopw [15, 87] (fun cv kv wr => ∃ k : Nat, k ≤ m ∧ kv = .int .i64 (k : Nat) ∧ cv = .int .i64 (cntS P Q k : Nat) ∧ Hid (Below w6.heap.size w6 wr)) (fun _ kv _ => m - (intOf kv).toNat)
      case atStart => exact ⟨0, by omega, rfl, rfl, HI0⟩
      case round =>
        obtain ⟨k, hk, rfl, rfl, hJ⟩ := hrel
        by_cases hkm : k = m
        · subst hkm
          have hc0 := HC.out
          obtain ⟨c, hc⟩ : ∃ c, c = cntS P Q k := ⟨_, rfl⟩
          rw [← hc] at hc0 ⊢
          subst hc0
          clear hc
          go_wp2
          go_ret
          exact ⟨rfl, HD4.out.trans (hJ.out.mono HE4.out)⟩
        · have hk2 : k < m := by omega
          obtain ⟨b5, off5, cap5', hv5, hlt5, hcl5⟩ := HPS.out.at (fun e => by rw [e, List.length_nil] at hPl; omega)
          obtain ⟨b6, off6, cap6', hv6, hlt6, hcl6⟩ := HQS.out.at (fun e => by rw [e, List.length_nil] at hQl; omega)
          have hc5 := cell_later hJ.out (hcl5 k (by omega))
          have hc6 := cell_later hJ.out (hcl6 k (by omega))
          injection hv5 with hv51 hv52 hv53
          subst hv51 hv53
          injection hv6 with hv61 hv62 hv63
          subst hv61 hv63
          have hcs : cntS P Q (k + 1) = cntS P Q k + (if P.getD k ⟨#[]⟩ = Q.getD k ⟨#[]⟩ then 0 else 1) := rfl
          have hcle := cntS_le P Q k
          obtain ⟨x, hx⟩ : ∃ x, x = P.getD k ⟨#[]⟩ := ⟨_, rfl⟩
          obtain ⟨y, hy⟩ : ∃ y, y = Q.getD k ⟨#[]⟩ := ⟨_, rfl⟩
          rw [← hx, ← hy] at hcs
          rw [← hx] at hc5
          rw [← hy] at hc6
          obtain ⟨c, hc⟩ : ∃ c, c = cntS P Q k := ⟨_, rfl⟩
          rw [← hc] at hcs hcle ⊢
          have HCS := Lib.hid hcs
          have HJD : Hid (Below w6.heap.size w6 wr.drew) := Lib.hid (hJ.out.trans ((show Below wr.heap.size wr wr.drew from ⟨rfl, rfl, rfl, Nat.le_refl _, fun _ _ => rfl⟩).mono hJ.out.size))
          clear hcl5 hcl6 hx hy hc hcs hlt5 hlt6 hv52 hv62 hJ
          by_cases hxy : x = y
          · have hq : (x.toList == y.toList) = true := by rw [hxy]; exact beq_self_eq_true _
            have h1 : cntS P Q (k + 1) = c := by rw [HCS.out, if_pos hxy]; omega
            have H1 := Lib.hid h1
            clear h1 hxy
            go_wp2_with fail
            go_region
            go_wp2
            exact ⟨⟨k + 1, by omega, by go_num, by rw [H1.out], HJD⟩, by simp [intOf]; omega⟩
          · have hq : (x.toList == y.toList) = false := by rw [str_beq, decide_eq_false_iff_not]; exact fun e => hxy (by_inj e)
            have h1 : cntS P Q (k + 1) = c + 1 := by rw [HCS.out, if_neg hxy]
            have H1 := Lib.hid h1
            clear h1 hxy
            go_wp2_with fail
            go_region
            go_wp2
            exact ⟨⟨k + 1, by omega, by go_num, by rw [H1.out]; go_num, HJD⟩, by simp [intOf]; omega⟩
    · obtain rfl : m = m2 := hmm.symm
      have hz : ¬ bits .and .i64 (n : Int) ((n : Int) - 1) = 0 := by
        rw [decide_eq_false hf, decide_eq_false_iff_not] at hand; exact hand
      have hcm : cntS P Q m = 0 ∨ cntS P Q m = 1 := by
        have := cntS_one heq m (Nat.le_refl _)
        split at this <;> omega
      clear heq hand hf
      rw [hrun]
      simp only [Result.andThen]
      rw [Oper.upon_value]
      go_wp2_with (first | (go_at_call 11; refine (HSH.out _).mono ?_; rintro e w3 ⟨rfl, rfl⟩) | (go_at_call_of 24 (Value.slice (some ⟨b', off, none⟩) n cap); refine (HP.out _ _ HS1.out).mono ?_; rintro e w5 ⟨ao5, cap5, rfl, hps, hb⟩; have HPS := Lib.hid hps; have HG := Lib.hid hb; have HDD := step1 HD4 HE4 hb; have HD4 := HDD.1; have HE4 := HDD.2; clear HDD; clear hps hb) | (go_at_call_of 24 (Value.slice ao4 n4 cap4); refine (HQ.out _ _ (HS4.out.below HG.out)).mono ?_; rintro e w6 ⟨ao6, cap6, rfl, hqs, hb⟩; have HQS := Lib.hid hqs; have HPS := Lib.hid (HPS.out.below hb); have HDD := step1 HD4 HE4 hb; have HD4 := HDD.1; have HE4 := HDD.2; clear HDD; clear hqs hb))
      · exfalso
        rename_i h
        rcases h with h | h
        · omega
        · exact hz (by simpa using h)
      have HI0 : Hid (Below w6.heap.size w6 w6) := Lib.hid (Below.refl _ _)
      have HC := Lib.hid hcm
      clear hcm
      go_loopw [15, 87] (fun cv kv wr => ∃ k : Nat, k ≤ m ∧ kv = .int .i64 (k : Nat) ∧ cv = .int .i64 (cntS P Q k : Nat) ∧ Hid (Below w6.heap.size w6 wr)) (fun _ kv _ => m - (intOf kv).toNat)
      case atStart => exact ⟨0, by omega, rfl, rfl, HI0⟩
      case round =>
        obtain ⟨k, hk, rfl, rfl, hJ⟩ := hrel
        by_cases hkm : k = m
        · subst hkm
          have hc0 := HC.out
          obtain ⟨c, hc⟩ : ∃ c, c = cntS P Q k := ⟨_, rfl⟩
          rw [← hc] at hc0 ⊢
          clear hc
          rcases hc0 with rfl | rfl
          · go_wp2
            go_ret
            exact ⟨rfl, HD4.out.trans (hJ.out.mono HE4.out)⟩
          · go_wp2
            go_ret
            exact ⟨rfl, HD4.out.trans (hJ.out.mono HE4.out)⟩
        · have hk2 : k < m := by omega
          obtain ⟨b5, off5, cap5', hv5, hlt5, hcl5⟩ := HPS.out.at (fun e => by rw [e, List.length_nil] at hPl; omega)
          obtain ⟨b6, off6, cap6', hv6, hlt6, hcl6⟩ := HQS.out.at (fun e => by rw [e, List.length_nil] at hQl; omega)
          have hc5 := cell_later hJ.out (hcl5 k (by omega))
          have hc6 := cell_later hJ.out (hcl6 k (by omega))
          injection hv5 with hv51 hv52 hv53
          subst hv51 hv53
          injection hv6 with hv61 hv62 hv63
          subst hv61 hv63
          have hcs : cntS P Q (k + 1) = cntS P Q k + (if P.getD k ⟨#[]⟩ = Q.getD k ⟨#[]⟩ then 0 else 1) := rfl
          have hcle := cntS_le P Q k
          obtain ⟨x, hx⟩ : ∃ x, x = P.getD k ⟨#[]⟩ := ⟨_, rfl⟩
          obtain ⟨y, hy⟩ : ∃ y, y = Q.getD k ⟨#[]⟩ := ⟨_, rfl⟩
          rw [← hx, ← hy] at hcs
          rw [← hx] at hc5
          rw [← hy] at hc6
          obtain ⟨c, hc⟩ : ∃ c, c = cntS P Q k := ⟨_, rfl⟩
          rw [← hc] at hcs hcle ⊢
          have HCS := Lib.hid hcs
          have HJD : Hid (Below w6.heap.size w6 wr.drew) := Lib.hid (hJ.out.trans ((show Below wr.heap.size wr wr.drew from ⟨rfl, rfl, rfl, Nat.le_refl _, fun _ _ => rfl⟩).mono hJ.out.size))
          clear hcl5 hcl6 hx hy hc hcs hlt5 hlt6 hv52 hv62 hJ
          by_cases hxy : x = y
          · have hq : (x.toList == y.toList) = true := by rw [hxy]; exact beq_self_eq_true _
            have h1 : cntS P Q (k + 1) = c := by rw [HCS.out, if_pos hxy]; omega
            have H1 := Lib.hid h1
            clear h1 hxy
            go_wp2_with fail
            go_region
            go_wp2
            exact ⟨⟨k + 1, by omega, by go_num, by rw [H1.out], HJD⟩, by simp [intOf]; omega⟩
          · have hq : (x.toList == y.toList) = false := by rw [str_beq, decide_eq_false_iff_not]; exact fun e => hxy (by_inj e)
            have h1 : cntS P Q (k + 1) = c + 1 := by rw [HCS.out, if_neg hxy]
            have H1 := Lib.hid h1
            clear h1 hxy
            go_wp2_with fail
            go_region
            go_wp2
            exact ⟨⟨k + 1, by omega, by go_num, by rw [H1.out]; go_num, HJD⟩, by simp [intOf]; omega⟩

end Go.Proofs.Ytpkhnfmeackccaa
