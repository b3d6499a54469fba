/- Contracts: Left, hasBlocks, fits. Condition: the slices read az ints; few of them in Left. -/
import Derived.Test.YtjlneggfkpjnpaaB
namespace Go.Proofs.Ytjlneggfkpjnpaa
open Go.RowKit

set_option maxRecDepth 10000 in
set_option maxHeartbeats 1000000 in
theorem left_any {W : World} {v : Value} {l : List Int} (hX : Ix W v l) (hl : l.length ≤ 1000) :
    Calls Try.prog 15 #[v] W fun e w' => e = .returned (.int .i64 (leftV l)) ∧ Below W.heap.size W w' := by
  obtain ⟨ao, cap, rfl⟩ := hX.mk'
  have HW := Lib.hid (within_any hX 0 1048576)
  have HX := Lib.hid hX
  obtain ⟨n, hn⟩ : ∃ n, n = l.length := ⟨_, rfl⟩
  have HN := Lib.hid hn
  rw [← hn] at hl HX HW ⊢
  unfold leftV
  by_cases hin : inB 0 1048576 l = true
  · have HS := Lib.hid (sum_in hin)
    rw [if_pos hin]
    rw [hin] at HW
    obtain ⟨R, hR⟩ : ∃ R, R = l.sum := ⟨_, rfl⟩
    have HR := Lib.hid hR
    rw [← hR]
    clear hX hn hin hR
    go_enter Try.func15, Try.ntmps15
    go_wp2_with (go_at_call 33; refine HW.out.mono ?_; rintro e w1 ⟨rfl, hb1⟩; have HB1 := Lib.hid hb1; clear hb1)
    go_loop [3, 11] (fun sv kv => ∃ (k : Nat) (S : Int), k ≤ n ∧ 0 ≤ S ∧ S ≤ 1048576 * 1000 ∧ kv = .int .i64 (k : Nat) ∧ sv = .int .i64 S ∧ Hid (S = (l.take k).sum)) (fun _ kv => n - (intOf kv).toNat)
    case atStart => exact ⟨0, 0, by omega, by omega, by omega, rfl, rfl, Lib.hid (by simp)⟩
    case round =>
      obtain ⟨k, S, hk, hS0, hS1, rfl, rfl, hJ⟩ := hrel
      by_cases hkn : k = n
      · have e1 : S = R := by rw [hJ.out, HR.out, hkn, HN.out, List.take_length]
        subst hkn e1
        go_wp2
        go_ret
        exact ⟨rfl, HB1.out⟩
      · have hlt : k < n := by omega
        obtain ⟨b, off, rfl, hq, hcap, hbl, hcl⟩ := HX.out.at (by omega)
        have hc := cell_later HB1.out (hcl k hlt)
        have hs := HS.out (k + 1) (by rw [← HN.out]; omega)
        have e := sum_take (l := l) (k := k) (by rw [← HN.out]; omega)
        rw [e, ← hJ.out] at hs
        rw [← hJ.out] at e
        obtain ⟨x, hx⟩ : ∃ x, x = l.getD k 0 := ⟨_, rfl⟩
        rw [← hx] at hc hs e
        obtain ⟨hs1, hs2⟩ := hs
        have hs3 : S + x ≤ 1048576 * 1000 := by omega
        have E := Lib.hid e
        clear hx hcl hq e hs2
        go_wp2
        go_round
        case rel => exact ⟨k + 1, S + x, by omega, hs1, hs3, by go_num, rfl, Lib.hid E.out.symm⟩
        case measure => simp [intOf]; omega
  · have hf : inB 0 1048576 l = false := by simpa using hin
    rw [if_neg hin]
    rw [hf] at HW
    clear hX hn hin hf
    go_enter Try.func15, Try.ntmps15
    go_wp2_with (go_at_call 33; refine HW.out.mono ?_; rintro e w1 ⟨rfl, hb1⟩; have HB1 := Lib.hid hb1; clear hb1)
    go_ret
    exact ⟨rfl, HB1.out⟩

theorem any_max {r : List Int} (h1 : 1 ≤ r.length) (h2 : inB 0 8 r = true) : r.any (fun x => decide (0 < x)) = decide (¬ maxV r (r.getD 0 0) (r.length - 1) = 0) := by
  have h3 := inB_iff.1 h2
  cases ha : r.any (fun x => decide (0 < x)) with
  | true =>
    rw [List.any_eq_true] at ha
    obtain ⟨x, hx, h4⟩ := ha
    obtain ⟨k, hk, rfl⟩ := List.getElem_of_mem hx
    have h5 := maxV_ge (l := r) (r.length - 1) k (by omega)
    have e : r.getD k 0 = r[k] := by simp [List.getD, hk]
    rw [e] at h5
    have h6 : (0 : Int) < r[k] := by simpa using h4
    symm; rw [decide_eq_true_eq]; omega
  | false =>
    rw [List.any_eq_false] at ha
    obtain ⟨j, hj1, hj2⟩ := maxV_mem (l := r) (r.length - 1)
    have hjl : j < r.length := by omega
    have e : r.getD j 0 = r[j] := by simp [List.getD, hjl]
    have h4 := ha r[j] (List.getElem_mem hjl)
    have h5 := h3 j hjl
    have h6 : ¬ (0 : Int) < r[j] := by simpa using h4
    symm; rw [decide_eq_false_iff_not, hj2, e]
    rw [e] at h5
    omega

theorem hasR_no1 {r : List Int} (h : r.length < 1) : hasR r = false := by
  unfold hasR; rw [show decide (1 ≤ r.length) = false from decide_eq_false (by omega)]; rfl
theorem hasR_no2 {r : List Int} (h : 6 < r.length) : hasR r = false := by
  unfold hasR; rw [show decide (r.length ≤ 6) = false from decide_eq_false (by omega)]; simp
theorem hasR_no3 {r : List Int} (h : inB 0 8 r = false) : hasR r = false := by
  unfold hasR; rw [h]; simp
theorem hasR_max {r : List Int} (h1 : 1 ≤ r.length) (h2 : r.length ≤ 6) (h3 : inB 0 8 r = true) : hasR r = decide (¬ maxV r (r.getD 0 0) (r.length - 1) = 0) := by
  unfold hasR; rw [any_max h1 h3, h3]; simp [h1, h2]

set_option maxRecDepth 10000 in
set_option maxHeartbeats 1000000 in
theorem hasBlocks_any {W : World} {ar az : Option Addr} {nr cr ns cs : Nat} {r s : List Int} (hr : Ix W (.slice ar nr cr) r) (hs : Ix W (.slice az ns cs) s) :
    Calls Try.prog 30 #[.agg #[.int .i64 0, .slice ar nr cr, .slice az ns cs, .int .i64 0, .int .i64 0, .int .i64 0]] W fun e w' => e = .returned (.bool (hasB r s)) ∧ Below W.heap.size W w' := by
  have hnr := hr.size
  have hns := hs.size
  have HB0 := Lib.hid ((Below.refl W.heap.size W).alloc (Nat.le_refl _) (.cells #[.int .i64 0, .slice ar nr cr, .slice az ns cs, .int .i64 0, .int .i64 0, .int .i64 0] 33))
  have HD0 : Hid (DBox (W.alloc (.cells #[.int .i64 0, .slice ar nr cr, .slice az ns cs, .int .i64 0, .int .i64 0, .int .i64 0] 33)) W.heap.size (.slice ar nr cr) (.slice az ns cs)) := Lib.hid (heap_alloc_new _ _)
  have HW := Lib.hid (within_any (hr.below HB0.out) 0 8)
  by_cases h1 : nr < 1
  · have e : hasB r s = false := by unfold hasB; rw [hasR_no1 (by omega)]; rfl
    rw [e]
    clear hr hs hnr hns e
    go_enter Try.func30, Try.ntmps30
    go_wp2
    go_ret
    exact ⟨rfl, HB0.out⟩
  · by_cases h2 : 6 < nr
    · have e : hasB r s = false := by unfold hasB; rw [hasR_no2 (by omega)]; rfl
      rw [e]
      clear hr hs hnr hns e
      go_enter Try.func30, Try.ntmps30
      go_wp2
      go_ret
      exact ⟨rfl, HB0.out⟩
    · by_cases h3 : inB 0 8 r = true
      · have hem := hasR_max (r := r) (by omega) (by omega) h3
        rw [← hnr] at hem
        have HM := Lib.hid (fun W' (hb : Below W.heap.size W W') => max_any (hr.below hb) (by omega))
        rw [← hnr] at HM
        obtain ⟨m, hm⟩ : ∃ m, m = maxV r (r.getD 0 0) (nr - 1) := ⟨_, rfl⟩
        rw [← hm] at HM hem
        rw [h3] at HW
        unfold hasB
        rw [hem]
        have HS := Lib.hid (fun W' (hb : Below W.heap.size W W') => within_any (hs.below hb) 1 4)
        by_cases h4 : m = 0
        · have e : (decide (¬ m = 0) && hasS s) = false := by rw [h4]; rfl
          rw [e]
          clear hr hs hnr hns e hm hem h3
          go_enter Try.func30, Try.ntmps30
          go_wp2_with (first | (go_at_call 33; (with_reducible refine HW.out.mono ?_); rintro e w1 ⟨rfl, hb1⟩; have HB1 := Lib.hid (HB0.out.trans (hb1.mono HB0.out.size)); obtain ⟨c0, c1, c2, -, -, -⟩ := (DBox.below HD0.out hb1).cells; clear hb1) | (go_at_call 42; (with_reducible refine (HM.out _ HB1.out).mono ?_); rintro e w2 ⟨rfl, rfl⟩))
          go_ret
          exact ⟨rfl, HB1.out⟩
        · have hd : decide (¬ m = 0) = true := by simpa using h4
          by_cases h5 : ns < 1
          · have e : (decide (¬ m = 0) && hasS s) = false := by
              rw [hd]; unfold hasS; rw [show decide (1 ≤ s.length) = false from decide_eq_false (by omega)]; rfl
            rw [e]
            clear hr hs hnr hns e hm hem h3 hd
            go_enter Try.func30, Try.ntmps30
            go_wp2_with (first | (go_at_call 33; (with_reducible refine HW.out.mono ?_); rintro e w1 ⟨rfl, hb1⟩; have HB1 := Lib.hid (HB0.out.trans (hb1.mono HB0.out.size)); obtain ⟨c0, c1, c2, -, -, -⟩ := (DBox.below HD0.out hb1).cells; clear hb1) | (go_at_call 42; (with_reducible refine (HM.out _ HB1.out).mono ?_); rintro e w2 ⟨rfl, rfl⟩))
            all_goals first | (go_ret; exact ⟨by first | rfl | (simp; done), HB1.out⟩) | (exfalso; rename_i hq; rcases hq with (hq | hq) | hq <;> first | omega | (simp at hq; omega))
          · by_cases h6 : 3 < ns
            · have e : (decide (¬ m = 0) && hasS s) = false := by
                rw [hd]; unfold hasS; rw [show decide (s.length ≤ 3) = false from decide_eq_false (by omega)]; simp
              rw [e]
              clear hr hs hnr hns e hm hem h3 hd
              go_enter Try.func30, Try.ntmps30
              go_wp2_with (first | (go_at_call 33; (with_reducible refine HW.out.mono ?_); rintro e w1 ⟨rfl, hb1⟩; have HB1 := Lib.hid (HB0.out.trans (hb1.mono HB0.out.size)); obtain ⟨c0, c1, c2, -, -, -⟩ := (DBox.below HD0.out hb1).cells; clear hb1) | (go_at_call 42; (with_reducible refine (HM.out _ HB1.out).mono ?_); rintro e w2 ⟨rfl, rfl⟩))
              all_goals first | (go_ret; exact ⟨by first | rfl | (simp; done), HB1.out⟩) | (exfalso; rename_i hq; rcases hq with (hq | hq) | hq <;> first | omega | (simp at hq; omega))
            · have e : (decide (¬ m = 0) && hasS s) = inB 1 4 s := by
                rw [hd]; unfold hasS; rw [show decide (s.length ≤ 3) = true from decide_eq_true (by omega), show decide (1 ≤ s.length) = true from decide_eq_true (by omega)]; simp
              rw [e]
              obtain ⟨q, hq⟩ : ∃ q, q = inB 1 4 s := ⟨_, rfl⟩
              rw [← hq] at HS ⊢
              clear hr hs hnr hns e hm hem h3 hd hq
              go_enter Try.func30, Try.ntmps30
              go_wp2_with (first | (go_at_call 33; (with_reducible refine HW.out.mono ?_); rintro e w1 ⟨rfl, hb1⟩; have HB1 := Lib.hid (HB0.out.trans (hb1.mono HB0.out.size)); obtain ⟨c0, c1, c2, -, -, -⟩ := (DBox.below HD0.out hb1).cells; clear hb1) | (go_at_call 42; (with_reducible refine (HM.out _ HB1.out).mono ?_); rintro e w2 ⟨rfl, rfl⟩) | (go_at_call 33; (with_reducible refine (HS.out _ HB1.out).mono ?_); rintro e w3 ⟨rfl, hb3⟩; have HB3 := Lib.hid (HB1.out.trans (hb3.mono HB1.out.size)); clear hb3))
              all_goals first | (go_ret; exact ⟨by first | rfl | (simp; done), HB3.out⟩) | (exfalso; rename_i hq; rcases hq with (hq | hq) | hq <;> first | omega | (simp at hq; omega))
      · have hf : inB 0 8 r = false := by simpa using h3
        have e : hasB r s = false := by unfold hasB; rw [hasR_no3 hf]; rfl
        rw [e]
        rw [hf] at HW
        clear hr hs hnr hns e h3 hf
        go_enter Try.func30, Try.ntmps30
        go_wp2_with (go_at_call 33; (with_reducible refine HW.out.mono ?_); rintro e w1 ⟨rfl, hb1⟩; have HB1 := Lib.hid (HB0.out.trans (hb1.mono HB0.out.size)); clear hb1)
        go_ret
        exact ⟨rfl, HB1.out⟩

set_option maxRecDepth 10000 in
set_option maxHeartbeats 1000000 in
theorem fits_any {W : World} {ar az aw : Option Addr} {nr cr ns cs nw cw : Nat} {r row : List Int} (hr : nr = r.length) (hw : Ix W (.slice aw nw cw) row) :
    Calls Try.prog 31 #[.agg #[.int .i64 0, .slice ar nr cr, .slice az ns cs, .int .i64 0, .int .i64 0, .int .i64 0], .slice aw nw cw] W fun e w' => e = .returned (.bool (fitB r row)) ∧ Below W.heap.size W w' := by
  have hnw := hw.size
  have HB0 := Lib.hid ((Below.refl W.heap.size W).alloc (Nat.le_refl _) (.cells #[.int .i64 0, .slice ar nr cr, .slice az ns cs, .int .i64 0, .int .i64 0, .int .i64 0] 33))
  have HW := Lib.hid (within_any (hw.below HB0.out) 0 1048576)
  unfold fitB
  rw [← hr, ← hnw]
  obtain ⟨q, hq⟩ : ∃ q, q = inB 0 1048576 row := ⟨_, rfl⟩
  rw [← hq] at HW ⊢
  clear hr hw hnw hq
  by_cases h1 : nw = 0
  · subst h1
    go_enter Try.func31, Try.ntmps31
    go_wp2
    go_ret
    exact ⟨rfl, HB0.out⟩
  · have e1 : decide (nw = 0) = false := by simpa using h1
    rw [e1]
    clear e1
    by_cases h2 : nw = nr
    · subst h2
      have e2 : (false || (decide (nw = nw) && q)) = q := by simp
      rw [e2]
      clear e2
      go_enter Try.func31, Try.ntmps31
      go_wp2_with (go_at_call 33; (with_reducible refine HW.out.mono ?_); rintro e w1 ⟨rfl, hb1⟩; have HB1 := Lib.hid (HB0.out.trans (hb1.mono HB0.out.size)); clear hb1)
      go_ret
      exact ⟨by first | rfl | (simp [h1]; done) | (simp [h1, h3]; done), HB1.out⟩
    · have e2 : (false || (decide (nw = nr) && q)) = false := by simp [h2]
      rw [e2]
      have h3 : ¬ (nw : Int) = (nr : Int) := by omega
      clear e2
      go_enter Try.func31, Try.ntmps31
      go_wp2
      go_ret
      exact ⟨by first | rfl | (simp [h1]; done) | (simp [h1, h3]; done), HB0.out⟩

end Go.Proofs.Ytjlneggfkpjnpaa
