/- The law DigestKeys, walked. Condition: strings of lengths that Go permits. -/
import Derived.Test.YtkkbjkjmhjgaiaaCC
namespace Go.Proofs.Ytkkbjkjmhjgaiaa
open Go.RowKit

theorem bent_size (a c : UInt8) (tail s : ByteArray) : (bent a c tail s).size ≤ s.size + 4 := by
  unfold bent
  rw [size_app, sA_size, bump_len, by_len, cutS_size]
  omega

theorem rMark_S (k m : ByteArray) (W : World) (h : k.size < 4294967296) (hs : m.size < 4294967296) : Calls Try.prog 13 #[.string k, .string m] W fun e w' => e = .returned (.string (markS k m)) ∧ Below W.heap.size W w' := rMark_any k m h hs W

theorem stepD {B : Nat} {w W W' : World} (h : Hid (Below B w W)) (hB : Hid (B ≤ W.heap.size)) (hb : Below W.drew.heap.size W.drew W') : Hid (Below B w W') ∧ Hid (B ≤ W'.heap.size) :=
  step1 h hB ((show Below W.heap.size W W.drew from ⟨rfl, rfl, rfl, Nat.le_refl _, fun _ _ => rfl⟩).trans hb)

theorem check_longer {K M : ByteArray} : checkB K M (markS K M ++ ⟨#[120]⟩) = false := by
  unfold checkB
  have : ¬ by' (markS K M ++ ⟨#[120]⟩) = markD K M := fun e => by
    have h := congrArg List.length e
    rw [by_len, size_app, markS_size, size_one] at h
    have h2 : (markD K M).length = 8 := dig_len _
    omega
  rw [decide_eq_false this, Bool.and_false]

theorem check_own {K M : ByteArray} (h : K.size ≠ 0) : checkB K M (markS K M) = true := by
  unfold checkB
  rw [markS, by_sA, decide_eq_true rfl, Bool.and_true, decide_eq_true_eq]
  exact h

theorem check_none {K M x : ByteArray} (h : K.size = 0) : checkB K M x = false := by
  unfold checkB
  rw [decide_eq_false (by omega), Bool.false_and]

theorem check_eq (O T K M : ByteArray) : checkB O T (markS K M) = (decide (O.size ≠ 0) && ((markS O T).toList == (markS K M).toList)) := by
  unfold checkB
  rw [str_beq, markS, markS, by_sA, by_sA]
  congr 1
  rw [Bool.eq_iff_iff, decide_eq_true_eq, decide_eq_true_eq]
  exact eq_comm

set_option maxRecDepth 10000 in
set_option maxHeartbeats 4000000 in
theorem keys_any (key msg tc td : ByteArray) (a c d e' : UInt8) (hkey : key.size ≤ 9223372036854775807) (hmsg : msg.size ≤ 9223372036854775807) (htc : tc.size ≤ 9223372036854775807) (htd : td.size ≤ 9223372036854775807) (w : World) :
    Calls Try.prog 6 #[.string key, .string msg, .agg #[.int .u8 a.toNat, .int .u8 c.toNat, .string tc], .agg #[.int .u8 d.toNat, .int .u8 e'.toNat, .string td]] w fun e w' => e = .returned (.bool true) ∧ Below w.heap.size w w' := by
  have HSA := Lib.hid (fun W => sanity_any W)
  obtain ⟨K, hK⟩ : ∃ K, K = cutS key 60 := ⟨_, rfl⟩
  obtain ⟨M, hM⟩ : ∃ M, M = cutS msg 60 := ⟨_, rfl⟩
  have k60 : K.size ≤ 60 := by rw [hK]; exact cut60 key
  have m60 : M.size ≤ 60 := by rw [hM]; exact cut60 msg
  have HSK : Hid (∀ W, Calls Try.prog 11 #[.string key] W fun e w' => e = .returned (.string K) ∧ Below W.heap.size W w') := fun W => by rw [hK]; exact short_S key W hkey
  have HSM : Hid (∀ W, Calls Try.prog 11 #[.string msg] W fun e w' => e = .returned (.string M) ∧ Below W.heap.size W w') := fun W => by rw [hM]; exact short_S msg W hmsg
  have hMK := mark_S
  have hRM := rMark_S
  have hCK := check_S
  have HC1 := Lib.hid (fun W => changeOf_any a c tc K (by omega) htc W)
  have HC2 := Lib.hid (fun W => changeOf_any d e' td M (by omega) htd W)
  have o1 := bent_size a c tc K
  have o2 := bent_size d e' td M
  obtain ⟨O, hO⟩ : ∃ O, O = bent a c tc K := ⟨_, rfl⟩
  obtain ⟨T, hT⟩ : ∃ T, T = bent d e' td M := ⟨_, rfl⟩
  rw [← hO] at HC1 o1
  rw [← hT] at HC2 o2
  obtain ⟨A, hA⟩ : ∃ A : Int, A = a.toNat := ⟨_, rfl⟩
  obtain ⟨C, hC⟩ : ∃ C : Int, C = c.toNat := ⟨_, rfl⟩
  obtain ⟨D, hD⟩ : ∃ D : Int, D = d.toNat := ⟨_, rfl⟩
  obtain ⟨E, hE⟩ : ∃ E : Int, E = e'.toNat := ⟨_, rfl⟩
  rw [← hA, ← hC] at HC1
  rw [← hD, ← hE] at HC2
  rw [← hA, ← hC, ← hD, ← hE]
  have hz := markS_size K M
  have hz2 := markS_size O T
  have f1 := @check_own K M
  have f2 := @check_longer K M
  have f3 := @check_none K M (markS K M)
  have f4 := check_eq O T K M
  obtain ⟨X, hX⟩ : ∃ X, X = markS K M := ⟨_, rfl⟩
  obtain ⟨Y, hY⟩ : ∃ Y, Y = markS O T := ⟨_, rfl⟩
  have HM : Hid (∀ W, Calls Try.prog 18 #[.string K, .string M] W fun e w' => e = .returned (.string X) ∧ Below W.heap.size W w') := fun W => by rw [hX]; exact hMK K M W (by omega) (by omega)
  have HRM : Hid (∀ W, Calls Try.prog 13 #[.string O, .string T] W fun e w' => e = .returned (.string Y) ∧ Below W.heap.size W w') := fun W => by rw [hY]; exact hRM O T W (by omega) (by omega)
  rw [← hX] at hz f1 f2 f3 f4
  rw [← hY] at hz2 f4
  obtain ⟨kF, hkF⟩ : ∃ kF, kF = checkB := ⟨_, rfl⟩
  rw [← hkF] at hCK f1 f2 f3 f4
  have HK := Lib.hid hCK
  have HB : Hid (Below (w.heap.size + 2) ((w.alloc (.cells #[.int .u8 A, .int .u8 C, .string tc] 23)).alloc (.cells #[.int .u8 D, .int .u8 E, .string td] 23)) ((w.alloc (.cells #[.int .u8 A, .int .u8 C, .string tc] 23)).alloc (.cells #[.int .u8 D, .int .u8 E, .string td] 23))) := Below.refl _ _
  have HZ : Hid (w.heap.size + 2 ≤ ((w.alloc (.cells #[.int .u8 A, .int .u8 C, .string tc] 23)).alloc (.cells #[.int .u8 D, .int .u8 E, .string td] 23)).heap.size) := Lib.hid (by simp)
  have HW : Hid (Below w.heap.size w ((w.alloc (.cells #[.int .u8 A, .int .u8 C, .string tc] 23)).alloc (.cells #[.int .u8 D, .int .u8 E, .string td] 23))) := Lib.hid (by go_grown)
  have HKP : Hid (∀ w', Below (w.heap.size + 2) ((w.alloc (.cells #[.int .u8 A, .int .u8 C, .string tc] 23)).alloc (.cells #[.int .u8 D, .int .u8 E, .string td] 23)) w' → w'.cell? ⟨w.heap.size, 0, none⟩ = some (.int .u8 A) ∧ w'.cell? ⟨w.heap.size, 1, none⟩ = some (.int .u8 C) ∧ w'.cell? ⟨w.heap.size, 2, none⟩ = some (.string tc) ∧ w'.cell? ⟨w.heap.size + 1, 0, none⟩ = some (.int .u8 D) ∧ w'.cell? ⟨w.heap.size + 1, 1, none⟩ = some (.int .u8 E) ∧ w'.cell? ⟨w.heap.size + 1, 2, none⟩ = some (.string td)) := fun w' hb' => by
    have q1 : ((w.alloc (.cells #[.int .u8 A, .int .u8 C, .string tc] 23)).alloc (.cells #[.int .u8 D, .int .u8 E, .string td] 23)).heap[w.heap.size]? = some (.cells #[.int .u8 A, .int .u8 C, .string tc] 23 (0, 0)) := (Below.heap_alloc _ _ _ (by simp)).trans (heap_alloc_new _ _)
    have q2 := heap_alloc_new (w.alloc (.cells #[.int .u8 A, .int .u8 C, .string tc] 23)) (.cells #[.int .u8 D, .int .u8 E, .string td] 23)
    rw [World.size_alloc] at q2
    have r1 := (hb'.block _ (by omega)).trans q1
    have r2 := (hb'.block _ (by omega)).trans q2
    refine ⟨?_, ?_, ?_, ?_, ?_, ?_⟩
    · rw [cell_of_row _ _ _ _ _ _ r1]; rfl
    · rw [cell_of_row _ _ _ _ _ _ r1]; rfl
    · rw [cell_of_row _ _ _ _ _ _ r1]; rfl
    · rw [cell_of_row _ _ _ _ _ _ r2]; rfl
    · rw [cell_of_row _ _ _ _ _ _ r2]; rfl
    · rw [cell_of_row _ _ _ _ _ _ r2]; rfl
  have HKe : (K.toList = []) ↔ K.size = 0 := by rw [ByteArray.toList_eq, ← by_len]; exact List.length_eq_zero_iff.symm
  have HOe : (O.toList = []) ↔ O.size = 0 := by rw [ByteArray.toList_eq, ← by_len]; exact List.length_eq_zero_iff.symm
  clear hMK hRM hCK hK hM hO hT hA hC hD hE hX hY hkF hkey hmsg htc htd
  by_cases h0 : K.size = 0
  · have h1 : K.toList.isEmpty = true := List.isEmpty_iff.2 (HKe.2 h0)
    have f3' := f3 h0
    clear f1 f2 f3 f4 HKe HOe
    go_enter Try.func6, Try.ntmps6
    go_wp2_with (first | (go_at_call 10; refine (HSA.out _).mono ?_; rintro e w0 ⟨rfl, hb⟩; (first | (have HBB := step1 HB HZ hb) | (have HBB := step2 HB HZ hb) | (have HBB := stepD HB HZ hb)); have HB := HBB.1; have HZ := HBB.2; clear HBB hb) | (go_at_call_of 11 (Value.string key); refine (HSK.out _).mono ?_; rintro e w0 ⟨rfl, hb⟩; (first | (have HBB := step1 HB HZ hb) | (have HBB := step2 HB HZ hb) | (have HBB := stepD HB HZ hb)); have HB := HBB.1; have HZ := HBB.2; clear HBB hb) | (go_at_call_of 11 (Value.string msg); refine (HSM.out _).mono ?_; rintro e w0 ⟨rfl, hb⟩; (first | (have HBB := step1 HB HZ hb) | (have HBB := step2 HB HZ hb) | (have HBB := stepD HB HZ hb)); have HB := HBB.1; have HZ := HBB.2; clear HBB hb) | (go_at_call 18; refine (HM.out _).mono ?_; rintro e w0 ⟨rfl, hb⟩; (first | (have HBB := step1 HB HZ hb) | (have HBB := step2 HB HZ hb) | (have HBB := stepD HB HZ hb)); have HB := HBB.1; have HZ := HBB.2; clear HBB hb) | (go_at_call 19; refine (HK.out _ _ _ _ (by omega) (by omega) (by omega)).mono ?_; rintro e w0 ⟨rfl, hb⟩; (first | (have HBB := step1 HB HZ hb) | (have HBB := step2 HB HZ hb) | (have HBB := stepD HB HZ hb)); have HB := HBB.1; have HZ := HBB.2; clear HBB hb))
    go_ret
    exact ⟨rfl, HW.out.trans (HB.out.mono (by omega))⟩
  · have h1 : K.toList.isEmpty = false := by rw [← Bool.not_eq_true, List.isEmpty_iff]; exact fun e => h0 (HKe.1 e)
    have f1' := f1 h0
    clear f1 f3 HKe h0
    go_enter Try.func6, Try.ntmps6
    go_wp2_with (first | (go_at_call 10; refine (HSA.out _).mono ?_; rintro e w0 ⟨rfl, hb⟩; (first | (have HBB := step1 HB HZ hb) | (have HBB := step2 HB HZ hb) | (have HBB := stepD HB HZ hb)); have HB := HBB.1; have HZ := HBB.2; clear HBB hb) | (go_at_call_of 11 (Value.string key); refine (HSK.out _).mono ?_; rintro e w0 ⟨rfl, hb⟩; (first | (have HBB := step1 HB HZ hb) | (have HBB := step2 HB HZ hb) | (have HBB := stepD HB HZ hb)); have HB := HBB.1; have HZ := HBB.2; clear HBB hb) | (go_at_call_of 11 (Value.string msg); refine (HSM.out _).mono ?_; rintro e w0 ⟨rfl, hb⟩; (first | (have HBB := step1 HB HZ hb) | (have HBB := step2 HB HZ hb) | (have HBB := stepD HB HZ hb)); have HB := HBB.1; have HZ := HBB.2; clear HBB hb) | (go_at_call 18; refine (HM.out _).mono ?_; rintro e wm ⟨rfl, hb⟩; (first | (have HBB := step1 HB HZ hb) | (have HBB := step2 HB HZ hb) | (have HBB := stepD HB HZ hb)); have HB := HBB.1; have HZ := HBB.2; clear HBB hb))
    obtain ⟨g0, g1, g2, g3, g4, g5⟩ := HKP.out _ HB.out
    go_region_held3 (fun w' => w'.cell? ⟨w.heap.size, 0, none⟩ = some (.int .u8 A) ∧ w'.cell? ⟨w.heap.size, 1, none⟩ = some (.int .u8 C) ∧ w'.cell? ⟨w.heap.size, 2, none⟩ = some (.string tc) ∧ w'.cell? ⟨w.heap.size + 1, 0, none⟩ = some (.int .u8 D) ∧ w'.cell? ⟨w.heap.size + 1, 1, none⟩ = some (.int .u8 E) ∧ w'.cell? ⟨w.heap.size + 1, 2, none⟩ = some (.string td))
      (first | (with_reducible exact HKP.out _ HB.out) | (refine HKP.out _ (HB.out.trans (Below.mono (?_ : Below wm.heap.size wm _) HZ.out)); (go_grown; done)))
      ((first | (go_at_call_of 12 (Value.string K); refine (HC1.out _).mono ?_; rintro e wa ⟨rfl, hb⟩; (first | (have HBB := step1 HB HZ hb) | (have HBB := step2 HB HZ hb) | (have HBB := stepD HB HZ hb)); have HB := HBB.1; have HZ := HBB.2; clear HBB hb) | (go_at_call_of 12 (Value.string M); refine (HC2.out _).mono ?_; rintro e wb ⟨rfl, hb⟩; (first | (have HBB := step1 HB HZ hb) | (have HBB := step2 HB HZ hb) | (have HBB := stepD HB HZ hb)); have HB := HBB.1; have HZ := HBB.2; clear HBB hb)))
    all_goals
      clear g0 g1 g2 g3 g4 g5
      by_cases ho : O.size = 0
      · have oe : O.toList.isEmpty = true := List.isEmpty_iff.2 (HOe.2 ho)
        have f4' : kF O T X = false := by rw [f4, decide_eq_false (by omega), Bool.false_and]
        clear f4 HOe ho
        by_cases hq : (Y.toList == X.toList) = true
        · go_wp2_with (first | (go_at_call 13; refine (HRM.out _).mono ?_; rintro e w0 ⟨rfl, hb⟩; (first | (have HBB := step1 HB HZ hb) | (have HBB := step2 HB HZ hb) | (have HBB := stepD HB HZ hb)); have HB := HBB.1; have HZ := HBB.2; clear HBB hb) | (go_at_call 19; refine (HK.out _ _ _ _ (by omega) (by omega) (by first | omega | (simp only [size_app, size_one]; omega))).mono ?_; rintro e w0 ⟨rfl, hb⟩; (first | (have HBB := step1 HB HZ hb) | (have HBB := step2 HB HZ hb) | (have HBB := stepD HB HZ hb)); have HB := HBB.1; have HZ := HBB.2; clear HBB hb))
          go_ret
          exact ⟨by first | rfl | simp [oe], HW.out.trans (HB.out.mono (by omega))⟩
        · have hq' : (Y.toList == X.toList) = false := by simpa using hq
          clear hq
          go_wp2_with (first | (go_at_call 13; refine (HRM.out _).mono ?_; rintro e w0 ⟨rfl, hb⟩; (first | (have HBB := step1 HB HZ hb) | (have HBB := step2 HB HZ hb) | (have HBB := stepD HB HZ hb)); have HB := HBB.1; have HZ := HBB.2; clear HBB hb) | (go_at_call 19; refine (HK.out _ _ _ _ (by omega) (by omega) (by first | omega | (simp only [size_app, size_one]; omega))).mono ?_; rintro e w0 ⟨rfl, hb⟩; (first | (have HBB := step1 HB HZ hb) | (have HBB := step2 HB HZ hb) | (have HBB := stepD HB HZ hb)); have HB := HBB.1; have HZ := HBB.2; clear HBB hb))
          go_ret
          exact ⟨by first | rfl | simp [oe], HW.out.trans (HB.out.mono (by omega))⟩
      · have oe : O.toList.isEmpty = false := by rw [← Bool.not_eq_true, List.isEmpty_iff]; exact fun e => ho (HOe.1 e)
        by_cases hq : (Y.toList == X.toList) = true
        · have f4' : kF O T X = true := by rw [f4, hq, Bool.and_true, decide_eq_true_eq]; exact ho
          clear f4 HOe ho
          go_wp2_with (first | (go_at_call 13; refine (HRM.out _).mono ?_; rintro e w0 ⟨rfl, hb⟩; (first | (have HBB := step1 HB HZ hb) | (have HBB := step2 HB HZ hb) | (have HBB := stepD HB HZ hb)); have HB := HBB.1; have HZ := HBB.2; clear HBB hb) | (go_at_call 19; refine (HK.out _ _ _ _ (by omega) (by omega) (by first | omega | (simp only [size_app, size_one]; omega))).mono ?_; rintro e w0 ⟨rfl, hb⟩; (first | (have HBB := step1 HB HZ hb) | (have HBB := step2 HB HZ hb) | (have HBB := stepD HB HZ hb)); have HB := HBB.1; have HZ := HBB.2; clear HBB hb))
          go_ret
          exact ⟨by first | rfl | simp [oe], HW.out.trans (HB.out.mono (by omega))⟩
        · have hq' : (Y.toList == X.toList) = false := by simpa using hq
          have f4' : kF O T X = false := by rw [f4, hq', Bool.and_false]
          clear f4 HOe ho hq
          go_wp2_with (first | (go_at_call 13; refine (HRM.out _).mono ?_; rintro e w0 ⟨rfl, hb⟩; (first | (have HBB := step1 HB HZ hb) | (have HBB := step2 HB HZ hb) | (have HBB := stepD HB HZ hb)); have HB := HBB.1; have HZ := HBB.2; clear HBB hb) | (go_at_call 19; refine (HK.out _ _ _ _ (by omega) (by omega) (by first | omega | (simp only [size_app, size_one]; omega))).mono ?_; rintro e w0 ⟨rfl, hb⟩; (first | (have HBB := step1 HB HZ hb) | (have HBB := step2 HB HZ hb) | (have HBB := stepD HB HZ hb)); have HB := HBB.1; have HZ := HBB.2; clear HBB hb))
          go_ret
          exact ⟨by first | rfl | simp [oe], HW.out.trans (HB.out.mono (by omega))⟩

end Go.Proofs.Ytkkbjkjmhjgaiaa
