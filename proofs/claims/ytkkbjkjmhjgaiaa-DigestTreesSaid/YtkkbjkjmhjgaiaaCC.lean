/- The law DigestDiffer, walked. Condition: strings of lengths that Go permits. -/
import Derived.Test.YtkkbjkjmhjgaiaaBB
namespace Go.Proofs.Ytkkbjkjmhjgaiaa
open Go.RowKit

theorem chain_S (b s : ByteArray) (W : World) (h : b.size < 4294967296) (hs : s.size < 4294967296) : Calls Try.prog 16 #[.string b, .string s] W fun e w' => e = .returned (.string (chainS b s)) ∧ Below W.heap.size W w' := chain_any b s h hs W
theorem mark_S (k m : ByteArray) (W : World) (h : k.size < 4294967296) (hs : m.size < 4294967296) : Calls Try.prog 18 #[.string k, .string m] W fun e w' => e = .returned (.string (markS k m)) ∧ Below W.heap.size W w' := mark_any k m h hs W
theorem check_S (k m x : ByteArray) (W : World) (h : k.size < 4294967296) (hs : m.size < 4294967296) (hx : x.size ≤ 140737488355328) : Calls Try.prog 19 #[.string k, .string m, .string x] W fun e w' => e = .returned (.bool (checkB k m x)) ∧ Below W.heap.size W w' := check_any k m x h hs hx W
theorem short_S (s : ByteArray) (W : World) (h : s.size ≤ 9223372036854775807) : Calls Try.prog 11 #[.string s] W fun e w' => e = .returned (.string (cutS s 60)) ∧ Below W.heap.size W w' := (short_any s h W).mono fun e w' ⟨h1, h2⟩ => ⟨h1, by rw [h2]; exact Below.refl _ _⟩

theorem cut60 (s : ByteArray) : (cutS s 60).size ≤ 60 := by rw [cutS_size]; omega

set_option maxRecDepth 10000 in
set_option maxHeartbeats 4000000 in
theorem differ_any (s t : ByteArray) (a c : UInt8) (hs : s.size ≤ 9223372036854775807) (ht : t.size ≤ 9223372036854775807) (w : World) : Calls Try.prog 5 #[.string s, .int .u8 a.toNat, .int .u8 c.toNat, .string t] w fun e w' => e = .returned (.bool true) ∧ Below w.heap.size w w' := by
  have ha := a.toNat_lt
  have hc := c.toNat_lt
  have HSA := Lib.hid (fun W => sanity_any W)
  obtain ⟨S, hS⟩ : ∃ S, S = cutS s 60 := ⟨_, rfl⟩
  obtain ⟨T, hT⟩ : ∃ T, T = cutS t 60 := ⟨_, rfl⟩
  have s60 : S.size ≤ 60 := by rw [hS]; exact cut60 s
  have t60 : T.size ≤ 60 := by rw [hT]; exact cut60 t
  have HSS : Hid (∀ W, Calls Try.prog 11 #[.string s] W fun e w' => e = .returned (.string S) ∧ Below W.heap.size W w') := fun W => by rw [hS]; exact short_S s W hs
  have HST : Hid (∀ W, Calls Try.prog 11 #[.string t] W fun e w' => e = .returned (.string T) ∧ Below W.heap.size W w') := fun W => by rw [hT]; exact short_S t W ht
  have hO := dOf_S
  have hzO := ofS_size
  have hC := chain_S
  have hzC := chainS_size
  have hM := mark_S
  have hzM := markS_size
  have hK := check_S
  obtain ⟨R, hR⟩ : ∃ R, R = sA (rootD 1 (leavesD ([S, T].map by'))) := ⟨_, rfl⟩
  have hzR : R.size = 8 := by
    rw [hR, sA_size]
    have hl : (leavesD ([S, T].map by')).length = 2 ^ 1 := by rw [leavesD_len]; exact wid_two
    obtain ⟨x, y, e⟩ : ∃ x y, leavesD ([S, T].map by') = [x, y] := by
      match leavesD ([S, T].map by'), hl with
      | [x, y], _ => exact ⟨x, y, rfl⟩
    rw [e]
    exact dig_len _
  have HR : Hid (∀ W q, W.cell? ⟨q, 0, none⟩ = some (.string S) → W.cell? ⟨q, 1, none⟩ = some (.string T) → q < W.heap.size → Calls Try.prog 23 #[.slice (some ⟨q, 0, none⟩) 2 2] W fun e w' => e = .returned (.string R) ∧ Below W.heap.size W w') := fun W q h h1 hq => by
    rw [hR]
    refine root_any (sx_two h h1 hq) (by show 2 ≤ 1048576; omega) (sm _ (fun s hs => ?_)) 1 wid_two
    rcases List.mem_cons.1 hs with rfl | hs
    · omega
    · rw [List.mem_singleton] at hs
      subst hs
      omega
  obtain ⟨A, hA⟩ : ∃ A : Int, A = a.toNat := ⟨_, rfl⟩
  obtain ⟨C, hCC⟩ : ∃ C : Int, C = c.toNat := ⟨_, rfl⟩
  have HB := Lib.hid (Below.refl w.heap.size w)
  have HZ := Lib.hid (Nat.le_refl w.heap.size)
  by_cases h0 : S.size = 0
  · have hstop : ((S.size : Int) == 0) = true := by simp [h0]
    obtain ⟨oF, hoF⟩ : ∃ oF, oF = ofS := ⟨_, rfl⟩
    obtain ⟨cF, hcF⟩ : ∃ cF, cF = chainS := ⟨_, rfl⟩
    obtain ⟨mF, hmF⟩ : ∃ mF, mF = markS := ⟨_, rfl⟩
    obtain ⟨kF, hkF⟩ : ∃ kF, kF = checkB := ⟨_, rfl⟩
    rw [← hoF] at hO hzO
    rw [← hcF] at hC hzC
    rw [← hmF] at hM hzM
    rw [← hkF] at hK
    have HO := Lib.hid hO
    have HC := Lib.hid hC
    have HM := Lib.hid hM
    have HK := Lib.hid hK
    rw [← hA, ← hCC] at *
    clear hO hC hM hK hoF hcF hmF hkF hR hS hT hA ha hc
    clear hCC
    go_enter Try.func5, Try.ntmps5
    go_wp2_with (first | (go_at_call 10; refine (HSA.out _).mono ?_; rintro e w0 ⟨rfl, hb⟩; (first | (have HBB := step1 HB HZ hb) | (have HBB := step2 HB HZ hb)); have HB := HBB.1; have HZ := HBB.2; clear HBB hb) | (go_at_call_of 11 (Value.string s); refine (HSS.out _).mono ?_; rintro e w0 ⟨rfl, hb⟩; (first | (have HBB := step1 HB HZ hb) | (have HBB := step2 HB HZ hb)); have HB := HBB.1; have HZ := HBB.2; clear HBB hb) | (go_at_call_of 11 (Value.string t); refine (HST.out _).mono ?_; rintro e w0 ⟨rfl, hb⟩; (first | (have HBB := step1 HB HZ hb) | (have HBB := step2 HB HZ hb)); have HB := HBB.1; have HZ := HBB.2; clear HBB hb) | (go_at_call 12; refine (HBT.out _).mono ?_; rintro e w0 ⟨rfl, hb⟩; (first | (have HBB := step1 HB HZ hb) | (have HBB := step2 HB HZ hb)); have HB := HBB.1; have HZ := HBB.2; clear HBB hb) | (go_at_call 14; refine (HO.out _ _ (by omega)).mono ?_; rintro e w0 ⟨rfl, hb⟩; (first | (have HBB := step1 HB HZ hb) | (have HBB := step2 HB HZ hb)); have HB := HBB.1; have HZ := HBB.2; clear HBB hb) | (go_at_call 16; refine (HC.out _ _ _ (by omega) (by omega)).mono ?_; rintro e w0 ⟨rfl, hb⟩; (first | (have HBB := step1 HB HZ hb) | (have HBB := step2 HB HZ hb)); have HB := HBB.1; have HZ := HBB.2; clear HBB hb) | (go_at_call 18; refine (HM.out _ _ _ (by first | omega | (simp only [size_app, size_one]; omega)) (by omega)).mono ?_; rintro e w0 ⟨rfl, hb⟩; (first | (have HBB := step1 HB HZ hb) | (have HBB := step2 HB HZ hb)); have HB := HBB.1; have HZ := HBB.2; clear HBB hb) | (go_at_call 19; refine (HK.out _ _ _ _ (by first | omega | (simp only [size_app, size_one]; omega)) (by omega) (by rw [hzM]; omega)).mono ?_; rintro e w0 ⟨rfl, hb⟩; (first | (have HBB := step1 HB HZ hb) | (have HBB := step2 HB HZ hb)); have HB := HBB.1; have HZ := HBB.2; clear HBB hb) | (go_at_call 23; refine (HR.out _ _ (by simp) (by simp) (by simp)).mono ?_; rintro e w0 ⟨rfl, hb⟩; (first | (have HBB := step1 HB HZ hb) | (have HBB := step2 HB HZ hb)); have HB := HBB.1; have HZ := HBB.2; clear HBB hb))
    go_ret
    exact ⟨rfl, HB.out⟩
  · have hstop : ((S.size : Int) == 0) = false := by simp [h0]
    by_cases hc0 : c = 0
    · have hC0 : C = 0 := by rw [hCC, hc0]; rfl
      obtain ⟨oF, hoF⟩ : ∃ oF, oF = ofS := ⟨_, rfl⟩
      obtain ⟨cF, hcF⟩ : ∃ cF, cF = chainS := ⟨_, rfl⟩
      obtain ⟨mF, hmF⟩ : ∃ mF, mF = markS := ⟨_, rfl⟩
      obtain ⟨kF, hkF⟩ : ∃ kF, kF = checkB := ⟨_, rfl⟩
      rw [← hoF] at hO hzO
      rw [← hcF] at hC hzC
      rw [← hmF] at hM hzM
      rw [← hkF] at hK
      have HO := Lib.hid hO
      have HC := Lib.hid hC
      have HM := Lib.hid hM
      have HK := Lib.hid hK
      rw [← hA] at *
      clear hO hC hM hK hoF hcF hmF hkF hR hS hT hA ha hc
      rw [← hCC] at *
      subst hC0
      clear hc0 h0 hCC
      go_enter Try.func5, Try.ntmps5
      go_wp2_with (first | (go_at_call 10; refine (HSA.out _).mono ?_; rintro e w0 ⟨rfl, hb⟩; (first | (have HBB := step1 HB HZ hb) | (have HBB := step2 HB HZ hb)); have HB := HBB.1; have HZ := HBB.2; clear HBB hb) | (go_at_call_of 11 (Value.string s); refine (HSS.out _).mono ?_; rintro e w0 ⟨rfl, hb⟩; (first | (have HBB := step1 HB HZ hb) | (have HBB := step2 HB HZ hb)); have HB := HBB.1; have HZ := HBB.2; clear HBB hb) | (go_at_call_of 11 (Value.string t); refine (HST.out _).mono ?_; rintro e w0 ⟨rfl, hb⟩; (first | (have HBB := step1 HB HZ hb) | (have HBB := step2 HB HZ hb)); have HB := HBB.1; have HZ := HBB.2; clear HBB hb) | (go_at_call 12; refine (HBT.out _).mono ?_; rintro e w0 ⟨rfl, hb⟩; (first | (have HBB := step1 HB HZ hb) | (have HBB := step2 HB HZ hb)); have HB := HBB.1; have HZ := HBB.2; clear HBB hb) | (go_at_call 14; refine (HO.out _ _ (by omega)).mono ?_; rintro e w0 ⟨rfl, hb⟩; (first | (have HBB := step1 HB HZ hb) | (have HBB := step2 HB HZ hb)); have HB := HBB.1; have HZ := HBB.2; clear HBB hb) | (go_at_call 16; refine (HC.out _ _ _ (by omega) (by omega)).mono ?_; rintro e w0 ⟨rfl, hb⟩; (first | (have HBB := step1 HB HZ hb) | (have HBB := step2 HB HZ hb)); have HB := HBB.1; have HZ := HBB.2; clear HBB hb) | (go_at_call 18; refine (HM.out _ _ _ (by first | omega | (simp only [size_app, size_one]; omega)) (by omega)).mono ?_; rintro e w0 ⟨rfl, hb⟩; (first | (have HBB := step1 HB HZ hb) | (have HBB := step2 HB HZ hb)); have HB := HBB.1; have HZ := HBB.2; clear HBB hb) | (go_at_call 19; refine (HK.out _ _ _ _ (by first | omega | (simp only [size_app, size_one]; omega)) (by omega) (by rw [hzM]; omega)).mono ?_; rintro e w0 ⟨rfl, hb⟩; (first | (have HBB := step1 HB HZ hb) | (have HBB := step2 HB HZ hb)); have HB := HBB.1; have HZ := HBB.2; clear HBB hb) | (go_at_call 23; refine (HR.out _ _ (by simp) (by simp) (by simp)).mono ?_; rintro e w0 ⟨rfl, hb⟩; (first | (have HBB := step1 HB HZ hb) | (have HBB := step2 HB HZ hb)); have HB := HBB.1; have HZ := HBB.2; clear HBB hb))
      go_ret
      exact ⟨rfl, HB.out⟩
    · have hn := bent_near (S := S) (a := a) h0 hc0
      have hC1 : (C == 0) = false := by
        simp only [beq_eq_false_iff_ne, ne_eq]
        intro h
        apply hc0
        apply UInt8.toNat_inj.1
        rw [hCC] at h
        exact_mod_cast h
      have hBT := fun W => changeOf_any a c ⟨#[]⟩ S (by omega) (by show 0 ≤ _; omega) W
      obtain ⟨O, hOO⟩ : ∃ O, O = bent a c ⟨#[]⟩ S := ⟨_, rfl⟩
      rw [← hOO] at hn hBT
      have ho60 : O.size ≤ 60 := by rw [← hn.1]; exact s60
      have n1 : ((ofS S).toList == (ofS O).toList) = false := ne_toList (by rw [by_ofS, by_ofS]; exact near_of hn)
      have n2 : ((chainS S T).toList == (chainS O T).toList) = false := ne_toList (by rw [chainS, chainS, by_sA, by_sA]; exact near_chain1 hn T)
      have n3 : ((chainS T S).toList == (chainS T O).toList) = false := ne_toList (by rw [chainS, chainS, by_sA, by_sA]; exact near_chain2 hn T)
      have n4 : checkB (⟨#[107]⟩ ++ T) S (markS (⟨#[107]⟩ ++ T) S) = true := by
        unfold checkB
        rw [markS, by_sA, decide_eq_true rfl, Bool.and_true, decide_eq_true_eq, size_app, size_one]
        omega
      have n5 : checkB (⟨#[107]⟩ ++ T) O (markS (⟨#[107]⟩ ++ T) S) = false := by
        unfold checkB
        rw [markS, by_sA, decide_eq_false (near_mark hn _), Bool.and_false]
      obtain ⟨oF, hoF⟩ : ∃ oF, oF = ofS := ⟨_, rfl⟩
      obtain ⟨cF, hcF⟩ : ∃ cF, cF = chainS := ⟨_, rfl⟩
      obtain ⟨mF, hmF⟩ : ∃ mF, mF = markS := ⟨_, rfl⟩
      obtain ⟨kF, hkF⟩ : ∃ kF, kF = checkB := ⟨_, rfl⟩
      rw [← hoF] at hO hzO n1
      rw [← hcF] at hC hzC n2 n3
      rw [← hmF] at hM hzM n4 n5
      rw [← hkF] at hK n4 n5
      have HO := Lib.hid hO
      have HC := Lib.hid hC
      have HM := Lib.hid hM
      have HK := Lib.hid hK
      rw [← hA] at *
      clear hO hC hM hK hoF hcF hmF hkF hR hS hT hA ha hc
      rw [← hCC] at *
      have HBT := Lib.hid hBT
      clear hCC hBT hn hOO hc0 h0
      go_enter Try.func5, Try.ntmps5
      go_wp2_with (first | (go_at_call 10; refine (HSA.out _).mono ?_; rintro e w0 ⟨rfl, hb⟩; (first | (have HBB := step1 HB HZ hb) | (have HBB := step2 HB HZ hb)); have HB := HBB.1; have HZ := HBB.2; clear HBB hb) | (go_at_call_of 11 (Value.string s); refine (HSS.out _).mono ?_; rintro e w0 ⟨rfl, hb⟩; (first | (have HBB := step1 HB HZ hb) | (have HBB := step2 HB HZ hb)); have HB := HBB.1; have HZ := HBB.2; clear HBB hb) | (go_at_call_of 11 (Value.string t); refine (HST.out _).mono ?_; rintro e w0 ⟨rfl, hb⟩; (first | (have HBB := step1 HB HZ hb) | (have HBB := step2 HB HZ hb)); have HB := HBB.1; have HZ := HBB.2; clear HBB hb) | (go_at_call 12; refine (HBT.out _).mono ?_; rintro e w0 ⟨rfl, hb⟩; (first | (have HBB := step1 HB HZ hb) | (have HBB := step2 HB HZ hb)); have HB := HBB.1; have HZ := HBB.2; clear HBB hb) | (go_at_call 14; refine (HO.out _ _ (by omega)).mono ?_; rintro e w0 ⟨rfl, hb⟩; (first | (have HBB := step1 HB HZ hb) | (have HBB := step2 HB HZ hb)); have HB := HBB.1; have HZ := HBB.2; clear HBB hb) | (go_at_call 16; refine (HC.out _ _ _ (by omega) (by omega)).mono ?_; rintro e w0 ⟨rfl, hb⟩; (first | (have HBB := step1 HB HZ hb) | (have HBB := step2 HB HZ hb)); have HB := HBB.1; have HZ := HBB.2; clear HBB hb) | (go_at_call 18; refine (HM.out _ _ _ (by first | omega | (simp only [size_app, size_one]; omega)) (by omega)).mono ?_; rintro e w0 ⟨rfl, hb⟩; (first | (have HBB := step1 HB HZ hb) | (have HBB := step2 HB HZ hb)); have HB := HBB.1; have HZ := HBB.2; clear HBB hb) | (go_at_call 19; refine (HK.out _ _ _ _ (by first | omega | (simp only [size_app, size_one]; omega)) (by omega) (by rw [hzM]; omega)).mono ?_; rintro e w0 ⟨rfl, hb⟩; (first | (have HBB := step1 HB HZ hb) | (have HBB := step2 HB HZ hb)); have HB := HBB.1; have HZ := HBB.2; clear HBB hb) | (go_at_call 23; refine (HR.out _ _ (by simp) (by simp) (by simp)).mono ?_; rintro e w0 ⟨rfl, hb⟩; (first | (have HBB := step1 HB HZ hb) | (have HBB := step2 HB HZ hb)); have HB := HBB.1; have HZ := HBB.2; clear HBB hb))
      go_ret
      exact ⟨rfl, HB.out⟩

end Go.Proofs.Ytkkbjkjmhjgaiaa
