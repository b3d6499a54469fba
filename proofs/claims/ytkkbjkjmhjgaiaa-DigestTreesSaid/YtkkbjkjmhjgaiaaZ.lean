/- Contract of the law's sanity. No condition. -/
import Derived.Test.YtkkbjkjmhjgaiaaY
namespace Go.Proofs.Ytkkbjkjmhjgaiaa
open Go.RowKit

theorem sx_one {W : World} {q : Nat} {s : ByteArray} (h : W.cell? ⟨q, 0, none⟩ = some (.string s)) (hq : q < W.heap.size) : Sx W (.slice (some ⟨q, 0, none⟩) 1 1) [s] :=
  ⟨by unfold maxLen; simp, .inr ⟨q, 0, 1, rfl, by simp, hq, fun j hj => by
    have : j = 0 := by simpa using hj
    subst this; exact h⟩⟩
theorem sx_two {W : World} {q : Nat} {s t : ByteArray} (h : W.cell? ⟨q, 0, none⟩ = some (.string s)) (h1 : W.cell? ⟨q, 1, none⟩ = some (.string t)) (hq : q < W.heap.size) : Sx W (.slice (some ⟨q, 0, none⟩) 2 2) [s, t] :=
  ⟨by unfold maxLen; simp, .inr ⟨q, 0, 2, rfl, by simp, hq, fun j hj => by
    rcases (show j = 0 ∨ j = 1 by simp at hj; omega) with rfl | rfl
    · exact h
    · exact h1⟩⟩
theorem sx_three {W : World} {q : Nat} {s t u : ByteArray} (h : W.cell? ⟨q, 0, none⟩ = some (.string s)) (h1 : W.cell? ⟨q, 1, none⟩ = some (.string t)) (h2 : W.cell? ⟨q, 2, none⟩ = some (.string u)) (hq : q < W.heap.size) : Sx W (.slice (some ⟨q, 0, none⟩) 3 3) [s, t, u] :=
  ⟨by unfold maxLen; simp, .inr ⟨q, 0, 3, rfl, by simp, hq, fun j hj => by
    rcases (show j = 0 ∨ j = 1 ∨ j = 2 by simp at hj; omega) with rfl | rfl | rfl
    · exact h
    · exact h1
    · exact h2⟩⟩

theorem dOf_S (s : ByteArray) (W : World) (h : s.size ≤ 140737488355328) : Calls Try.prog 14 #[.string s] W fun e w' => e = .returned (.string (ofS s)) ∧ Below W.heap.size W w' := dOf_any s h W

theorem sm (l : List ByteArray) (h : ∀ s ∈ l, s.size ≤ 1000) : ∀ k, (l.getD k ⟨#[]⟩).size ≤ 140737488355000 := fun k => Nat.le_trans (small_getD h k) (by omega)

theorem sm2 : ∀ s ∈ [(⟨#[97]⟩ : ByteArray), ⟨#[98]⟩], s.size ≤ 1000 := by
  intro s hs
  rcases List.mem_cons.1 hs with rfl | hs
  · show 1 ≤ 1000
    omega
  · rw [List.mem_singleton] at hs
    subst hs
    show 1 ≤ 1000
    omega
theorem sm3 : ∀ s ∈ [(⟨#[97]⟩ : ByteArray), ⟨#[98]⟩, ⟨#[99]⟩], s.size ≤ 1000 := by
  intro s hs
  rcases List.mem_cons.1 hs with rfl | hs
  · show 1 ≤ 1000
    omega
  · rcases List.mem_cons.1 hs with rfl | hs
    · show 1 ≤ 1000
      omega
    · rw [List.mem_singleton] at hs
      subst hs
      show 1 ≤ 1000
      omega

set_option maxRecDepth 10000 in
set_option maxHeartbeats 4000000 in
theorem sanity_any (w : World) : Calls Try.prog 10 #[] w fun e w' => e = .returned (.bool true) ∧ Below w.heap.size w w' := by
  have hO := dOf_S
  have hC : ∀ W, Calls Try.prog 16 #[.string ⟨#[]⟩, .string ⟨#[]⟩] W fun e w' => e = .returned (.string (ofS ⟨#[4, 0, 0, 0, 0]⟩)) ∧ Below W.heap.size W w' := fun W => by rw [← chain_nil]; exact chain_any _ _ (by decide) (by decide) W
  have hM : ∀ W, Calls Try.prog 18 #[.string ⟨#[107]⟩, .string ⟨#[109]⟩] W fun e w' => e = .returned (.string (ofS ⟨#[5, 1, 0, 0, 0, 107, 1, 0, 0, 0, 109, 107]⟩)) ∧ Below W.heap.size W w' := fun W => by rw [← mark_km]; exact mark_any _ _ (by decide) (by decide) W
  obtain ⟨M2, hM2⟩ : ∃ M2, M2 = sA (markD ⟨#[]⟩ ⟨#[109]⟩) := ⟨_, rfl⟩
  have hMM : ∀ W, Calls Try.prog 18 #[.string ⟨#[]⟩, .string ⟨#[109]⟩] W fun e w' => e = .returned (.string M2) ∧ Below W.heap.size W w' := fun W => by rw [hM2]; exact mark_any _ _ (by decide) (by decide) W
  have hK : ∀ W, Calls Try.prog 19 #[.string ⟨#[107]⟩, .string ⟨#[109]⟩, .string (ofS ⟨#[5, 1, 0, 0, 0, 107, 1, 0, 0, 0, 109, 107]⟩)] W fun e w' => e = .returned (.bool true) ∧ Below W.heap.size W w' := fun W => by
    have := check_any ⟨#[107]⟩ ⟨#[109]⟩ (ofS ⟨#[5, 1, 0, 0, 0, 107, 1, 0, 0, 0, 109, 107]⟩) (by decide) (by decide) (by rw [ofS_size]; omega) W
    rwa [show (decide ((⟨#[107]⟩ : ByteArray).size ≠ 0) && decide (by' (ofS ⟨#[5, 1, 0, 0, 0, 107, 1, 0, 0, 0, 109, 107]⟩) = markD ⟨#[107]⟩ ⟨#[109]⟩)) = true by rw [← mark_km, by_sA]; simp [ByteArray.size]] at this
  have hKK : ∀ W, Calls Try.prog 19 #[.string ⟨#[]⟩, .string ⟨#[109]⟩, .string M2] W fun e w' => e = .returned (.bool false) ∧ Below W.heap.size W w' := fun W => by
    have := check_any ⟨#[]⟩ ⟨#[109]⟩ M2 (by decide) (by decide) (by rw [hM2, sA_size]; show (dig _).length ≤ _; rw [dig_len]; omega) W
    rwa [show (decide ((⟨#[]⟩ : ByteArray).size ≠ 0) && decide (by' M2 = markD ⟨#[]⟩ ⟨#[109]⟩)) = false by simp [ByteArray.size]] at this
  have hR0 : ∀ W, Calls Try.prog 23 #[.slice none 0 0] W fun e w' => e = .returned (.string (ofS ⟨#[3]⟩)) ∧ Below W.heap.size W w' := fun W => by
    rw [← root0]
    exact root_any (Sx.nil W none 0) (by simp) (sm _ (by simp)) 0 wid_zero
  have hR1 : ∀ W q, W.cell? ⟨q, 0, none⟩ = some (.string ⟨#[97]⟩) → q < W.heap.size → Calls Try.prog 23 #[.slice (some ⟨q, 0, none⟩) 1 1] W fun e w' => e = .returned (.string (ofS ⟨#[1, 97]⟩)) ∧ Below W.heap.size W w' := fun W q h hq => by
    rw [← root1]
    exact root_any (sx_one h hq) (by show 1 ≤ 1048576; omega) (sm _ (fun s hs => by rw [List.mem_singleton] at hs; subst hs; show 1 ≤ 1000; omega)) 0 wid_one
  have hR2 : ∀ W q, W.cell? ⟨q, 0, none⟩ = some (.string ⟨#[97]⟩) → W.cell? ⟨q, 1, none⟩ = some (.string ⟨#[98]⟩) → q < W.heap.size → Calls Try.prog 23 #[.slice (some ⟨q, 0, none⟩) 2 2] W fun e w' => e = .returned (.string (ofS (⟨#[2]⟩ ++ ofS ⟨#[1, 97]⟩ ++ ofS ⟨#[1, 98]⟩))) ∧ Below W.heap.size W w' := fun W q h h1 hq => by
    rw [← root2]
    exact root_any (sx_two h h1 hq) (by show 2 ≤ 1048576; omega) (sm _ sm2) 1 wid_two
  have hP : ∀ W q, W.cell? ⟨q, 0, none⟩ = some (.string ⟨#[97]⟩) → W.cell? ⟨q, 1, none⟩ = some (.string ⟨#[98]⟩) → W.cell? ⟨q, 2, none⟩ = some (.string ⟨#[99]⟩) → q < W.heap.size → Calls Try.prog 24 #[.slice (some ⟨q, 0, none⟩) 3 3, .int .i64 2] W fun e w' => ∃ ao n cap, e = .returned (.tuple #[.slice ao n cap, .bool true]) ∧ Sx w' (.slice ao n cap) [ofS ⟨#[3]⟩, ofS (⟨#[2]⟩ ++ ofS ⟨#[1, 97]⟩ ++ ofS ⟨#[1, 98]⟩)] ∧ Below W.heap.size W w' := fun W q h h1 h2 hq => by
    refine (prove_yes (sx_three h h1 h2 hq) (by show 3 ≤ 1048576; omega) (sm _ sm3) 2 wid_three 2 (by show 2 < 3; omega)).mono ?_
    rintro e w' ⟨pv, rfl, ho, hb⟩
    obtain ⟨ao, n, cap, rfl⟩ := slice_of_owns ho
    have := Sx.of_owns ho
    rw [proof3] at this
    exact ⟨ao, n, cap, rfl, this, hb⟩
  have hS : ∀ W a b l, Sx W a l → Sx W b l → Calls Try.prog 26 #[a, b] W fun e w' => e = .returned (.bool true) ∧ Below W.heap.size W w' := fun W a b l h1 h2 => by
    have := same_any h1 h2
    rwa [decide_eq_true rfl] at this
  have hV0 : ∀ W, Calls Try.prog 27 #[.string (ofS ⟨#[1, 97]⟩), .string ⟨#[97]⟩, .int .i64 0, .slice none 0 0] W fun e w' => e = .returned (.bool true) ∧ Below W.heap.size W w' := fun W => by
    have := verify_in (Sx.nil W none 0) (by simp) 0 (by simp) (ofS ⟨#[1, 97]⟩) ⟨#[97]⟩ (by simp [ByteArray.size]) (by rw [ofS_size]; omega) (sm _ (by simp))
    rwa [show (decide (∀ s ∈ ([] : List ByteArray), s.size = 8) && decide (by' (ofS ⟨#[1, 97]⟩) = upD (leafD (by' ⟨#[97]⟩)) 0 (([] : List ByteArray).map by'))) = true by rw [by_ofS]; simp [upD]; rfl] at this
  have hV1 : ∀ W, Calls Try.prog 27 #[.string (ofS ⟨#[1, 97]⟩), .string ⟨#[97]⟩, .int .i64 1, .slice none 0 0] W fun e w' => e = .returned (.bool false) ∧ Below W.heap.size W w' := fun W => verify_far _ _ 1 none 0 0 (.inr (.inr ⟨by omega, by decide⟩))
  have hz0 := ofS_nil
  have hz1 := ofS_zero
  have hsz := ofS_size
  obtain ⟨oF, hoF⟩ : ∃ oF, oF = ofS := ⟨_, rfl⟩
  rw [← hoF] at hO hC hM hK hR0 hR1 hR2 hP hV0 hV1 hz0 hz1 hsz
  have HO := Lib.hid hO
  have HC := Lib.hid hC
  have HM := Lib.hid hM
  have HMM := Lib.hid hMM
  have HK := Lib.hid hK
  have HKK := Lib.hid hKK
  have HR0 := Lib.hid hR0
  have HR1 := Lib.hid hR1
  have HR2 := Lib.hid hR2
  have HP := Lib.hid hP
  have HS := Lib.hid hS
  have HV0 := Lib.hid hV0
  have HV1 := Lib.hid hV1
  have HB := Lib.hid (Below.refl w.heap.size w)
  have HZ := Lib.hid (Nat.le_refl w.heap.size)
  clear hO hC hM hM2 hMM hK hKK hR0 hR1 hR2 hP hS hV0 hV1 hoF
  go_enter Try.func10, Try.ntmps10
  go_wp2_with (first | (go_at_call 14; refine (HO.out _ _ (by first | (simp only [size_app, hsz, size_one]; omega) | (simp only [ByteArray.size]; simp))).mono ?_; rintro e w0 ⟨rfl, hb⟩; (first | (have HBB := step1 HB HZ hb; have hbq := hb) | (have HBB := step2 HB HZ hb; have hbq := step2b hb)); have HB := HBB.1; have HZ := HBB.2; clear HBB; (first | have HSP := Lib.hid (HSP.out.below hbq) | skip); clear hb hbq) | (go_at_call 16; refine (HC.out _).mono ?_; rintro e w0 ⟨rfl, hb⟩; (first | (have HBB := step1 HB HZ hb; have hbq := hb) | (have HBB := step2 HB HZ hb; have hbq := step2b hb)); have HB := HBB.1; have HZ := HBB.2; clear HBB; (first | have HSP := Lib.hid (HSP.out.below hbq) | skip); clear hb hbq) | (go_at_call_of 18 (Value.string ⟨#[107]⟩); refine (HM.out _).mono ?_; rintro e w0 ⟨rfl, hb⟩; (first | (have HBB := step1 HB HZ hb; have hbq := hb) | (have HBB := step2 HB HZ hb; have hbq := step2b hb)); have HB := HBB.1; have HZ := HBB.2; clear HBB; (first | have HSP := Lib.hid (HSP.out.below hbq) | skip); clear hb hbq) | (go_at_call_of 18 (Value.string ⟨#[]⟩); refine (HMM.out _).mono ?_; rintro e w0 ⟨rfl, hb⟩; (first | (have HBB := step1 HB HZ hb; have hbq := hb) | (have HBB := step2 HB HZ hb; have hbq := step2b hb)); have HB := HBB.1; have HZ := HBB.2; clear HBB; (first | have HSP := Lib.hid (HSP.out.below hbq) | skip); clear hb hbq) | (go_at_call_of 19 (Value.string M2); refine (HKK.out _).mono ?_; rintro e w0 ⟨rfl, hb⟩; (first | (have HBB := step1 HB HZ hb; have hbq := hb) | (have HBB := step2 HB HZ hb; have hbq := step2b hb)); have HB := HBB.1; have HZ := HBB.2; clear HBB; (first | have HSP := Lib.hid (HSP.out.below hbq) | skip); clear hb hbq) | (go_at_call 19; refine (HK.out _).mono ?_; rintro e w0 ⟨rfl, hb⟩; (first | (have HBB := step1 HB HZ hb; have hbq := hb) | (have HBB := step2 HB HZ hb; have hbq := step2b hb)); have HB := HBB.1; have HZ := HBB.2; clear HBB; (first | have HSP := Lib.hid (HSP.out.below hbq) | skip); clear hb hbq) | (go_at_call_of 23 (Value.slice none 0 0); refine (HR0.out _).mono ?_; rintro e wr0 ⟨rfl, hb⟩; (first | (have HBB := step1 HB HZ hb; have hbq := hb) | (have HBB := step2 HB HZ hb; have hbq := step2b hb)); have HB := HBB.1; have HZ := HBB.2; clear HBB; (first | have HSP := Lib.hid (HSP.out.below hbq) | skip); clear hb hbq) | (go_at_call_of 23 (Value.slice (some ⟨wr0.heap.size, 0, none⟩) 1 1); refine (HR1.out _ _ (by simp) (by simp)).mono ?_; rintro e wr1 ⟨rfl, hb⟩; (first | (have HBB := step1 HB HZ hb; have hbq := hb) | (have HBB := step2 HB HZ hb; have hbq := step2b hb)); have HB := HBB.1; have HZ := HBB.2; clear HBB; (first | have HSP := Lib.hid (HSP.out.below hbq) | skip); clear hb hbq) | (go_at_call_of 23 (Value.slice (some ⟨wr1.heap.size, 0, none⟩) 2 2); refine (HR2.out _ _ (by simp) (by simp) (by simp)).mono ?_; rintro e wr2 ⟨rfl, hb⟩; (first | (have HBB := step1 HB HZ hb; have hbq := hb) | (have HBB := step2 HB HZ hb; have hbq := step2b hb)); have HB := HBB.1; have HZ := HBB.2; clear HBB; (first | have HSP := Lib.hid (HSP.out.below hbq) | skip); clear hb hbq) | (go_at_call 24; refine (HP.out _ _ (by simp) (by simp) (by simp) (by simp)).mono ?_; rintro e wp ⟨ao, n, cap, rfl, hsp, hb⟩; have HSP := Lib.hid hsp; (first | (have HBB := step1 HB HZ hb) | (have HBB := step2 HB HZ hb)); have HB := HBB.1; have HZ := HBB.2; clear HBB hsp hb) | (go_at_call 26; refine (HS.out _ _ _ _ (HSP.out.below (by go_grown)) (sx_two (by simp) (by simp) (by simp))).mono ?_; rintro e ws ⟨rfl, hb⟩; (first | (have HBB := step1 HB HZ hb; have hbq := hb) | (have HBB := step2 HB HZ hb; have hbq := step2b hb)); have HB := HBB.1; have HZ := HBB.2; clear HBB; (first | have HSP := Lib.hid (HSP.out.below hbq) | skip); clear hb hbq) | (go_at_call_of 27 (Value.int .i64 0); refine (HV0.out _).mono ?_; rintro e w0 ⟨rfl, hb⟩; (first | (have HBB := step1 HB HZ hb; have hbq := hb) | (have HBB := step2 HB HZ hb; have hbq := step2b hb)); have HB := HBB.1; have HZ := HBB.2; clear HBB; (first | have HSP := Lib.hid (HSP.out.below hbq) | skip); clear hb hbq) | (go_at_call 27; refine (HV1.out _).mono ?_; rintro e w0 ⟨rfl, hb⟩; (first | (have HBB := step1 HB HZ hb; have hbq := hb) | (have HBB := step2 HB HZ hb; have hbq := step2b hb)); have HB := HBB.1; have HZ := HBB.2; clear HBB; (first | have HSP := Lib.hid (HSP.out.below hbq) | skip); clear hb hbq))
  go_ret
  exact ⟨rfl, HB.out⟩

end Go.Proofs.Ytkkbjkjmhjgaiaa
