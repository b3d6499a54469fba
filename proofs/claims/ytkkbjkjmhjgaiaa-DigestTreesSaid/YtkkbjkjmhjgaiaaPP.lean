/- The law DigestHalves, walked. Conditions: strings of lengths that Go permits. -/
import Derived.BigRegion
import Derived.Test.YtkkbjkjmhjgaiaaOO
namespace Go.Proofs.Ytkkbjkjmhjgaiaa
open Go.RowKit

theorem strs_sv (L : List Dg) : strs L = sv (L.map sA) := by simp [strs, sv]

theorem prove_O {W : World} {v : Value} {L : List ByteArray} (hX : Sx W v L) (hlen : L.length ≤ 1000) (hsz : ∀ k, (L.getD k ⟨#[]⟩).size ≤ 140737488355000) {m : Nat} (hm : wid L.length = 2 ^ m) {i : Nat} (hi : i < L.length) :
    Calls Try.prog 24 #[v, .int .i64 i] W fun e w' => ∃ ao n cap, e = .returned (.tuple #[.slice ao n cap, .bool true]) ∧ w'.ownsRow W.heap.size 9 1 (.slice ao n cap) m (sv (proofS L m i)) ∧ Below W.heap.size W w' :=
  (prove_yes hX (by omega) hsz m hm i hi).mono fun e w' ⟨pv, h1, h2, h3⟩ => by
    obtain ⟨ao, n, cap, rfl⟩ := slice_of_owns h2
    rw [strs_sv] at h2
    exact ⟨ao, n, cap, h1, h2, h3⟩

theorem owns_later {W W' : World} {B n : Nat} {v : Value} {xs : List Value} (h : W.ownsRow B 9 1 v n xs) (hb : Below W.heap.size W W') : W'.ownsRow B 9 1 v n xs := owns_kept h (KeptC.of_below hb)

theorem copy_own {W : World} {B n : Nat} {v : Value} {L : List ByteArray} (h : W.ownsRow B 9 1 v n (sv L)) (hlen : n ≤ 1000) :
    ∃ ao n2 cap2 w2, Sem.run Try.prog (appX 29 #[.slice (some ⟨W.heap.size, 0, none⟩) 0 0, v]) (W.alloc (.cells #[] 9)) = .ok (.slice ao n2 cap2) w2 ∧ w2.ownsRow W.heap.size 9 1 (.slice ao n2 cap2) n (sv L) ∧ Below W.heap.size W w2 := by
  obtain ⟨hs, hn⟩ := Sx.of_sv h
  by_cases hne : L = []
  · subst hne
    have hn0 : n = 0 := hn.symm
    subst hn0
    obtain ⟨i0, hii, hz0, hz1, hz2⟩ := info_parts Try.info9
    have hbA : Below W.heap.size W (W.alloc (.cells #[] 9)) := (Below.refl _ _).alloc (Nat.le_refl _) _
    have hown0 : (W.alloc (.cells #[] 9)).ownsRow W.heap.size 9 1 (.slice (some ⟨W.heap.size, 0, none⟩) 0 0) 0 (sv []) := ⟨rfl, .inr ⟨W.heap.size, 0, #[], rfl, Nat.le_refl _, heap_alloc_new _ _, Nat.le_refl _, Nat.zero_le _, rfl, rfl⟩⟩
    rcases h.2 with ⟨rfl, _⟩ | ⟨g, cap, cur, rfl, _⟩
    · have hrun := run_append_owned_none (P := Try.prog) (w := W.alloc (.cells #[] 9)) W.heap.size 29 29 9 i0 1 Try.underlying29 hii _ 0 _ hown0
      rw [appX_rw] at hrun
      exact ⟨_, _, _, _, hrun, hown0, hbA⟩
    · obtain ⟨v2, w2, hrun, hown2, hgrow2, _⟩ := run_append_own (P := Try.prog) (w := W.alloc (.cells #[] 9)) W.heap.size 29 29 9 i0 (.string ⟨#[]⟩) 1 16 Try.underlying29 hii hz0 hz1 hz2 rfl (by decide) _ 0 _ hown0 ⟨g, 0, none⟩ 0 cap [] rfl (fun j u hu => by cases hu) (fun u hu => by cases hu) (by unfold maxLen; omega) (by omega) (by simp)
      rw [appX_rw] at hrun
      obtain ⟨ao2, n2, cap2, rfl⟩ := slice_of_owns hown2
      exact ⟨ao2, n2, cap2, w2, hrun, hown2, hbA.grown hgrow2 (by simp) (fun j hj => (hown0.lt j hj).1)⟩
  · have := copy_run hs hne (by omega)
    rwa [hn] at this

theorem owns_len {W : World} {B n m cap : Nat} {ao : Option Addr} {xs : List Value} (h : W.ownsRow B 9 1 (.slice ao m cap) n xs) : m = n := by
  rcases h.2 with ⟨h1, h2⟩ | ⟨g, cap2, cur, h1, _⟩
  · injection h1 with a1 a2 a3
    omega
  · injection h1 with a1 a2 a3

/-- The length of a slice. -/
def lenV : Value → Nat
  | .slice _ n _ => n
  | _ => 0

/-- What holds when the list has pn strings. -/
structure HlI (w : World) (v : Value) (pn : Nat) (LL : List ByteArray) (wr : World) : Prop where
  own : wr.ownsRow w.heap.size 9 1 v pn (sv LL)
  sz : ∀ s ∈ LL, s.size ≤ 30
  bl : Below w.heap.size w wr

theorem list_P {w W : World} {v : Value} {l : List ByteArray} (hX : Sx w v l) (hW : Below w.heap.size w W) : Calls Try.prog 21 #[v] W fun e w' => ∃ ao pn cap LL, e = .returned (.slice ao pn cap) ∧ pn ≤ 20 ∧ HlI w (.slice ao pn cap) pn LL w' :=
  (list_O hX hW).mono fun _ _ ⟨ao, n, cap, h1, h2, h3⟩ => by
    have := owns_len h2
    subst this
    exact ⟨ao, _, cap, cutL l, h1, by rw [cutL_len]; omega, h2, cutL_size l, hW.trans (h3.mono hW.size)⟩

attribute [local go_sem ↓] appX_rw

set_option maxRecDepth 10000 in
set_option maxHeartbeats 1500000 in
theorem halves_any {w : World} {v : Value} {l : List ByteArray} (hX : Sx w v l) (lv wh : UInt8) :
    Calls Try.prog 8 #[v, .int .u8 lv.toNat, .int .u8 wh.toNat] w fun e w' => e = .returned (.bool true) ∧ Below w.heap.size w w' := by
  have HSA := Lib.hid (fun W => sanity_any W)
  have hlv := lv.toNat_lt
  have hwh := wh.toNat_lt
  obtain ⟨A, hA⟩ : ∃ A : Nat, A = lv.toNat := ⟨_, rfl⟩
  obtain ⟨B, hB⟩ : ∃ B : Nat, B = wh.toNat := ⟨_, rfl⟩
  rw [← hA, ← hB]
  rw [← hA] at hlv
  rw [← hB] at hwh
  have HL := Lib.hid (fun W (hW : Below w.heap.size w W) => list_P hX hW)
  have HD : Hid (Below w.heap.size w w) := Lib.hid (Below.refl _ _)
  have HE : Hid (w.heap.size ≤ w.heap.size) := Lib.hid (Nat.le_refl _)
  clear hA hB
  obtain ⟨m, hm⟩ : ∃ m, m = A % 4 := ⟨_, rfl⟩
  have hm4 : m < 4 := by omega
  obtain ⟨h, hh⟩ : ∃ h : Nat, h = 2 ^ m := ⟨_, rfl⟩
  have hh8 : 1 ≤ h ∧ h ≤ 8 := by
    rw [hh]
    exact ⟨Nat.one_le_two_pow, Nat.le_trans (Nat.pow_le_pow_right (by omega) (show m ≤ 3 by omega)) (by decide)⟩
  obtain ⟨N, hN⟩ : ∃ N : Nat, N = 2 * h := ⟨_, rfl⟩
  have hsh : wrap64 (2 * 2 ^ (A % 4)) = (N : Nat) := by
    rw [← hm, show ((2 : Int) ^ m) = ((2 ^ m : Nat) : Int) by simp, ← hh, hN]
    unfold wrap64
    omega
  obtain ⟨i, hi⟩ : ∃ i, i = B % N := ⟨_, rfl⟩
  have hiN : i < N := by rw [hi]; exact Nat.mod_lt _ (by omega)
  have hki : ((B : Int) % (N : Int)) = (i : Nat) := by rw [hi]; simp
  have HH := Lib.hid hh
  have HN := Lib.hid hN
  clear hi hh hm
  go_enter Try.func8, Try.ntmps8
  go_wp2_with (first | (go_at_call 10; refine (HSA.out _).mono ?_; rintro e w0 ⟨rfl, hb⟩; have HDD := step1 HD HE hb; have HD := HDD.1; have HE := HDD.2; clear HDD hb) | (go_at_call 21; refine (HL.out _ HD.out).mono ?_; rintro e w1 ⟨ao, pn, cap, LL, rfl, hpn, hI⟩; have HI := Lib.hid hI; clear hI))
  rw [hsh]
  clear hsh HL HSA HD HE
  go_loopw [0] (fun v0 wr => ∃ (ao2 : Option Addr) (pn2 pc2 : Nat) (LL2 : List ByteArray), pn2 ≤ 20 ∧ v0 = .slice ao2 pn2 pc2 ∧ Hid (HlI w (.slice ao2 pn2 pc2) pn2 LL2 wr)) (fun v0 _ => N - lenV v0)
  case atStart => exact ⟨_, _, _, LL, hpn, rfl, HI⟩
  case round =>
    obtain ⟨ao2, k, pc2, LL2, hk20, rfl, hJ⟩ := hrel
    clear hpn HI
    by_cases hkN : k < N
    · obtain ⟨ao3, n3, cap3, w3, hrun, hown3, hb3⟩ := push_run hJ.out.own (by omega) hJ.out.bl.size ⟨#[]⟩
      have hn3 := owns_len hown3
      subst hn3
      have HJ2 : Hid (HlI w (.slice ao3 (k + 1) cap3) (k + 1) (LL2 ++ [⟨#[]⟩]) w3) := Lib.hid ⟨hown3, fun s hs => by
        rcases List.mem_append.1 hs with h | h
        · exact hJ.out.sz s h
        · rw [List.mem_singleton.1 h]; exact Nat.zero_le _, hJ.out.bl.trans hb3⟩
      clear hown3 hb3 hJ
      go_wp2
      exact ⟨⟨_, _, _, _, by omega, rfl, HJ2⟩, by simp only [lenV]; omega⟩
    · obtain ⟨hS, hkl⟩ := Sx.of_sv hJ.out.own
      obtain ⟨b, off, cap', hv, hlt, hcl⟩ := hS.at (fun e => by rw [e, List.length_nil] at hkl; omega)
      injection hv with hv1 hv2 hv3
      subst hv1 hv3
      have hcap : k ≤ pc2 := by
        rcases hS.is with ⟨e, _⟩ | ⟨_, _, cap4, hv4, hc4, _⟩
        · rw [e, List.length_nil] at hkl; omega
        · injection hv4 with _ _ e4
          omega
      have hNh : (N : Int) / 2 = (h : Nat) := by omega
      have hNb : 2 * h ≤ N ∧ N ≤ 2 * h := by omega
      clear hcl hv2 hN
      go_wp2
      go_region
      rw [show N - h = h by omega]
      have hb5 : Below wr.heap.size wr wr.drew := ⟨rfl, rfl, rfl, Nat.le_refl _, fun _ _ => rfl⟩
      obtain ⟨W5, hW5⟩ : ∃ W5, W5 = wr.drew := ⟨_, rfl⟩
      rw [← hW5] at hb5 ⊢
      have hS5 := hS.below hb5
      have HW : Hid (Below w.heap.size w W5) := Lib.hid (hJ.out.bl.trans (hb5.mono hJ.out.bl.size))
      obtain ⟨lo, hlo⟩ : ∃ lo, lo = LL2.take h := ⟨_, rfl⟩
      obtain ⟨hg, hhg⟩ : ∃ hg, hg = (LL2.drop h).take h := ⟨_, rfl⟩
      have e0 : LL2.take N = lo ++ hg := by
        rw [show N = h + h by omega, List.take_add, hlo, hhg]
      have SF : Sx W5 (.slice (some ⟨b, off, none⟩) N pc2) (lo ++ hg) := by
        rw [← e0]
        have := hS5.sub hkl.symm 0 N (by omega) (by omega) pc2 (by omega)
        rwa [Nat.add_zero, List.drop_zero] at this
      have SL : Sx W5 (.slice (some ⟨b, off, none⟩) h pc2) lo := by
        rw [hlo]
        have := hS5.sub hkl.symm 0 h (by omega) (by omega) pc2 (by omega)
        rwa [Nat.add_zero, List.drop_zero] at this
      have SH : Sx W5 (.slice (some ⟨b, off + h, none⟩) h (pc2 - h)) hg := by
        rw [hhg]
        exact hS5.sub hkl.symm h h (by omega) (by omega) _ (by omega)
      have l1 : lo.length = 2 ^ m := by rw [hlo, List.length_take, ← HH.out]; omega
      have l2 : hg.length = 2 ^ m := by rw [hhg, List.length_take, List.length_drop, ← HH.out]; omega
      have z0 : ∀ s ∈ lo ++ hg, s.size ≤ 30 := by rw [← e0]; exact fun s hs => hJ.out.sz s (List.mem_of_mem_take hs)
      have l3 : (lo ++ hg).length = 2 ^ (m + 1) := by rw [List.length_append, l1, l2, Nat.pow_succ]; omega
      have zF : ∀ j, ((lo ++ hg).getD j ⟨#[]⟩).size ≤ 140737488355000 := fun j => Nat.le_trans (getD_le z0 j) (by omega)
      have zL : ∀ j, (lo.getD j ⟨#[]⟩).size ≤ 140737488355000 := fun j => Nat.le_trans (getD_le (fun s hs => z0 s (List.mem_append_left _ hs)) j) (by omega)
      have zH : ∀ j, (hg.getD j ⟨#[]⟩).size ≤ 140737488355000 := fun j => Nat.le_trans (getD_le (fun s hs => z0 s (List.mem_append_right _ hs)) j) (by omega)
      have hm16 : 2 ^ m ≤ 8 := by rw [← HH.out]; omega
      have hm32 : 2 ^ (m + 1) ≤ 16 := by rw [Nat.pow_succ]; omega
      have HPF : Hid (∀ W v, Sx W v (lo ++ hg) → Calls Try.prog 24 #[v, .int .i64 i] W fun e w' => ∃ ao n cap, e = .returned (.tuple #[.slice ao n cap, .bool true]) ∧ w'.ownsRow W.heap.size 9 1 (.slice ao n cap) (m + 1) (sv (proofS (lo ++ hg) (m + 1) i)) ∧ Below W.heap.size W w') := fun W v hs => prove_O hs (by omega) zF (by rw [l3, wid_two_pow]) (by rw [l3, Nat.pow_succ, ← HH.out]; omega)
      have HRF : Hid (∀ W v, Sx W v (lo ++ hg) → Calls Try.prog 23 #[v] W fun e w' => e = .returned (.string (rootS (lo ++ hg) (m + 1))) ∧ Below W.heap.size W w') := fun W v hs => root_any hs (by omega) zF (m + 1) (by rw [l3, wid_two_pow])
      have HRL : Hid (∀ W v, Sx W v lo → Calls Try.prog 23 #[v] W fun e w' => e = .returned (.string (rootS lo m)) ∧ Below W.heap.size W w') := fun W v hs => root_any hs (by omega) zL m (by rw [l1, wid_two_pow])
      have HRH : Hid (∀ W v, Sx W v hg → Calls Try.prog 23 #[v] W fun e w' => e = .returned (.string (rootS hg m)) ∧ Below W.heap.size W w') := fun W v hs => root_any hs (by omega) zH m (by rw [l2, wid_two_pow])
      have r1 := rootS_size l1
      have r2 := rootS_size l2
      have rr := root_halves l1 l2
      have HQL : Hid (∀ W v, Sx W v lo → i < h → Calls Try.prog 24 #[v, .int .i64 i] W fun e w' => ∃ ao n cap, e = .returned (.tuple #[.slice ao n cap, .bool true]) ∧ w'.ownsRow W.heap.size 9 1 (.slice ao n cap) m (sv (proofS lo m i)) ∧ Below W.heap.size W w') := fun W v hs hi => prove_O hs (by omega) zL (by rw [l1, wid_two_pow]) (by rw [l1, ← HH.out]; exact hi)
      have HQH : Hid (∀ W v, Sx W v hg → h ≤ i → Calls Try.prog 24 #[v, .int .i64 ((i - h : Nat) : Int)] W fun e w' => ∃ ao n cap, e = .returned (.tuple #[.slice ao n cap, .bool true]) ∧ w'.ownsRow W.heap.size 9 1 (.slice ao n cap) m (sv (proofS hg m (i - h))) ∧ Below W.heap.size W w') := fun W v hs hi => prove_O hs (by omega) zH (by rw [l2, wid_two_pow]) (by rw [l2, ← HH.out]; omega)
      have HPL : Hid (i < h → proofS (lo ++ hg) (m + 1) i = proofS lo m i ++ [rootS hg m]) := fun hi => proof_low l1 l2 (by rw [← HH.out]; exact hi)
      have HPH : Hid (h ≤ i → proofS (lo ++ hg) (m + 1) i = proofS hg m (i - h) ++ [rootS lo m]) := fun hi => by
        have := proof_high (i := i - h) l1 l2 (by rw [← HH.out]; omega)
        rwa [← HH.out, show h + (i - h) = i by omega] at this
      obtain ⟨rl, hrl⟩ : ∃ rl, rl = rootS lo m := ⟨_, rfl⟩
      obtain ⟨rh, hrh⟩ : ∃ rh, rh = rootS hg m := ⟨_, rfl⟩
      obtain ⟨rf, hrf⟩ : ∃ rf, rf = rootS (lo ++ hg) (m + 1) := ⟨_, rfl⟩
      rw [← hrl] at HRL r1 rr HPH
      rw [← hrh] at HRH r2 rr HPL
      rw [← hrf] at HRF rr
      have HO : Hid (∀ W, Calls Try.prog 14 #[.string (⟨#[2]⟩ ++ rl ++ rh)] W fun e w' => e = .returned (.string rf) ∧ Below W.heap.size W w') := fun W => by
        rw [rr]; exact dOf_S _ W (by rw [size_app, size_app, size_one]; omega)
      have HSF := Lib.hid SF
      have HSL := Lib.hid SL
      have HSH := Lib.hid SH
      obtain ⟨F, hF⟩ : ∃ F, F = lo ++ hg := ⟨_, rfl⟩
      rw [← hF] at HPF HRF HPL HPH HSF
      have hsz2 := size_app ⟨#[2]⟩ rl
      have hsz3 := size_app (⟨#[2]⟩ ++ rl) rh
      rw [size_one] at hsz2
      have hqq : (rf.toList == rf.toList) = true := beq_self_eq_true _
      have HD : Hid (Below W5.heap.size W5 W5) := Lib.hid (Below.refl _ _)
      have HE : Hid (W5.heap.size ≤ W5.heap.size) := Lib.hid (Nat.le_refl _)
      clear hW5 hb5 hS hkl hlt hcap hS5 hlo hhg e0 SF SL SH z0 zF zL zH hm16 hm32 rr hrl hrh hrf l1 l2 l3 hF hJ hlv HH HN
      by_cases hih : i < h
      · have hmod : ((i : Int) % (h : Int)) = (i : Nat) := Int.emod_eq_of_lt (by omega) (by omega)
        go_wp2_with (first | (go_at_call_of 24 (Value.slice (some ⟨b, off, none⟩) N pc2); refine (HPF.out _ _ (HSF.out.below HD.out)).mono ?_; rintro e w6 ⟨ao6, n6, cap6, rfl, hown, hb⟩; have HPO := Lib.hid hown; have HDD := step1 HD HE hb; have HD := HDD.1; have HE := HDD.2; clear HDD; clear hb hown) | (go_at_call_of 24 (Value.slice (some ⟨b, off, none⟩) h pc2); refine (HQL.out _ _ (HSL.out.below HD.out) hih).mono ?_; rintro e w7 ⟨ao7, n7, cap7, rfl, hown, hb⟩; have HQO := Lib.hid hown; have HPO := Lib.hid (owns_later HPO.out hb); have HDD := step1 HD HE hb; have HD := HDD.1; have HE := HDD.2; clear HDD; clear hb hown) | (go_at_call_of 23 (Value.slice (some ⟨b, off, none⟩) N pc2); refine (HRF.out _ _ (HSF.out.below HD.out)).mono ?_; rintro e w9 ⟨rfl, hb⟩; have HPO := Lib.hid (owns_later HPO.out hb); have HQO := Lib.hid (owns_later HQO.out hb); have HDD := step1 HD HE hb; have HD := HDD.1; have HE := HDD.2; clear HDD; clear hb) | (go_at_call_of 23 (Value.slice (some ⟨b, off, none⟩) h pc2); refine (HRL.out _ _ (HSL.out.below HD.out)).mono ?_; rintro e w9 ⟨rfl, hb⟩; have HPO := Lib.hid (owns_later HPO.out hb); have HQO := Lib.hid (owns_later HQO.out hb); have HDD := step1 HD HE hb; have HD := HDD.1; have HE := HDD.2; clear HDD; clear hb) | (go_at_call_of 23 (Value.slice (some ⟨b, off + h, none⟩) h (pc2 - h)); refine (HRH.out _ _ (HSH.out.below HD.out)).mono ?_; rintro e w9 ⟨rfl, hb⟩; have HPO := Lib.hid (owns_later HPO.out hb); have HQO := Lib.hid (owns_later HQO.out hb); have HDD := step1 HD HE hb; have HD := HDD.1; have HE := HDD.2; clear HDD; clear hb) | (go_at_call 14; refine (HO.out _).mono ?_; rintro e w9 ⟨rfl, hb⟩; have HPO := Lib.hid (owns_later HPO.out hb); have HQO := Lib.hid (owns_later HQO.out hb); have HDD := step1 HD HE hb; have HD := HDD.1; have HE := HDD.2; clear HDD; clear hb))
        obtain ⟨ao8, n8, cap8, w8, hrun8, hown8, hb⟩ := copy_own HQO.out (by omega)
        have HO8 := Lib.hid hown8
        have SP := Lib.hid (Sx.of_sv HPO.out).1
        have HC := Lib.hid hb
        have HCE := Lib.hid hb.size
        have HE0 := HE
        have HDD := step1 HD HE hb
        have HD := HDD.1
        have HE := HDD.2
        clear HDD hb hown8
        rw [hrun8]
        simp only [Result.andThen]
        rw [Oper.upon_value]
        clear hrun8
        go_wp2_with (go_at_call_of 23 (Value.slice (some ⟨b, off + h, none⟩) h (pc2 - h)); refine (HRH.out _ _ (HSH.out.below HD.out)).mono ?_; rintro e w9 ⟨rfl, hb⟩; have HO8 := Lib.hid (owns_later HO8.out hb); have HCC := step1 HC HCE hb; have HC := HCC.1; have HCE := HCC.2; clear HCC; have HDD := step1 HD HE hb; have HD := HDD.1; have HE := HDD.2; clear HDD; clear hb)
        obtain ⟨ao9, n9, cap9, wA, hrun9, hown9, hb⟩ := push_run HO8.out (by omega) HCE.out rh
        have HD := Lib.hid (HD.out.trans (hb.mono HE0.out))
        have HE := Lib.hid HD.out.size
        have HSM := Lib.hid (same_any (SP.out.below (HC.out.trans hb)) (Sx.of_sv hown9).1)
        clear hb
        rw [decide_eq_true (HPL.out hih)] at HSM
        clear hown9
        rw [hrun9]
        simp only [Result.andThen]
        rw [Oper.upon_value]
        clear hrun9
        go_wp2_with (go_at_call 26; refine (HSM.out).mono ?_; rintro e w9 ⟨rfl, hb⟩; have HDD := step1 HD HE hb; have HD := HDD.1; have HE := HDD.2; clear HDD; clear hb)
        go_ret
        exact ⟨rfl, HW.out.trans (HD.out.mono HW.out.size)⟩
      · have hih2 : h ≤ i := by omega
        have hmod : ((i : Int) % (h : Int)) = ((i - h : Nat) : Int) := by
          rw [show (i : Int) = ((i - h : Nat) : Int) + h by omega, Int.add_emod_right]
          exact Int.emod_eq_of_lt (by omega) (by omega)
        go_wp2_with (first | (go_at_call_of 24 (Value.slice (some ⟨b, off, none⟩) N pc2); refine (HPF.out _ _ (HSF.out.below HD.out)).mono ?_; rintro e w6 ⟨ao6, n6, cap6, rfl, hown, hb⟩; have HPO := Lib.hid hown; have HDD := step1 HD HE hb; have HD := HDD.1; have HE := HDD.2; clear HDD; clear hb hown) | (go_at_call_of 24 (Value.slice (some ⟨b, off + h, none⟩) h (pc2 - h)); refine (HQH.out _ _ (HSH.out.below HD.out) hih2).mono ?_; rintro e w7 ⟨ao7, n7, cap7, rfl, hown, hb⟩; have HQO := Lib.hid hown; have HPO := Lib.hid (owns_later HPO.out hb); have HDD := step1 HD HE hb; have HD := HDD.1; have HE := HDD.2; clear HDD; clear hb hown) | (go_at_call_of 23 (Value.slice (some ⟨b, off, none⟩) N pc2); refine (HRF.out _ _ (HSF.out.below HD.out)).mono ?_; rintro e w9 ⟨rfl, hb⟩; have HPO := Lib.hid (owns_later HPO.out hb); have HQO := Lib.hid (owns_later HQO.out hb); have HDD := step1 HD HE hb; have HD := HDD.1; have HE := HDD.2; clear HDD; clear hb) | (go_at_call_of 23 (Value.slice (some ⟨b, off, none⟩) h pc2); refine (HRL.out _ _ (HSL.out.below HD.out)).mono ?_; rintro e w9 ⟨rfl, hb⟩; have HPO := Lib.hid (owns_later HPO.out hb); have HQO := Lib.hid (owns_later HQO.out hb); have HDD := step1 HD HE hb; have HD := HDD.1; have HE := HDD.2; clear HDD; clear hb) | (go_at_call_of 23 (Value.slice (some ⟨b, off + h, none⟩) h (pc2 - h)); refine (HRH.out _ _ (HSH.out.below HD.out)).mono ?_; rintro e w9 ⟨rfl, hb⟩; have HPO := Lib.hid (owns_later HPO.out hb); have HQO := Lib.hid (owns_later HQO.out hb); have HDD := step1 HD HE hb; have HD := HDD.1; have HE := HDD.2; clear HDD; clear hb) | (go_at_call 14; refine (HO.out _).mono ?_; rintro e w9 ⟨rfl, hb⟩; have HPO := Lib.hid (owns_later HPO.out hb); have HQO := Lib.hid (owns_later HQO.out hb); have HDD := step1 HD HE hb; have HD := HDD.1; have HE := HDD.2; clear HDD; clear hb))
        obtain ⟨ao8, n8, cap8, w8, hrun8, hown8, hb⟩ := copy_own HQO.out (by omega)
        have HO8 := Lib.hid hown8
        have SP := Lib.hid (Sx.of_sv HPO.out).1
        have HC := Lib.hid hb
        have HCE := Lib.hid hb.size
        have HE0 := HE
        have HDD := step1 HD HE hb
        have HD := HDD.1
        have HE := HDD.2
        clear HDD hb hown8
        rw [hrun8]
        simp only [Result.andThen]
        rw [Oper.upon_value]
        clear hrun8
        go_wp2_with (go_at_call_of 23 (Value.slice (some ⟨b, off, none⟩) h pc2); refine (HRL.out _ _ (HSL.out.below HD.out)).mono ?_; rintro e w9 ⟨rfl, hb⟩; have HO8 := Lib.hid (owns_later HO8.out hb); have HCC := step1 HC HCE hb; have HC := HCC.1; have HCE := HCC.2; clear HCC; have HDD := step1 HD HE hb; have HD := HDD.1; have HE := HDD.2; clear HDD; clear hb)
        obtain ⟨ao9, n9, cap9, wA, hrun9, hown9, hb⟩ := push_run HO8.out (by omega) HCE.out rl
        have HD := Lib.hid (HD.out.trans (hb.mono HE0.out))
        have HE := Lib.hid HD.out.size
        have HSM := Lib.hid (same_any (SP.out.below (HC.out.trans hb)) (Sx.of_sv hown9).1)
        clear hb
        rw [decide_eq_true (HPH.out hih2)] at HSM
        clear hown9
        rw [hrun9]
        simp only [Result.andThen]
        rw [Oper.upon_value]
        clear hrun9
        go_wp2_with (go_at_call 26; refine (HSM.out).mono ?_; rintro e w9 ⟨rfl, hb⟩; have HDD := step1 HD HE hb; have HD := HDD.1; have HE := HDD.2; clear HDD; clear hb)
        go_ret
        exact ⟨rfl, HW.out.trans (HD.out.mono HW.out.size)⟩

end Go.Proofs.Ytkkbjkjmhjgaiaa
