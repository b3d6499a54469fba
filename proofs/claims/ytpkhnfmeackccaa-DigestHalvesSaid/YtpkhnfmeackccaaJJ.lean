/- The law DigestProves, walked. Conditions: strings of lengths that Go permits. -/
import Derived.BigRegion
import Derived.Test.YtpkhnfmeackccaaII
namespace Go.Proofs.Ytpkhnfmeackccaa
open Go.RowKit

theorem upD_len : ∀ (ps : List Dg) (d : Dg) (i : Nat), d.length = 8 → (upD d i ps).length = 8
  | [], d, _, h => h
  | p :: r, d, i, _ => upD_len r _ _ (by split <;> exact dig_len _)

set_option maxRecDepth 10000 in
set_option maxHeartbeats 8000000 in
theorem proves_any {w : World} {v : Value} {l : List ByteArray} (hX : Sx w v l) (a b c d : UInt8) (tail : ByteArray) (ht : tail.size ≤ 9223372036854775807) :
    Calls Try.prog 7 #[v, .agg #[.int .u8 a.toNat, .int .u8 b.toNat], .agg #[.int .u8 c.toNat, .int .u8 d.toNat, .string tail]] w fun e w' => e = .returned (.bool true) ∧ Below w.heap.size w w' := by
  have HSA := Lib.hid (fun W => sanity_any W)
  obtain ⟨L, hL⟩ : ∃ L, L = cutL l := ⟨_, rfl⟩
  have hL20 : L.length ≤ 20 := by rw [hL, cutL_len]; omega
  have hL30 : ∀ k, (L.getD k ⟨#[]⟩).size ≤ 30 := getD_le (by rw [hL]; exact cutL_size l)
  have HL : Hid (∀ W, Below w.heap.size w W → Calls Try.prog 21 #[v] W fun e w' => ∃ ao cap, e = .returned (.slice ao L.length cap) ∧ Sx w' (.slice ao L.length cap) L ∧ Below W.heap.size W w') := fun W hW => by rw [hL]; exact list_S hX hW
  clear hL
  obtain ⟨n, hn⟩ : ∃ n, n = L.length := ⟨_, rfl⟩
  rw [← hn] at HL hL20
  have ha := a.toNat_lt
  have hb := b.toNat_lt
  obtain ⟨A, hA⟩ : ∃ A : Nat, A = a.toNat := ⟨_, rfl⟩
  obtain ⟨B, hB⟩ : ∃ B : Nat, B = b.toNat := ⟨_, rfl⟩
  obtain ⟨s, hs⟩ : ∃ s, s = L.getD (A % n) ⟨#[]⟩ := ⟨_, rfl⟩
  have hs30 : s.size ≤ 30 := by rw [hs]; exact hL30 _
  have HC0 := Lib.hid (fun W => changeOf_any c d tail s (by omega) ht W)
  have ho := bent_size c d tail s
  obtain ⟨o, hO⟩ : ∃ o, o = bent c d tail s := ⟨_, rfl⟩
  rw [← hO] at HC0 ho
  obtain ⟨C, hC⟩ : ∃ C : Int, C = c.toNat := ⟨_, rfl⟩
  obtain ⟨D, hD⟩ : ∃ D : Int, D = d.toNat := ⟨_, rfl⟩
  rw [← hC, ← hD] at HC0
  rw [← hA, ← hB, ← hC, ← hD]
  rw [← hA] at ha
  rw [← hB] at hb
  have HB : Hid (Below (w.heap.size + 2) ((w.alloc (.cells #[.int .u8 A, .int .u8 B] 43)).alloc (.cells #[.int .u8 C, .int .u8 D, .string tail] 23)) ((w.alloc (.cells #[.int .u8 A, .int .u8 B] 43)).alloc (.cells #[.int .u8 C, .int .u8 D, .string tail] 23))) := Below.refl _ _
  have HZ : Hid (w.heap.size + 2 ≤ ((w.alloc (.cells #[.int .u8 A, .int .u8 B] 43)).alloc (.cells #[.int .u8 C, .int .u8 D, .string tail] 23)).heap.size) := Lib.hid (by simp)
  have HW : Hid (Below w.heap.size w ((w.alloc (.cells #[.int .u8 A, .int .u8 B] 43)).alloc (.cells #[.int .u8 C, .int .u8 D, .string tail] 23))) := Lib.hid (by go_grown)
  have HKP : Hid (∀ w', Below (w.heap.size + 2) ((w.alloc (.cells #[.int .u8 A, .int .u8 B] 43)).alloc (.cells #[.int .u8 C, .int .u8 D, .string tail] 23)) w' → w'.cell? ⟨w.heap.size, 0, none⟩ = some (.int .u8 A) ∧ w'.cell? ⟨w.heap.size, 1, none⟩ = some (.int .u8 B) ∧ w'.cell? ⟨w.heap.size + 1, 0, none⟩ = some (.int .u8 C) ∧ w'.cell? ⟨w.heap.size + 1, 1, none⟩ = some (.int .u8 D) ∧ w'.cell? ⟨w.heap.size + 1, 2, none⟩ = some (.string tail)) := fun w' hb' => by
    have q1 : ((w.alloc (.cells #[.int .u8 A, .int .u8 B] 43)).alloc (.cells #[.int .u8 C, .int .u8 D, .string tail] 23)).heap[w.heap.size]? = some (.cells #[.int .u8 A, .int .u8 B] 43 (0, 0)) := (Below.heap_alloc _ _ _ (by simp)).trans (heap_alloc_new _ _)
    have q2 := heap_alloc_new (w.alloc (.cells #[.int .u8 A, .int .u8 B] 43)) (.cells #[.int .u8 C, .int .u8 D, .string tail] 23)
    rw [World.size_alloc] at q2
    have r1 := (hb'.block _ (by omega)).trans q1
    have r2 := (hb'.block _ (by omega)).trans q2
    refine ⟨?_, ?_, ?_, ?_, ?_⟩
    · rw [cell_of_row _ _ _ _ _ _ r1]; rfl
    · rw [cell_of_row _ _ _ _ _ _ r1]; rfl
    · rw [cell_of_row _ _ _ _ _ _ r2]; rfl
    · rw [cell_of_row _ _ _ _ _ _ r2]; rfl
    · rw [cell_of_row _ _ _ _ _ _ r2]; rfl
  clear hA hB hC hD hO
  by_cases hn0 : n = 0
  · subst hn0
    clear ho hs hs30 HC0 hL30 hn hX
    go_enter Try.func7, Try.ntmps7
    go_wp2_with (first | (go_at_call 10; refine (HSA.out _).mono ?_; rintro e w0 ⟨rfl, hb⟩; have HBB := step1 HB HZ hb; have HB := HBB.1; have HZ := HBB.2; clear HBB hb) | (go_at_call 21; refine (HL.out _ (HW.out.trans (HB.out.mono (by omega)))).mono ?_; rintro e w1 ⟨ao, cap, rfl, hsx, hb⟩; have HBB := step1 HB HZ hb; have HB := HBB.1; have HZ := HBB.2; clear HBB hb hsx))
    go_ret
    exact ⟨rfl, HW.out.trans (HB.out.mono (by omega))⟩
  · obtain ⟨m, hm, hnm, hm5⟩ := lev_small (n := n) (by omega)
    obtain ⟨i, hi⟩ : ∃ i, i = A % n := ⟨_, rfl⟩
    have hin : i < n := by rw [hi]; exact Nat.mod_lt _ (by omega)
    rw [← hi] at hs
    obtain ⟨k, hk⟩ : ∃ k, k = B % 32 := ⟨_, rfl⟩
    have hk32 : k < 32 := by omega
    have him : i < 2 ^ m := by omega
    have hm20 : m ≤ 20 := by omega
    have hm' : wid L.length = 2 ^ m := by rw [← hn]; exact hm
    have hsz : ∀ k, (L.getD k ⟨#[]⟩).size ≤ 140737488355000 := fun k => Nat.le_trans (hL30 k) (by omega)
    have hup := proof_up hm' (by rw [← hn]; exact hin) him
    rw [← hs] at hup
    have HR : Hid (∀ W v, Sx W v L → Calls Try.prog 23 #[v] W fun e w' => e = .returned (.string (sA (rootD m (leavesD (L.map by'))))) ∧ Below W.heap.size W w') := fun W v h => root_any h (by omega) hsz m hm'
    have HP : Hid (∀ W v, Sx W v L → Calls Try.prog 24 #[v, .int .i64 i] W fun e w' => ∃ ao cap, e = .returned (.tuple #[.slice ao m cap, .bool true]) ∧ Sx w' (.slice ao m cap) (proofS L m i) ∧ Below W.heap.size W w') := fun W v h => prove_S h (by omega) hsz hm' (by rw [← hn]; exact hin)
    obtain ⟨RD, hRD⟩ : ∃ RD, RD = rootD m (leavesD (L.map by')) := ⟨_, rfl⟩
    rw [← hRD] at HR hup
    obtain ⟨rt, hrt⟩ : ∃ rt, rt = sA RD := ⟨_, rfl⟩
    have hrb : by' rt = RD := by rw [hrt, by_sA]
    rw [← hrt] at HR
    have hr8 : rt.size ≤ 1000 := by
      rw [hrt, sA_size, ← hup, upD_len _ (leafD (by' s)) _ rfl]; omega
    obtain ⟨lf, hlf⟩ : ∃ lf : ByteArray → ByteArray, lf = fun x => sA (leafD (by' x)) := ⟨_, rfl⟩
    obtain ⟨uF, huF⟩ : ∃ uF : ByteArray → Nat → ByteArray, uF = fun x j => sA (upD (leafD (by' x)) j (proofD m (leavesD (L.map by')) i)) := ⟨_, rfl⟩
    obtain ⟨vF, hvF⟩ : ∃ vF : ByteArray → Nat → Bool, vF = fun x j => decide (by' rt = upD (leafD (by' x)) j (proofD m (leavesD (L.map by')) i)) := ⟨_, rfl⟩
    have HLF : Hid (∀ x W, x.size ≤ 1000 → Calls Try.prog 30 #[.string x] W fun e w' => e = .returned (.string (lf x)) ∧ Below W.heap.size W w') := fun x W h => by rw [hlf]; exact rLeaf_any x (by omega) W
    have HU : Hid (∀ W v x j, Sx W v (proofS L m i) → j < 2 ^ m → Calls Try.prog 29 #[.string (lf x), .int .i64 (j : Nat), v] W fun e w' => e = .returned (.tuple #[.string (uF x j), .bool true]) ∧ Below W.heap.size W w') := fun W v x j h hj => by
      have h2 := up_S hm' hm20 him h (lf x) (by rw [hlf]; exact (sA_size _).trans rfl) hj
      rw [show by' (lf x) = leafD (by' x) by rw [hlf, by_sA]] at h2
      rw [huF]
      exact h2
    have HV : Hid (∀ W v x j, Sx W v (proofS L m i) → x.size ≤ 1000 → j < 2 ^ m → Calls Try.prog 27 #[.string rt, .string x, .int .i64 (j : Nat), v] W fun e w' => e = .returned (.bool (vF x j)) ∧ Below W.heap.size W w') := fun W v x j h hx hj => by
      rw [hvF]
      exact verify_S hm' hm20 him h rt x hx hr8 hj
    have HUF : Hid (∀ d W ao cap, 2 ^ m ≤ k → Calls Try.prog 29 #[.string d, .int .i64 (k : Nat), .slice ao m cap] W fun e w' => e = .returned (.tuple #[.string ⟨#[]⟩, .bool false]) ∧ Below W.heap.size W w') := fun d W ao cap h => up_far d k ao m cap hm20 h
    have HVF : Hid (∀ x W ao cap, 2 ^ m ≤ k → Calls Try.prog 27 #[.string rt, .string x, .int .i64 (k : Nat), .slice ao m cap] W fun e w' => e = .returned (.bool false) ∧ Below W.heap.size W w') := fun x W ao cap h => verify_far rt x k ao m cap (.inr (.inr ⟨hm20, by omega⟩))
    have hvs : vF s i = true := by rw [hvF]; exact decide_eq_true (by rw [hrb]; exact hup.symm)
    have HVU : Hid (∀ x j, ((uF x j).toList == rt.toList) = vF x j) := fun x j => by
      rw [str_beq, huF, hvF, by_sA]
      exact decide_eq_decide.2 eq_comm
    have HI := Lib.hid him
    have HNE : Hid (L ≠ []) := fun e => by rw [e] at hn; simp at hn; omega
    have HN := Lib.hid hn
    have HS := Lib.hid hs
    have hki : ((A : Int) % (n : Int)) = (i : Nat) := by rw [hi]; simp
    have hkk : ((B : Int) % 32) = (k : Nat) := by omega
    obtain ⟨F, hF⟩ : ∃ F : Nat, F = 2 ^ m := ⟨_, rfl⟩
    rw [← hF] at HU HV HUF HVF HI
    have hFk : F ≤ k ∨ k < F := by omega
    have hiF : i < F := HI.out
    clear hlf huF hvF hrt hRD hrb hup hsz hm' hm hnm hs hn hL30 hX hi hk him hF
    go_enter Try.func7, Try.ntmps7
    go_wp2_with (first | (go_at_call 10; refine (HSA.out _).mono ?_; rintro e w0 ⟨rfl, hb⟩; have HBB := step1 HB HZ hb; have HB := HBB.1; have HZ := HBB.2; clear HBB hb) | (go_at_call 21; refine (HL.out _ (HW.out.trans (HB.out.mono (by omega)))).mono ?_; rintro e w1 ⟨ao, cap, rfl, hsx, hb⟩; have HBB := step1 HB HZ hb; have HB := HBB.1; have HZ := HBB.2; have HSX := Lib.hid hsx; clear HBB hb hsx))
    obtain ⟨b', off, cap', hv, hlt, hcl⟩ := HSX.out.at HNE.out
    have hcs : w1.cell? ⟨b', off + i, none⟩ = some (.string s) := by rw [HS.out]; exact hcl i (by rw [← HN.out]; exact hin)
    injection hv with hv1 hv2 hv3
    subst hv1 hv3
    obtain ⟨g0, g1, g2, g3, g4⟩ := HKP.out _ HB.out
    have HCS := Lib.hid hcs
    have HLT := Lib.hid hlt
    clear hcl hv2 hlt
    go_region
    rw [hki, hkk]
    clear g0 g1 g2 g3 g4 hcs
    obtain ⟨W5, hW5⟩ : ∃ W5, W5 = w1.drew := ⟨_, rfl⟩
    rw [← hW5]
    have hb5 : Below w1.heap.size w1 W5 := by rw [hW5]; exact ⟨rfl, rfl, rfl, Nat.le_refl _, fun _ _ => rfl⟩
    have HB5 := step1 HB HZ hb5
    have HSY := Lib.hid (HSX.out.below hb5)
    have hcs5 : W5.cell? ⟨b', off + i, none⟩ = some (.string s) := cell_later hb5 HCS.out
    have HCL : Hid (∀ w', Below W5.heap.size W5 w' → w'.cell? ⟨b', off + i, none⟩ = some (.string s)) := fun w' h => cell_later h hcs5
    have HK5 : Hid (∀ w', Below W5.heap.size W5 w' → w'.cell? ⟨w.heap.size + 1, 0, none⟩ = some (.int .u8 C) ∧ w'.cell? ⟨w.heap.size + 1, 1, none⟩ = some (.int .u8 D) ∧ w'.cell? ⟨w.heap.size + 1, 2, none⟩ = some (.string tail) ∧ w'.cell? ⟨b', off + i, none⟩ = some (.string s)) := fun w' h => by
      have q := HKP.out _ (HB5.1.out.trans (h.mono HB5.2.out))
      exact ⟨q.2.2.1, q.2.2.2.1, q.2.2.2.2, cell_later h hcs5⟩
    have HWW : Hid (∀ w', Below W5.heap.size W5 w' → Below w.heap.size w w') := fun w' h => HW.out.trans ((HB5.1.out.trans (h.mono HB5.2.out)).mono (by omega))
    have HD : Hid (Below W5.heap.size W5 W5) := Lib.hid (Below.refl _ _)
    have HE : Hid (W5.heap.size ≤ W5.heap.size) := Lib.hid (Nat.le_refl _)
    have HV1 : Hid (∀ W v, Sx W v (proofS L m i) → Calls Try.prog 27 #[.string rt, .string s, .int .i64 (i : Nat), v] W fun e w' => e = .returned (.bool true) ∧ Below W.heap.size W w') := fun W v h => by
      have h2 := HV.out W v s i h (by omega) HI.out
      rw [hvs] at h2
      exact h2
    clear hW5 hb5 HB5 HB HZ HKP HW HL HSX HCS HLT hcs5 HSA HNE HS ha hb hki hkk HI
    go_wp2_with (first | (go_at_call 23; refine (HR.out _ _ (HSY.out.below HD.out)).mono ?_; rintro e w2 ⟨rfl, hb⟩; have HDD := step1 HD HE hb; have HD := HDD.1; have HE := HDD.2; clear HDD hb) | (go_at_call 24; refine (HP.out _ _ (HSY.out.below HD.out)).mono ?_; rintro e w3 ⟨pao, pcap, rfl, hps, hb⟩; have HDD := step1 HD HE hb; have HD := HDD.1; have HE := HDD.2; have HPS := Lib.hid hps; have hc3 := HCL.out _ HD.out; have HG : Hid (Below w3.heap.size w3 w3) := Lib.hid (Below.refl _ _); have HGE : Hid (w3.heap.size ≤ w3.heap.size) := Lib.hid (Nat.le_refl _); clear HDD hb hps) | (go_at_call 27; refine (HV1.out _ _ HPS.out).mono ?_; rintro e w4 ⟨rfl, hb⟩; have HDD := step1 HD HE hb; have HD := HDD.1; have HE := HDD.2; have HGG := step1 HG HGE hb; have HG := HGG.1; have HGE := HGG.2; clear HDD HGG hb))
    obtain ⟨q0, q1, q2, q3⟩ := HK5.out _ HD.out
    go_region_held3 (fun w' => w'.cell? ⟨w.heap.size + 1, 0, none⟩ = some (.int .u8 C) ∧ w'.cell? ⟨w.heap.size + 1, 1, none⟩ = some (.int .u8 D) ∧ w'.cell? ⟨w.heap.size + 1, 2, none⟩ = some (.string tail) ∧ w'.cell? ⟨b', off + i, none⟩ = some (.string s))
      (first | (with_reducible exact HK5.out _ HD.out) | (refine HK5.out _ (HD.out.trans (Below.mono (?_ : Below w4.heap.size w4 _) HE.out)); (go_grown; done)))
      ((go_at_call 12; refine (HC0.out _).mono ?_; rintro e wa ⟨rfl, hb⟩; (first | (have HDD := step1 HD HE hb; have HGG := step1 HG HGE hb) | (have HDD := step2 HD HE hb; have HGG := step2 HG HGE hb) | (have HDD := stepD HD HE hb; have HGG := stepD HG HGE hb)); have HD := HDD.1; have HE := HDD.2; have HG := HGG.1; have HGE := HGG.2; clear HDD HGG hb))
    clear q0 q1 q2 q3
    have hcw := HCL.out _ HD.out
    have HLo : Hid (∀ W, Calls Try.prog 30 #[.string o] W fun e w' => e = .returned (.string (lf o)) ∧ Below W.heap.size W w') := fun W => HLF.out o W (by omega)
    have HLs : Hid (∀ W, Calls Try.prog 30 #[.string s] W fun e w' => e = .returned (.string (lf s)) ∧ Below W.heap.size W w') := fun W => HLF.out s W (by omega)
    have HUo : Hid (∀ W ao cap, Sx W (.slice ao m cap) (proofS L m i) → Calls Try.prog 29 #[.string (lf o), .int .i64 (i : Nat), .slice ao m cap] W fun e w' => e = .returned (.tuple #[.string (uF o i), .bool true]) ∧ Below W.heap.size W w') := fun W ao cap h => HU.out W _ o i h hiF
    have HVo : Hid (∀ W ao cap, Sx W (.slice ao m cap) (proofS L m i) → Calls Try.prog 27 #[.string rt, .string o, .int .i64 (i : Nat), .slice ao m cap] W fun e w' => e = .returned (.bool (vF o i)) ∧ Below W.heap.size W w') := fun W ao cap h => HV.out W _ o i h (by omega) hiF
    have hvo := HVU.out o i
    obtain ⟨us, kn, vk, HUk, HVk, hk1, hk2⟩ : ∃ (us : ByteArray) (kn vk : Bool), Hid (∀ W ao cap, Sx W (.slice ao m cap) (proofS L m i) → Calls Try.prog 29 #[.string (lf s), .int .i64 (k : Nat), .slice ao m cap] W fun e w' => e = .returned (.tuple #[.string us, .bool kn]) ∧ Below W.heap.size W w') ∧ Hid (∀ W ao cap, Sx W (.slice ao m cap) (proofS L m i) → Calls Try.prog 27 #[.string rt, .string s, .int .i64 (k : Nat), .slice ao m cap] W fun e w' => e = .returned (.bool vk) ∧ Below W.heap.size W w') ∧ (kn = true → (us.toList == rt.toList) = vk) ∧ (kn = false → vk = false) := by
      rcases hFk with h | h
      · exact ⟨_, false, false, Lib.hid (fun W ao cap _ => HUF.out (lf s) W ao cap h), Lib.hid (fun W ao cap _ => HVF.out s W ao cap h), (fun e => by cases e), fun _ => rfl⟩
      · exact ⟨uF s k, true, vF s k, Lib.hid (fun W ao cap q => HU.out W _ s k q h), Lib.hid (fun W ao cap q => HV.out W _ s k q (by omega) h), fun _ => HVU.out s k, fun e => by cases e⟩
    obtain ⟨uo, huo⟩ : ∃ uo, uo = uF o i := ⟨_, rfl⟩
    obtain ⟨vo, hvo2⟩ : ∃ vo, vo = vF o i := ⟨_, rfl⟩
    rw [← huo] at HUo hvo
    rw [← hvo2] at HVo hvo
    obtain ⟨lo, hlo⟩ : ∃ lo, lo = lf o := ⟨_, rfl⟩
    obtain ⟨ls, hls⟩ : ∃ ls, ls = lf s := ⟨_, rfl⟩
    rw [← hlo] at HLo HUo
    rw [← hls] at HLs HUk
    clear huo hvo2 hlo hls HLF HU HV HUF HVF HV1 hvs HVU HC0 HR HP HSY hc3
    by_cases hq : (o.toList == s.toList) = true
    · clear hvo
      by_cases hki : k = i
      · subst hki
        clear hk1 hk2
        go_wp2_with (first | (go_at_call_of 30 (Value.string o); refine (HLo.out _).mono ?_; rintro e wq ⟨rfl, hb⟩; have HDD := step1 HD HE hb; have HD := HDD.1; have HE := HDD.2; have HGG := step1 HG HGE hb; have HG := HGG.1; have HGE := HGG.2; clear HDD HGG hb; have hcw := HCL.out _ HD.out) | (go_at_call_of 30 (Value.string s); refine (HLs.out _).mono ?_; rintro e wq ⟨rfl, hb⟩; have HDD := step1 HD HE hb; have HD := HDD.1; have HE := HDD.2; have HGG := step1 HG HGE hb; have HG := HGG.1; have HGE := HGG.2; clear HDD HGG hb; have hcw := HCL.out _ HD.out) | (go_at_call_of 29 (Value.string lo); refine (HUo.out _ _ _ (HPS.out.below HG.out)).mono ?_; rintro e wq ⟨rfl, hb⟩; have HDD := step1 HD HE hb; have HD := HDD.1; have HE := HDD.2; have HGG := step1 HG HGE hb; have HG := HGG.1; have HGE := HGG.2; clear HDD HGG hb; have hcw := HCL.out _ HD.out) | (go_at_call_of 29 (Value.string ls); refine (HUk.out _ _ _ (HPS.out.below HG.out)).mono ?_; rintro e wq ⟨rfl, hb⟩; have HDD := step1 HD HE hb; have HD := HDD.1; have HE := HDD.2; have HGG := step1 HG HGE hb; have HG := HGG.1; have HGE := HGG.2; clear HDD HGG hb; have hcw := HCL.out _ HD.out) | (go_at_call_of 27 (Value.string o); refine (HVo.out _ _ _ (HPS.out.below HG.out)).mono ?_; rintro e wq ⟨rfl, hb⟩; have HDD := step1 HD HE hb; have HD := HDD.1; have HE := HDD.2; have HGG := step1 HG HGE hb; have HG := HGG.1; have HGE := HGG.2; clear HDD HGG hb; have hcw := HCL.out _ HD.out) | (go_at_call_of 27 (Value.string s); refine (HVk.out _ _ _ (HPS.out.below HG.out)).mono ?_; rintro e wq ⟨rfl, hb⟩; have HDD := step1 HD HE hb; have HD := HDD.1; have HE := HDD.2; have HGG := step1 HG HGE hb; have HG := HGG.1; have HGE := HGG.2; clear HDD HGG hb; have hcw := HCL.out _ HD.out))
        go_ret
        exact ⟨rfl, HWW.out _ HD.out⟩
      · cases kn with
        | false =>
          obtain rfl := hk2 rfl
          clear hk1 hk2
          go_wp2_with (first | (go_at_call_of 30 (Value.string o); refine (HLo.out _).mono ?_; rintro e wq ⟨rfl, hb⟩; have HDD := step1 HD HE hb; have HD := HDD.1; have HE := HDD.2; have HGG := step1 HG HGE hb; have HG := HGG.1; have HGE := HGG.2; clear HDD HGG hb; have hcw := HCL.out _ HD.out) | (go_at_call_of 30 (Value.string s); refine (HLs.out _).mono ?_; rintro e wq ⟨rfl, hb⟩; have HDD := step1 HD HE hb; have HD := HDD.1; have HE := HDD.2; have HGG := step1 HG HGE hb; have HG := HGG.1; have HGE := HGG.2; clear HDD HGG hb; have hcw := HCL.out _ HD.out) | (go_at_call_of 29 (Value.string lo); refine (HUo.out _ _ _ (HPS.out.below HG.out)).mono ?_; rintro e wq ⟨rfl, hb⟩; have HDD := step1 HD HE hb; have HD := HDD.1; have HE := HDD.2; have HGG := step1 HG HGE hb; have HG := HGG.1; have HGE := HGG.2; clear HDD HGG hb; have hcw := HCL.out _ HD.out) | (go_at_call_of 29 (Value.string ls); refine (HUk.out _ _ _ (HPS.out.below HG.out)).mono ?_; rintro e wq ⟨rfl, hb⟩; have HDD := step1 HD HE hb; have HD := HDD.1; have HE := HDD.2; have HGG := step1 HG HGE hb; have HG := HGG.1; have HGE := HGG.2; clear HDD HGG hb; have hcw := HCL.out _ HD.out) | (go_at_call_of 27 (Value.string o); refine (HVo.out _ _ _ (HPS.out.below HG.out)).mono ?_; rintro e wq ⟨rfl, hb⟩; have HDD := step1 HD HE hb; have HD := HDD.1; have HE := HDD.2; have HGG := step1 HG HGE hb; have HG := HGG.1; have HGE := HGG.2; clear HDD HGG hb; have hcw := HCL.out _ HD.out) | (go_at_call_of 27 (Value.string s); refine (HVk.out _ _ _ (HPS.out.below HG.out)).mono ?_; rintro e wq ⟨rfl, hb⟩; have HDD := step1 HD HE hb; have HD := HDD.1; have HE := HDD.2; have HGG := step1 HG HGE hb; have HG := HGG.1; have HGE := HGG.2; clear HDD HGG hb; have hcw := HCL.out _ HD.out))
          go_ret
          exact ⟨rfl, HWW.out _ HD.out⟩
        | true =>
          have hk3 := hk1 rfl
          clear hk1 hk2
          cases vk with
          | false =>
            go_wp2_with (first | (go_at_call_of 30 (Value.string o); refine (HLo.out _).mono ?_; rintro e wq ⟨rfl, hb⟩; have HDD := step1 HD HE hb; have HD := HDD.1; have HE := HDD.2; have HGG := step1 HG HGE hb; have HG := HGG.1; have HGE := HGG.2; clear HDD HGG hb; have hcw := HCL.out _ HD.out) | (go_at_call_of 30 (Value.string s); refine (HLs.out _).mono ?_; rintro e wq ⟨rfl, hb⟩; have HDD := step1 HD HE hb; have HD := HDD.1; have HE := HDD.2; have HGG := step1 HG HGE hb; have HG := HGG.1; have HGE := HGG.2; clear HDD HGG hb; have hcw := HCL.out _ HD.out) | (go_at_call_of 29 (Value.string lo); refine (HUo.out _ _ _ (HPS.out.below HG.out)).mono ?_; rintro e wq ⟨rfl, hb⟩; have HDD := step1 HD HE hb; have HD := HDD.1; have HE := HDD.2; have HGG := step1 HG HGE hb; have HG := HGG.1; have HGE := HGG.2; clear HDD HGG hb; have hcw := HCL.out _ HD.out) | (go_at_call_of 29 (Value.string ls); refine (HUk.out _ _ _ (HPS.out.below HG.out)).mono ?_; rintro e wq ⟨rfl, hb⟩; have HDD := step1 HD HE hb; have HD := HDD.1; have HE := HDD.2; have HGG := step1 HG HGE hb; have HG := HGG.1; have HGE := HGG.2; clear HDD HGG hb; have hcw := HCL.out _ HD.out) | (go_at_call_of 27 (Value.string o); refine (HVo.out _ _ _ (HPS.out.below HG.out)).mono ?_; rintro e wq ⟨rfl, hb⟩; have HDD := step1 HD HE hb; have HD := HDD.1; have HE := HDD.2; have HGG := step1 HG HGE hb; have HG := HGG.1; have HGE := HGG.2; clear HDD HGG hb; have hcw := HCL.out _ HD.out) | (go_at_call_of 27 (Value.string s); refine (HVk.out _ _ _ (HPS.out.below HG.out)).mono ?_; rintro e wq ⟨rfl, hb⟩; have HDD := step1 HD HE hb; have HD := HDD.1; have HE := HDD.2; have HGG := step1 HG HGE hb; have HG := HGG.1; have HGE := HGG.2; clear HDD HGG hb; have hcw := HCL.out _ HD.out))
            go_ret
            exact ⟨rfl, HWW.out _ HD.out⟩
          | true =>
            go_wp2_with (first | (go_at_call_of 30 (Value.string o); refine (HLo.out _).mono ?_; rintro e wq ⟨rfl, hb⟩; have HDD := step1 HD HE hb; have HD := HDD.1; have HE := HDD.2; have HGG := step1 HG HGE hb; have HG := HGG.1; have HGE := HGG.2; clear HDD HGG hb; have hcw := HCL.out _ HD.out) | (go_at_call_of 30 (Value.string s); refine (HLs.out _).mono ?_; rintro e wq ⟨rfl, hb⟩; have HDD := step1 HD HE hb; have HD := HDD.1; have HE := HDD.2; have HGG := step1 HG HGE hb; have HG := HGG.1; have HGE := HGG.2; clear HDD HGG hb; have hcw := HCL.out _ HD.out) | (go_at_call_of 29 (Value.string lo); refine (HUo.out _ _ _ (HPS.out.below HG.out)).mono ?_; rintro e wq ⟨rfl, hb⟩; have HDD := step1 HD HE hb; have HD := HDD.1; have HE := HDD.2; have HGG := step1 HG HGE hb; have HG := HGG.1; have HGE := HGG.2; clear HDD HGG hb; have hcw := HCL.out _ HD.out) | (go_at_call_of 29 (Value.string ls); refine (HUk.out _ _ _ (HPS.out.below HG.out)).mono ?_; rintro e wq ⟨rfl, hb⟩; have HDD := step1 HD HE hb; have HD := HDD.1; have HE := HDD.2; have HGG := step1 HG HGE hb; have HG := HGG.1; have HGE := HGG.2; clear HDD HGG hb; have hcw := HCL.out _ HD.out) | (go_at_call_of 27 (Value.string o); refine (HVo.out _ _ _ (HPS.out.below HG.out)).mono ?_; rintro e wq ⟨rfl, hb⟩; have HDD := step1 HD HE hb; have HD := HDD.1; have HE := HDD.2; have HGG := step1 HG HGE hb; have HG := HGG.1; have HGE := HGG.2; clear HDD HGG hb; have hcw := HCL.out _ HD.out) | (go_at_call_of 27 (Value.string s); refine (HVk.out _ _ _ (HPS.out.below HG.out)).mono ?_; rintro e wq ⟨rfl, hb⟩; have HDD := step1 HD HE hb; have HD := HDD.1; have HE := HDD.2; have HGG := step1 HG HGE hb; have HG := HGG.1; have HGE := HGG.2; clear HDD HGG hb; have hcw := HCL.out _ HD.out))
            go_ret
            exact ⟨rfl, HWW.out _ HD.out⟩
    · have hq' : (o.toList == s.toList) = false := by simpa using hq
      clear hq
      cases vo with
      | true =>
        by_cases hki : k = i
        · subst hki
          clear hk1 hk2
          go_wp2_with (first | (go_at_call_of 30 (Value.string o); refine (HLo.out _).mono ?_; rintro e wq ⟨rfl, hb⟩; have HDD := step1 HD HE hb; have HD := HDD.1; have HE := HDD.2; have HGG := step1 HG HGE hb; have HG := HGG.1; have HGE := HGG.2; clear HDD HGG hb; have hcw := HCL.out _ HD.out) | (go_at_call_of 30 (Value.string s); refine (HLs.out _).mono ?_; rintro e wq ⟨rfl, hb⟩; have HDD := step1 HD HE hb; have HD := HDD.1; have HE := HDD.2; have HGG := step1 HG HGE hb; have HG := HGG.1; have HGE := HGG.2; clear HDD HGG hb; have hcw := HCL.out _ HD.out) | (go_at_call_of 29 (Value.string lo); refine (HUo.out _ _ _ (HPS.out.below HG.out)).mono ?_; rintro e wq ⟨rfl, hb⟩; have HDD := step1 HD HE hb; have HD := HDD.1; have HE := HDD.2; have HGG := step1 HG HGE hb; have HG := HGG.1; have HGE := HGG.2; clear HDD HGG hb; have hcw := HCL.out _ HD.out) | (go_at_call_of 29 (Value.string ls); refine (HUk.out _ _ _ (HPS.out.below HG.out)).mono ?_; rintro e wq ⟨rfl, hb⟩; have HDD := step1 HD HE hb; have HD := HDD.1; have HE := HDD.2; have HGG := step1 HG HGE hb; have HG := HGG.1; have HGE := HGG.2; clear HDD HGG hb; have hcw := HCL.out _ HD.out) | (go_at_call_of 27 (Value.string o); refine (HVo.out _ _ _ (HPS.out.below HG.out)).mono ?_; rintro e wq ⟨rfl, hb⟩; have HDD := step1 HD HE hb; have HD := HDD.1; have HE := HDD.2; have HGG := step1 HG HGE hb; have HG := HGG.1; have HGE := HGG.2; clear HDD HGG hb; have hcw := HCL.out _ HD.out) | (go_at_call_of 27 (Value.string s); refine (HVk.out _ _ _ (HPS.out.below HG.out)).mono ?_; rintro e wq ⟨rfl, hb⟩; have HDD := step1 HD HE hb; have HD := HDD.1; have HE := HDD.2; have HGG := step1 HG HGE hb; have HG := HGG.1; have HGE := HGG.2; clear HDD HGG hb; have hcw := HCL.out _ HD.out))
          go_ret
          exact ⟨rfl, HWW.out _ HD.out⟩
        · cases kn with
          | false =>
            obtain rfl := hk2 rfl
            clear hk1 hk2
            go_wp2_with (first | (go_at_call_of 30 (Value.string o); refine (HLo.out _).mono ?_; rintro e wq ⟨rfl, hb⟩; have HDD := step1 HD HE hb; have HD := HDD.1; have HE := HDD.2; have HGG := step1 HG HGE hb; have HG := HGG.1; have HGE := HGG.2; clear HDD HGG hb; have hcw := HCL.out _ HD.out) | (go_at_call_of 30 (Value.string s); refine (HLs.out _).mono ?_; rintro e wq ⟨rfl, hb⟩; have HDD := step1 HD HE hb; have HD := HDD.1; have HE := HDD.2; have HGG := step1 HG HGE hb; have HG := HGG.1; have HGE := HGG.2; clear HDD HGG hb; have hcw := HCL.out _ HD.out) | (go_at_call_of 29 (Value.string lo); refine (HUo.out _ _ _ (HPS.out.below HG.out)).mono ?_; rintro e wq ⟨rfl, hb⟩; have HDD := step1 HD HE hb; have HD := HDD.1; have HE := HDD.2; have HGG := step1 HG HGE hb; have HG := HGG.1; have HGE := HGG.2; clear HDD HGG hb; have hcw := HCL.out _ HD.out) | (go_at_call_of 29 (Value.string ls); refine (HUk.out _ _ _ (HPS.out.below HG.out)).mono ?_; rintro e wq ⟨rfl, hb⟩; have HDD := step1 HD HE hb; have HD := HDD.1; have HE := HDD.2; have HGG := step1 HG HGE hb; have HG := HGG.1; have HGE := HGG.2; clear HDD HGG hb; have hcw := HCL.out _ HD.out) | (go_at_call_of 27 (Value.string o); refine (HVo.out _ _ _ (HPS.out.below HG.out)).mono ?_; rintro e wq ⟨rfl, hb⟩; have HDD := step1 HD HE hb; have HD := HDD.1; have HE := HDD.2; have HGG := step1 HG HGE hb; have HG := HGG.1; have HGE := HGG.2; clear HDD HGG hb; have hcw := HCL.out _ HD.out) | (go_at_call_of 27 (Value.string s); refine (HVk.out _ _ _ (HPS.out.below HG.out)).mono ?_; rintro e wq ⟨rfl, hb⟩; have HDD := step1 HD HE hb; have HD := HDD.1; have HE := HDD.2; have HGG := step1 HG HGE hb; have HG := HGG.1; have HGE := HGG.2; clear HDD HGG hb; have hcw := HCL.out _ HD.out))
            go_ret
            exact ⟨rfl, HWW.out _ HD.out⟩
          | true =>
            have hk3 := hk1 rfl
            clear hk1 hk2
            cases vk with
            | false =>
              go_wp2_with (first | (go_at_call_of 30 (Value.string o); refine (HLo.out _).mono ?_; rintro e wq ⟨rfl, hb⟩; have HDD := step1 HD HE hb; have HD := HDD.1; have HE := HDD.2; have HGG := step1 HG HGE hb; have HG := HGG.1; have HGE := HGG.2; clear HDD HGG hb; have hcw := HCL.out _ HD.out) | (go_at_call_of 30 (Value.string s); refine (HLs.out _).mono ?_; rintro e wq ⟨rfl, hb⟩; have HDD := step1 HD HE hb; have HD := HDD.1; have HE := HDD.2; have HGG := step1 HG HGE hb; have HG := HGG.1; have HGE := HGG.2; clear HDD HGG hb; have hcw := HCL.out _ HD.out) | (go_at_call_of 29 (Value.string lo); refine (HUo.out _ _ _ (HPS.out.below HG.out)).mono ?_; rintro e wq ⟨rfl, hb⟩; have HDD := step1 HD HE hb; have HD := HDD.1; have HE := HDD.2; have HGG := step1 HG HGE hb; have HG := HGG.1; have HGE := HGG.2; clear HDD HGG hb; have hcw := HCL.out _ HD.out) | (go_at_call_of 29 (Value.string ls); refine (HUk.out _ _ _ (HPS.out.below HG.out)).mono ?_; rintro e wq ⟨rfl, hb⟩; have HDD := step1 HD HE hb; have HD := HDD.1; have HE := HDD.2; have HGG := step1 HG HGE hb; have HG := HGG.1; have HGE := HGG.2; clear HDD HGG hb; have hcw := HCL.out _ HD.out) | (go_at_call_of 27 (Value.string o); refine (HVo.out _ _ _ (HPS.out.below HG.out)).mono ?_; rintro e wq ⟨rfl, hb⟩; have HDD := step1 HD HE hb; have HD := HDD.1; have HE := HDD.2; have HGG := step1 HG HGE hb; have HG := HGG.1; have HGE := HGG.2; clear HDD HGG hb; have hcw := HCL.out _ HD.out) | (go_at_call_of 27 (Value.string s); refine (HVk.out _ _ _ (HPS.out.below HG.out)).mono ?_; rintro e wq ⟨rfl, hb⟩; have HDD := step1 HD HE hb; have HD := HDD.1; have HE := HDD.2; have HGG := step1 HG HGE hb; have HG := HGG.1; have HGE := HGG.2; clear HDD HGG hb; have hcw := HCL.out _ HD.out))
              go_ret
              exact ⟨rfl, HWW.out _ HD.out⟩
            | true =>
              go_wp2_with (first | (go_at_call_of 30 (Value.string o); refine (HLo.out _).mono ?_; rintro e wq ⟨rfl, hb⟩; have HDD := step1 HD HE hb; have HD := HDD.1; have HE := HDD.2; have HGG := step1 HG HGE hb; have HG := HGG.1; have HGE := HGG.2; clear HDD HGG hb; have hcw := HCL.out _ HD.out) | (go_at_call_of 30 (Value.string s); refine (HLs.out _).mono ?_; rintro e wq ⟨rfl, hb⟩; have HDD := step1 HD HE hb; have HD := HDD.1; have HE := HDD.2; have HGG := step1 HG HGE hb; have HG := HGG.1; have HGE := HGG.2; clear HDD HGG hb; have hcw := HCL.out _ HD.out) | (go_at_call_of 29 (Value.string lo); refine (HUo.out _ _ _ (HPS.out.below HG.out)).mono ?_; rintro e wq ⟨rfl, hb⟩; have HDD := step1 HD HE hb; have HD := HDD.1; have HE := HDD.2; have HGG := step1 HG HGE hb; have HG := HGG.1; have HGE := HGG.2; clear HDD HGG hb; have hcw := HCL.out _ HD.out) | (go_at_call_of 29 (Value.string ls); refine (HUk.out _ _ _ (HPS.out.below HG.out)).mono ?_; rintro e wq ⟨rfl, hb⟩; have HDD := step1 HD HE hb; have HD := HDD.1; have HE := HDD.2; have HGG := step1 HG HGE hb; have HG := HGG.1; have HGE := HGG.2; clear HDD HGG hb; have hcw := HCL.out _ HD.out) | (go_at_call_of 27 (Value.string o); refine (HVo.out _ _ _ (HPS.out.below HG.out)).mono ?_; rintro e wq ⟨rfl, hb⟩; have HDD := step1 HD HE hb; have HD := HDD.1; have HE := HDD.2; have HGG := step1 HG HGE hb; have HG := HGG.1; have HGE := HGG.2; clear HDD HGG hb; have hcw := HCL.out _ HD.out) | (go_at_call_of 27 (Value.string s); refine (HVk.out _ _ _ (HPS.out.below HG.out)).mono ?_; rintro e wq ⟨rfl, hb⟩; have HDD := step1 HD HE hb; have HD := HDD.1; have HE := HDD.2; have HGG := step1 HG HGE hb; have HG := HGG.1; have HGE := HGG.2; clear HDD HGG hb; have hcw := HCL.out _ HD.out))
              go_ret
              exact ⟨rfl, HWW.out _ HD.out⟩
      | false =>
        by_cases hki : k = i
        · subst hki
          clear hk1 hk2
          go_wp2_with (first | (go_at_call_of 30 (Value.string o); refine (HLo.out _).mono ?_; rintro e wq ⟨rfl, hb⟩; have HDD := step1 HD HE hb; have HD := HDD.1; have HE := HDD.2; have HGG := step1 HG HGE hb; have HG := HGG.1; have HGE := HGG.2; clear HDD HGG hb; have hcw := HCL.out _ HD.out) | (go_at_call_of 30 (Value.string s); refine (HLs.out _).mono ?_; rintro e wq ⟨rfl, hb⟩; have HDD := step1 HD HE hb; have HD := HDD.1; have HE := HDD.2; have HGG := step1 HG HGE hb; have HG := HGG.1; have HGE := HGG.2; clear HDD HGG hb; have hcw := HCL.out _ HD.out) | (go_at_call_of 29 (Value.string lo); refine (HUo.out _ _ _ (HPS.out.below HG.out)).mono ?_; rintro e wq ⟨rfl, hb⟩; have HDD := step1 HD HE hb; have HD := HDD.1; have HE := HDD.2; have HGG := step1 HG HGE hb; have HG := HGG.1; have HGE := HGG.2; clear HDD HGG hb; have hcw := HCL.out _ HD.out) | (go_at_call_of 29 (Value.string ls); refine (HUk.out _ _ _ (HPS.out.below HG.out)).mono ?_; rintro e wq ⟨rfl, hb⟩; have HDD := step1 HD HE hb; have HD := HDD.1; have HE := HDD.2; have HGG := step1 HG HGE hb; have HG := HGG.1; have HGE := HGG.2; clear HDD HGG hb; have hcw := HCL.out _ HD.out) | (go_at_call_of 27 (Value.string o); refine (HVo.out _ _ _ (HPS.out.below HG.out)).mono ?_; rintro e wq ⟨rfl, hb⟩; have HDD := step1 HD HE hb; have HD := HDD.1; have HE := HDD.2; have HGG := step1 HG HGE hb; have HG := HGG.1; have HGE := HGG.2; clear HDD HGG hb; have hcw := HCL.out _ HD.out) | (go_at_call_of 27 (Value.string s); refine (HVk.out _ _ _ (HPS.out.below HG.out)).mono ?_; rintro e wq ⟨rfl, hb⟩; have HDD := step1 HD HE hb; have HD := HDD.1; have HE := HDD.2; have HGG := step1 HG HGE hb; have HG := HGG.1; have HGE := HGG.2; clear HDD HGG hb; have hcw := HCL.out _ HD.out))
          go_ret
          exact ⟨rfl, HWW.out _ HD.out⟩
        · cases kn with
          | false =>
            obtain rfl := hk2 rfl
            clear hk1 hk2
            go_wp2_with (first | (go_at_call_of 30 (Value.string o); refine (HLo.out _).mono ?_; rintro e wq ⟨rfl, hb⟩; have HDD := step1 HD HE hb; have HD := HDD.1; have HE := HDD.2; have HGG := step1 HG HGE hb; have HG := HGG.1; have HGE := HGG.2; clear HDD HGG hb; have hcw := HCL.out _ HD.out) | (go_at_call_of 30 (Value.string s); refine (HLs.out _).mono ?_; rintro e wq ⟨rfl, hb⟩; have HDD := step1 HD HE hb; have HD := HDD.1; have HE := HDD.2; have HGG := step1 HG HGE hb; have HG := HGG.1; have HGE := HGG.2; clear HDD HGG hb; have hcw := HCL.out _ HD.out) | (go_at_call_of 29 (Value.string lo); refine (HUo.out _ _ _ (HPS.out.below HG.out)).mono ?_; rintro e wq ⟨rfl, hb⟩; have HDD := step1 HD HE hb; have HD := HDD.1; have HE := HDD.2; have HGG := step1 HG HGE hb; have HG := HGG.1; have HGE := HGG.2; clear HDD HGG hb; have hcw := HCL.out _ HD.out) | (go_at_call_of 29 (Value.string ls); refine (HUk.out _ _ _ (HPS.out.below HG.out)).mono ?_; rintro e wq ⟨rfl, hb⟩; have HDD := step1 HD HE hb; have HD := HDD.1; have HE := HDD.2; have HGG := step1 HG HGE hb; have HG := HGG.1; have HGE := HGG.2; clear HDD HGG hb; have hcw := HCL.out _ HD.out) | (go_at_call_of 27 (Value.string o); refine (HVo.out _ _ _ (HPS.out.below HG.out)).mono ?_; rintro e wq ⟨rfl, hb⟩; have HDD := step1 HD HE hb; have HD := HDD.1; have HE := HDD.2; have HGG := step1 HG HGE hb; have HG := HGG.1; have HGE := HGG.2; clear HDD HGG hb; have hcw := HCL.out _ HD.out) | (go_at_call_of 27 (Value.string s); refine (HVk.out _ _ _ (HPS.out.below HG.out)).mono ?_; rintro e wq ⟨rfl, hb⟩; have HDD := step1 HD HE hb; have HD := HDD.1; have HE := HDD.2; have HGG := step1 HG HGE hb; have HG := HGG.1; have HGE := HGG.2; clear HDD HGG hb; have hcw := HCL.out _ HD.out))
            go_ret
            exact ⟨rfl, HWW.out _ HD.out⟩
          | true =>
            have hk3 := hk1 rfl
            clear hk1 hk2
            cases vk with
            | false =>
              go_wp2_with (first | (go_at_call_of 30 (Value.string o); refine (HLo.out _).mono ?_; rintro e wq ⟨rfl, hb⟩; have HDD := step1 HD HE hb; have HD := HDD.1; have HE := HDD.2; have HGG := step1 HG HGE hb; have HG := HGG.1; have HGE := HGG.2; clear HDD HGG hb; have hcw := HCL.out _ HD.out) | (go_at_call_of 30 (Value.string s); refine (HLs.out _).mono ?_; rintro e wq ⟨rfl, hb⟩; have HDD := step1 HD HE hb; have HD := HDD.1; have HE := HDD.2; have HGG := step1 HG HGE hb; have HG := HGG.1; have HGE := HGG.2; clear HDD HGG hb; have hcw := HCL.out _ HD.out) | (go_at_call_of 29 (Value.string lo); refine (HUo.out _ _ _ (HPS.out.below HG.out)).mono ?_; rintro e wq ⟨rfl, hb⟩; have HDD := step1 HD HE hb; have HD := HDD.1; have HE := HDD.2; have HGG := step1 HG HGE hb; have HG := HGG.1; have HGE := HGG.2; clear HDD HGG hb; have hcw := HCL.out _ HD.out) | (go_at_call_of 29 (Value.string ls); refine (HUk.out _ _ _ (HPS.out.below HG.out)).mono ?_; rintro e wq ⟨rfl, hb⟩; have HDD := step1 HD HE hb; have HD := HDD.1; have HE := HDD.2; have HGG := step1 HG HGE hb; have HG := HGG.1; have HGE := HGG.2; clear HDD HGG hb; have hcw := HCL.out _ HD.out) | (go_at_call_of 27 (Value.string o); refine (HVo.out _ _ _ (HPS.out.below HG.out)).mono ?_; rintro e wq ⟨rfl, hb⟩; have HDD := step1 HD HE hb; have HD := HDD.1; have HE := HDD.2; have HGG := step1 HG HGE hb; have HG := HGG.1; have HGE := HGG.2; clear HDD HGG hb; have hcw := HCL.out _ HD.out) | (go_at_call_of 27 (Value.string s); refine (HVk.out _ _ _ (HPS.out.below HG.out)).mono ?_; rintro e wq ⟨rfl, hb⟩; have HDD := step1 HD HE hb; have HD := HDD.1; have HE := HDD.2; have HGG := step1 HG HGE hb; have HG := HGG.1; have HGE := HGG.2; clear HDD HGG hb; have hcw := HCL.out _ HD.out))
              go_ret
              exact ⟨rfl, HWW.out _ HD.out⟩
            | true =>
              go_wp2_with (first | (go_at_call_of 30 (Value.string o); refine (HLo.out _).mono ?_; rintro e wq ⟨rfl, hb⟩; have HDD := step1 HD HE hb; have HD := HDD.1; have HE := HDD.2; have HGG := step1 HG HGE hb; have HG := HGG.1; have HGE := HGG.2; clear HDD HGG hb; have hcw := HCL.out _ HD.out) | (go_at_call_of 30 (Value.string s); refine (HLs.out _).mono ?_; rintro e wq ⟨rfl, hb⟩; have HDD := step1 HD HE hb; have HD := HDD.1; have HE := HDD.2; have HGG := step1 HG HGE hb; have HG := HGG.1; have HGE := HGG.2; clear HDD HGG hb; have hcw := HCL.out _ HD.out) | (go_at_call_of 29 (Value.string lo); refine (HUo.out _ _ _ (HPS.out.below HG.out)).mono ?_; rintro e wq ⟨rfl, hb⟩; have HDD := step1 HD HE hb; have HD := HDD.1; have HE := HDD.2; have HGG := step1 HG HGE hb; have HG := HGG.1; have HGE := HGG.2; clear HDD HGG hb; have hcw := HCL.out _ HD.out) | (go_at_call_of 29 (Value.string ls); refine (HUk.out _ _ _ (HPS.out.below HG.out)).mono ?_; rintro e wq ⟨rfl, hb⟩; have HDD := step1 HD HE hb; have HD := HDD.1; have HE := HDD.2; have HGG := step1 HG HGE hb; have HG := HGG.1; have HGE := HGG.2; clear HDD HGG hb; have hcw := HCL.out _ HD.out) | (go_at_call_of 27 (Value.string o); refine (HVo.out _ _ _ (HPS.out.below HG.out)).mono ?_; rintro e wq ⟨rfl, hb⟩; have HDD := step1 HD HE hb; have HD := HDD.1; have HE := HDD.2; have HGG := step1 HG HGE hb; have HG := HGG.1; have HGE := HGG.2; clear HDD HGG hb; have hcw := HCL.out _ HD.out) | (go_at_call_of 27 (Value.string s); refine (HVk.out _ _ _ (HPS.out.below HG.out)).mono ?_; rintro e wq ⟨rfl, hb⟩; have HDD := step1 HD HE hb; have HD := HDD.1; have HE := HDD.2; have HGG := step1 HG HGE hb; have HG := HGG.1; have HGE := HGG.2; clear HDD HGG hb; have hcw := HCL.out _ HD.out))
              go_ret
              exact ⟨rfl, HWW.out _ HD.out⟩

end Go.Proofs.Ytpkhnfmeackccaa
