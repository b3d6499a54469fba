/- The law DigestTrees, walked. Conditions: strings of lengths that Go permits. -/
import Derived.BigRegion
import Derived.Deep.RegionLaw
import Derived.Deep.CutRange
import Derived.Test.YtkkbjkjmhjgaiaaAJ
namespace Go.Proofs.Ytkkbjkjmhjgaiaa
open Go.RowKit

attribute [local go_sem ↓] appX_rw

set_option maxRecDepth 10000 in
set_option maxHeartbeats 12000000 in
theorem trees_any {w : World} {v rv : Value} {l rl : List ByteArray} (hX : Sx w v l) (hR : Sx w rv rl) (hrl : ∀ s ∈ rl, s.size ≤ 9223372036854775807) (hnil : ∀ len cap, rv = .slice none len cap → len = 0 ∧ cap = 0) (i : Int) (hi : -9223372036854775808 ≤ i ∧ i ≤ 9223372036854775807) (a c : UInt8) (tail s : ByteArray) (htl : tail.size ≤ 9223372036854775807) (hs : s.size ≤ 9223372036854775807) :
    Calls Try.prog 4 #[v, .int .i64 i, .agg #[.int .u8 a.toNat, .int .u8 c.toNat, .string tail], rv, .string s] w fun e w' => e = .returned (.bool true) ∧ Below w.heap.size w w' := by
  obtain ⟨rao, rcap, rfl⟩ := hR.mk'
  have hnil2 : rao = none → rl.length = 0 ∧ rcap = 0 := fun e => hnil _ _ (by rw [e])
  clear hnil
  have HSA := Lib.hid (fun W => sanity_any W)
  obtain ⟨L, hL⟩ : ∃ L, L = cutL l := ⟨_, rfl⟩
  have hL20 : L.length ≤ 20 := by rw [hL, cutL_len]; omega
  have hL30 : ∀ s ∈ L, s.size ≤ 30 := by rw [hL]; exact cutL_size l
  have HL : Hid (∀ W, Below w.heap.size w W → Calls Try.prog 21 #[v] W fun e w' => ∃ ao cap, e = .returned (.slice ao L.length cap) ∧ Sx w' (.slice ao L.length cap) L ∧ Below W.heap.size W w') := fun W hW => by rw [hL]; exact list_S hX hW
  clear hL hX
  obtain ⟨S, hS⟩ : ∃ S, S = cutS s 60 := ⟨_, rfl⟩
  have s60 : S.size ≤ 60 := by rw [hS]; exact cut60 s
  have HSS : Hid (∀ W, Calls Try.prog 11 #[.string s] W fun e w' => e = .returned (.string S) ∧ Below W.heap.size W w') := fun W => by rw [hS]; exact short_S s W hs
  clear hS hs
  obtain ⟨m, hm, hnm, hm5⟩ := lev_small (n := L.length) (by omega)
  have HR1 : Hid (∀ W v, Sx W v L → Calls Try.prog 23 #[v] W fun e w' => e = .returned (.string (rootS L m)) ∧ Below W.heap.size W w') := fun W v h => root_any h (by omega) (fun k => Nat.le_trans (getD_le hL30 k) (by omega)) m hm
  have HR2 : Hid (∀ W v, Sx W v L → Calls Try.prog 22 #[v] W fun e w' => e = .returned (.string (rootS L m)) ∧ Below W.heap.size W w') := fun W v h => rRoot_any h (by omega) (fun k => Nat.le_trans (getD_le hL30 k) (by omega)) hm (by omega)
  have hr60 : (rootS L m).size ≤ 60 := by
    rw [rootS, sA_size, rootD_lvl]
    have h1 := lvl_len m m (leavesD (L.map by')) (by rw [leavesD_len, List.length_map, hm]) (Nat.le_refl _)
    have h2 := all8_lvl m (leavesD (L.map by')) (all8_leaves _)
    rw [Nat.sub_self, Nat.pow_zero] at h1
    generalize lvl m (leavesD (L.map by')) = X at h1 h2
    match X, h1 with
    | [x], _ => have := h2 x (List.mem_singleton.2 rfl); simp; omega
  obtain ⟨rt, hrt⟩ : ∃ rt, rt = rootS L m := ⟨_, rfl⟩
  rw [← hrt] at HR1 HR2 hr60
  clear hrt hm hnm hm5
  have hA0 := a.toNat_lt
  have hC0 := c.toNat_lt
  obtain ⟨A, hA⟩ : ∃ A : Nat, A = a.toNat := ⟨_, rfl⟩
  obtain ⟨C, hC⟩ : ∃ C : Nat, C = c.toNat := ⟨_, rfl⟩
  have HC0 : Hid (∀ x W, x.size ≤ 4294967296 → Calls Try.prog 12 #[.agg #[.int .u8 A, .int .u8 C, .string tail], .string x] W fun e w' => e = .returned (.string (bent a c tail x)) ∧ Below W.heap.size W w') := fun x W h => by rw [hA, hC]; exact changeOf_any a c tail x h htl W
  have hbs : ∀ x, (bent a c tail x).size ≤ x.size + 4 := fun x => bent_size a c tail x
  obtain ⟨bF, hbF⟩ : ∃ bF : ByteArray → ByteArray, bF = bent a c tail := ⟨_, rfl⟩
  rw [← hbF] at HC0 hbs
  rw [← hA, ← hC]
  rw [← hA] at hA0
  rw [← hC] at hC0
  obtain ⟨n, hn⟩ : ∃ n, n = L.length := ⟨_, rfl⟩
  rw [← hn] at HL hL20
  obtain ⟨rn, hrn⟩ : ∃ rn, rn = rl.length := ⟨_, rfl⟩
  have hrm := hR.len
  unfold maxLen at hrm
  rw [← hrn] at hrm ⊢
  have HN := Lib.hid hn
  have HRN := Lib.hid hrn
  have HRX := Lib.hid hR
  have hq1 : (rt.toList == rt.toList) = true := beq_self_eq_true _
  have HB : Hid (Below (w.heap.size + 1) (w.alloc (.cells #[.int .u8 A, .int .u8 C, .string tail] 23)) (w.alloc (.cells #[.int .u8 A, .int .u8 C, .string tail] 23))) := Below.refl _ _
  have HZ : Hid (w.heap.size + 1 ≤ (w.alloc (.cells #[.int .u8 A, .int .u8 C, .string tail] 23)).heap.size) := Lib.hid (by simp)
  have HW : Hid (Below w.heap.size w (w.alloc (.cells #[.int .u8 A, .int .u8 C, .string tail] 23))) := Lib.hid (by go_grown)
  have HKP : Hid (∀ w', Below (w.heap.size + 1) (w.alloc (.cells #[.int .u8 A, .int .u8 C, .string tail] 23)) w' → w'.cell? ⟨w.heap.size, 0, none⟩ = some (.int .u8 A) ∧ w'.cell? ⟨w.heap.size, 1, none⟩ = some (.int .u8 C) ∧ w'.cell? ⟨w.heap.size, 2, none⟩ = some (.string tail)) := fun w' hb' => by
    have q1 := heap_alloc_new w (.cells #[.int .u8 A, .int .u8 C, .string tail] 23)
    have r1 := (hb'.block _ (by omega)).trans q1
    refine ⟨?_, ?_, ?_⟩
    · rw [cell_of_row _ _ _ _ _ _ r1]; rfl
    · rw [cell_of_row _ _ _ _ _ _ r1]; rfl
    · rw [cell_of_row _ _ _ _ _ _ r1]; rfl
  have hrc : rn ≤ rcap := by
    rcases hR.is with ⟨e, _⟩ | ⟨_, _, cap4, hv4, hc4, _⟩
    · rw [hrn, e]; exact Nat.zero_le _
    · injection hv4 with _ _ e4; omega
  clear hA hC hbF hn hrn hR
  go_enter Try.func4, Try.ntmps4
  go_wp2_with (first | (go_at_call 10; refine (HSA.out _).mono ?_; rintro e w0 ⟨rfl, hb⟩; have HBB := step1 HB HZ hb; have HB := HBB.1; have HZ := HBB.2; clear HBB hb) | (go_at_call 21; refine (HL.out _ (HW.out.trans (HB.out.mono (by omega)))).mono ?_; rintro e w1 ⟨ao, cap, rfl, hsx, hb⟩; have HBB := step1 HB HZ hb; have HB := HBB.1; have HZ := HBB.2; have HSX := Lib.hid hsx; clear HBB hb hsx) | (go_at_call 11; refine (HSS.out _).mono ?_; rintro e w2 ⟨rfl, hb⟩; have HBB := step1 HB HZ hb; have HB := HBB.1; have HZ := HBB.2; have HSX := Lib.hid (HSX.out.below hb); clear HBB hb) | (go_at_call 22; refine (HR2.out _ _ HSX.out).mono ?_; rintro e w3 ⟨rfl, hb⟩; have HBB := step1 HB HZ hb; have HB := HBB.1; have HZ := HBB.2; have HSX := Lib.hid (HSX.out.below hb); clear HBB hb) | (go_at_call 23; refine (HR1.out _ _ HSX.out).mono ?_; rintro e w4 ⟨rfl, hb⟩; have HBB := step1 HB HZ hb; have HB := HBB.1; have HZ := HBB.2; have HSX := Lib.hid (HSX.out.below hb); obtain ⟨k0, k1, k2⟩ := HKP.out _ HB.out; clear HBB hb))
  obtain ⟨r, hr⟩ : ∃ r, r = (min (rn : Int) 22).toNat := ⟨_, rfl⟩
  rw [← hr]
  have hr22 : r ≤ 22 ∧ r ≤ rn := by omega
  obtain ⟨RL, hRL⟩ : ∃ RL, RL = rl.take r := ⟨_, rfl⟩
  have hRr : RL.length = r := by rw [hRL, List.length_take, ← HRN.out]; omega
  have hRz : ∀ k, (RL.getD k ⟨#[]⟩).size ≤ 9223372036854775807 := getD_le (fun s hs => hrl s (by rw [hRL] at hs; exact List.mem_of_mem_take hs))
  have SR0 : Sx w (.slice rao r rcap) RL := by
    rw [hRL]
    by_cases h0 : r = 0
    · rw [h0, List.take_zero]; exact Sx.nil _ _ _
    · obtain ⟨b, off, cap', hv, _, _⟩ := HRX.out.at (fun e => by have := HRN.out; rw [e, List.length_nil] at this; omega)
      injection hv with hv1 hv2 hv3
      subst hv1
      have := HRX.out.sub rfl 0 r (by omega) (by have := HRN.out; omega) rcap (by omega)
      rwa [Nat.add_zero, List.drop_zero] at this
  obtain ⟨W5, hW5⟩ : ∃ W5, W5 = w4.alloc (.cells #[.int .i64 i, .int .i64 0, .int .i64 ((n : Int) - 1), .int .i64 n, .int .i64 ((A : Int) % ((n : Int) + 1))] 3) := ⟨_, rfl⟩
  obtain ⟨g, hg⟩ : ∃ g, g = w4.heap.size := ⟨_, rfl⟩
  rw [← hW5, ← hg]
  have hb5 : Below w4.heap.size w4 W5 := by rw [hW5]; exact (Below.refl _ _).alloc (Nat.le_refl _) _
  have row : W5.heap[g]? = some (.cells #[.int .i64 i, .int .i64 0, .int .i64 ((n : Int) - 1), .int .i64 n, .int .i64 ((A : Int) % ((n : Int) + 1))] 3 (0, 0)) := by rw [hW5, hg]; exact heap_alloc_new _ _
  have HB5 := step1 HB HZ hb5
  have HSY := Lib.hid (HSX.out.below hb5)
  have HKK : Hid (∀ j, j < 5 → ∃ kk : Int, ∀ W, Below W5.heap.size W5 W → W.cell? ⟨g, j, none⟩ = some (.int .i64 kk)) := fun j hj => by
    have hrr : ∀ W, Below W5.heap.size W5 W → W.heap[g]? = _ := fun W h => (h.block g (Array.getElem?_eq_some_iff.1 row).1).trans row
    have hj4 : j = 0 ∨ j = 1 ∨ j = 2 ∨ j = 3 ∨ j = 4 := by omega
    rcases hj4 with rfl | rfl | rfl | rfl | rfl
    · exact ⟨_, fun W h => by rw [cell_of_row _ _ _ _ _ _ (hrr W h)]; rfl⟩
    · exact ⟨_, fun W h => by rw [cell_of_row _ _ _ _ _ _ (hrr W h)]; rfl⟩
    · exact ⟨_, fun W h => by rw [cell_of_row _ _ _ _ _ _ (hrr W h)]; rfl⟩
    · exact ⟨_, fun W h => by rw [cell_of_row _ _ _ _ _ _ (hrr W h)]; rfl⟩
    · exact ⟨_, fun W h => by rw [cell_of_row _ _ _ _ _ _ (hrr W h)]; rfl⟩
  have HKW : Hid (∀ w', Below W5.heap.size W5 w' → w'.cell? ⟨w.heap.size, 0, none⟩ = some (.int .u8 A) ∧ w'.cell? ⟨w.heap.size, 1, none⟩ = some (.int .u8 C) ∧ w'.cell? ⟨w.heap.size, 2, none⟩ = some (.string tail)) := fun w' h => HKP.out _ (HB5.1.out.trans (h.mono HB5.2.out))
  have HWW : Hid (∀ w', Below W5.heap.size W5 w' → Below w.heap.size w w') := fun w' h => HW.out.trans ((HB5.1.out.trans (h.mono HB5.2.out)).mono (by omega))
  have HRW : Hid (∀ w', Below W5.heap.size W5 w' → Sx w' (.slice rao r rcap) RL) := fun w' h => SR0.below (HWW.out w' h)
  have HI0 : Hid (Below W5.heap.size W5 W5) := Lib.hid (Below.refl _ _)
  have HL30 := Lib.hid hL30
  have HNIL : Hid (rao = none → r = 0 ∧ rcap = 0) := Lib.hid (fun e => by
    have h1 := hnil2 e
    have h2 := HRN.out
    exact ⟨by omega, h1.2⟩)
  have HRr := Lib.hid hRr
  have HRz := Lib.hid hRz
  have HVF : Hid (∀ (leaf : ByteArray), leaf.size ≤ 60 → ∀ (w0 : World) (pv : Value) (ps : List ByteArray), Sx w0 pv ps → (∀ k, (ps.getD k ⟨#[]⟩).size ≤ 9223372036854775807) → ∀ (z : Int) (root : ByteArray), root.size ≤ 60 → ∃ bl : Bool, ∀ W, Below w0.heap.size w0 W →
      (Calls Try.prog 27 #[.string root, .string leaf, .int .i64 z, pv] W fun e w' => e = .returned (.bool bl) ∧ Below W.heap.size W w') ∧
      (Calls Try.prog 28 #[.string root, .string leaf, .int .i64 z, pv] W fun e w' => e = .returned (.bool bl) ∧ Below W.heap.size W w')) := Lib.hid (fun leaf hl w0 pv ps hX hsz z root hr => verify_all hX root leaf z (by omega) (by omega) hsz)
  clear hnil2 hRr hRz
  clear hr hRL SR0 hW5 hg hb5 row HB5 HSX HB HZ HKP HW HSA HSS HL HR1 HR2 HRX HRN k0 k1 k2 hrl hL30 hi hrm hrc
  go_loopw [56] (fun jv wr => ∃ j : Nat, j ≤ 5 ∧ jv = .int .i64 (j : Nat) ∧ Hid (Below W5.heap.size W5 wr)) (fun jv _ => 5 - (intOf jv).toNat)
  case atStart => exact ⟨0, by omega, rfl, HI0⟩
  case round =>
    obtain ⟨j, hj, rfl, hJ⟩ := hrel
    by_cases hj5 : j = 5
    · subst hj5
      go_wp2
      go_ret
      exact ⟨rfl, HWW.out _ hJ.out⟩
    · have hj4 : j < 5 := by omega
      obtain ⟨kk, hkc⟩ := HKK.out j hj4
      have ck := hkc _ hJ.out
      obtain ⟨P, pn, bb, hPl, hp5, hP8, hbk, hPR⟩ := prove_both (HSY.out.below hJ.out) (by rw [← HN.out]; exact hL20) HL30.out kk
      have HPR := Lib.hid hPR
      have HD : Hid (Below wr.heap.size wr wr) := Lib.hid (Below.refl _ _)
      have HE : Hid (wr.heap.size ≤ wr.heap.size) := Lib.hid (Nat.le_refl _)
      clear hPR hkc HI0
      have HJW : Hid (∀ W, Below wr.heap.size wr W → Below W5.heap.size W5 W) := Lib.hid (fun W h => hJ.out.trans (h.mono hJ.out.size))
      have HP8 := Lib.hid hP8
      clear hP8
      cases bb
      case' true =>
        obtain ⟨h0, h1⟩ := hbk rfl
        obtain ⟨ix, rfl⟩ : ∃ ix : Nat, kk = (ix : Nat) := ⟨kk.toNat, by omega⟩
        have hix : ix < n := by rw [HN.out]; omega
        obtain ⟨b, off, cap', hv, hlt, hcl⟩ := HSY.out.at (fun e => by have := HN.out; rw [e, List.length_nil] at this; omega)
        injection hv with hv1 hv2 hv3
        subst hv1 hv3
        obtain ⟨lf, hlf⟩ : ∃ lf, lf = L.getD ix ⟨#[]⟩ := ⟨_, rfl⟩
        have hl30 : lf.size ≤ 30 := by rw [hlf]; exact getD_le HL30.out ix
        have HLC : Hid (∀ W, Below W5.heap.size W5 W → W.cell? ⟨b, off + ix, none⟩ = some (.string lf)) := Lib.hid (fun W h => by rw [hlf]; exact cell_later h (hcl ix (by rw [← HN.out]; exact hix)))
        have HV := Lib.hid (HVF.out lf (by omega))
        clear hlf hv2 hlt hcl h0 h1 hbk hl30
        go_wp2_with (first | (go_at_call 24; refine (HPR.out _ HD.out).1.mono ?_; rintro e w6 ⟨ao6, cap6, rfl, hown, hb⟩; have HP1 := Lib.hid hown; have HDD := step1 HD HE hb; have HD := HDD.1; have HE := HDD.2; clear HDD hb hown) | (go_at_call 25; refine (HPR.out _ HD.out).2.mono ?_; rintro e w7 ⟨ao7, cap7, rfl, hown, hb⟩; have HP2 := Lib.hid hown; have HP1 := Lib.hid (owns_later HP1.out hb); have HDD := step1 HD HE hb; have HD := HDD.1; have HE := HDD.2; have hsm := same_any (Sx.of_sv HP1.out).1 (Sx.of_sv HP2.out).1; rw [decide_eq_true rfl] at hsm; have HSM := Lib.hid hsm; clear HDD hb hown hsm) | (go_at_call 26; refine HSM.out.mono ?_; rintro e w8 ⟨rfl, hb⟩; have HP2 := Lib.hid (owns_later HP2.out hb); have HDD := step1 HD HE hb; have HD := HDD.1; have HE := HDD.2; clear HDD hb; have hlc := HLC.out _ (HJW.out _ HD.out)))
        generalize (ix : Int) = kk
        clear ck HLC hix
      case' false =>
        have HV := Lib.hid (HVF.out S s60)
        clear hbk
        go_wp2_with (first | (go_at_call 24; refine (HPR.out _ HD.out).1.mono ?_; rintro e w6 ⟨ao6, cap6, rfl, hown, hb⟩; have HP1 := Lib.hid hown; have HDD := step1 HD HE hb; have HD := HDD.1; have HE := HDD.2; clear HDD hb hown) | (go_at_call 25; refine (HPR.out _ HD.out).2.mono ?_; rintro e w7 ⟨ao7, cap7, rfl, hown, hb⟩; have HP2 := Lib.hid hown; have HP1 := Lib.hid (owns_later HP1.out hb); have HDD := step1 HD HE hb; have HD := HDD.1; have HE := HDD.2; have hsm := same_any (Sx.of_sv HP1.out).1 (Sx.of_sv HP2.out).1; rw [decide_eq_true rfl] at hsm; have HSM := Lib.hid hsm; clear HDD hb hown hsm) | (go_at_call 26; refine HSM.out.mono ?_; rintro e w8 ⟨rfl, hb⟩; have HP2 := Lib.hid (owns_later HP2.out hb); have HDD := step1 HD HE hb; have HD := HDD.1; have HE := HDD.2; clear HDD hb))
        clear ck
      all_goals
        obtain ⟨ao8, n8, cap8, w8b, hrun8, hown8, hb⟩ := copy_own HP2.out (by omega)
        have hn8 : pn = n8 := (owns_len hown8).symm
        subst hn8
        have HO8 := Lib.hid hown8
        have HC := Lib.hid hb
        have HP20 := HP2
        have HP2 := Lib.hid (owns_later HP2.out hb)
        have HB8 := Lib.hid hb.size
        have HDC := HD
        have HEC := HE
        have HDD := step1 HD HE hb
        have HD := HDD.1
        have HE := HDD.2
        clear HDD hb hown8 HSM HPR HP1
        rw [hrun8]
        simp only [Result.andThen]
        rw [Oper.upon_value]
        clear hrun8
        by_cases hp : 0 < pn
        case' pos =>
          obtain ⟨jx, hjx⟩ : ∃ jx, jx = C % pn := ⟨_, rfl⟩
          have hjn : jx < pn := by rw [hjx]; exact Nat.mod_lt _ hp
          have hmod : ((C : Int) % (pn : Int)) = (jx : Nat) := by rw [hjx]; simp
          have g0 : ¬ pn = 0 := by omega
          have g5 : (pn == 0) = false := by simp; omega
          have g6 : pn ≠ 0 := g0
          have g1 : ((pn : Int) == 0) = false := by simp; omega
          have g2 : ((pn : Int) != 0) = true := by simp; omega
          have g3 : (0 : Int) ≤ (jx : Int) ∧ (jx : Int) < (pn : Int) := by omega
          obtain ⟨g3, g4⟩ := g3
          have hwC : IntKind.i64.wrap (C : Int) = (C : Int) := by rw [IntKind.wrap_i64]; omega
          have htm : (C : Int).tmod (pn : Int) = (jx : Nat) := by rw [Int.tmod_eq_emod_of_nonneg (by omega)]; exact hmod
          have hwj : IntKind.i64.wrap (jx : Int) = (jx : Int) := by rw [IntKind.wrap_i64]; omega
          obtain ⟨y, hy⟩ : ∃ y, y = P.getD jx ⟨#[]⟩ := ⟨_, rfl⟩
          have hy8 : y.size ≤ 8 := by rw [hy]; exact getD_le (fun s hs => Nat.le_of_eq (HP8.out s hs)) jx
          obtain ⟨z, hz⟩ : ∃ z, z = bF y := ⟨_, rfl⟩
          have hz12 : z.size ≤ 12 := by rw [hz]; have := hbs y; omega
          have HCK : Hid (∀ W, Calls Try.prog 12 #[.agg #[.int .u8 A, .int .u8 C, .string tail], .string y] W fun e w' => e = .returned (.string z) ∧ Below W.heap.size W w') := Lib.hid (fun W => by rw [hz]; exact HC0.out y W (by omega))
          obtain ⟨gb, hgao, hgB, hglt, hgf, hgc, _⟩ := own_set HO8.out jx hjn ⟨#[]⟩
          subst hgao
          rw [← hy] at hgc
          have HSE : Hid (∀ W, Below w8b.heap.size w8b W → W.frozen? ⟨gb, jx, none⟩ = false ∧ W.cell? ⟨gb, jx, none⟩ = some (.string y) ∧ gb < W.heap.size ∧ (W.setCell ⟨gb, jx, none⟩ (.string z)).ownsRow w8.heap.size 9 1 (.slice (some ⟨gb, 0, none⟩) pn cap8) pn (sv (P.set jx z))) := Lib.hid (fun W h => by
            obtain ⟨g2, e2, h1, h2, h3, h4, h5⟩ := own_set (owns_later HO8.out h) jx hjn z
            injection e2 with e2
            injection e2 with e2
            subst e2
            rw [← hy] at h4
            exact ⟨h3, h4, h2, h5⟩)
          have HBL : Hid (∀ s ∈ P.set jx z, s.size ≤ 1000) := Lib.hid (fun s hs => by
            rcases List.mem_or_eq_of_mem_set hs with h | h
            · have := HP8.out s h; omega
            · rw [h]; omega)
          have HD0 := HD
          have HE0 := HE
          have HD : Hid (Below w8b.heap.size w8b w8b) := Lib.hid (Below.refl _ _)
          have HE : Hid (w8b.heap.size ≤ w8b.heap.size) := Lib.hid (Nat.le_refl _)
          have HK5 : Hid (∀ W, Below w8.heap.size w8 W → W.cell? ⟨w.heap.size, 0, none⟩ = some (.int .u8 A) ∧ W.cell? ⟨w.heap.size, 1, none⟩ = some (.int .u8 C) ∧ W.cell? ⟨w.heap.size, 2, none⟩ = some (.string tail)) := Lib.hid (fun W h => HKW.out W (HJW.out _ (HDC.out.trans (h.mono HEC.out))))
          have HF := HC
          have HG := HB8
          clear hjx hy hz hy8 hgf hgc hglt
          obtain ⟨k0, k1, k2⟩ := HK5.out _ HF.out
          have k3 := (HSE.out _ HD.out).2.1
          have hgb := (HSE.out _ HD.out).2.2.1
          have hfz := (HSE.out _ HD.out).1
          go_wp2_with fail
          go_cut [56] from 56 to 162 (fun s56 wx => s56 = .int .i64 j ∧ Hid (Below w8.heap.size w8 wx ∧ wx.ownsRow w8.heap.size 9 1 (.slice (some ⟨gb, 0, none⟩) pn cap8) pn (sv (P.set jx z))))
          case first =>
            go_region_law (first | (go_simp; go_at_call 12; refine (HCK.out _).mono ?_; rintro e wb ⟨rfl, hb⟩; (first | (have HDD := step1 HD HE hb) | (have HDD := step2 HD HE hb) | (have HDD := stepD HD HE hb)); (first | (have HFF := step1 HF HG hb) | (have HFF := step2 HF HG hb) | (have HFF := stepD HF HG hb)); have HD := HDD.1; have HE := HDD.2; have HF := HFF.1; have HG := HFF.2; have hgb := (HSE.out _ HD.out).2.2.1; have hfz := (HSE.out _ HD.out).1; have k3 := (HSE.out _ HD.out).2.1; obtain ⟨k0, k1, k2⟩ := HK5.out _ HF.out; clear HDD HFF hb))
            all_goals (go_wp2_with fail; go_meet; exact ⟨rfl, Lib.hid ⟨HF.out.trans (by have hgg := HG.out; go_grown), (HSE.out _ HD.out).2.2.2⟩⟩)
          case' rest =>
            obtain ⟨hc56, hcc⟩ := hcut
            subst hc56
            have HP2 := Lib.hid (owns_later HP20.out hcc.out.1)
            have HBE : Hid (∃ B BL, wc.ownsRow B 9 1 (.slice (some ⟨gb, 0, none⟩) pn cap8) pn (sv BL) ∧ ∀ s ∈ BL, s.size ≤ 1000) := Lib.hid ⟨_, _, hcc.out.2, HBL.out⟩
            have HD := Lib.hid (HDC.out.trans (hcc.out.1.mono HEC.out))
            have HE := Lib.hid HD.out.size
            clear hcc HF HG k0 k1 k2 k3 hgb hfz HBL HSE HCK hwC htm hwj hmod hjn hz12 g0 g1 g2 g3 g4 g5 g6 HK5
            obtain ⟨ao8, hao⟩ : ∃ ao8 : Option Addr, ao8 = some ⟨gb, 0, none⟩ := ⟨_, rfl⟩
            rw [← hao] at HBE ⊢
            clear hao HO8
        case' neg =>
          have HBE : Hid (∃ B BL, w8b.ownsRow B 9 1 (.slice ao8 pn cap8) pn (sv BL) ∧ ∀ s ∈ BL, s.size ≤ 1000) := Lib.hid ⟨_, _, HO8.out, fun s hs => by have := HP8.out s hs; omega⟩
          clear HO8
        all_goals
          obtain ⟨ao9, n9, cap9, w9, hrun9, hown9, hb9⟩ := copy_own HP2.out (by omega)
          obtain ⟨ao10, n10, cap10, w10, hrun10, hown10, hb10⟩ := join_own hown9 (HRW.out w9 (HJW.out _ (HD.out.trans (hb9.mono HE.out)))) HNIL.out (by omega) hb9.size
          have hn9 : pn = n9 := (owns_len hown9).symm
          subst hn9
          have hn10 : pn + r = n10 := (owns_len hown10).symm
          subst hn10
          have hbb := hb9.trans hb10
          have HPX := Lib.hid (Sx.of_sv (owns_later HP2.out hbb)).1
          have HBX : Hid (∃ BL, Sx w10 (.slice ao8 pn cap8) BL ∧ ∀ s ∈ BL, s.size ≤ 1000) := Lib.hid (by
            obtain ⟨B, BL, q1, q2⟩ := HBE.out
            exact ⟨BL, (Sx.of_sv (owns_later q1 hbb)).1, q2⟩)
          have HQX := Lib.hid (Sx.of_sv hown10).1
          have HDD := step1 HD HE hbb
          have HD := HDD.1
          have HE := HDD.2
          clear HDD hbb hb9 hb10 hown9 hown10 HP2 HBE HDC HEC HP20 HB8 HC
          go_wp2_with fail
          clear hrun9 hrun10 hp
          obtain ⟨G, hG⟩ : ∃ G, G = w10.heap.size := ⟨_, rfl⟩
          obtain ⟨W6, hW6⟩ : ∃ W6, W6 = w10.alloc (.cells #[.slice ao7 pn cap7, .slice ao8 pn cap8, .slice rao r rcap, .slice ao10 (pn + r) cap10] 29) := ⟨_, rfl⟩
          rw [← hW6]
          rw [← hG]
          have hb6 : Below w10.heap.size w10 W6 := by rw [hW6]; exact (Below.refl _ _).alloc (Nat.le_refl _) _
          have HD6 := step1 HD HE hb6
          have row : W6.heap[G]? = some (.cells #[.slice ao7 pn cap7, .slice ao8 pn cap8, .slice rao r rcap, .slice ao10 (pn + r) cap10] 29 (0, 0)) := by rw [hW6, hG]; exact heap_alloc_new _ _
          have HZ6 : Hid (∀ j2, j2 < 4 → ∃ (ax : Option Addr) (nx cx : Nat) (X : List ByteArray), (∀ W, Below W6.heap.size W6 W → W.cell? ⟨G, j2, none⟩ = some (.slice ax nx cx)) ∧ Sx W6 (.slice ax nx cx) X ∧ ∀ k, (X.getD k ⟨#[]⟩).size ≤ 9223372036854775807) := Lib.hid (fun j2 hj2 => by
            have hr : ∀ W, Below W6.heap.size W6 W → W.heap[G]? = _ := fun W h => (h.block G (Array.getElem?_eq_some_iff.1 row).1).trans row
            obtain ⟨BL, hB1, hB2⟩ := HBX.out
            have hj4 : j2 = 0 ∨ j2 = 1 ∨ j2 = 2 ∨ j2 = 3 := by omega
            rcases hj4 with rfl | rfl | rfl | rfl
            · exact ⟨ao7, pn, cap7, P, fun W h => by rw [cell_of_row _ _ _ _ _ _ (hr W h)]; rfl, HPX.out.below hb6, getD_le (fun s hs => by have := HP8.out s hs; omega)⟩
            · exact ⟨ao8, pn, cap8, BL, fun W h => by rw [cell_of_row _ _ _ _ _ _ (hr W h)]; rfl, hB1.below hb6, getD_le (fun s hs => by have := hB2 s hs; omega)⟩
            · exact ⟨rao, r, rcap, RL, fun W h => by rw [cell_of_row _ _ _ _ _ _ (hr W h)]; rfl, HRW.out _ (HJW.out _ HD6.1.out), HRz.out⟩
            · exact ⟨ao10, pn + r, cap10, P ++ RL, fun W h => by rw [cell_of_row _ _ _ _ _ _ (hr W h)]; rfl, HQX.out.below hb6, fun k => by
                rcases Nat.lt_or_ge k P.length with h | h
                · rw [List.getD_eq_getElem?_getD, List.getElem?_append_left h, ← List.getD_eq_getElem?_getD]
                  exact Nat.le_trans (getD_le (fun s hs => Nat.le_of_eq (HP8.out s hs)) k) (by omega)
                · rw [List.getD_eq_getElem?_getD, List.getElem?_append_right h, ← List.getD_eq_getElem?_getD]
                  exact HRz.out _⟩)
          have HV6 : Hid (∀ W, Below W6.heap.size W6 W → Below W5.heap.size W5 W) := Lib.hid (fun W h => HJW.out _ (HD6.1.out.trans (h.mono HD6.2.out)))
          have HI6 : Hid (Below W6.heap.size W6 W6) := Lib.hid (Below.refl _ _)
          clear hG hW6 hb6 HD6 row HD HE HPX HBX HQX HJW HP8 HVF HNIL HRr HRz
          go_loopw [122] (fun jv wr2 => ∃ j2 : Nat, j2 ≤ 4 ∧ jv = .int .i64 (j2 : Nat) ∧ Hid (Below W6.heap.size W6 wr2)) (fun jv _ => 4 - (intOf jv).toNat)
          case atStart => exact ⟨0, by omega, rfl, HI6⟩
          case round =>
            obtain ⟨j2, hj2, rfl, hJ2⟩ := hrel
            by_cases hj24 : j2 = 4
            · subst hj24
              go_wp2
              go_roundw
              case rel => exact ⟨j + 1, by omega, by go_num, Lib.hid (HV6.out _ hJ2.out)⟩
              case measure => simp [intOf]; omega
            · have hj23 : j2 < 4 := by omega
              obtain ⟨ax, nx, cx, X, hxc, hX6, hXz⟩ := HZ6.out j2 hj23
              have cx2 := hxc _ hJ2.out
              have HXX := Lib.hid (hX6.below hJ2.out)
              have HXZ := Lib.hid hXz
              clear hxc hX6 hXz HI6
              go_wp2_with fail
              generalize bits .xor .i64 kk 1 = kx
              obtain ⟨G7, hG7⟩ : ∃ G7, G7 = wr.heap.size := ⟨_, rfl⟩
              obtain ⟨W7, hW7⟩ : ∃ W7, W7 = wr.alloc (.cells #[.int .i64 kk, .int .i64 i, .int .i64 kx] 3) := ⟨_, rfl⟩
              rw [← hW7]
              rw [← hG7]
              have hb7 : Below wr.heap.size wr W7 := by rw [hW7]; exact (Below.refl _ _).alloc (Nat.le_refl _) _
              have row7 : W7.heap[G7]? = some (.cells #[.int .i64 kk, .int .i64 i, .int .i64 kx] 3 (0, 0)) := by rw [hW7, hG7]; exact heap_alloc_new _ _
              have HZ7 : Hid (∀ j3, j3 < 3 → ∃ z : Int, ∀ W, Below W7.heap.size W7 W → W.cell? ⟨G7, j3, none⟩ = some (.int .i64 z)) := Lib.hid (fun j3 hj3 => by
                have hr : ∀ W, Below W7.heap.size W7 W → W.heap[G7]? = _ := fun W h => (h.block G7 (Array.getElem?_eq_some_iff.1 row7).1).trans row7
                have hj4 : j3 = 0 ∨ j3 = 1 ∨ j3 = 2 := by omega
                rcases hj4 with rfl | rfl | rfl
                · exact ⟨kk, fun W h => by rw [cell_of_row _ _ _ _ _ _ (hr W h)]; rfl⟩
                · exact ⟨i, fun W h => by rw [cell_of_row _ _ _ _ _ _ (hr W h)]; rfl⟩
                · exact ⟨kx, fun W h => by rw [cell_of_row _ _ _ _ _ _ (hr W h)]; rfl⟩)
              have HX7 := Lib.hid (HXX.out.below hb7)
              have HV7 : Hid (∀ W, Below W7.heap.size W7 W → Below W6.heap.size W6 W) := Lib.hid (fun W h => hJ2.out.trans ((hb7.trans (h.mono hb7.size)).mono hJ2.out.size))
              have HI7 : Hid (Below W7.heap.size W7 W7) := Lib.hid (Below.refl _ _)
              clear hG7 hW7 hb7 row7 hJ2 HXX cx2
              go_wp2_with fail
              have hdc : decide ((j2 : Int) < 4) = true := by simp; omega
              rw [hdc]
              clear hdc
              go_loopw [132] (fun jv wr3 => ∃ j3 : Nat, j3 ≤ 3 ∧ jv = .int .i64 (j3 : Nat) ∧ Hid (Below W7.heap.size W7 wr3)) (fun jv _ => 3 - (intOf jv).toNat)
              case atStart => exact ⟨0, by omega, rfl, HI7⟩
              case round =>
                obtain ⟨j3, hj3, rfl, hJ3⟩ := hrel
                by_cases hj33 : j3 = 3
                · subst hj33
                  go_wp2
                  go_roundw
                  case rel => exact ⟨j2 + 1, by omega, by go_num, Lib.hid (HV7.out _ hJ3.out)⟩
                  case measure => simp [intOf]; omega
                · have hj32 : j3 < 3 := by omega
                  obtain ⟨z, hzc⟩ := HZ7.out j3 hj32
                  have cz := hzc _ hJ3.out
                  obtain ⟨b1, hv1⟩ := HV.out _ _ _ HX7.out HXZ.out z rt hr60
                  obtain ⟨b2, hv2⟩ := HV.out _ _ _ HX7.out HXZ.out z S s60
                  have HB1 := Lib.hid hv1
                  have HB2 := Lib.hid hv2
                  have HD := hJ3
                  have HE := Lib.hid hJ3.out.size
                  clear hzc hv1 hv2
                  go_wp2_with (first | (go_at_call_of 27 (Value.string rt); refine (HB1.out _ HD.out).1.mono ?_; rintro e wa ⟨rfl, hb⟩; have HDD := step1 HD HE hb; have HD := HDD.1; have HE := HDD.2; clear HDD hb) | (go_at_call_of 28 (Value.string rt); refine (HB1.out _ HD.out).2.mono ?_; rintro e wa ⟨rfl, hb⟩; have HDD := step1 HD HE hb; have HD := HDD.1; have HE := HDD.2; clear HDD hb) | (go_at_call 27; refine (HB2.out _ HD.out).1.mono ?_; rintro e wa ⟨rfl, hb⟩; have HDD := step1 HD HE hb; have HD := HDD.1; have HE := HDD.2; clear HDD hb) | (go_at_call 28; refine (HB2.out _ HD.out).2.mono ?_; rintro e wa ⟨rfl, hb⟩; have HDD := step1 HD HE hb; have HD := HDD.1; have HE := HDD.2; clear HDD hb))
                  exact ⟨⟨j3 + 1, by omega, by go_num, HD⟩, by simp [intOf]; omega⟩

end Go.Proofs.Ytkkbjkjmhjgaiaa
