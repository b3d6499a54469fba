/- The law DigestForms, walked. Conditions: strings of lengths that Go permits. -/
import Derived.BigRegion
import Derived.Test.YtpkhnfmeackccaaEE
namespace Go.Proofs.Ytpkhnfmeackccaa
open Go.RowKit

set_option maxRecDepth 10000 in
set_option maxHeartbeats 2000000 in
theorem forms_any (s t tail : ByteArray) (a c : UInt8) (hs : s.size ≤ 9223372036854775807) (ht : t.size ≤ 9223372036854775807) (htl : tail.size ≤ 9223372036854775807) (w : World) :
    Calls Try.prog 3 #[.string s, .string t, .agg #[.int .u8 a.toNat, .int .u8 c.toNat, .string tail]] w fun e w' => e = .returned (.bool true) ∧ Below w.heap.size w w' := by
  have HSA := Lib.hid (fun W => sanity_any W)
  obtain ⟨S, hS⟩ : ∃ S, S = cutS s 60 := ⟨_, rfl⟩
  obtain ⟨T, hT⟩ : ∃ T, T = cutS t 60 := ⟨_, rfl⟩
  have s60 : S.size ≤ 60 := by rw [hS]; exact cut60 s
  have t60 : T.size ≤ 60 := by rw [hT]; exact cut60 t
  have HSS : Hid (∀ W, Calls Try.prog 11 #[.string s] W fun e w' => e = .returned (.string S) ∧ Below W.heap.size W w') := fun W => by rw [hS]; exact short_S s W hs
  have HST : Hid (∀ W, Calls Try.prog 11 #[.string t] W fun e w' => e = .returned (.string T) ∧ Below W.heap.size W w') := fun W => by rw [hT]; exact short_S t W ht
  have HC0 : Hid (∀ x W, x.size ≤ 4294967296 → Calls Try.prog 12 #[.agg #[.int .u8 a.toNat, .int .u8 c.toNat, .string tail], .string x] W fun e w' => e = .returned (.string (bent a c tail x)) ∧ Below W.heap.size W w') := fun x W h => changeOf_any a c tail x h htl W
  have hbs : ∀ x, (bent a c tail x).size ≤ x.size + 4 := fun x => bent_size a c tail x
  obtain ⟨bF, hbF⟩ : ∃ bF : ByteArray → ByteArray, bF = bent a c tail := ⟨_, rfl⟩
  rw [← hbF] at HC0 hbs
  obtain ⟨A, hA⟩ : ∃ A : Int, A = a.toNat := ⟨_, rfl⟩
  obtain ⟨C, hC⟩ : ∃ C : Int, C = c.toNat := ⟨_, rfl⟩
  rw [← hA, ← hC] at HC0 ⊢
  have HSO : Hid (∀ W, Calls Try.prog 12 #[.agg #[.int .u8 A, .int .u8 C, .string tail], .string S] W fun e w' => e = .returned (.string (bF S)) ∧ Below W.heap.size W w') := fun W => HC0.out S W (by omega)
  have ho := hbs S
  obtain ⟨O, hO⟩ : ∃ O, O = bF S := ⟨_, rfl⟩
  rw [← hO] at HSO ho
  have HB : Hid (Below (w.heap.size + 1) (w.alloc (.cells #[.int .u8 A, .int .u8 C, .string tail] 23)) (w.alloc (.cells #[.int .u8 A, .int .u8 C, .string tail] 23))) := Below.refl _ _
  have HZ : Hid (w.heap.size + 1 ≤ (w.alloc (.cells #[.int .u8 A, .int .u8 C, .string tail] 23)).heap.size) := Lib.hid (by simp)
  have HW : Hid (Below w.heap.size w (w.alloc (.cells #[.int .u8 A, .int .u8 C, .string tail] 23))) := Lib.hid (by go_grown)
  have HKP : Hid (∀ w', Below (w.heap.size + 1) (w.alloc (.cells #[.int .u8 A, .int .u8 C, .string tail] 23)) w' → w'.cell? ⟨w.heap.size, 0, none⟩ = some (.int .u8 A) ∧ w'.cell? ⟨w.heap.size, 1, none⟩ = some (.int .u8 C) ∧ w'.cell? ⟨w.heap.size, 2, none⟩ = some (.string tail)) := fun w' hb' => by
    have q1 := heap_alloc_new w (.cells #[.int .u8 A, .int .u8 C, .string tail] 23)
    have r1 := (hb'.block _ (by omega)).trans q1
    refine ⟨?_, ?_, ?_⟩
    · rw [cell_of_row _ _ _ _ _ _ r1]; rfl
    · rw [cell_of_row _ _ _ _ _ _ r1]; rfl
    · rw [cell_of_row _ _ _ _ _ _ r1]; rfl
  have hst := size_app S T
  clear hS hT hA hC hO hbF hs ht htl
  go_enter Try.func3, Try.ntmps3
  go_wp2_with (first | (go_at_call 10; refine (HSA.out _).mono ?_; rintro e w0 ⟨rfl, hb⟩; have HBB := step1 HB HZ hb; have HB := HBB.1; have HZ := HBB.2; clear HBB hb) | (go_at_call_of 11 (Value.string s); refine (HSS.out _).mono ?_; rintro e w0 ⟨rfl, hb⟩; have HBB := step1 HB HZ hb; have HB := HBB.1; have HZ := HBB.2; clear HBB hb) | (go_at_call_of 11 (Value.string t); refine (HST.out _).mono ?_; rintro e w1 ⟨rfl, hb⟩; have HBB := step1 HB HZ hb; have HB := HBB.1; have HZ := HBB.2; have hg := HKP.out _ HB.out; obtain ⟨g0, g1, g2⟩ := hg; clear HBB hb) | (go_at_call 12; refine (HSO.out _).mono ?_; rintro e w2 ⟨rfl, hb⟩; have HBB := step1 HB HZ hb; have HB := HBB.1; have HZ := HBB.2; clear HBB hb))
  obtain ⟨g, hg⟩ : ∃ g, g = w2.heap.size := ⟨_, rfl⟩
  obtain ⟨W3, hW3⟩ : ∃ W3, W3 = w2.alloc (.cells #[.string S, .string T, .string T, .string S, .string S, .string O, .string (S ++ T), .string ⟨#[]⟩] 26) := ⟨_, rfl⟩
  rw [← hg, ← hW3]
  have hb3 : Below w2.heap.size w2 W3 := by rw [hW3]; exact (Below.refl _ _).alloc (Nat.le_refl _) _
  have HB3 := step1 HB HZ hb3
  have row : W3.heap[g]? = some (.cells #[.string S, .string T, .string T, .string S, .string S, .string O, .string (S ++ T), .string ⟨#[]⟩] 26 (0, 0)) := by rw [hW3, hg]; exact heap_alloc_new _ _
  have HX : Hid (∀ j, j < 4 → ∃ X Y : ByteArray, X.size ≤ 120 ∧ Y.size ≤ 64 ∧ ∀ W, Below W3.heap.size W3 W → W.cell? ⟨g, j * 2, none⟩ = some (.string X) ∧ W.cell? ⟨g, j * 2 + 1, none⟩ = some (.string Y)) := fun j hj => by
    have hr : ∀ W, Below W3.heap.size W3 W → W.heap[g]? = some (.cells #[.string S, .string T, .string T, .string S, .string S, .string O, .string (S ++ T), .string ⟨#[]⟩] 26 (0, 0)) := fun W h => (h.block g (Array.getElem?_eq_some_iff.1 row).1).trans row
    have hj4 : j = 0 ∨ j = 1 ∨ j = 2 ∨ j = 3 := by omega
    rcases hj4 with rfl | rfl | rfl | rfl
    · exact ⟨S, T, by omega, by omega, fun W h => ⟨by rw [cell_of_row _ _ _ _ _ _ (hr W h)]; rfl, by rw [cell_of_row _ _ _ _ _ _ (hr W h)]; rfl⟩⟩
    · exact ⟨T, S, by omega, by omega, fun W h => ⟨by rw [cell_of_row _ _ _ _ _ _ (hr W h)]; rfl, by rw [cell_of_row _ _ _ _ _ _ (hr W h)]; rfl⟩⟩
    · exact ⟨S, O, by omega, by omega, fun W h => ⟨by rw [cell_of_row _ _ _ _ _ _ (hr W h)]; rfl, by rw [cell_of_row _ _ _ _ _ _ (hr W h)]; rfl⟩⟩
    · exact ⟨S ++ T, ⟨#[]⟩, by omega, Nat.zero_le _, fun W h => ⟨by rw [cell_of_row _ _ _ _ _ _ (hr W h)]; rfl, by rw [cell_of_row _ _ _ _ _ _ (hr W h)]; rfl⟩⟩
  have HKW : Hid (∀ w', Below W3.heap.size W3 w' → w'.cell? ⟨w.heap.size, 0, none⟩ = some (.int .u8 A) ∧ w'.cell? ⟨w.heap.size, 1, none⟩ = some (.int .u8 C) ∧ w'.cell? ⟨w.heap.size, 2, none⟩ = some (.string tail)) := fun w' h => HKP.out _ (HB3.1.out.trans (h.mono HB3.2.out))
  have HWW : Hid (∀ w', Below W3.heap.size W3 w' → Below w.heap.size w w') := fun w' h => HW.out.trans ((HB3.1.out.trans (h.mono HB3.2.out)).mono (by omega))
  have HI0 : Hid (Below W3.heap.size W3 W3) := Lib.hid (Below.refl _ _)
  clear hg hW3 hb3 HB3 row HB HZ HKP HW HSA HSS HST HSO hst s60 t60 ho g0 g1 g2
  go_loopw [35] (fun jv wr => ∃ j : Nat, j ≤ 4 ∧ jv = .int .i64 (j : Nat) ∧ Hid (Below W3.heap.size W3 wr)) (fun jv _ => 4 - (intOf jv).toNat)
  case atStart => exact ⟨0, by omega, rfl, HI0⟩
  case round =>
    obtain ⟨j, hj, rfl, hJ⟩ := hrel
    by_cases hj4 : j = 4
    · subst hj4
      go_wp2
      go_ret
      exact ⟨rfl, HWW.out _ hJ.out⟩
    · have hj3 : j < 4 := by omega
      obtain ⟨X, Y, hx, hy, hXY⟩ := HX.out j hj3
      obtain ⟨c0, c1⟩ := hXY _ hJ.out
      have HRM : Hid (∀ W, Calls Try.prog 13 #[.string X, .string Y] W fun e w' => e = .returned (.string (markS X Y)) ∧ Below W.heap.size W w') := fun W => rMark_S X Y W (by omega) (by omega)
      have H18 : Hid (∀ W, Calls Try.prog 18 #[.string X, .string Y] W fun e w' => e = .returned (.string (markS X Y)) ∧ Below W.heap.size W w') := fun W => mark_S X Y W (by omega) (by omega)
      have hmk := markS_size X Y
      have HC19 : Hid (∀ z W, z.size ≤ 1000 → Calls Try.prog 19 #[.string X, .string Y, .string z] W fun e w' => e = .returned (.bool (checkB X Y z)) ∧ Below W.heap.size W w') := fun z W h => check_S X Y z W (by omega) (by omega) (by omega)
      have HC20 : Hid (∀ z W, z.size ≤ 1000 → Calls Try.prog 20 #[.string X, .string Y, .string z] W fun e w' => e = .returned (.bool (checkB X Y z)) ∧ Below W.heap.size W w') := fun z W h => rCheck_any X Y z (by omega) (by omega) W
      obtain ⟨cF, hcF⟩ : ∃ cF, cF = checkB X Y := ⟨_, rfl⟩
      rw [← hcF] at HC19 HC20
      obtain ⟨K, hK⟩ : ∃ K, K = markS X Y := ⟨_, rfl⟩
      rw [← hK] at HRM H18 hmk
      have H14 := Lib.hid (fun W => dOf_S X W (by omega))
      have H15 := Lib.hid (fun W => rOf_S X W (by omega))
      obtain ⟨oX, hoX⟩ : ∃ oX, oX = ofS X := ⟨_, rfl⟩
      rw [← hoX] at H14 H15
      have H16 := Lib.hid (fun W => chain_S X Y W (by omega) (by omega))
      have H17 : Hid (∀ W, Calls Try.prog 17 #[.string X, .string Y] W fun e w' => e = .returned (.string (chainS X Y)) ∧ Below W.heap.size W w') := fun W => rChain_any X Y (by omega) (by omega) W
      obtain ⟨ch, hch⟩ : ∃ ch, ch = chainS X Y := ⟨_, rfl⟩
      rw [← hch] at H16 H17
      have q1 : (oX.toList == oX.toList) = true := beq_self_eq_true _
      have q2 : (ch.toList == ch.toList) = true := beq_self_eq_true _
      have q3 : (K.toList == K.toList) = true := beq_self_eq_true _
      have HCK := Lib.hid (fun W => HC0.out K W (by omega))
      have hkb := hbs K
      obtain ⟨kb, hkb2⟩ : ∃ kb, kb = bF K := ⟨_, rfl⟩
      rw [← hkb2] at HCK hkb
      clear hXY hK hoX hch hcF hkb2
      go_wp2_with (go_at_call 13; refine (HRM.out _).mono ?_; rintro e w4 ⟨rfl, hb⟩)
      obtain ⟨p, hp⟩ : ∃ p, p = wr.heap.size := ⟨_, rfl⟩
      rw [← hp]
      have hrow : w4.heap[p]? = some (.cells #[.string X, .string Y] 26 (0, 0)) := by
        rw [hp]
        exact (hb.block _ (by simp)).trans (heap_alloc_new _ _)
      have HW4 : Hid (Below W3.heap.size W3 w4) := Lib.hid (hJ.out.trans ((((Below.refl wr.heap.size wr).alloc (Nat.le_refl _) _).trans (hb.mono (by simp))).mono hJ.out.size))
      have HP : Hid (∀ W, Below w4.heap.size w4 W → W.cell? ⟨p, 0, none⟩ = some (.string X) ∧ W.cell? ⟨p, 1, none⟩ = some (.string Y)) := fun W h => by
        have r := (h.block _ (Array.getElem?_eq_some_iff.1 hrow).1).trans hrow
        exact ⟨by rw [cell_of_row _ _ _ _ _ _ r]; rfl, by rw [cell_of_row _ _ _ _ _ _ r]; rfl⟩
      have HD : Hid (Below w4.heap.size w4 w4) := Lib.hid (Below.refl _ _)
      have HE : Hid (w4.heap.size ≤ w4.heap.size) := Lib.hid (Nat.le_refl _)
      obtain ⟨k0, k1⟩ := HP.out _ HD.out
      clear hp hrow hb c0 c1 HRM
      go_region_held3 (fun w' => w'.cell? ⟨p, 0, none⟩ = some (.string X) ∧ w'.cell? ⟨p, 1, none⟩ = some (.string Y))
        (first | (with_reducible exact HP.out _ HD.out) | (refine HP.out _ (HD.out.trans (Below.mono (?_ : Below w4.heap.size w4 _) HE.out)); (go_grown; done)))
        ((first | (go_at_call 14; refine (H14.out _).mono ?_; rintro e wa ⟨rfl, hb⟩; (first | (have HDD := step1 HD HE hb) | (have HDD := step2 HD HE hb) | (have HDD := stepD HD HE hb)); have HD := HDD.1; have HE := HDD.2; clear HDD hb) | (go_at_call 15; refine (H15.out _).mono ?_; rintro e wa ⟨rfl, hb⟩; (first | (have HDD := step1 HD HE hb) | (have HDD := step2 HD HE hb) | (have HDD := stepD HD HE hb)); have HD := HDD.1; have HE := HDD.2; clear HDD hb) | (go_at_call 16; refine (H16.out _).mono ?_; rintro e wa ⟨rfl, hb⟩; (first | (have HDD := step1 HD HE hb) | (have HDD := step2 HD HE hb) | (have HDD := stepD HD HE hb)); have HD := HDD.1; have HE := HDD.2; clear HDD hb) | (go_at_call 17; refine (H17.out _).mono ?_; rintro e wa ⟨rfl, hb⟩; (first | (have HDD := step1 HD HE hb) | (have HDD := step2 HD HE hb) | (have HDD := stepD HD HE hb)); have HD := HDD.1; have HE := HDD.2; clear HDD hb) | (go_at_call 18; refine (H18.out _).mono ?_; rintro e wa ⟨rfl, hb⟩; (first | (have HDD := step1 HD HE hb) | (have HDD := step2 HD HE hb) | (have HDD := stepD HD HE hb)); have HD := HDD.1; have HE := HDD.2; clear HDD hb)))
      have HK9 : Hid (∀ W, Below w4.heap.size w4 W → W.cell? ⟨p, 0, none⟩ = some (.string X) ∧ W.cell? ⟨p, 1, none⟩ = some (.string Y) ∧ W.cell? ⟨w.heap.size, 0, none⟩ = some (.int .u8 A) ∧ W.cell? ⟨w.heap.size, 1, none⟩ = some (.int .u8 C) ∧ W.cell? ⟨w.heap.size, 2, none⟩ = some (.string tail)) := fun W h => by
        have q := HP.out W h
        have q2 := HKW.out W (HW4.out.trans (h.mono HW4.out.size))
        exact ⟨q.1, q.2, q2⟩
      clear k0 k1 q1 q2 H14 H15 H16 H17 H18
      go_wp2_with fail
      obtain ⟨k0, k1, k2, k3, k4⟩ := HK9.out _ HD.out
      go_region_held3 (fun W => W.cell? ⟨p, 0, none⟩ = some (.string X) ∧ W.cell? ⟨p, 1, none⟩ = some (.string Y) ∧ W.cell? ⟨w.heap.size, 0, none⟩ = some (.int .u8 A) ∧ W.cell? ⟨w.heap.size, 1, none⟩ = some (.int .u8 C) ∧ W.cell? ⟨w.heap.size, 2, none⟩ = some (.string tail))
        (first | (with_reducible exact HK9.out _ HD.out) | (refine HK9.out _ (HD.out.trans (Below.mono (?_ : Below wb.heap.size wb _) HE.out)); (go_grown; done)) | (refine HK9.out _ (HD.out.trans (Below.mono (?_ : Below wa.heap.size wa _) HE.out)); (go_grown; done)))
        ((go_at_call 12; refine (HCK.out _).mono ?_; rintro e wb ⟨rfl, hb⟩; (first | (have HDD := step1 HD HE hb) | (have HDD := step2 HD HE hb) | (have HDD := stepD HD HE hb)); have HD := HDD.1; have HE := HDD.2; clear HDD hb))
      clear k0 k1 k2 k3 k4 HCK
      obtain ⟨G, hG⟩ : ∃ G, G = wb.heap.size := ⟨_, rfl⟩
      obtain ⟨k7, hk7⟩ : ∃ k7, k7 = K.extract 0 7 := ⟨_, rfl⟩
      have h7 : k7.size ≤ 1000 := by rw [hk7]; simp; omega
      rw [← hk7]
      obtain ⟨W6, hW6⟩ : ∃ W6, W6 = wb.alloc (.cells #[.string K, .string kb, .string Y, .string k7] 9) := ⟨_, rfl⟩
      rw [← hG, ← hW6]
      have hb6 : Below wb.heap.size wb W6 := by rw [hW6]; exact (Below.refl _ _).alloc (Nat.le_refl _) _
      have HD6 := step1 HD HE hb6
      have row : W6.heap[G]? = some (.cells #[.string K, .string kb, .string Y, .string k7] 9 (0, 0)) := by rw [hW6, hG]; exact heap_alloc_new _ _
      have HZ6 : Hid (∀ j2, j2 < 4 → ∃ z : ByteArray, z.size ≤ 1000 ∧ ∀ W, Below W6.heap.size W6 W → W.cell? ⟨G, j2, none⟩ = some (.string z)) := fun j2 hj2 => by
        have hr : ∀ W, Below W6.heap.size W6 W → W.heap[G]? = some (.cells #[.string K, .string kb, .string Y, .string k7] 9 (0, 0)) := fun W h => (h.block G (Array.getElem?_eq_some_iff.1 row).1).trans row
        have hj4 : j2 = 0 ∨ j2 = 1 ∨ j2 = 2 ∨ j2 = 3 := by omega
        rcases hj4 with rfl | rfl | rfl | rfl
        · exact ⟨K, by omega, fun W h => by rw [cell_of_row _ _ _ _ _ _ (hr W h)]; rfl⟩
        · exact ⟨kb, by omega, fun W h => by rw [cell_of_row _ _ _ _ _ _ (hr W h)]; rfl⟩
        · exact ⟨Y, by omega, fun W h => by rw [cell_of_row _ _ _ _ _ _ (hr W h)]; rfl⟩
        · exact ⟨k7, h7, fun W h => by rw [cell_of_row _ _ _ _ _ _ (hr W h)]; rfl⟩
      have HP6 : Hid (∀ W, Below W6.heap.size W6 W → W.cell? ⟨p, 0, none⟩ = some (.string X) ∧ W.cell? ⟨p, 1, none⟩ = some (.string Y)) := fun W h => HP.out W (HD6.1.out.trans (h.mono HD6.2.out))
      have HV6 : Hid (∀ W, Below W6.heap.size W6 W → Below W3.heap.size W3 W) := fun W h => HW4.out.trans ((HD6.1.out.trans (h.mono HD6.2.out)).mono HW4.out.size)
      have HI6 : Hid (Below W6.heap.size W6 W6) := Lib.hid (Below.refl _ _)
      clear hG hk7 hW6 hb6 HD6 row HD HE HK9 HP HW4 HI0 HX hx hy hmk hkb h7 hJ
      go_wp2_with fail
      go_loopw [83] (fun jv wr2 => ∃ j2 : Nat, j2 ≤ 4 ∧ jv = .int .i64 (j2 : Nat) ∧ Hid (Below W6.heap.size W6 wr2)) (fun jv _ => 4 - (intOf jv).toNat)
      case atStart => exact ⟨0, by omega, rfl, HI6⟩
      case round =>
        obtain ⟨j2, hj2, rfl, hJ2⟩ := hrel
        by_cases hj24 : j2 = 4
        · subst hj24
          go_wp2
          exact ⟨⟨j + 1, by omega, by go_num, Lib.hid (HV6.out _ hJ2.out)⟩, by simp [intOf]; omega⟩
        · have hj23 : j2 < 4 := by omega
          obtain ⟨z, hz, hzc⟩ := HZ6.out j2 hj23
          have cz := hzc _ hJ2.out
          obtain ⟨k0, k1⟩ := HP6.out _ hJ2.out
          have H19 := Lib.hid (fun W => HC19.out z W hz)
          have H20 := Lib.hid (fun W => HC20.out z W hz)
          obtain ⟨bz, hbz⟩ : ∃ bz, bz = cF z := ⟨_, rfl⟩
          rw [← hbz] at H19 H20
          have HD := hJ2
          have HE := Lib.hid hJ2.out.size
          clear hzc hbz
          go_wp2_with fail
          go_region_held3 (fun W => W.cell? ⟨p, 0, none⟩ = some (.string X) ∧ W.cell? ⟨p, 1, none⟩ = some (.string Y))
            (first | (with_reducible exact HP6.out _ HD.out) | (refine HP6.out _ (HD.out.trans (Below.mono (?_ : Below wr.heap.size wr _) HE.out)); (go_grown; done)))
            ((first | (go_at_call 19; refine (H19.out _).mono ?_; rintro e wa ⟨rfl, hb⟩; (first | (have HDD := step1 HD HE hb) | (have HDD := step2 HD HE hb) | (have HDD := stepD HD HE hb)); have HD := HDD.1; have HE := HDD.2; clear HDD hb) | (go_at_call 20; refine (H20.out _).mono ?_; rintro e wa ⟨rfl, hb⟩; (first | (have HDD := step1 HD HE hb) | (have HDD := step2 HD HE hb) | (have HDD := stepD HD HE hb)); have HD := HDD.1; have HE := HDD.2; clear HDD hb)))
          all_goals
            go_wp2
            exact ⟨⟨j2 + 1, by omega, by go_num, HD⟩, by simp [intOf]; omega⟩

end Go.Proofs.Ytpkhnfmeackccaa
