/- The law DrawNumbers, walked. Condition: the arguments fit their types. -/
import Derived.Test.YtafdjohgoopcmaaXO
namespace Go.Proofs.Ytafdjohgoopcmaa
open Go.RowKit

/-- The first n bytes. -/
def cutS (s : ByteArray) (n : Nat) : ByteArray := s.extract 0 (min s.size n)
theorem cutS_size (s : ByteArray) (n : Nat) : (cutS s n).size = min s.size n := by simp [cutS]
theorem cutS_eq (s : ByteArray) : s.extract 0 (min (s.size : Int) 70).toNat = cutS s 70 := by
  unfold cutS
  rw [show (min (s.size : Int) 70).toNat = min s.size 70 by omega]

/-- Six pairs of ints. -/
structure Px (W : World) (b : Nat) (ks ts : List Int) : Prop where
  at_ : ∀ j, j < 6 → W.cell? ⟨b, j * 2, none⟩ = some (.int .i64 (ks.getD j 0)) ∧ W.cell? ⟨b, j * 2 + 1, none⟩ = some (.int .i64 (ts.getD j 0))
theorem Px.below {W W' : World} {b : Nat} {ks ts : List Int} (h : Px W b ks ts) (hb : Below W.heap.size W W') : Px W' b ks ts := ⟨fun j hj => ⟨cell_later hb (h.at_ j hj).1, cell_later hb (h.at_ j hj).2⟩⟩
theorem px_new (W : World) (k0 t0 k1 t1 k2 t2 k3 t3 k4 t4 k5 t5 : Int) : Px (W.alloc (.cells #[.int .i64 k0, .int .i64 t0, .int .i64 k1, .int .i64 t1, .int .i64 k2, .int .i64 t2, .int .i64 k3, .int .i64 t3, .int .i64 k4, .int .i64 t4, .int .i64 k5, .int .i64 t5] 23)) W.heap.size [k0, k1, k2, k3, k4, k5] [t0, t1, t2, t3, t4, t5] := by
  refine ⟨fun j hj => ?_⟩
  rw [cell_of_row _ _ _ _ _ _ (heap_alloc_new _ _), cell_of_row _ _ _ _ _ _ (heap_alloc_new _ _)]
  match j, hj with
  | 0, _ => exact ⟨rfl, rfl⟩
  | 1, _ => exact ⟨rfl, rfl⟩
  | 2, _ => exact ⟨rfl, rfl⟩
  | 3, _ => exact ⟨rfl, rfl⟩
  | 4, _ => exact ⟨rfl, rfl⟩
  | 5, _ => exact ⟨rfl, rfl⟩

theorem box2 (W : World) (a b : Int) : (W.alloc (.cells #[.int .i64 a, .int .i64 b] 23)).cell? ⟨W.heap.size, 0, none⟩ = some (.int .i64 a) ∧ (W.alloc (.cells #[.int .i64 a, .int .i64 b] 23)).cell? ⟨W.heap.size, 1, none⟩ = some (.int .i64 b) := by
  constructor <;> (rw [cell_of_row _ _ _ _ _ _ (heap_alloc_new _ _)]; rfl)

theorem mod_S (m : Nat) (h1 : 1 ≤ m) (h2 : m ≤ 1000) : ∀ (n : Int) (W : World), I64 n → Calls Try.prog 10 #[.int .i64 n, .int .i64 m] W fun e w' => e = .returned (.int .i64 (n % m)) ∧ w' = W := fun n W h => mod_any n h m h1 h2 W

theorem mod9 : ∀ (n : Int) (W : World), I64 n → Calls Try.prog 10 #[.int .i64 n, .int .i64 9] W fun e w' => e = .returned (.int .i64 (n % 9)) ∧ w' = W := mod_S 9 (by omega) (by omega)
theorem mod30 : ∀ (n : Int) (W : World), I64 n → Calls Try.prog 10 #[.int .i64 n, .int .i64 30] W fun e w' => e = .returned (.int .i64 (n % 30)) ∧ w' = W := mod_S 30 (by omega) (by omega)
theorem mod40 : ∀ (n : Int) (W : World), I64 n → Calls Try.prog 10 #[.int .i64 n, .int .i64 40] W fun e w' => e = .returned (.int .i64 (n % 40)) ∧ w' = W := mod_S 40 (by omega) (by omega)
theorem mod50 : ∀ (n : Int) (W : World), I64 n → Calls Try.prog 10 #[.int .i64 n, .int .i64 50] W fun e w' => e = .returned (.int .i64 (n % 50)) ∧ w' = W := mod_S 50 (by omega) (by omega)
theorem mod100 : ∀ (n : Int) (W : World), I64 n → Calls Try.prog 10 #[.int .i64 n, .int .i64 100] W fun e w' => e = .returned (.int .i64 (n % 100)) ∧ w' = W := mod_S 100 (by omega) (by omega)

set_option maxRecDepth 100000 in
set_option maxHeartbeats 4000000 in
theorem drawNumbers_any (s : ByteArray) (hs : s.size ≤ 9223372036854775807) (k t : Int) (hk : I64 k) (ht : I64 t) (w : World) :
    Calls Try.prog 3 #[.string s, .int .i64 k, .int .i64 t] w fun e w' => e = .returned (.bool true) ∧ Below w.heap.size w w' := by
  have HS := Lib.hid (fun W => sanity_any W)
  have M100 := Lib.hid mod100
  have M40 := Lib.hid mod40
  have M9 := Lib.hid mod9
  have hcut := cutS_eq s
  have hz : (cutS s 70).size ≤ 70 := by rw [cutS_size]; omega
  obtain ⟨s2, hs2⟩ : ∃ s2, s2 = cutS s 70 := ⟨_, rfl⟩
  rw [← hs2] at hcut hz
  have HNB : Hid (∀ (a b : Int) W, I64 a → I64 b → Calls Try.prog 11 #[.string s2, .int .i64 a, .int .i64 b] W fun e w' => e = .returned (.tuple #[.int .i64 (numV s2 a b : Nat), .bool (okN s2 a b)]) ∧ Below W.heap.size W w') := Lib.hid fun a b W ha hb => number_any s2 (by omega) a b ha hb W
  have HRB : Hid (∀ (a b : Int) W, I64 a → I64 b → Calls Try.prog 12 #[.string s2, .int .i64 a, .int .i64 b] W fun e w' => e = .returned (.tuple #[.int .i64 (numV s2 a b : Nat), .bool (okN s2 a b)]) ∧ Below W.heap.size W w') := Lib.hid fun a b W ha hb => rNumber_any s2 (by omega) a b ha hb W
  clear hs2
  go_enter Try.func3, Try.ntmps3
  go_wp2_with (first | (go_at_call 9; refine (HS.out _).mono ?_; rintro e w1 ⟨rfl, hb1⟩; have HB1 := Lib.hid hb1; clear hb1) | (go_at_call 10; (with_reducible refine (M100.out _ _ hk).mono ?_); rintro e w2 ⟨rfl, hw⟩; subst w2) | (go_at_call 10; (with_reducible refine (M40.out _ _ ht).mono ?_); rintro e w2 ⟨rfl, hw⟩; subst w2) | (go_at_call 10; (with_reducible refine (M9.out _ _ hk).mono ?_); rintro e w2 ⟨rfl, hw⟩; subst w2))
  have hP := px_new w1 k t (k % 100) (1 + t % 40) (k % 9) 1073741824 k 7 0 t (k % 9) 536870913
  have hfk : ∀ j, I64 (([k, k % 100, k % 9, k, 0, k % 9] : List Int).getD j 0) := fun j => by
    match j with
    | 0 => exact hk
    | 1 => show I64 (k % 100); constructor <;> omega
    | 2 => show I64 (k % 9); constructor <;> omega
    | 3 => exact hk
    | 4 => show I64 0; exact ⟨by decide, by decide⟩
    | 5 => show I64 (k % 9); constructor <;> omega
    | n + 6 => exact ⟨by simp, by simp⟩
  have hft : ∀ j, I64 (([t, 1 + t % 40, 1073741824, 7, t, 536870913] : List Int).getD j 0) := fun j => by
    match j with
    | 0 => exact ht
    | 1 => show I64 (1 + t % 40); constructor <;> omega
    | 2 => show I64 1073741824; exact ⟨by decide, by decide⟩
    | 3 => show I64 7; exact ⟨by decide, by decide⟩
    | 4 => exact ht
    | 5 => show I64 536870913; exact ⟨by decide, by decide⟩
    | n + 6 => exact ⟨by simp, by simp⟩
  have hB2 := HB1.out.alloc HB1.out.size (.cells #[.int .i64 k, .int .i64 t, .int .i64 (k % 100), .int .i64 (1 + t % 40), .int .i64 (k % 9), .int .i64 1073741824, .int .i64 k, .int .i64 7, .int .i64 0, .int .i64 t, .int .i64 (k % 9), .int .i64 536870913] 23)
  revert hP hfk hft hB2
  generalize ([k, k % 100, k % 9, k, 0, k % 9] : List Int) = ks
  generalize ([t, 1 + t % 40, 1073741824, 7, t, 536870913] : List Int) = ts
  intro hP hfk hft hB2
  have HP := Lib.hid hP
  have HFK := Lib.hid hfk
  have HFT := Lib.hid hft
  have HB2 := Lib.hid hB2
  clear hP hfk hft hB2
  go_loopw [41] (fun jv wr => ∃ j : Nat, j ≤ 6 ∧ jv = .int .i64 (j : Nat) ∧ Hid (Px wr w1.heap.size ks ts) ∧ Hid (Below w.heap.size w wr)) (fun jv _ => 6 - (intOf jv).toNat)
  case atStart => exact ⟨0, by omega, rfl, HP, HB2⟩
  case round =>
    obtain ⟨j, hj, rfl, hP, hB⟩ := hrel
    by_cases hj6 : j = 6
    · subst hj6
      go_wp2
      go_ret
      exact ⟨rfl, hB.out⟩
    · have hlt : j < 6 := by omega
      obtain ⟨c1, c2⟩ := hP.out.at_ j hlt
      have f1 := HFK.out j
      have f2 := HFT.out j
      obtain ⟨a, ha⟩ : ∃ a, a = ks.getD j 0 := ⟨_, rfl⟩
      obtain ⟨b, hb⟩ : ∃ b, b = ts.getD j 0 := ⟨_, rfl⟩
      rw [← ha] at c1 f1
      rw [← hb] at c2 f2
      have HA := Lib.hid (fun W => HNB.out a b W f1 f2)
      have HR := Lib.hid (fun W => HRB.out a b W f1 f2)
      obtain ⟨N, hN⟩ : ∃ N, N = numV s2 a b := ⟨_, rfl⟩
      obtain ⟨O, hO⟩ : ∃ O, O = okN s2 a b := ⟨_, rfl⟩
      rw [← hN, ← hO] at HA HR
      clear ha hb hN hO
      go_wp2_with (first | (go_at_call 11; refine (HA.out _).mono ?_; rintro e w2 ⟨rfl, hb⟩; have d1 := cell_later hb (box2 wr a b).1; have d2 := cell_later hb (box2 wr a b).2; have HP2 := Lib.hid ((hP.out.below ((Below.refl _ _).alloc (Nat.le_refl _) _)).below hb); have HB3 := Lib.hid ((hB.out.alloc hB.out.size _).trans (hb.mono (Nat.le_trans hB.out.size (by simp)))); clear hb) | (go_at_call 12; refine (HR.out _).mono ?_; rintro e w3 ⟨rfl, hb⟩; have HP3 := Lib.hid (HP2.out.below hb); have HB4 := Lib.hid (HB3.out.trans (hb.mono HB3.out.size)); clear hb))
      go_roundw
      case rel => exact ⟨j + 1, by omega, by go_num, HP3, HB4⟩
      case measure => simp [intOf]; omega

end Go.Proofs.Ytafdjohgoopcmaa
