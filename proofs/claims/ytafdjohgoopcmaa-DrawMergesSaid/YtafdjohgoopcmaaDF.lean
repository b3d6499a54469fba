/- Contracts: Chain, marked, Mark of digest. Condition: the strings are shorter than 2^32. -/
import Derived.Test.YtafdjohgoopcmaaDE
namespace Go.Proofs.Ytafdjohgoopcmaa
open Go.RowKit

def chainD (b s : ByteArray) : List UInt8 := dig (4 :: (le4 b.size ++ (by' b ++ by' s)))
def markD (k m : ByteArray) : List UInt8 := dig (5 :: (le4 k.size ++ (by' k ++ (le4 m.size ++ (by' m ++ by' k)))))

/-- A length as a string. -/
def lenS (s : ByteArray) : ByteArray := sA (le4 s.size)
theorem lenS_size (s : ByteArray) : (lenS s).size = 4 := rfl

set_option maxRecDepth 10000 in
set_option maxHeartbeats 1000000 in
theorem chain_any (b s : ByteArray) (h : b.size < 4294967296) (hs : s.size < 4294967296) (w : World) : Calls Try.prog 29 #[.string b, .string s] w fun e w' => e = .returned (.string (sA (chainD b s))) ∧ Below w.heap.size w w' := by
  have HL := Lib.hid (fun W => length_any b h W)
  obtain ⟨n4, hn4⟩ : ∃ n4, n4 = sA (le4 b.size) := ⟨_, rfl⟩
  have hz : n4.size = 4 := by rw [hn4]; rfl
  have e0 : dig (cat [sA [4], n4, b, s]) = chainD b s := by rw [hn4]; simp [cat, chainD, sA, by']
  have HO := Lib.hid (fun W q hq => of_new W q hq [sA [4], n4, b, s] 4 rfl (by omega) #[.string (sA [4]), .string n4, .string b, .string s] rfl 9 (0, 0) (by simp [sA_size]; omega))
  rw [e0] at HO
  obtain ⟨d, hd⟩ : ∃ d, d = chainD b s := ⟨_, rfl⟩
  have hd8 : d.length = 8 := by rw [hd]; exact dig_len _
  rw [← hd] at HO ⊢
  rw [← hn4] at HL
  have HT := Lib.hid (fun W => text_any d hd8 W)
  obtain ⟨D, hD⟩ : ∃ D, D = dval d := ⟨_, rfl⟩
  rw [← hD] at HO HT
  clear hd hd8 hD e0 hn4 hz
  go_enter Try.func29, Try.ntmps29
  go_wp2_with (first | (go_at_call 41; refine (HL.out _).mono ?_; rintro e w0 ⟨rfl, hb0⟩) | (go_at_call 39; refine (HO.out _ _ (by simp)).mono ?_; rintro e w1 ⟨rfl, hb1⟩) | (go_at_call 40; refine (HT.out _).mono ?_; rintro e w2 ⟨rfl, hb2⟩))
  go_ret
  have h0 := hb0.size
  have h1 := hb1.size
  simp at h1
  exact ⟨rfl, ((hb0.trans (Below.alloc (Below.refl _ _) h0 _)).trans (hb1.mono h0)).trans (hb2.mono (by omega))⟩

set_option maxRecDepth 10000 in
set_option maxHeartbeats 1000000 in
theorem marked_any (k m : ByteArray) (h : k.size < 4294967296) (hs : m.size < 4294967296) (w : World) : Calls Try.prog 44 #[.string k, .string m] w fun e w' => e = .returned (dval (markD k m)) ∧ Below w.heap.size w w' := by
  have HL : Hid (∀ s W, s.size < 4294967296 → Calls Try.prog 41 #[.string s] W fun e w' => e = .returned (.string (lenS s)) ∧ Below W.heap.size W w') := fun s W h => length_any s h W
  have e0 : dig (cat [sA [5], lenS k, k, lenS m, m, k]) = markD k m := by simp [cat, markD, sA, by', lenS]
  have HO := Lib.hid (fun W q hq => of_new W q hq [sA [5], lenS k, k, lenS m, m, k] 6 rfl (by omega) #[.string (sA [5]), .string (lenS k), .string k, .string (lenS m), .string m, .string k] rfl 9 (0, 0) (by simp [sA_size, lenS_size]; omega))
  rw [e0] at HO
  obtain ⟨a0, a1, a2, a3, a4, a5, a6, a7, ed⟩ := dval_eight (d := markD k m) (dig_len _)
  rw [ed] at HO ⊢
  clear ed e0
  have r0 : row8 (w.alloc (.cells #[.int .u8 0, .int .u8 0, .int .u8 0, .int .u8 0, .int .u8 0, .int .u8 0, .int .u8 0, .int .u8 0] 62)) w.heap.size 0 0 0 0 0 0 0 0 := heap_alloc_new _ _
  obtain ⟨W0, hW0⟩ : ∃ W0, W0 = w.alloc (.cells #[.int .u8 0, .int .u8 0, .int .u8 0, .int .u8 0, .int .u8 0, .int .u8 0, .int .u8 0, .int .u8 0] 62) := ⟨_, rfl⟩
  rw [← hW0] at r0
  have HR0 := Lib.hid r0
  have hs0 : W0.heap.size = w.heap.size + 1 := by rw [hW0]; simp
  have hB0 : Below w.heap.size w W0 := by rw [hW0]; exact Below.alloc (Below.refl _ _) (Nat.le_refl _) _
  have HS0 := Lib.hid hs0
  have HB0 := Lib.hid hB0
  have HW0 := Lib.hid hW0
  have HB := Lib.hid (Below.refl W0.heap.size W0)
  clear r0 hs0 hB0 hW0
  go_enter Try.func44, Try.ntmps44
  go_wp2_with (first | (go_at_call 41; refine (HL.out _ _ (by assumption)).mono ?_; rintro e w1 ⟨rfl, hb⟩; (first | rw [← HW0.out] at hb | skip); have HB := Lib.hid (HB.out.trans (hb.mono HB.out.size)); clear hb) | (go_at_call 39; refine (HO.out _ _ (by simp)).mono ?_; rintro e w2 ⟨rfl, hb2⟩; have hb3 := HB.out.trans ((Below.alloc (Below.refl _ _) HB.out.size _).trans (hb2.mono HB.out.size)); have r1 := row8_below HR0.out hb3 (by rw [HS0.out]; omega); obtain ⟨c0, c1, c2, c3, c4, c5, c6, c7⟩ := row8_cells r1; obtain ⟨f0, f1, f2, f3, f4, f5, f6, f7⟩ := row8_free r1; have R1 := Lib.hid r1; have HB3 := Lib.hid hb3; clear r1 hb2 hb3))
  refine bodyPost_ret (results_cell (t := 4) rfl rfl (put8_row R1.out)) rfl ⟨rfl, ?_⟩
  exact put8_below (HB0.out.trans (HB3.out.mono (by rw [HS0.out]; omega))) (Nat.le_refl _)

set_option maxRecDepth 10000 in
set_option maxHeartbeats 1000000 in
theorem mark_any (k m : ByteArray) (h : k.size < 4294967296) (hs : m.size < 4294967296) (w : World) : Calls Try.prog 32 #[.string k, .string m] w fun e w' => e = .returned (.string (sA (markD k m))) ∧ Below w.heap.size w w' := by
  have HO := Lib.hid (fun W => marked_any k m h hs W)
  obtain ⟨d, hd⟩ : ∃ d, d = markD k m := ⟨_, rfl⟩
  have hd8 : d.length = 8 := by rw [hd]; exact dig_len _
  rw [← hd] at HO ⊢
  have HT := Lib.hid (fun W => text_any d hd8 W)
  obtain ⟨D, hD⟩ : ∃ D, D = dval d := ⟨_, rfl⟩
  rw [← hD] at HO HT
  clear hd hd8 hD
  go_enter Try.func32, Try.ntmps32
  go_wp2_with (first | (go_at_call 44; refine (HO.out _).mono ?_; rintro e w1 ⟨rfl, hb1⟩) | (go_at_call 40; refine (HT.out _).mono ?_; rintro e w2 ⟨rfl, hb2⟩))
  go_ret
  exact ⟨rfl, hb1.trans (hb2.mono hb1.size)⟩

end Go.Proofs.Ytafdjohgoopcmaa
