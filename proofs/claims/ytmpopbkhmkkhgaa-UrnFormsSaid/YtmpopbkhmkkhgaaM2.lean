/- Contract of the reference: Row; what is drawn for a made design and row. Condition: the slices read as ints. -/
import Derived.Test.YtmpopbkhmkkhgaaM
namespace Go.Proofs.Ytmpopbkhmkkhgaa
open Go.RowKit

def rowN (l : List Int) (k : Nat) : Int := if k + 1 < l.length then l.getD (k + 1) 0 % 1024 % 9 else 1
def rowL (l : List Int) (k : Nat) : List Int := (List.range k).map (rowN l)
theorem rowL_succ (l : List Int) (k : Nat) : rowL l (k + 1) = rowL l k ++ [rowN l k] := by simp [rowL, List.range_succ]
theorem rowN_in (l : List Int) (k : Nat) : 0 ≤ rowN l k ∧ rowN l k ≤ 8 := by unfold rowN; split <;> omega

/-- What is known of a made row. -/
def RowOk (r row : List Int) : Prop := row = [] ∨ (row.length = r.length ∧ inB 0 8 row = true)

attribute [local go_sem ↓] appI_rw

set_option maxRecDepth 10000 in
set_option maxHeartbeats 8000000 in
theorem row_any {W : World} {ar al : Option Addr} {nr cr nl cl : Nat} {r l : List Int} (hr : Ix W (.slice ar nr cr) r) (hl : Ix W (.slice al nl cl) l) (lr : r.length ≤ 8) (kd a : Int) :
    Calls Try.prog 11 #[DV kd (.slice ar nr cr) a, .slice al nl cl] W fun e w' => ∃ ao n cap row, e = .returned (.slice ao n cap) ∧ OwI w' W.heap.size (.slice ao n cap) n row ∧ RowOk r row ∧ Below W.heap.size W w' := by
  have HX := Lib.hid hl
  have HNL := Lib.hid hl.size
  have HNR := Lib.hid hr.size
  have hll := hl.len
  unfold maxLen at hll
  have hnl : nl ≤ 9223372036854775807 := by have := hl.size; omega
  have hnr8 : nr ≤ 8 := by have := hr.size; omega
  have HB0 := Lib.hid (dbox_below W kd (.slice ar nr cr) a)
  have HD0 := Lib.hid (dbox_is W kd (.slice ar nr cr) a)
  have HOK : Hid (RowOk r (rowL l nr)) := Lib.hid (.inr ⟨by simp [rowL]; exact HNR.out, by
    rw [inB_iff]
    intro k hk
    have hk' : k < nr := by simpa [rowL] using hk
    have e : (rowL l nr).getD k 0 = rowN l k := by simp [rowL, List.getD, hk']
    rw [e]
    exact rowN_in l k⟩)
  clear hr hl lr hll
  by_cases h0 : nl = 0
  · subst h0
    go_enter Try.func11, Try.ntmps11
    go_wp2
    go_ret
    exact ⟨none, 0, 0, [], rfl, World.ownsRow_nil _ _ _ _, .inl rfl, HB0.out⟩
  · obtain ⟨b, off, rfl, hq, hcap, hbl, hcl⟩ := HX.out.at h0
    have hc0 := cell_later HB0.out (hcl 0 (by omega))
    rw [Nat.add_zero] at hc0
    obtain ⟨x, hx⟩ : ∃ x, x = l.getD 0 0 := ⟨_, rfl⟩
    rw [← hx] at hc0
    have ha1 := and1 x
    by_cases h1 : x % 2 = 1
    · clear hcl hx hq
      go_enter Try.func11, Try.ntmps11
      go_wp2
      go_ret
      exact ⟨none, 0, 0, [], rfl, World.ownsRow_nil _ _ _ _, .inl rfl, HB0.out⟩
    · have h00 : ¬ (nl : Int) = 0 := by omega
      have HCL := Lib.hid hcl
      clear hx hq hcl
      go_enter Try.func11, Try.ntmps11
      go_wp2
      all_goals try (exfalso; rename_i hq; rcases hq with hq | hq <;> (first | omega | (simp at hq; omega)); done)
      go_loopw [5, 6, 7] (fun ov kv _ wr => ∃ (k : Nat) (ao : Option Addr) (cap : Nat), k ≤ nr ∧ kv = .int .i64 (k : Nat) ∧ ov = .slice ao k cap ∧ Hid (OwI wr (W.heap.size + 1) (.slice ao k cap) k (rowL l k)) ∧ Hid (Below (W.heap.size + 1) (dbox W kd (.slice ar nr cr) a) wr)) (fun _ kv _ _ => nr - (intOf kv).toNat)
      case atStart => exact ⟨0, none, 0, by omega, rfl, rfl, Lib.hid (World.ownsRow_nil _ _ _ _), Lib.hid (Below.refl _ _)⟩
      case round =>
        obtain ⟨k, ao, cap, hk, rfl, rfl, hO, hB⟩ := hrel
        obtain ⟨c0, c1, c2, c3, c4, c5⟩ := (DBox.below1 hB.out).cells
        by_cases hkn : k = nr
        · subst hkn
          go_wp2
          go_ret
          exact ⟨_, _, _, _, rfl, owns_mono hO.out (by omega), HOK.out, dbox_up1 hB.out⟩
        · have hlt : k < nr := by omega
          have hki : (k : Int) < (nr : Int) := by omega
          have hwk : IntKind.i64.wrap ((k : Int) + 1) = (k + 1 : Nat) := by rw [IntWalk.i64_in _ (by omega)]; omega
          by_cases hkl : k + 1 < nl
          · obtain ⟨u, hu⟩ : ∃ u, u = l.getD (k + 1) 0 := ⟨_, rfl⟩
            have hc := cell_later (dbox_up1 hB.out) (HCL.out (k + 1) hkl)
            rw [← hu] at hc
            obtain ⟨g, cap3, w3, hrun, hown, hb, -, -, -⟩ := push_int hO.out (by omega) (by have h9 := hB.out.size; rw [dbox_size] at h9; exact h9) (u % 1024 % 9)
            have e : rowL l k ++ [u % 1024 % 9] = rowL l (k + 1) := by rw [rowL_succ, rowN, if_pos (by rw [← HNL.out]; exact hkl), hu]
            rw [e] at hown
            have HO2 := Lib.hid hown
            have HB2 := Lib.hid (hB.out.trans hb)
            have hau := and1023 u
            have hmu : (u % 1024).tmod 9 = u % 1024 % 9 := Int.tmod_eq_emod_of_nonneg (by omega)
            have hkl2 : (k : Int) + 1 < (nl : Int) := by omega
            clear hu hown hb hO e
            go_wp2
            go_roundw
            case rel => exact ⟨k + 1, some ⟨g, 0, none⟩, cap3, by omega, by go_num, rfl, HO2, HB2⟩
            case measure => simp [intOf]; omega
          · obtain ⟨g, cap3, w3, hrun, hown, hb, -, -, -⟩ := push_int hO.out (by omega) (by have h9 := hB.out.size; rw [dbox_size] at h9; exact h9) 1
            have e : rowL l k ++ [1] = rowL l (k + 1) := by rw [rowL_succ, rowN, if_neg (by rw [← HNL.out]; exact hkl)]
            rw [e] at hown
            have HO2 := Lib.hid hown
            have HB2 := Lib.hid (hB.out.trans hb)
            have hkl2 : ¬ (k : Int) + 1 < (nl : Int) := by omega
            clear hown hb hO e
            go_wp2
            go_roundw
            case rel => exact ⟨k + 1, some ⟨g, 0, none⟩, cap3, by omega, by go_num, rfl, HO2, HB2⟩
            case measure => simp [intOf]; omega

/-- What is known of the balls of a made design and row. -/
theorem made_bal {r row : List Int} {a : Int} (hm : MadeOk r a) (hr : RowOk r row) : (balV r a row).length = r.length ∧ (balV r a row = r ∨ balV r a row = row) ∧ inB 0 8 (balV r a row) = true ∧ usB r a = true ∧ fitB r row = true := by
  have hr8 : inB 0 8 r = true := inB_iff.2 fun k hk => by have := hm.rr k hk; omega
  have hu : usB r a = true := usB_iff.2 ⟨by have := hm.l4; omega, hr8, by have := hm.a0; omega, by have := hm.a0; omega⟩
  have hf : fitB r row = true := by
    rcases hr with rfl | ⟨h1, h2⟩
    · rfl
    · unfold fitB
      rw [decide_eq_true h1, inB_iff.2 fun k hk => by have := (inB_iff.1 h2) k hk; omega]
      simp
  by_cases h0 : row.length = 0
  · rw [balV_new hu hf h0]
    exact ⟨rfl, .inl rfl, hr8, hu, hf⟩
  · rw [balV_row hu hf h0]
    rcases hr with rfl | ⟨h1, h2⟩
    · exact absurd rfl h0
    · exact ⟨h1, .inr rfl, h2, hu, hf⟩

end Go.Proofs.Ytmpopbkhmkkhgaa
