/- Contract of the reference: above. Condition: at most 64 digests, an even number or one. -/
import Derived.BigRegion
import Derived.Test.YtkkbjkjmhjgaiaaWW
namespace Go.Proofs.Ytkkbjkjmhjgaiaa
open Go.RowKit

theorem halve_snoc {D : List Dg} {j : Nat} (hj : j < D.length / 2) : ((halveD D).take (j + 1)).map sA = ((halveD D).take j).map sA ++ [sA (nodeD (D.getD (2 * j) []) (D.getD (2 * j + 1) []))] := by
  have hl : j < (halveD D).length := by rw [halveD_len]; exact hj
  rw [List.take_succ_eq_append_getElem hl, List.map_append, ← halveD_get D j hj]
  simp [List.getD, hl]

theorem sA_getD {D : List Dg} {k : Nat} (hk : k < D.length) : (D.map sA).getD k ⟨#[]⟩ = sA (D.getD k []) := by
  simp [List.getD, hk]

attribute [local go_sem ↓] appX_rw

set_option maxRecDepth 10000 in
set_option maxHeartbeats 1000000 in
theorem above_any {w : World} {v : Value} {D : List Dg} (hX : Sx w v (D.map sA)) (h8 : All8 D) (hlen : D.length ≤ 64) (hev : D.length % 2 = 0) :
    Calls Try.prog 39 #[v] w fun e w' => ∃ ao n cap, e = .returned (.slice ao n cap) ∧ w'.ownsRow w.heap.size 9 1 (.slice ao n cap) (D.length / 2) (sv ((halveD D).map sA)) ∧ Below w.heap.size w w' := by
  obtain ⟨ao, cap, rfl⟩ := hX.mk'
  rw [List.length_map] at hX ⊢
  obtain ⟨n, hn⟩ : ∃ n, n = D.length := ⟨_, rfl⟩
  rw [← hn] at hlen hev hX ⊢
  have HX := Lib.hid hX
  have HN := Lib.hid hn
  have H8 := Lib.hid h8
  have HP := Lib.hid pair_any
  have HI0 : Hid (LoI w (.slice none 0 0) 0 (((halveD D).take 0).map sA) w) := Lib.hid ⟨⟨rfl, .inl ⟨rfl, rfl⟩⟩, Below.refl _ _⟩
  clear hX hn h8
  go_enter Try.func39, Try.ntmps39
  go_wp2
  go_loopw [3, 4] (fun pv kv wr => ∃ (j k : Nat) (ao2 : Option Addr) (pc : Nat), k ≤ n ∧ Hid (k = 2 * j) ∧ kv = .int .i64 (k : Nat) ∧ pv = .slice ao2 j pc ∧ Hid (LoI w (.slice ao2 j pc) j (((halveD D).take j).map sA) wr)) (fun _ kv _ => n - (intOf kv).toNat)
  case atStart => exact ⟨0, 0, _, _, by omega, Lib.hid rfl, rfl, rfl, HI0⟩
  case round =>
    obtain ⟨j, k, ao2, pc, hk, hkj, rfl, rfl, hJ⟩ := hrel
    by_cases hkn : k = n
    · have hj := hkj.out
      have hown := hJ.out.own
      have hjn : j = n / 2 := by omega
      rw [List.take_of_length_le (by rw [halveD_len, ← HN.out]; omega)] at hown
      have HO : Hid (wr.ownsRow w.heap.size 9 1 (.slice ao2 j pc) (n / 2) (sv ((halveD D).map sA))) := Lib.hid (by rw [← hjn]; exact hown)
      have HBL := Lib.hid hJ.out.bl
      clear hown hJ HI0 hj hjn hev
      subst hkn
      go_wp2
      go_ret
      exact ⟨_, _, _, rfl, HO.out, HBL.out⟩
    · have hkj0 := hkj.out
      have hk2 : k + 1 < n := by omega
      have hj20 : j ≤ 40 := by omega
      have hjl : j < D.length / 2 := by rw [← HN.out]; omega
      have hsn := halve_snoc hjl
      obtain ⟨b, off, cap', hv, hlt, hcl⟩ := HX.out.at (fun e => by have h := congrArg List.length e; rw [List.length_map, ← HN.out, List.length_nil] at h; omega)
      rw [List.length_map, ← HN.out] at hv
      rw [List.length_map, ← HN.out] at hcl
      have hca := hcl k (by omega)
      have hcb := hcl (k + 1) hk2
      rw [sA_getD (by rw [← HN.out]; omega)] at hca hcb
      rw [← hkj0] at hsn
      injection hv with hv1 hv2 hv3
      subst hv1 hv3
      obtain ⟨da, hda⟩ : ∃ da, da = D.getD k [] := ⟨_, rfl⟩
      obtain ⟨db, hdb⟩ : ∃ db, db = D.getD (k + 1) [] := ⟨_, rfl⟩
      rw [← hda] at hca hsn
      rw [← hdb] at hcb hsn
      have la : da.length = 8 := by
        rw [hda, show D.getD k [] = D[k]'(by rw [← HN.out]; omega) by simp [List.getD, ← HN.out, show k < n by omega]]
        exact H8.out _ (List.getElem_mem _)
      have lb : db.length = 8 := by
        rw [hdb, show D.getD (k + 1) [] = D[k + 1]'(by rw [← HN.out]; omega) by simp [List.getD, ← HN.out, hk2]]
        exact H8.out _ (List.getElem_mem _)
      have HPP := Lib.hid (fun W => HP.out (sA da) (sA db) (by rw [sA_size]; omega) (by rw [sA_size]; omega) W)
      simp only [by_sA] at HPP
      obtain ⟨sa, hsa⟩ : ∃ sa, sa = sA da := ⟨_, rfl⟩
      obtain ⟨sb, hsb⟩ : ∃ sb, sb = sA db := ⟨_, rfl⟩
      obtain ⟨sn, hsnd⟩ : ∃ sn, sn = sA (nodeD da db) := ⟨_, rfl⟩
      rw [← hsa, ← hsb, ← hsnd] at HPP
      rw [← hsnd] at hsn
      rw [← hsa] at hca
      rw [← hsb] at hcb
      have HSN := Lib.hid hsn
      have HC : Hid (∀ W, Below w.heap.size w W → W.cell? ⟨b, off + k, none⟩ = some (.string sa) ∧ W.cell? ⟨b, off + (k + 1), none⟩ = some (.string sb)) := fun W h => ⟨(h.cell (p := ⟨b, off + k, none⟩) hlt).trans hca, (h.cell (p := ⟨b, off + (k + 1), none⟩) hlt).trans hcb⟩
      have HD0 := Lib.hid hJ.out.bl
      have HE0 := Lib.hid hJ.out.bl.size
      obtain ⟨c0, c1⟩ := HC.out _ HD0.out
      clear hcl hca hcb hsa hsb hsnd hda hdb la lb hsn hjl hv2 hlt HI0 hkj0
      have i1 : (0 : Int) ≤ (k : Int) := by omega
      have i2 : (k : Int) < (n : Int) := by omega
      have i3 : IntKind.i64.wrap ((k : Int) + 1) = (k : Int) + 1 := by rw [IntKind.wrap_i64]; omega
      have i4 : (0 : Int) ≤ (k : Int) + 1 := by omega
      have i5 : (k : Int) + 1 < (n : Int) := by omega
      have i6 : ((k : Int) + 1).toNat = k + 1 := by omega
      go_wp2_with fail
      go_region_held3 (fun W => W.cell? ⟨b, off + k, none⟩ = some (.string sa) ∧ W.cell? ⟨b, off + (k + 1), none⟩ = some (.string sb))
        (first | (with_reducible exact HC.out _ HD3.out) | (with_reducible exact HC.out _ HDq.out) | (refine HC.out _ (HDq.out.trans (Below.mono (?_ : Below wq.heap.size wq _) HEq.out)); (go_grown; done)) | (refine HC.out _ (HD0.out.trans (Below.mono (?_ : Below wr.heap.size wr _) HE0.out)); (go_grown; done)))
        ((go_at_call 44; refine (HPP.out _).mono ?_; rintro e wq ⟨rfl, hb⟩; (first | (have HDD := step1 HD0 HE0 hb) | (have HDD := step2 HD0 HE0 hb) | (have HDD := stepD HD0 HE0 hb)); have HDq := HDD.1; have HEq := HDD.2; have hownq := owns_later (W := wr) hJ.out.own (by first | exact hb | exact ((show Below wr.heap.size wr wr.drew from ⟨rfl, rfl, rfl, Nat.le_refl _, fun _ _ => rfl⟩).trans hb)); obtain ⟨ao3, n3, cap3, w3, hrun, hown3, hb3⟩ := push_run hownq (by omega) HEq.out sn; have hn3 := owns_len hown3; subst hn3; have HD3 := Lib.hid (HDq.out.trans hb3); have HO3 := Lib.hid hown3; clear HDD hb hownq hown3 hb3))
      all_goals
        go_wp2
        exact ⟨⟨j + 1, k + 2, _, _, by omega, Lib.hid (by have := hkj.out; omega), by go_num, rfl, Lib.hid ⟨by rw [HSN.out]; exact HO3.out, HD3.out⟩⟩, by simp [intOf]; omega⟩

end Go.Proofs.Ytkkbjkjmhjgaiaa
