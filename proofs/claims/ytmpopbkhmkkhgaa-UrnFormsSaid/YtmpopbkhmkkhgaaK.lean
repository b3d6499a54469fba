/- Contracts of the reference: Choices. Condition: the slices read as ints, at most eight each. -/
import Derived.Test.YtmpopbkhmkkhgaaL
namespace Go.Proofs.Ytmpopbkhmkkhgaa
open Go.RowKit

attribute [local go_sem ↓] appC_rw

set_option maxRecDepth 10000 in
set_option maxHeartbeats 4000000 in
theorem rChoices_any {W : World} {ar aw : Option Addr} {nr cr nw cw : Nat} {r row : List Int} (hr : Ix W (.slice ar nr cr) r) (hw : Ix W (.slice aw nw cw) row) (lr : r.length ≤ 8) (lw : row.length ≤ 8) (kd a : Int) :
    Calls Try.prog 15 #[DV kd (.slice ar nr cr) a, .slice aw nw cw] W fun e w' => ∃ ao n cap, e = .returned (.slice ao n cap) ∧ OwC w' W.heap.size (.slice ao n cap) n (chV r a row) ∧ Below W.heap.size W w' := by
  have HX := Lib.hid hr
  have HLR := Lib.hid lr
  have HNR := Lib.hid hr.size
  have HB0 := Lib.hid (dbox_below W kd (.slice ar nr cr) a)
  have HD := Lib.hid (fun W' (hb : Below (dbox W kd (.slice ar nr cr) a).heap.size (dbox W kd (.slice ar nr cr) a) W') => (DBox.below (dbox_is W kd (.slice ar nr cr) a) hb).cells)
  have HBA := Lib.hid (rBalls_any (hr.below HB0.out) (hw.below HB0.out) lr lw kd a)
  have HBL := Lib.hid (balV_len (r := r) (row := row) (a := a))
  have HUP := Lib.hid (fun W' (h : Below (dbox W kd (.slice ar nr cr) a).heap.size (dbox W kd (.slice ar nr cr) a) W') => dbox_up h)
  have HIN := Lib.hid (balV_in (r := r) (row := row) (a := a))
  have HDL : Hid (W.heap.size < (dbox W kd (.slice ar nr cr) a).heap.size) := Lib.hid (by simp)
  unfold chV
  obtain ⟨b, hb⟩ : ∃ b, b = balV r a row := ⟨_, rfl⟩
  rw [← hb] at HBA HBL HIN ⊢
  clear hr hw lr lw hb
  go_enter Try.func15, Try.ntmps15
  go_wp2_with (go_at_call 14; (with_reducible refine HBA.out.mono ?_); rintro e w1 ⟨ab, nb, cb, rfl, ho, hb⟩; have HO := Lib.hid ho; have HB1 := Lib.hid hb; clear ho hb)
  have hnb : Hid (nb = b.length) := Lib.hid (owI_len HO.out)
  have hnb8 : nb ≤ 8 := by have := hnb.out; have := HBL.out; have := HLR.out; omega
  have hnbr : nb ≤ nr := by have := hnb.out; have := HBL.out; have := HNR.out; omega
  have HUW := Lib.hid (HUP.out _ HB1.out)
  have hsz := HUW.out.size
  go_loopw [5, 7] (fun ov kv wr => ∃ (k : Nat) (ao : Option Addr) (m cap : Nat), k ≤ nb ∧ kv = .int .i64 (k : Nat) ∧ ov = .slice ao m cap ∧ Hid (OwC wr w1.heap.size (.slice ao m cap) m (cho r b k)) ∧ Hid (Below w1.heap.size w1 wr)) (fun _ kv _ => nb - (intOf kv).toNat)
  case atStart => exact ⟨0, none, 0, 0, by omega, rfl, rfl, Lib.hid (World.ownsRow_nil _ _ _ _), Lib.hid (Below.refl _ _)⟩
  case round =>
    obtain ⟨k, ao, m, cap, hk, rfl, rfl, hO, hB⟩ := hrel
    have hB1 := HB1.out.trans (hB.out.mono HB1.out.size)
    by_cases hkn : k = nb
    · have HO2 : Hid (OwC wr w1.heap.size (.slice ao m cap) m (cho r b b.length)) := Lib.hid (by rw [← hnb.out, ← hkn]; exact hO.out)
      have HE := Lib.hid (HUP.out _ hB1)
      subst hkn
      clear hO hB1
      go_wp2
      go_ret
      exact ⟨_, _, _, rfl, owns_mono HO2.out hsz, HE.out⟩
    · have hlt : k < nb := by omega
      have hki : (k : Int) < (nb : Int) := by omega
      have hki2 : (k : Int) < (nr : Int) := by omega
      obtain ⟨g, cap2, eg, -, hg1, hg2, hgc, -, -⟩ := HO.out.parts (by omega)
      injection eg with eg1 _ eg3
      subst eg1 eg3
      have cg := cell_later hB.out (hgc k hlt)
      obtain ⟨br, ofr, rfl, hqr, hcapr, hblr, hclr⟩ := HX.out.at (by omega)
      have cr0 := cell_later (HUP.out _ hB1) (hclr k (by omega))
      obtain ⟨k0, k1, k2, k3, k4, k5⟩ := HD.out _ hB1
      have hm := owC_len hO.out
      have hml := cho_len r b k
      have hm8 : m ≤ 1000 := by omega
      have hbk := (inB_iff.1 HIN.out) k (by rw [← hnb.out]; exact hlt)
      obtain ⟨x, hx⟩ : ∃ x, x = r.getD k 0 := ⟨_, rfl⟩
      obtain ⟨u, hu⟩ : ∃ u, u = b.getD k 0 := ⟨_, rfl⟩
      by_cases h0 : 0 < x ∧ 0 < u
      · obtain ⟨g2, cap3, w3, hrun, hown, hb, -, -, -⟩ := push_choice hO.out hm8 hB.out.size u 0 (k : Int)
        have e : cho r b k ++ [(u, 0, (k : Int))] = cho r b (k + 1) := by rw [cho, ← hx, ← hu, if_pos h0]
        rw [e] at hown
        rw [← hx] at cr0
        rw [← hu] at cg
        have HO2 := Lib.hid hown
        have HB2 := Lib.hid (hB.out.trans hb)
        obtain ⟨hx0, hu0⟩ := h0
        clear hx hu hgc hclr hown hb hO e hm hml hm8 hqr hbk hB1
        go_wp2
        go_roundw
        case rel => exact ⟨k + 1, some ⟨g2, 0, none⟩, m + 1, cap3, by omega, by go_num, rfl, HO2, HB2⟩
        case measure => simp [intOf]; omega
      · have e : cho r b (k + 1) = cho r b k := by rw [cho, ← hx, ← hu, if_neg h0, List.append_nil]
        have HO2 := Lib.hid hO.out
        rw [← e] at HO2
        rw [← hx] at cr0
        rw [← hu] at cg
        by_cases hx0 : 0 < x
        · have hu0 : ¬ 0 < u := fun h => h0 ⟨hx0, h⟩
          clear hx hu hgc hclr hO e hm hml hm8 h0 hqr hbk hB1
          go_wp2
          go_roundw
          case rel => exact ⟨k + 1, ao, m, cap, by omega, by go_num, rfl, HO2, hB⟩
          case measure => simp [intOf]; omega
        · clear hx hu hgc hclr hO e hm hml hm8 h0 hqr hbk hB1
          go_wp2
          go_roundw
          case rel => exact ⟨k + 1, ao, m, cap, by omega, by go_num, rfl, HO2, hB⟩
          case measure => simp [intOf]; omega

end Go.Proofs.Ytmpopbkhmkkhgaa
