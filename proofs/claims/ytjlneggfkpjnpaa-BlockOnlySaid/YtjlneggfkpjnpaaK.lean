/- Contract of the reference: Next. Condition: the slices read as ints, at most eight each. -/
import Derived.Test.YtjlneggfkpjnpaaJ2
namespace Go.Proofs.Ytjlneggfkpjnpaa
open Go.RowKit

set_option maxRecDepth 10000 in
set_option maxHeartbeats 4000000 in
theorem rNext_no {W : World} {ar az aw : Option Addr} {nr cr ns cs nw cw : Nat} {r s row : List Int} (hr : Ix W (.slice ar nr cr) r) (hs : Ix W (.slice az ns cs) s) (hw : Ix W (.slice aw nw cw) row) (lr : r.length ≤ 8) (ls : s.length ≤ 8) (lw : row.length ≤ 8) {x y z : Int} (hc : ¬ (x, y, z) ∈ chV r s row) :
    Calls Try.prog 19 #[.agg #[.int .i64 0, .slice ar nr cr, .slice az ns cs, .int .i64 0, .int .i64 0, .int .i64 0], .slice aw nw cw, .agg #[.int .i64 x, .int .i64 y, .int .i64 z]] W fun e w' => e = .returned (.tuple #[.slice none 0 0, .bool false]) ∧ Below W.heap.size W w' := by
  have HB := Lib.hid (Below.refl (nbox W (.slice ar nr cr) (.slice az ns cs) x y z).heap.size (nbox W (.slice ar nr cr) (.slice az ns cs) x y z))
  have HCH := Lib.hid (fun W' (hb : Below (nbox W (.slice ar nr cr) (.slice az ns cs) x y z).heap.size (nbox W (.slice ar nr cr) (.slice az ns cs) x y z) W') => rChoices_any (hr.below (nbox_up hb)) (hs.below (nbox_up hb)) (hw.below (nbox_up hb)) lr ls lw)
  have HCO := Lib.hid (fun W' v (B n : Nat) (h : OwC W' B v n (chV r s row)) => has_any (h.chx lr ls lw) x y z)
  rw [decide_eq_false hc] at HCO
  have HKP := Lib.hid (fun W' (hb : Below (nbox W (.slice ar nr cr) (.slice az ns cs) x y z).heap.size (nbox W (.slice ar nr cr) (.slice az ns cs) x y z) W') => nbox_flat hb)
  obtain ⟨k0, k1, k2, k3, k4, k5, k6, k7, k8⟩ := HKP.out _ HB.out
  clear hr hs hw hc lr ls lw
  go_enter Try.func19, Try.ntmps19
  go_wp2
  go_region_held3 (fun W' => W'.cell? ⟨W.heap.size, 0, none⟩ = some (.int .i64 0) ∧ W'.cell? ⟨W.heap.size, 1, none⟩ = some (.slice ar nr cr) ∧ W'.cell? ⟨W.heap.size, 2, none⟩ = some (.slice az ns cs) ∧ W'.cell? ⟨W.heap.size, 3, none⟩ = some (.int .i64 0) ∧ W'.cell? ⟨W.heap.size, 4, none⟩ = some (.int .i64 0) ∧ W'.cell? ⟨W.heap.size, 5, none⟩ = some (.int .i64 0) ∧ W'.cell? ⟨W.heap.size + 1, 0, none⟩ = some (.int .i64 x) ∧ W'.cell? ⟨W.heap.size + 1, 1, none⟩ = some (.int .i64 y) ∧ W'.cell? ⟨W.heap.size + 1, 2, none⟩ = some (.int .i64 z))
    (first | (with_reducible exact HKP.out _ HB.out) | (exact HKP.out _ HB.out.drew) | (with_reducible exact HKP.out _ HB2.out) | (with_reducible exact HKP.out _ HB3.out))
    ((first
    | (go_at_call 12; (refine (HCH.out _ HB.out.drew).mono ?_); rintro e w1 ⟨ao1, n1, cap1, rfl, ho, hb⟩; have HO := Lib.hid ho; have HB2 := Lib.hid (HB.out.drew.trans (hb.mono HB.out.drew.size)); clear ho hb)
    | (go_at_call 36; (with_reducible refine (HCO.out _ _ _ _ HO.out).mono ?_); rintro e w2 ⟨rfl, hb2⟩; have HB3 := Lib.hid (HB2.out.trans (hb2.mono HB2.out.size)); clear hb2)))
  go_wp2
  go_ret2
  exact ⟨rfl, nbox_up HB3.out⟩

theorem less_get {b : List Int} {k j : Nat} (hk : k < b.length) (hj : j < b.length) : (lessV b (k : Int)).getD j 0 = if j = k then b.getD j 0 - 1 else b.getD j 0 := by
  unfold lessV
  rw [Int.toNat_natCast, getD_set hk]
  split
  · rename_i h; rw [h]
  · rfl

theorem take_next {l : List Int} {k : Nat} (h : k < l.length) : l.take (k + 1) = l.take k ++ [l.getD k 0] := by
  rw [List.take_add_one]
  simp [List.getD, List.getElem?_eq_getElem h]

theorem OwI.left0 {W : World} {B n : Nat} {v : Value} {b : List Int} {k : Nat} (h : OwI W B v n (lessV b (k : Int))) (hin : inB 0 1048576 b = true) (hk : k < b.length) (h1 : 1 ≤ b.getD k 0) (hl : b.length ≤ 8) :
    Calls Try.prog 16 #[v] W fun e w' => e = .returned (.int .i64 (leftV (lessV b (k : Int)))) ∧ w' = W := by
  have hlen : (lessV b (k : Int)).length = b.length := by unfold lessV; rw [List.length_set]
  have hn := owI_len h
  exact rLeft_any (h.ix (by omega) (fit_in (less_in hin hk h1))) (by omega)

attribute [local go_sem ↓] appI_rw

set_option maxRecDepth 10000 in
set_option maxHeartbeats 8000000 in
theorem rNext_yes {W : World} {ar az aw : Option Addr} {nr cr ns cs nw cw : Nat} {r s row : List Int} (hr : Ix W (.slice ar nr cr) r) (hs : Ix W (.slice az ns cs) s) (hw : Ix W (.slice aw nw cw) row) (lr : r.length ≤ 8) (ls : s.length ≤ 8) (lw : row.length ≤ 8) {x y z : Int} (hc : (x, y, z) ∈ chV r s row) :
    Calls Try.prog 19 #[.agg #[.int .i64 0, .slice ar nr cr, .slice az ns cs, .int .i64 0, .int .i64 0, .int .i64 0], .slice aw nw cw, .agg #[.int .i64 x, .int .i64 y, .int .i64 z]] W fun e w' => ∃ ao n cap, e = .returned (.tuple #[.slice ao n cap, .bool true]) ∧ OwI w' W.heap.size (.slice ao n cap) n (if leftV (lessV (blockV r row y) z) = 0 then [] else lessV (blockV r row y) z) ∧ Below W.heap.size W w' := by
  obtain ⟨hB, hy, hin, hlen, k, hk, hz, h1, h2⟩ := ch_facts hc
  have HB := Lib.hid (Below.refl (nbox W (.slice ar nr cr) (.slice az ns cs) x y z).heap.size (nbox W (.slice ar nr cr) (.slice az ns cs) x y z))
  have HCH := Lib.hid (fun W' (hb : Below (nbox W (.slice ar nr cr) (.slice az ns cs) x y z).heap.size (nbox W (.slice ar nr cr) (.slice az ns cs) x y z) W') => rChoices_any (hr.below (nbox_up hb)) (hs.below (nbox_up hb)) (hw.below (nbox_up hb)) lr ls lw)
  have HCO := Lib.hid (fun W' v (B n : Nat) (h : OwC W' B v n (chV r s row)) => has_any (h.chx lr ls lw) x y z)
  rw [decide_eq_true hc] at HCO
  have HKP := Lib.hid (fun W' (hb : Below (nbox W (.slice ar nr cr) (.slice az ns cs) x y z).heap.size (nbox W (.slice ar nr cr) (.slice az ns cs) x y z) W') => nbox_flat hb)
  have hnr := hr.size
  have hnw := hw.size
  have hk8 : k < nr := by omega
  have hnr8 : nr ≤ 8 := by omega
  have HLT := Lib.hid (fun (W' : World) (B n : Nat) (v : Value) h => OwI.left0 (W := W') (B := B) (n := n) (v := v) (b := blockV r row y) (k := k) h hin (by omega) h1 (by omega))
  have HBD : Hid (∀ j, j < nr → 0 ≤ (blockV r row y).getD j 0 ∧ (blockV r row y).getD j 0 ≤ 1048576) := Lib.hid fun j hj => (inB_iff.1 hin) j (by omega)
  have HLG : Hid (∀ j, j < nr → (lessV (blockV r row y) (k : Int)).getD j 0 = if j = k then (blockV r row y).getD j 0 - 1 else (blockV r row y).getD j 0) := Lib.hid fun j hj => less_get (by omega) (by omega)
  have HLL : Hid ((lessV (blockV r row y) (k : Int)).length = nr) := Lib.hid (by unfold lessV; rw [List.length_set]; omega)
  have HX := Lib.hid hw
  have HR := Lib.hid hr
  have HRG : Hid (∀ j, j < nr → 0 ≤ r.getD j 0 ∧ r.getD j 0 ≤ 8) := Lib.hid fun j hj => (inB_iff.1 (hasB_iff.1 hB).1.2.2.1) j (by omega)
  obtain ⟨k0, k1, k2, k3, k4, k5, k6, k7, k8⟩ := HKP.out _ HB.out
  have HY : Hid (y = 0 ∧ nw = nr ∧ blockV r row y = row ∨ 1 ≤ y ∧ y ≤ 4 ∧ blockV r row y = r.map fun x => y * x) := Lib.hid (by
    rcases hy with ⟨h3, h4⟩ | h3
    · exact .inl ⟨h3, by omega, by unfold blockV; rw [if_pos h3]⟩
    · exact .inr ⟨h3.1, h3.2, by unfold blockV; rw [if_neg (by omega)]⟩)
  obtain ⟨b, hb⟩ : ∃ b, b = blockV r row y := ⟨_, rfl⟩
  rw [hz]
  rw [← hb] at HLT HBD HLG HLL HY ⊢
  obtain ⟨L, hL⟩ : ∃ L, L = lessV b (k : Int) := ⟨_, rfl⟩
  rw [← hL] at HLT HLG HLL ⊢
  obtain ⟨T, hT⟩ : ∃ T, T = leftV L := ⟨_, rfl⟩
  rw [← hT] at HLT ⊢
  subst hz
  have HNR := Lib.hid hnr
  clear hr hs hw hc lr ls lw hB hy hin hlen hnr hk hL hT h1 h2 hnw hb
  go_enter Try.func19, Try.ntmps19
  go_wp2
  go_region_held3 (fun W' => W'.cell? ⟨W.heap.size, 0, none⟩ = some (.int .i64 0) ∧ W'.cell? ⟨W.heap.size, 1, none⟩ = some (.slice ar nr cr) ∧ W'.cell? ⟨W.heap.size, 2, none⟩ = some (.slice az ns cs) ∧ W'.cell? ⟨W.heap.size, 3, none⟩ = some (.int .i64 0) ∧ W'.cell? ⟨W.heap.size, 4, none⟩ = some (.int .i64 0) ∧ W'.cell? ⟨W.heap.size, 5, none⟩ = some (.int .i64 0) ∧ W'.cell? ⟨W.heap.size + 1, 0, none⟩ = some (.int .i64 x) ∧ W'.cell? ⟨W.heap.size + 1, 1, none⟩ = some (.int .i64 y) ∧ W'.cell? ⟨W.heap.size + 1, 2, none⟩ = some (.int .i64 (k : Int)))
    (first | (with_reducible exact HKP.out _ HB.out) | (exact HKP.out _ HB.out.drew) | (with_reducible exact HKP.out _ HB2.out) | (with_reducible exact HKP.out _ HB3.out))
    ((first
    | (go_at_call 12; (refine (HCH.out _ HB.out.drew).mono ?_); rintro e w1 ⟨ao1, n1, cap1, rfl, ho, hb⟩; have HO := Lib.hid ho; have HB2 := Lib.hid (HB.out.drew.trans (hb.mono HB.out.drew.size)); clear ho hb)
    | (go_at_call 36; (with_reducible refine (HCO.out _ _ _ _ HO.out).mono ?_); rintro e w2 ⟨rfl, hb2⟩; have HB3 := Lib.hid (HB2.out.trans (hb2.mono HB2.out.size)); clear hb2)))
  clear k0 k1 k2 k3 k4 k5 k6 k7 k8
  go_wp2
  go_loopw [8, 9, 10] (fun ov kv _ wr => ∃ (j : Nat) (ao2 : Option Addr) (cap2 : Nat), j ≤ nr ∧ kv = .int .i64 (j : Nat) ∧ ov = .slice ao2 j cap2 ∧ Hid (OwI wr (nbox W (.slice ar nr cr) (.slice az ns cs) x y (k : Int)).heap.size (.slice ao2 j cap2) j (L.take j)) ∧ Hid (Below (nbox W (.slice ar nr cr) (.slice az ns cs) x y (k : Int)).heap.size (nbox W (.slice ar nr cr) (.slice az ns cs) x y (k : Int)) wr)) (fun _ kv _ _ => nr - (intOf kv).toNat)
  case atStart => exact ⟨0, none, 0, by omega, rfl, rfl, Lib.hid (World.ownsRow_nil _ _ _ _), HB3⟩
  case round =>
    obtain ⟨j, ao2, cap2, hj, rfl, rfl, hO, hB⟩ := hrel
    obtain ⟨k0, k1, k2, k3, k4, k5, k6, k7, k8⟩ := HKP.out _ hB.out
    by_cases hjn : j = nr
    · have HO : Hid (OwI wr (nbox W (.slice ar nr cr) (.slice az ns cs) x y (k : Int)).heap.size (.slice ao2 nr cap2) nr L) := Lib.hid (by
        have h9 := hO.out
        rw [hjn, ← HLL.out, List.take_length] at h9
        rw [← HLL.out]; exact h9)
      have HC := Lib.hid (HLT.out wr _ nr _ HO.out)
      subst hjn
      clear hO
      by_cases hT0 : T = 0
      · subst hT0
        go_wp2_with (go_at_call 16; (with_reducible refine HC.out.mono ?_); rintro e w5 ⟨rfl, rfl⟩)
        go_ret2
        exact ⟨none, 0, 0, rfl, World.ownsRow_nil _ _ _ _, nbox_up hB.out⟩
      · go_wp2_with (go_at_call 16; (with_reducible refine HC.out.mono ?_); rintro e w5 ⟨rfl, rfl⟩)
        go_ret2
        exact ⟨_, _, _, rfl, owns_mono HO.out (by simp; omega), nbox_up hB.out⟩
    · have hlt : j < nr := by omega
      obtain ⟨v, hv⟩ : ∃ v, v = L.getD j 0 := ⟨_, rfl⟩
      have hbd := HBD.out j hlt
      have hlg := HLG.out j hlt
      rw [← hv] at hlg
      obtain ⟨g, cap3, w3, hrun, hown, hb3, -, -, -⟩ := push_int (W := wr.drew) (hO.out : OwI wr.drew _ _ _ _) (by omega) (hB.out.size) v
      have hrun : Sem.run Try.prog (appI 25 #[.slice ao2 j cap2, .slice (some ⟨wr.heap.size, 0, none⟩) 1 1]) (wr.alloc (.cells #[.int .i64 v] 3)).drew = .ok (.slice (some ⟨g, 0, none⟩) (j + 1) cap3) w3 := hrun
      rw [hv, ← take_next (by rw [HLL.out]; exact hlt)] at hown
      have HO2 := Lib.hid hown
      have HB2 := Lib.hid (hB.out.drew.trans hb3)
      obtain ⟨br, ofr, rfl, hqr, hcapr, hblr, hclr⟩ := HR.out.at (by omega)
      have hcr := cell_later (nbox_up hB.out) (hclr j hlt)
      have hrg := HRG.out j hlt
      obtain ⟨p, hp⟩ : ∃ p, p = r.getD j 0 := ⟨_, rfl⟩
      rw [← hp] at hcr hrg
      have hy9 := HY.out
      rcases hy9 with ⟨hy0, hnwr, hbe⟩ | ⟨hy1, hy4, hbe⟩
      · obtain ⟨bw, ofw, rfl, hqw, hcapw, hblw, hclw⟩ := HX.out.at (by omega)
        have hcw := cell_later (nbox_up hB.out) (hclw j (by omega))
        rw [← hbe] at hcw
        obtain ⟨u, hu⟩ : ∃ u, u = b.getD j 0 := ⟨_, rfl⟩
        rw [← hu] at hcw hlg hbd
        clear hp hu hqw hqr hclr hclw hO hown hb3 hbe hv
        subst hnwr hy0
        by_cases hjk : j = k
        · subst hjk
          rw [if_pos rfl] at hlg
          subst hlg
          go_wp2
          go_region
          go_wp2
          go_roundw
          case rel => exact ⟨j + 1, some ⟨g, 0, none⟩, cap3, by omega, by go_num, rfl, HO2, HB2⟩
          case measure => simp [intOf]; omega
        · rw [if_neg hjk] at hlg
          subst hlg
          go_wp2
          go_region
          go_wp2
          go_roundw
          case rel => exact ⟨j + 1, some ⟨g, 0, none⟩, cap3, by omega, by go_num, rfl, HO2, HB2⟩
          case measure => simp [intOf]; omega
      · have hbg : b.getD j 0 = y * p := by rw [hbe, getD_map (by rw [← HNR.out]; exact hlt), hp]
        rw [hbg] at hlg hbd
        have hw2 : IntKind.i64.wrap (y * p) = y * p := IntWalk.i64_in _ (by omega)
        have hyz : ¬ y = 0 := by omega
        clear hp hqr hclr hO hown hb3 hbe hbg hv hy1 hy4
        by_cases hjk : j = k
        · subst hjk
          rw [if_pos rfl] at hlg
          subst hlg
          go_wp2
          go_region
          go_wp2
          go_roundw
          case rel => exact ⟨j + 1, some ⟨g, 0, none⟩, cap3, by omega, by go_num, rfl, HO2, HB2⟩
          case measure => simp [intOf]; omega
        · rw [if_neg hjk] at hlg
          subst hlg
          go_wp2
          go_region
          go_wp2
          go_roundw
          case rel => exact ⟨j + 1, some ⟨g, 0, none⟩, cap3, by omega, by go_num, rfl, HO2, HB2⟩
          case measure => simp [intOf]; omega

theorem rNext_any {W : World} {ar az aw : Option Addr} {nr cr ns cs nw cw : Nat} {r s row : List Int} (hr : Ix W (.slice ar nr cr) r) (hs : Ix W (.slice az ns cs) s) (hw : Ix W (.slice aw nw cw) row) (lr : r.length ≤ 8) (ls : s.length ≤ 8) (lw : row.length ≤ 8) (x y z : Int) :
    Calls Try.prog 19 #[.agg #[.int .i64 0, .slice ar nr cr, .slice az ns cs, .int .i64 0, .int .i64 0, .int .i64 0], .slice aw nw cw, .agg #[.int .i64 x, .int .i64 y, .int .i64 z]] W fun e w' => ∃ ao n cap, e = .returned (.tuple #[.slice ao n cap, .bool (nextOk r s row (x, y, z))]) ∧ OwI w' W.heap.size (.slice ao n cap) n (nextV r s row (x, y, z)) ∧ Below W.heap.size W w' := by
  unfold nextV nextOk
  by_cases hc : (x, y, z) ∈ chV r s row
  · rw [decide_eq_true hc, if_pos rfl]
    exact rNext_yes hr hs hw lr ls lw hc
  · rw [decide_eq_false hc, if_neg (by decide)]
    exact (rNext_no hr hs hw lr ls lw hc).mono fun e w' h => ⟨none, 0, 0, h.1, World.ownsRow_nil _ _ _ _, h.2⟩

end Go.Proofs.Ytjlneggfkpjnpaa
