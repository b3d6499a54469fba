/- Contract of the reference: lowest. Conditions: at most 40 strings, of lengths that Go permits. -/
import Derived.Test.YtkkbjkjmhjgaiaaPP
namespace Go.Proofs.Ytkkbjkjmhjgaiaa
open Go.RowKit

structure LoI (w : World) (v : Value) (pn : Nat) (LL : List ByteArray) (wr : World) : Prop where
  own : wr.ownsRow w.heap.size 9 1 v pn (sv LL)
  bl : Below w.heap.size w wr

theorem leaf_snoc {l : List ByteArray} {k : Nat} (hk : k < l.length) : (l.take (k + 1)).map (fun s => sA (leafD (by' s))) = (l.take k).map (fun s => sA (leafD (by' s))) ++ [sA (leafD (by' (l.getD k ⟨#[]⟩)))] := by
  rw [List.take_succ_eq_append_getElem hk, List.map_append]
  simp [List.getD, hk]

theorem wid_step {n len : Nat} (h : 0 < n ∧ n < len) : widFrom n len = widFrom (2 * n) len := by
  rw [widFrom, dif_pos h]
theorem wid_stop {n len : Nat} (h : ¬ n < len) : widFrom n len = n := by
  rw [widFrom, dif_neg (by omega)]

attribute [local go_sem ↓] appX_rw

set_option maxRecDepth 10000 in
set_option maxHeartbeats 1000000 in
theorem lowest_any {w : World} {v : Value} {l : List ByteArray} (hX : Sx w v l) (hlen : l.length ≤ 40) (hsz : ∀ k, (l.getD k ⟨#[]⟩).size ≤ 1000) :
    Calls Try.prog 38 #[v] w fun e w' => ∃ ao n cap, e = .returned (.slice ao n cap) ∧ w'.ownsRow w.heap.size 9 1 (.slice ao n cap) (wid l.length) (sv ((leavesD (l.map by')).map sA)) ∧ Below w.heap.size w w' := by
  obtain ⟨ao, cap, rfl⟩ := hX.mk'
  obtain ⟨n, hn⟩ : ∃ n, n = l.length := ⟨_, rfl⟩
  have hres : (leavesD (l.map by')).map sA = l.map (fun s => sA (leafD (by' s))) ++ List.replicate (wid n - n) (ofS ⟨#[3]⟩) := by
    unfold leavesD
    rw [List.length_map, List.map_append, List.map_map, List.map_replicate, ← hn, List.map_map]
    rfl
  rw [hres]
  have hw0 : wid n = widFrom 1 n := rfl
  have hwn : n ≤ wid n := by obtain ⟨m, h1, h2, _⟩ := wid_pow n; omega
  rw [← hn] at hlen ⊢
  obtain ⟨N, hN⟩ : ∃ N, N = wid n := ⟨_, rfl⟩
  rw [← hN] at hwn hw0 ⊢
  have HX := Lib.hid hX
  have HN := Lib.hid hn
  have HSZ := Lib.hid hsz
  have HW0 := Lib.hid hw0
  have HL := Lib.hid rLeaf_any
  have H3 := Lib.hid (fun W => rOf_S ⟨#[3]⟩ W (by decide))
  have HI0 : Hid (LoI w (.slice none 0 0) 0 (((l.take 0).map fun s => sA (leafD (by' s)))) w) := Lib.hid ⟨⟨rfl, .inl ⟨rfl, rfl⟩⟩, Below.refl _ _⟩
  clear hX hn hsz hres hw0 hN
  go_enter Try.func38, Try.ntmps38
  go_wp2
  go_loopw [3, 4] (fun pv kv wr => ∃ (k : Nat) (ao2 : Option Addr) (pc : Nat), k ≤ n ∧ kv = .int .i64 (k : Nat) ∧ pv = .slice ao2 k pc ∧ Hid (LoI w (.slice ao2 k pc) k ((l.take k).map fun s => sA (leafD (by' s))) wr)) (fun _ kv _ => n - (intOf kv).toNat)
  case atStart => exact ⟨0, _, _, by omega, rfl, rfl, HI0⟩
  case round =>
    obtain ⟨k, ao2, pc, hk, rfl, rfl, hJ⟩ := hrel
    by_cases hkn : k = n
    · subst hkn
      have hJ2 : Hid (LoI w (.slice ao2 k pc) k (l.map (fun s => sA (leafD (by' s))) ++ List.replicate 0 (ofS ⟨#[3]⟩)) wr) := Lib.hid ⟨by
        have := hJ.out.own
        rw [List.take_of_length_le (by rw [← HN.out]; omega)] at this
        rwa [List.replicate_zero, List.append_nil], hJ.out.bl⟩
      clear hJ HI0
      have HNK : Hid (widFrom 1 k = N) := Lib.hid HW0.out.symm
      clear HW0
      go_wp2
      go_loopw [5] (fun nv w2 => ∃ q : Nat, 0 < q ∧ q ≤ 80 ∧ nv = .int .i64 (q : Nat) ∧ Hid (widFrom q k = N) ∧ Hid (LoI w (.slice ao2 k pc) k (l.map (fun s => sA (leafD (by' s))) ++ List.replicate 0 (ofS ⟨#[3]⟩)) w2)) (fun nv _ => 80 - (intOf nv).toNat)
      case atStart => exact ⟨1, by omega, by omega, rfl, HNK, hJ2⟩
      case round =>
        obtain ⟨q, hq0, hq80, rfl, hqN, hJ3⟩ := hrel
        clear hJ2 HNK
        by_cases hqk : q < k
        · go_wp2
          exact ⟨⟨2 * q, by omega, by omega, by go_num, Lib.hid ((wid_step ⟨hq0, hqk⟩).symm.trans hqN.out), hJ3⟩, by simp [intOf]; omega⟩
        · have hqe : q = N := (wid_stop hqk).symm.trans hqN.out
          subst hqe
          clear hqN
          go_wp2
          go_loopw [3] (fun pv w2 => ∃ (j : Nat) (ao4 : Option Addr) (pc4 : Nat), k + j ≤ q ∧ pv = .slice ao4 (k + j) pc4 ∧ Hid (LoI w (.slice ao4 (k + j) pc4) (k + j) (l.map (fun s => sA (leafD (by' s))) ++ List.replicate j (ofS ⟨#[3]⟩)) w2)) (fun pv _ => q - lenV pv)
          case atStart => exact ⟨0, _, _, by omega, rfl, hJ3⟩
          case round =>
            obtain ⟨j, ao4, pc4, hj, rfl, hJ4⟩ := hrel
            clear hJ3
            by_cases hjq : k + j < q
            · go_wp2_with (go_at_call 15; refine (H3.out _).mono ?_; rintro e wq ⟨rfl, hb⟩; obtain ⟨ao3, n3, cap3, w3, hrun, hown3, hb3⟩ := push_run (owns_later hJ4.out.own hb) (by omega) (Nat.le_trans hJ4.out.bl.size hb.size) (ofS ⟨#[3]⟩); have hn3 := owns_len hown3; subst hn3)
              exact ⟨⟨j + 1, _, _, by omega, rfl, Lib.hid ⟨by rw [List.replicate_succ', ← List.append_assoc]; exact hown3, (hJ4.out.bl.trans (hb.mono hJ4.out.bl.size)).trans hb3⟩⟩, by simp only [lenV]; omega⟩
            · have hje : j = q - k := by omega
              have hown := hJ4.out.own
              rw [show k + j = q by omega, hje] at hown
              have HO := Lib.hid hown
              have HBL := Lib.hid hJ4.out.bl
              have hjq2 : k + j = q := by omega
              clear hown hJ4 hje
              rw [hjq2]
              clear hjq2
              go_wp2
              go_ret
              exact ⟨_, _, _, rfl, HO.out, HBL.out⟩
    · have hk2 : k < n := by omega
      obtain ⟨b, off, cap', hv, hlt, hcl⟩ := HX.out.at (fun e => by have := HN.out; rw [e, List.length_nil] at this; omega)
      have hkl : k < l.length := by rw [← HN.out]; exact hk2
      have hc1 := hcl k hkl
      injection hv with hv1 hv2 hv3
      subst hv1 hv3
      have hsn := leaf_snoc hkl
      have hs8 := HSZ.out k
      obtain ⟨s, hsv⟩ : ∃ s, s = l.getD k ⟨#[]⟩ := ⟨_, rfl⟩
      rw [← hsv] at hc1 hsn hs8
      have hc : wr.cell? ⟨b, off + k, none⟩ = some (.string s) := (hJ.out.bl.cell (p := ⟨b, off + k, none⟩) hlt).trans hc1
      have HLS := Lib.hid (fun W => HL.out s (by omega) W)
      obtain ⟨ls, hls⟩ : ∃ ls, ls = sA (leafD (by' s)) := ⟨_, rfl⟩
      rw [← hls] at HLS hsn
      have HSN := Lib.hid hsn
      clear hcl hc1 hsv hls hsn hkl hv2 hlt HI0
      go_wp2_with (go_at_call 30; refine (HLS.out _).mono ?_; rintro e wq ⟨rfl, hb⟩; obtain ⟨ao3, n3, cap3, w3, hrun, hown3, hb3⟩ := push_run (owns_later hJ.out.own hb) (by omega) (Nat.le_trans hJ.out.bl.size hb.size) ls; have hn3 := owns_len hown3; subst hn3)
      exact ⟨⟨k + 1, _, _, by omega, by go_num, rfl, Lib.hid ⟨by rw [HSN.out]; exact hown3, (hJ.out.bl.trans (hb.mono hJ.out.bl.size)).trans hb3⟩⟩, by simp [intOf]; omega⟩

end Go.Proofs.Ytkkbjkjmhjgaiaa
