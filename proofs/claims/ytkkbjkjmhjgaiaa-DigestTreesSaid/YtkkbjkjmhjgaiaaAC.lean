/- Contract of the reference: Prove. Conditions: at most 40 strings, of lengths that Go permits. -/
import Derived.Deep.AppendLies
import Derived.Test.YtkkbjkjmhjgaiaaAB
namespace Go.Proofs.Ytkkbjkjmhjgaiaa
open Go.RowKit

theorem Sx.grown {W W' : World} {v : Value} {l : List ByteArray} {row : Option Nat} (h : Sx W v l) (hg : W.grownBy W' row) (hne : ∀ g, row = some g → v.ownBlock ≠ some g) : Sx W' v l := by
  obtain ⟨h2, h3⟩ := h
  refine ⟨h2, ?_⟩
  rcases h3 with h3 | ⟨b, off, cap, hv, hc, hlt, hl⟩
  · exact .inl h3
  · refine .inr ⟨b, off, cap, hv, hc, Nat.lt_of_lt_of_le hlt hg.size, fun j hj => hg.cell (hl j hj) fun e => hne b e.symm (by rw [hv]; rfl)⟩

theorem push_lies {W : World} {B n : Nat} {v : Value} {xs : List ByteArray} (h : W.ownsRow B 9 1 v n (sv xs)) (hn : n ≤ 1000) (hB : B ≤ W.heap.size) (s : ByteArray) :
    ∃ g cap2 w2, Sem.run Try.prog (appX 29 #[v, .slice (some ⟨W.heap.size, 0, none⟩) 1 1]) (W.alloc (.cells #[.string s] 9)) = .ok (.slice (some ⟨g, 0, none⟩) (n + 1) cap2) w2 ∧ w2.ownsRow B 9 1 (.slice (some ⟨g, 0, none⟩) (n + 1) cap2) (n + 1) (sv (xs ++ [s])) ∧ Below B W w2 ∧ (W.alloc (.cells #[.string s] 9)).grownBy w2 v.ownBlock ∧ (v.ownBlock = some g ∨ g = W.heap.size + 1) ∧ g < w2.heap.size := by
  obtain ⟨i0, hii, hz0, hz1, hz2⟩ := info_parts Try.info9
  have hown3 : (W.alloc (.cells #[.string s] 9)).ownsRow B 9 1 v n (sv xs) := owns_kept h (KeptC.of_below ((Below.refl _ _).alloc (Nat.le_refl _) _))
  obtain ⟨g, cap4, w4, hrun4, hown4, hgrow4, hg, hlt⟩ := run_append_lies (P := Try.prog) (w := W.alloc (.cells #[.string s] 9)) 29 29 B 9 i0 (.string ⟨#[]⟩) 1 16 Try.underlying29 hii hz0 hz1 hz2 rfl (by decide) _ n _ hown3 ⟨W.heap.size, 0, none⟩ 1 1 [.string s] rfl (cell_one_new W (.string s) 9) (fun x hx => by simp at hx; subst hx; rfl) (by omega) (by unfold maxLen; omega) (by omega) (by simp; omega) _ (World.size_alloc _ _)
  rw [appX_rw] at hrun4
  exact ⟨g, cap4, w4, hrun4, by rw [sv_append]; exact hown4, (((Below.refl B W).alloc hB _)).grown hgrow4 (by simp; omega) (fun j hj => (hown3.lt j hj).1), hgrow4, hg, hlt⟩

/-- What holds when k levels have come. -/
structure RpI (w : World) (v pv : Value) (L0 : List Dg) (k i : Nat) (wr : World) : Prop where
  sx : Sx wr v ((lvl k L0).map sA)
  bl : Below w.heap.size w wr
  own : wr.ownsRow w.heap.size 9 1 pv k (sv ((proofD k L0 i).map sA))
  ne : ∀ g, pv.ownBlock = some g → v.ownBlock ≠ some g

theorem above_O {w : World} {v : Value} {L0 : List Dg} {m k : Nat} (hX : Sx w v ((lvl k L0).map sA)) (h8 : All8 L0) (hl : L0.length = 2 ^ m) (hm : m ≤ 6) (hk : k < m) :
    Calls Try.prog 39 #[v] w fun e w' => ∃ ao cap, e = .returned (.slice ao (2 ^ (m - (k + 1))) cap) ∧ Sx w' (.slice ao (2 ^ (m - (k + 1))) cap) ((lvl (k + 1) L0).map sA) ∧ Below w.heap.size w w' ∧ ∀ g, (Value.slice ao (2 ^ (m - (k + 1))) cap).ownBlock = some g → w.heap.size ≤ g := by
  have hlen := lvl_len k m L0 hl (by omega)
  have hb : 2 ^ (m - k) ≤ 64 := Nat.le_trans (Nat.pow_le_pow_right (by omega) (show m - k ≤ 6 by omega)) (by decide)
  refine (above_any hX (all8_lvl k L0 h8) (by omega) (by rw [hlen]; exact (pow_big hk).2)).mono fun e w' ⟨ao, n, cap, h1, h2, h3⟩ => ?_
  have hn := owns_len h2
  rw [hlen, pow_half hk] at hn
  subst hn
  exact ⟨ao, cap, h1, by rw [lvl_succ]; exact (Sx.of_sv h2).1, h3, fun g hg => (h2.lt g hg).1⟩

attribute [local go_sem ↓] appX_rw

set_option maxRecDepth 10000 in
set_option maxHeartbeats 1000000 in
theorem rProve_yes {w : World} {v : Value} {l : List ByteArray} (hX : Sx w v l) (hlen : l.length ≤ 40) (hsz : ∀ k, (l.getD k ⟨#[]⟩).size ≤ 1000) {m : Nat} (hm : wid l.length = 2 ^ m) (hm6 : m ≤ 6) {i : Nat} (hi : i < l.length) :
    Calls Try.prog 25 #[v, .int .i64 i] w fun e w' => ∃ ao n cap, e = .returned (.tuple #[.slice ao n cap, .bool true]) ∧ w'.ownsRow w.heap.size 9 1 (.slice ao n cap) m (sv (proofS l m i)) ∧ Below w.heap.size w w' := by
  obtain ⟨ao, cap, rfl⟩ := hX.mk'
  have HLO := Lib.hid (lowest_S hX hlen hsz hm)
  have him : i < 2 ^ m := by rw [← hm]; obtain ⟨m', h1, h2, _⟩ := wid_pow l.length; omega
  unfold proofS
  obtain ⟨L0, hL0⟩ : ∃ L0, L0 = leavesD (l.map by') := ⟨_, rfl⟩
  have hl0 : L0.length = 2 ^ m := by rw [hL0, leavesD_len, List.length_map, hm]
  have h80 : All8 L0 := by rw [hL0]; exact all8_leaves _
  rw [← hL0] at HLO ⊢
  have HAB := Lib.hid (fun W v k (h : Sx W v ((lvl k L0).map sA)) (hk : k < m) => above_O (m := m) h h80 hl0 hm6 hk)
  have HLN : Hid (∀ k, k ≤ m → (lvl k L0).length = 2 ^ (m - k)) := fun k hk => lvl_len k m L0 hl0 hk
  obtain ⟨n, hn⟩ : ∃ n, n = l.length := ⟨_, rfl⟩
  rw [← hn] at hi HLO hlen ⊢
  have HIM := Lib.hid him
  clear hX hsz hm hL0 hl0 h80 hn him
  go_enter Try.func25, Try.ntmps25
  go_wp2_with (go_at_call 38; refine HLO.out.mono ?_; rintro e w1 ⟨ao1, cap1, rfl, hsx, hb⟩)
  have HI0 : Hid (RpI w (.slice ao1 (2 ^ m) cap1) (.slice none 0 0) L0 0 i w1) := Lib.hid ⟨hsx, hb, ⟨rfl, .inl ⟨rfl, rfl⟩⟩, fun g hg => by cases hg⟩
  clear hsx hb
  obtain ⟨M, hM⟩ : ∃ M : Nat, M = 2 ^ m := ⟨_, rfl⟩
  have HM := Lib.hid hM
  rw [← hM] at HI0 ⊢
  clear hM HLO
  go_loopw [1, 6, 7] (fun xv ov pv wr => ∃ (k N x : Nat) (ao2 ao3 : Option Addr) (pc n3 pc3 : Nat), k ≤ m ∧ Hid (N = 2 ^ (m - k)) ∧ Hid (x = i / 2 ^ k) ∧ xv = .int .i64 (x : Nat) ∧ pv = .slice ao2 N pc ∧ ov = .slice ao3 n3 pc3 ∧ Hid (RpI w (.slice ao2 N pc) (.slice ao3 n3 pc3) L0 k i wr)) (fun _ _ pv _ => lenV pv)
  case atStart => exact ⟨0, M, i, _, _, _, _, _, by omega, Lib.hid (by rw [Nat.sub_zero]; exact HM.out), Lib.hid (by rw [Nat.pow_zero, Nat.div_one]), rfl, rfl, rfl, HI0⟩
  case round =>
    obtain ⟨k, N, x, ao2, ao3, pc, n3, pc3, hk, hN, hx, rfl, rfl, rfl, hJ⟩ := hrel
    clear HI0
    by_cases hkm : k = m
    · have hN1 : N = 1 := by rw [hN.out, hkm, Nat.sub_self]
      subst hN1
      have hown := hJ.out.own
      rw [hkm] at hown
      have HO := Lib.hid hown
      have HBL := Lib.hid hJ.out.bl
      clear hown hJ hN hx hkm
      go_wp2
      go_returns
      exact ⟨_, _, _, rfl, HO.out, HBL.out⟩
    · have hk2 : k < m := by omega
      have hN2 : 2 ≤ N := by rw [hN.out]; exact (pow_big hk2).1
      have hN64 : N ≤ 64 := by rw [hN.out]; exact Nat.le_trans (Nat.pow_le_pow_right (by omega) (show m - k ≤ 6 by omega)) (by decide)
      have hxN : x < N := by
        rw [hx.out, hN.out, Nat.div_lt_iff_lt_mul (Nat.two_pow_pos k), ← Nat.pow_add, show m - k + k = m by omega]
        exact HIM.out
      have hnb : nbr x < N := by
        have e : N = 2 ^ (m - (k + 1) + 1) := by rw [hN.out, show m - k = m - (k + 1) + 1 by omega]
        rw [e] at hxN ⊢
        exact nbr_lt hxN
      have hll := HLN.out k hk
      rw [← hN.out] at hll
      obtain ⟨b, off, cap', hv, hlt, hcl⟩ := hJ.out.sx.at (fun e => by have h := congrArg List.length e; rw [List.length_map, hll, List.length_nil] at h; omega)
      rw [List.length_map, hll] at hv hcl
      injection hv with hv1 hv2 hv3
      subst hv1 hv3
      have hc := hcl (nbr x) hnb
      rw [sA_getD (by omega)] at hc
      have hps := proofD_snoc k L0 i
      rw [← hx.out] at hps
      obtain ⟨ds, hds⟩ : ∃ ds, ds = sA ((lvl k L0).getD (nbr x) []) := ⟨_, rfl⟩
      rw [← hds] at hc
      have hps2 : (proofD (k + 1) L0 i).map sA = (proofD k L0 i).map sA ++ [ds] := by rw [hps, List.map_append, hds]; rfl
      have hn3 := owns_len hJ.out.own
      obtain ⟨g, cap4, w3, hrun, hown3, hb3, hgrow, hg, hglt⟩ := push_lies hJ.out.own (by omega) hJ.out.bl.size ds
      rw [← hps2] at hown3
      have hsx3 : Sx w3 (.slice (some ⟨b, off, none⟩) N pc) ((lvl k L0).map sA) := (hJ.out.sx.below ((Below.refl _ _).alloc (Nat.le_refl _) _)).grown hgrow hJ.out.ne
      obtain ⟨N2, hN3⟩ : ∃ N2, N2 = 2 ^ (m - (k + 1)) := ⟨_, rfl⟩
      have hlt2 : N2 < N := by
        have := pow_half hk2
        rw [← hN.out, ← hN3] at this
        omega
      have HA := Lib.hid (HAB.out w3 _ k hsx3 hk2)
      have HN3 := Lib.hid hN3
      rw [← hN3] at HA
      have HO3 := Lib.hid hown3
      have HB3 := Lib.hid (hJ.out.bl.trans hb3)
      have HX2 : Hid (x / 2 = i / 2 ^ (k + 1)) := Lib.hid (by rw [hx.out, Nat.div_div_eq_div_mul, Nat.pow_succ])
      subst hn3
      clear hN3 hps hps2 hds hcl hv2 hlt hll hown3 hb3 hgrow hg hsx3 hnb hxN
      by_cases hx2 : x % 2 = 0
      · rw [show nbr x = x + 1 by unfold nbr; rw [if_pos hx2]] at hc
        have hxn : x + 1 < N := by
          have h1 := (pow_big hk2).2
          rw [← hN.out] at h1
          have h2 : x < N := by
            rw [hx.out, hN.out, Nat.div_lt_iff_lt_mul (Nat.two_pow_pos n3), ← Nat.pow_add, show m - n3 + n3 = m by omega]
            exact HIM.out
          omega
        go_wp2_with (go_at_call 39; refine HA.out.mono ?_; rintro e w4 ⟨ao5, cap5, rfl, hsx5, hb5, hge⟩)
        exact ⟨⟨n3 + 1, N2, x / 2, _, _, _, _, _, by omega, HN3, HX2, by go_num, rfl, rfl, Lib.hid ⟨hsx5, HB3.out.trans (hb5.mono HB3.out.size), owns_later HO3.out hb5, fun q hq hq2 => by
          have h1 := hge q hq2
          simp only [Value.ownBlock, Option.some.injEq] at hq
          omega⟩⟩, by simp only [lenV]; omega⟩
      · rw [show nbr x = x - 1 by unfold nbr; rw [if_neg hx2]] at hc
        have hxn : x < N := by
          rw [hx.out, hN.out, Nat.div_lt_iff_lt_mul (Nat.two_pow_pos n3), ← Nat.pow_add, show m - n3 + n3 = m by omega]
          exact HIM.out
        go_wp2_with (go_at_call 39; refine HA.out.mono ?_; rintro e w4 ⟨ao5, cap5, rfl, hsx5, hb5, hge⟩)
        exact ⟨⟨n3 + 1, N2, x / 2, _, _, _, _, _, by omega, HN3, HX2, by go_num, rfl, rfl, Lib.hid ⟨hsx5, HB3.out.trans (hb5.mono HB3.out.size), owns_later HO3.out hb5, fun q hq hq2 => by
          have h1 := hge q hq2
          simp only [Value.ownBlock, Option.some.injEq] at hq
          omega⟩⟩, by simp only [lenV]; omega⟩

end Go.Proofs.Ytkkbjkjmhjgaiaa
