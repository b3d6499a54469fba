/- Contracts: pick, cut, Mod, goes. -/
import Derived.Test.YtjlneggfkpjnpaaK
namespace Go.Proofs.Ytjlneggfkpjnpaa
open Go.RowKit

/-- A struct that is the one result. -/
theorem results_cell28 {fn : Func} {t g : Nat} {tmps : Array Value} {w : World} {x y z : Value} (h : fn.results = #[.cell t 28]) (hp : tmps.getD t undef = .pointer (some ⟨g, 0, none⟩)) (hg : w.heap[g]? = some (.cells #[x, y, z] 28 (0, 0))) :
    (results fn tmps).run Try.prog w = .ok (.agg #[x, y, z]) w := by
  have h1 := run_loadVar_row (P := Try.prog) w g 28 28 #[x, y, z] (0, 0) _ hg Try.underlying28 rfl (by kernel_rfl)
  have hp' : tmps[t]?.getD undef = .pointer (some ⟨g, 0, none⟩) := by simpa [Array.getD_eq_getD_getElem?] using hp
  simp [results, h, hp', h1, asAddr]

set_option maxRecDepth 10000 in
set_option maxHeartbeats 1000000 in
theorem pick_any (x y z : Int) (W : World) : Calls Try.prog 17 #[.int .i64 x, .int .i64 y, .int .i64 z] W fun e w' => e = .returned (.agg #[.int .i64 x, .int .i64 y, .int .i64 z]) ∧ Below W.heap.size W w' := by
  go_enter Try.func17, Try.ntmps17
  go_wp2
  exact bodyPost_ret (results_cell28 (t := 6) rfl rfl (heap_alloc_new _ _)) rfl ⟨rfl, by go_grown⟩

theorem mod_arith (n : Int) (m : Nat) (h1 : 1 ≤ m) (h2 : m ≤ 1000) : (wrap64 (n.tmod m + m)).tmod m = n % m := by
  have hw : ∀ r : Int, -1000 ≤ r → r ≤ 2000 → wrap64 r = r := fun r _ _ => by simp only [wrap64]; omega
  rcases Int.le_total 0 n with h | h
  · rw [Int.tmod_eq_emod_of_nonneg h]
    have a1 := Int.emod_nonneg n (show (m : Int) ≠ 0 by omega)
    have a2 := Int.emod_lt_of_pos n (show (0 : Int) < m by omega)
    rw [hw _ (by omega) (by omega), Int.tmod_eq_emod_of_nonneg (by omega), Int.add_emod_right, Int.emod_emod_of_dvd _ (Int.dvd_refl _)]
  · have e : n.tmod m = -((-n) % m) := by
      rw [← Int.tmod_eq_emod_of_nonneg (by omega), Int.neg_tmod, Int.neg_neg]
    have a1 := Int.emod_nonneg (-n) (show (m : Int) ≠ 0 by omega)
    have a2 := Int.emod_lt_of_pos (-n) (show (0 : Int) < m by omega)
    rw [e, hw _ (by omega) (by omega), Int.tmod_eq_emod_of_nonneg (by omega)]
    refine Int.emod_eq_emod_iff_emod_sub_eq_zero.2 ?_
    have a3 := Int.mul_ediv_add_emod (-n) m
    refine Int.emod_eq_zero_of_dvd ⟨1 + (-n) / m, ?_⟩
    rw [Int.mul_add, Int.mul_one]
    omega

set_option maxRecDepth 10000 in
set_option maxHeartbeats 1000000 in
theorem mod_any (n : Int) (hn : I64 n) (m : Nat) (hm1 : 1 ≤ m) (hm : m ≤ 1000) (w : World) : Calls Try.prog 11 #[.int .i64 n, .int .i64 m] w fun e w' => e = .returned (.int .i64 (n % m)) ∧ w' = w := by
  have ha := mod_arith n m hm1 hm
  have HA := Lib.hid ha
  have hm0 : ¬ (m : Int) < 1 := by omega
  clear ha
  go_enter Try.func11, Try.ntmps11
  go_wp2
  go_ret
  exact ⟨congrArg (fun z => Ending.returned (Value.int IntKind.i64 z)) HA.out, rfl⟩

theorem Ix.take {w : World} {ao : Option Addr} {n cap : Nat} {l : List Int} (h : Ix w (.slice ao n cap) l) (m : Nat) (hm : m ≤ n) : Ix w (.slice ao m cap) (l.take m) := by
  have hfit : ∀ k, I64 ((l.take m).getD k 0) := fun k => by
    by_cases hk : k < m
    · have := h.fit k
      simpa [List.getD, List.getElem?_take, hk] using this
    · have : (l.take m).getD k 0 = 0 := by simp [List.getD, List.getElem?_take, hk]
      rw [this]
      exact ⟨by decide, by decide⟩
  have hlen := h.len
  rcases h.is with ⟨rfl, ao2, cap2, e⟩ | ⟨b, off, cap2, e, h1, h2, h3⟩
  · injection e with e1 e2 e3
    subst e2
    obtain rfl : m = 0 := by omega
    exact ⟨by simp, hfit, .inl ⟨rfl, _, _, rfl⟩⟩
  · injection e with e1 e2 e3
    subst e1 e2 e3
    have hl : (l.take m).length = m := by rw [List.length_take]; omega
    refine ⟨by rw [hl]; omega, hfit, .inr ⟨b, off, cap, by rw [hl], by rw [hl]; omega, h2, fun j hj => ?_⟩⟩
    rw [hl] at hj
    have := h3 j (by omega)
    have e : (l.take m).getD j 0 = l.getD j 0 := by simp [List.getD, List.getElem?_take, hj]
    rw [e]
    exact this

set_option maxRecDepth 10000 in
set_option maxHeartbeats 1000000 in
theorem cut_any {w : World} {v : Value} {l : List Int} (h : Ix w v l) : Calls Try.prog 10 #[v] w fun e w' => ∃ ao n cap, e = .returned (.slice ao n cap) ∧ Ix w (.slice ao n cap) (l.take 8) ∧ w' = w := by
  obtain ⟨ao, cap, rfl⟩ := h.mk'
  have hlen := h.len
  unfold maxLen at hlen
  have hT := h.take (min l.length 8) (by omega)
  have e2 : l.take (min l.length 8) = l.take 8 := by
    rcases Nat.le_total l.length 8 with h | h
    · rw [Nat.min_eq_left h, List.take_length, List.take_of_length_le h]
    · rw [Nat.min_eq_right h]
  rw [e2] at hT
  have HT := Lib.hid hT
  have HX := Lib.hid h
  obtain ⟨n, hn⟩ : ∃ n, n = l.length := ⟨_, rfl⟩
  have HN := Lib.hid hn
  rw [← hn] at hlen HT HX ⊢
  have hcp : Hid (n ≤ cap ∨ n = 0) := by
    rcases h.is with ⟨rfl, ao2, cap2, e⟩ | ⟨b, off, cap2, e, h1, h2, h3⟩
    · exact Lib.hid (.inr (by simpa using hn))
    · injection e with e1 e2 e3
      subst e3
      exact Lib.hid (.inl (by omega))
  clear hT h hn e2
  have e3 : (min (n : Int) 8).toNat = min n 8 := by omega
  by_cases h0 : n = 0
  · subst h0
    go_enter Try.func10, Try.ntmps10
    go_wp2
    go_ret
    exact ⟨_, _, _, rfl, HT.out, rfl⟩
  · have hc2 : n ≤ cap := by rcases hcp.out with h | h <;> omega
    obtain ⟨b, off, rfl, hq, hq2, hbl, hcl⟩ := HX.out.at h0
    clear hcl hq hbl
    rcases Nat.lt_or_ge 8 n with h8 | h8
    · rw [Nat.min_eq_right (by omega)] at HT
      have e4 : (8 : Int) < (n : Int) := by omega
      clear e3
      go_enter Try.func10, Try.ntmps10
      go_wp2
      all_goals first | (exfalso; omega) | (go_ret; exact ⟨_, _, _, rfl, HT.out, rfl⟩)
    · rw [Nat.min_eq_left (by omega)] at HT
      have e4 : ¬ (8 : Int) < (n : Int) := by omega
      clear e3
      go_enter Try.func10, Try.ntmps10
      go_wp2
      all_goals first | (exfalso; omega) | (go_ret; exact ⟨_, _, _, rfl, HT.out, rfl⟩)

theorem nextV_len {r s row : List Int} {c : Ch} (lr : r.length ≤ 8) : (nextV r s row c).length ≤ 8 := by
  unfold nextV nextOk
  by_cases hc : c ∈ chV r s row
  · rw [decide_eq_true hc, if_pos rfl]
    obtain ⟨x, y, z⟩ := c
    obtain ⟨_, _, _, hlen, _⟩ := ch_facts hc
    split
    · simp
    · show (lessV (blockV r row y) z).length ≤ 8
      unfold lessV
      rw [List.length_set]; omega
  · rw [decide_eq_false hc]; simp

theorem nextV_in {r s row : List Int} {c : Ch} : inB 0 1048576 (nextV r s row c) = true := by
  unfold nextV nextOk
  by_cases hc : c ∈ chV r s row
  · rw [decide_eq_true hc, if_pos rfl]
    obtain ⟨x, y, z⟩ := c
    obtain ⟨_, _, hin, hlen, k, hk, rfl, h1, _⟩ := ch_facts hc
    split
    · rfl
    · have hk2 : k < (blockV r row y).length := by rw [hlen]; exact hk
      exact less_in hin hk2 h1
  · rw [decide_eq_false hc]; rfl

theorem OwI.nx {W : World} {B n : Nat} {v : Value} {r s row : List Int} {c : Ch} (h : OwI W B v n (nextV r s row c)) (lr : r.length ≤ 8) : Ix W v (nextV r s row c) :=
  h.ix (by have := owI_len h; have := nextV_len (s := s) (row := row) (c := c) lr; omega) (fit_in nextV_in)

set_option maxRecDepth 10000 in
set_option maxHeartbeats 2000000 in
theorem goes_any {W : World} {ar az aw : Option Addr} {nr cr ns cs nw cw : Nat} {r s row want : List Int} {vt : Value} (hr : Ix W (.slice ar nr cr) r) (hs : Ix W (.slice az ns cs) s) (hw : Ix W (.slice aw nw cw) row) (ht : Ix W vt want) (lr : r.length ≤ 8) (ls : s.length ≤ 8) (lw : row.length ≤ 8) (x y z : Int) :
    Calls Try.prog 27 #[.agg #[.int .i64 0, .slice ar nr cr, .slice az ns cs, .int .i64 0, .int .i64 0, .int .i64 0], .slice aw nw cw, .agg #[.int .i64 x, .int .i64 y, .int .i64 z], vt] W fun e w' => e = .returned (.bool (nextOk r s row (x, y, z) && decide (nextV r s row (x, y, z) = want))) ∧ Below W.heap.size W w' := by
  have HB0 := Lib.hid (nbox_below W (.slice ar nr cr) (.slice az ns cs) x y z)
  have HN := Lib.hid (next_any (hr.below HB0.out) (hs.below HB0.out) (hw.below HB0.out) lr ls lw x y z)
  have HS := Lib.hid (fun W' v (B n : Nat) (hb : Below W.heap.size W W') (h : OwI W' B v n (nextV r s row (x, y, z))) => sameInts_any (h.nx lr) (ht.below hb))
  obtain ⟨p, hp⟩ : ∃ p, p = nextOk r s row (x, y, z) := ⟨_, rfl⟩
  obtain ⟨q, hq⟩ : ∃ q, q = decide (nextV r s row (x, y, z) = want) := ⟨_, rfl⟩
  rw [← hp] at HN ⊢
  rw [← hq] at HS ⊢
  clear hr hs hw ht lr ls lw hp hq
  cases p
  all_goals
    go_enter Try.func27, Try.ntmps27
    go_wp2_with (first
      | (go_at_call 18; (with_reducible refine HN.out.mono ?_); rintro e w1 ⟨ao, n, cap, rfl, ho, hb⟩; have HO := Lib.hid ho; have HB := Lib.hid (HB0.out.trans (hb.mono HB0.out.size)); clear ho hb)
      | (go_at_call 20; (with_reducible refine (HS.out _ _ _ _ HB.out HO.out).mono ?_); rintro e w2 ⟨rfl, hb⟩; have HB2 := Lib.hid (HB.out.trans (hb.mono HB.out.size)); clear hb))
    go_ret
    first | exact ⟨rfl, HB2.out⟩ | exact ⟨rfl, HB.out⟩ | exact ⟨by simp, HB2.out⟩ | exact ⟨by simp, HB.out⟩

end Go.Proofs.Ytjlneggfkpjnpaa
