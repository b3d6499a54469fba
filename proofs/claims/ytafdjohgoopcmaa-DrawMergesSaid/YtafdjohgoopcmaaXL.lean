/- Slices of choices that grow; contracts: Mod, choices, cut, numbers. -/
import Derived.Test.YtafdjohgoopcmaaXK
namespace Go.Proofs.Ytafdjohgoopcmaa
open Go.RowKit

theorem Try.info32 : (Try.prog.info? 32).map (fun i => (i.zero, i.size, i.bytes)) = some (some (.agg #[.int .i64 0, .int .i64 0, .int .i64 0]), 3, 24) := by kernel_rfl

/-- Choices as cells. -/
def chs (l : List Ch) : List Value := (l.map fun c => [Value.int .i64 c.1, Value.int .i64 c.2.1, Value.int .i64 c.2.2]).flatten
theorem chs_append (a b : List Ch) : chs (a ++ b) = chs a ++ chs b := by simp [chs]
theorem chs_len (l : List Ch) : (chs l).length = l.length * 3 := by
  induction l with
  | nil => rfl
  | cons c l ih => simp only [chs, List.map_cons, List.flatten_cons, List.length_append, List.length_cons, List.length_nil] at *; omega
theorem chs_get : ∀ (l : List Ch) (j : Nat), j < l.length → (chs l)[j * 3]? = some (.int .i64 (l.getD j (0, 0, 0)).1) ∧ (chs l)[j * 3 + 1]? = some (.int .i64 (l.getD j (0, 0, 0)).2.1) ∧ (chs l)[j * 3 + 2]? = some (.int .i64 (l.getD j (0, 0, 0)).2.2)
  | [], j, h => absurd h (by simp)
  | c :: l, 0, _ => ⟨rfl, rfl, rfl⟩
  | c :: l, j + 1, h => by
    have ih := chs_get l j (by simpa using h)
    have e : chs (c :: l) = [Value.int .i64 c.1, Value.int .i64 c.2.1, Value.int .i64 c.2.2] ++ chs l := rfl
    rw [e, List.getD_cons_succ]
    refine ⟨?_, ?_, ?_⟩
    · rw [List.getElem?_append_right (by simp; omega), show (j + 1) * 3 - [Value.int .i64 c.1, Value.int .i64 c.2.1, Value.int .i64 c.2.2].length = j * 3 by simp; omega]; exact ih.1
    · rw [List.getElem?_append_right (by simp; omega), show (j + 1) * 3 + 1 - [Value.int .i64 c.1, Value.int .i64 c.2.1, Value.int .i64 c.2.2].length = j * 3 + 1 by simp; omega]; exact ih.2.1
    · rw [List.getElem?_append_right (by simp; omega), show (j + 1) * 3 + 2 - [Value.int .i64 c.1, Value.int .i64 c.2.1, Value.int .i64 c.2.2].length = j * 3 + 2 by simp; omega]; exact ih.2.2

/-- A slice of choices of the call's own. -/
abbrev OwC (W : World) (B : Nat) (v : Value) (n : Nat) (l : List Ch) : Prop := W.ownsRow B 32 3 v n (chs l)

theorem owC_len {W : World} {B n : Nat} {v : Value} {l : List Ch} (h : OwC W B v n l) : n = l.length := by
  have := h.1
  rw [chs_len] at this
  omega

theorem OwC.cx {W : World} {B n : Nat} {v : Value} {l : List Ch} (h : OwC W B v n l) (hn : n ≤ 1000) (hf : ∀ k, I64 (l.getD k (0, 0, 0)).1) : Cx W v l := by
  have hl := owC_len h
  rcases h.2 with ⟨hv, h0⟩ | ⟨g, cap, cur, hv, hB, hg, hc, hm, hs, ht⟩
  · have e : l = [] := List.eq_nil_of_length_eq_zero (by omega)
    subst e h0
    exact ⟨by simp, hf, .inl ⟨rfl, _, _, hv⟩⟩
  · subst hl
    refine ⟨by unfold maxLen; omega, hf, .inr ⟨g, 0, cap, hv, hc, (Array.getElem?_eq_some_iff.1 hg).1, fun j hj => ?_⟩⟩
    have hcl : ∀ i, i < l.length * 3 → W.cell? ⟨g, 0 + i, none⟩ = (chs l)[i]? := fun i hi => by
      have e : (cur.toList.take (l.length * 3))[i]? = (chs l)[i]? := by rw [ht]
      rw [List.getElem?_take_of_lt hi] at e
      rw [cell_of_row _ _ _ _ _ _ hg, Nat.zero_add, ← Array.getElem?_toList, e]
    obtain ⟨g1, g2, g3⟩ := chs_get l j hj
    refine ⟨?_, ?_, ?_⟩
    · rw [hcl (j * 3) (by omega)]; exact g1
    · rw [show 0 + j * 3 + 1 = 0 + (j * 3 + 1) by omega, hcl (j * 3 + 1) (by omega)]; exact g2
    · rw [show 0 + j * 3 + 2 = 0 + (j * 3 + 2) by omega, hcl (j * 3 + 2) (by omega)]; exact g3

def appC (ty : TypeId) (vs : Array Value) : Sem Value := Builtin.append_ #[29, 29] ty vs
theorem appC_rw (ty : TypeId) (vs : Array Value) : Builtin.append_ #[29, 29] ty vs = appC ty vs := rfl

/-- An append of one choice. -/
theorem push_choice {W : World} {B n : Nat} {v : Value} {l : List Ch} (h : OwC W B v n l) (hn : n ≤ 1000) (hB : B ≤ W.heap.size) (x y z : Int) :
    ∃ ao cap2 w2, Sem.run Try.prog (appC 29 #[v, .slice (some ⟨W.heap.size, 0, none⟩) 1 1]) (W.alloc (.cells #[.int .i64 x, .int .i64 y, .int .i64 z] 32)) = .ok (.slice ao (n + 1) cap2) w2 ∧ OwC w2 B (.slice ao (n + 1) cap2) (n + 1) (l ++ [(x, y, z)]) ∧ Below B W w2 := by
  obtain ⟨i0, hii, hz0, hz1, hz2⟩ := info_parts Try.info32
  have hown3 : (W.alloc (.cells #[.int .i64 x, .int .i64 y, .int .i64 z] 32)).ownsRow B 32 3 v n (chs l) := owns_later h ((Below.refl _ _).alloc (Nat.le_refl _) _)
  obtain ⟨v4, w4, hrun4, hown4, hgrow4, _⟩ := run_append_own (P := Try.prog) (w := W.alloc (.cells #[.int .i64 x, .int .i64 y, .int .i64 z] 32)) B 29 29 32 i0 (.agg #[.int .i64 0, .int .i64 0, .int .i64 0]) 3 24 Try.underlying29 hii hz0 hz1 hz2 rfl (by decide) _ n _ hown3 ⟨W.heap.size, 0, none⟩ 1 1 [.int .i64 x, .int .i64 y, .int .i64 z] rfl
    (fun j u hu => by
      rw [add_none, Nat.zero_add, cell_of_row _ _ _ _ _ _ (heap_alloc_new _ _)]
      rw [← hu, ← Array.getElem?_toList])
    (fun u hu => by simp at hu; rcases hu with rfl | rfl | rfl <;> rfl) (by unfold maxLen; omega) (by omega) (by simp; omega)
  rw [appC_rw] at hrun4
  obtain ⟨ao4, cap4, rfl⟩ := slice_of_owns hown4
  exact ⟨ao4, cap4, w4, hrun4, by rw [OwC, chs_append]; exact hown4, (((Below.refl B W).alloc hB _)).grown hgrow4 (by simp; omega) (fun j hj => (hown3.lt j hj).1)⟩

theorem mod_arith (n : Int) (m : Nat) (h1 : 1 ≤ m) (h2 : m ≤ 1000) : (wrap64 (n.tmod m + m)).tmod m = n % m := by
  have hw : ∀ r : Int, -1000 ≤ r → r ≤ 2000 → wrap64 r = r := fun r _ _ => by simp only [wrap64]; omega
  rcases Int.le_total 0 n with h | h
  · rw [Int.tmod_eq_emod_of_nonneg h]
    have a1 := Int.emod_nonneg n (show (m : Int) ≠ 0 by omega)
    have a2 := Int.emod_lt_of_pos n (show (0 : Int) < m by omega)
    rw [hw _ (by omega) (by omega), Int.tmod_eq_emod_of_nonneg (by omega), Int.add_emod_right, Int.emod_emod_of_dvd _ (Int.dvd_refl _)]
  · have e : n.tmod m = -((-n) % m) := by
      rw [← Int.tmod_eq_emod_of_nonneg (by omega), Int.neg_tmod, Int.neg_neg]
    have a1 := Int.emod_nonneg (-n) (show (m : Int) ≠ 0 by omega)
    have a2 := Int.emod_lt_of_pos (-n) (show (0 : Int) < m by omega)
    rw [e, hw _ (by omega) (by omega), Int.tmod_eq_emod_of_nonneg (by omega)]
    refine Int.emod_eq_emod_iff_emod_sub_eq_zero.2 ?_
    have a3 := Int.mul_ediv_add_emod (-n) m
    refine Int.emod_eq_zero_of_dvd ⟨1 + (-n) / m, ?_⟩
    rw [Int.mul_add, Int.mul_one]
    omega

set_option maxRecDepth 10000 in
set_option maxHeartbeats 1000000 in
theorem mod_any (n : Int) (hn : I64 n) (m : Nat) (hm1 : 1 ≤ m) (hm : m ≤ 1000) (w : World) : Calls Try.prog 10 #[.int .i64 n, .int .i64 m] w fun e w' => e = .returned (.int .i64 (n % m)) ∧ w' = w := by
  have ha := mod_arith n m hm1 hm
  have HA := Lib.hid ha
  clear ha
  go_enter Try.func10, Try.ntmps10
  go_wp2
  go_ret
  exact ⟨congrArg (fun z => Ending.returned (Value.int IntKind.i64 z)) HA.out, rfl⟩

/-- The choices with some weights. -/
def withW (l : List Int) (k : Nat) : List Ch := (List.range k).map fun i => (l.getD i 0, 0, (i : Int))
theorem withW_len (l : List Int) (k : Nat) : (withW l k).length = k := by simp [withW]
theorem withW_succ (l : List Int) (k : Nat) : withW l (k + 1) = withW l k ++ [(l.getD k 0, 0, (k : Int))] := by
  simp [withW, List.range_succ]

attribute [local go_sem ↓] appC_rw

set_option maxRecDepth 10000 in
set_option maxHeartbeats 2000000 in
theorem choices_any {w : World} {v : Value} {l : List Int} (h : Ix w v l) (hn : l.length ≤ 100) :
    Calls Try.prog 22 #[v] w fun e w' => ∃ ao cap, e = .returned (.slice ao l.length cap) ∧ OwC w' w.heap.size (.slice ao l.length cap) l.length (withW l l.length) ∧ Below w.heap.size w w' := by
  obtain ⟨ao, cap, rfl⟩ := h.mk'
  obtain ⟨n, hnn⟩ : ∃ n, n = l.length := ⟨_, rfl⟩
  have HN := Lib.hid hnn
  have HX := Lib.hid h
  rw [← hnn]
  rw [← hnn] at hn HX
  clear h hnn
  go_enter Try.func22, Try.ntmps22
  go_wp2
  go_loopw [3, 4, 7] (fun cv _ kv wr => ∃ (k : Nat) (ao2 : Option Addr) (cap2 : Nat), k ≤ n ∧ kv = .int .i64 (k : Nat) ∧ cv = .slice ao2 k cap2 ∧ Hid (OwC wr w.heap.size (.slice ao2 k cap2) k (withW l k)) ∧ Hid (Below w.heap.size w wr)) (fun _ _ kv _ => n - (intOf kv).toNat)
  case atStart => exact ⟨0, none, 0, by omega, rfl, rfl, Lib.hid (World.ownsRow_nil _ _ _ _), Lib.hid (Below.refl _ _)⟩
  case round =>
    obtain ⟨k, ao2, cap2, hk, rfl, rfl, hO, hB⟩ := hrel
    by_cases hkn : k = n
    · subst hkn
      go_wp2
      go_ret
      exact ⟨_, _, rfl, hO.out, hB.out⟩
    · have hlt : k < n := by omega
      obtain ⟨b, off, rfl, hq, hcap, hbl, hcl⟩ := HX.out.at (by omega)
      have hc := cell_later hB.out (hcl k hlt)
      obtain ⟨ao3, cap3, w3, hrun, hown, hb⟩ := push_choice hO.out (by omega) hB.out.size (l.getD k 0) 0 (k : Int)
      rw [← withW_succ] at hown
      have HO := Lib.hid hown
      have HB := Lib.hid (hB.out.trans hb)
      obtain ⟨x, hx⟩ : ∃ x, x = l.getD k 0 := ⟨_, rfl⟩
      rw [← hx] at hc hrun
      clear hx hcl hq hown hb hO
      go_wp2
      go_roundw
      case rel => exact ⟨k + 1, ao3, cap3, by omega, by go_num, rfl, HO, HB⟩
      case measure => simp [intOf]; omega

end Go.Proofs.Ytafdjohgoopcmaa
