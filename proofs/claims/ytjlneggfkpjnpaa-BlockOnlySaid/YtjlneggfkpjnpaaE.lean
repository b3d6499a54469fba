/- Contracts: slices.Index and Contains of choices; Clone and before; ints of one's own that are written. -/
import Derived.Test.YtjlneggfkpjnpaaD
import Derived.Laws.StructEq
import Derived.Laws.Rows
namespace Go.Proofs.Ytjlneggfkpjnpaa
open Go.RowKit

def eqC (a b c x y z : Int) : Bool := a == x && (b == y && c == z)
theorem eqC_iff (c d : Ch) : eqC c.1 c.2.1 c.2.2 d.1 d.2.1 d.2.2 = decide (c = d) := by
  obtain ⟨a, b, c⟩ := c
  obtain ⟨x, y, z⟩ := d
  unfold eqC
  rw [Bool.eq_iff_iff]
  simp

theorem equal28 (a b c x y z : Int) (w : World) :
    (Op.equalIn 10000 28 (.agg #[.int .i64 a, .int .i64 b, .int .i64 c]) (.agg #[.int .i64 x, .int .i64 y, .int .i64 z])).run Try.prog w = .ok (eqC a b c x y z) w := by
  rw [run_equalIn_agg (P := Try.prog) w 9999 28 _ _ (by kernel_rfl) (by kernel_rfl)]
  have e : ∀ p q : Int, ∀ w, (Op.equalIn 9999 3 (.int .i64 p) (.int .i64 q)).run Try.prog w = .ok (p == q) w := fun p q w => run_equalIn_int w 9998 3 .i64 .i64 p q Try.underlying3
  have hp : ∀ (xs : Array Value) (i : Nat) (v : Int) (w : World), xs[i]? = some (.int .i64 v) → (part 3 xs i).run Try.prog w = .ok (.int .i64 v) w := fun xs i v w h => by
    simp [part, isAgg, run_underlying Try.underlying3, h]
  have hf : (Try.prog.fieldsOf 28).toList.map (fun f => (f.name ≠ "_", f.type, f.offset)) = [(True, 3, 0), (True, 3, 1), (True, 3, 2)] := by
    have : (Try.prog.fieldsOf 28).toList.map (fun f => (f.name, f.type, f.offset)) = [("Weight", 3, 0), ("Size", 3, 1), ("Arm", 3, 2)] := by kernel_rfl
    have h2 := congrArg (List.map fun (q : String × Nat × Nat) => (q.1 ≠ "_", q.2.1, q.2.2)) this
    simpa [List.map_map, Function.comp_def] using h2
  have h3 : (Try.prog.fieldsOf 28).toList.length = 3 := by
    have := congrArg List.length hf
    simpa using this
  revert hf h3
  generalize (Try.prog.fieldsOf 28).toList = fs
  intro hf h3
  match fs, h3, hf with
  | [f0, f1, f2], _, hf =>
    simp only [List.map_cons, List.map_nil, List.cons.injEq, Prod.mk.injEq, and_true, eq_iff_iff, iff_true] at hf
    obtain ⟨⟨n0, t0, o0⟩, ⟨n1, t1, o1⟩, ⟨n2, t2, o2⟩⟩ := hf
    have a0 := fun w => hp #[.int .i64 a, .int .i64 b, .int .i64 c] 0 a w rfl
    have a1 := fun w => hp #[.int .i64 a, .int .i64 b, .int .i64 c] 1 b w rfl
    have a2 := fun w => hp #[.int .i64 a, .int .i64 b, .int .i64 c] 2 c w rfl
    have x0 := fun w => hp #[.int .i64 x, .int .i64 y, .int .i64 z] 0 x w rfl
    have x1 := fun w => hp #[.int .i64 x, .int .i64 y, .int .i64 z] 1 y w rfl
    have x2 := fun w => hp #[.int .i64 x, .int .i64 y, .int .i64 z] 2 z w rfl
    unfold eqC
    simp only [Op.eqFields, n0, n1, n2, t0, t1, t2, o0, o1, o2, if_true, Sem.run_bind, a0, x0, a1, x1, a2, x2, e, Result.andThen_ok, Sem.run_ite, Sem.run_pure, ne_eq, not_false_eq_true]
    cases (a == x) <;> cases (b == y) <;> cases (c == z) <;> simp

theorem getD_mem {l : List Ch} {k : Nat} (h : k < l.length) : l.getD k (0, 0, 0) ∈ l := by
  have : l.getD k (0, 0, 0) = l[k] := by simp [List.getD, h]
  rw [this]; exact List.getElem_mem h
theorem mem_getD {l : List Ch} {c : Ch} (h : c ∈ l) : ∃ k, k < l.length ∧ l.getD k (0, 0, 0) = c := by
  obtain ⟨k, hk, rfl⟩ := List.getElem_of_mem h
  exact ⟨k, hk, by simp [List.getD, hk]⟩

abbrev cbox (W : World) (c : Ch) : World := W.alloc (.cells #[.int .i64 c.1, .int .i64 c.2.1, .int .i64 c.2.2] 28)
theorem cbox_is (W : World) (c : Ch) : CBox (cbox W c) W.heap.size c := heap_alloc_new _ _
theorem cbox_below (W : World) (c : Ch) : Below W.heap.size W (cbox W c) := (Below.refl _ _).alloc (Nat.le_refl _) _

attribute [local go_sem ↓] equal28

set_option maxRecDepth 10000 in
set_option maxHeartbeats 2000000 in
theorem index_any {W : World} {v : Value} {l : List Ch} (hX : Cx W v l) (x y z : Int) :
    Calls Try.prog 45 #[v, .agg #[.int .i64 x, .int .i64 y, .int .i64 z]] W fun e w' => ∃ i : Int, e = .returned (.int .i64 i) ∧ decide (0 ≤ i) = decide ((x, y, z) ∈ l) ∧ Below W.heap.size W w' := by
  obtain ⟨ao, cap, rfl⟩ := hX.mk'
  have hlen := hX.len
  unfold maxLen at hlen
  have HB0 := Lib.hid (cbox_below W (x, y, z))
  have HC0 := Lib.hid (cbox_is W (x, y, z))
  obtain ⟨n, hn⟩ : ∃ n, n = l.length := ⟨_, rfl⟩
  have HN := Lib.hid hn
  have HX := Lib.hid hX
  rw [← hn] at hlen HX ⊢
  clear hX hn
  go_enter Try.func45, Try.ntmps45
  go_wp2
  go_loopw [5, 8] (fun _ kv wr => ∃ k : Nat, k ≤ n ∧ kv = .int .i64 (k : Nat) ∧ Hid (∀ j, j < k → l.getD j (0, 0, 0) ≠ (x, y, z)) ∧ Hid (Below (cbox W (x, y, z)).heap.size (cbox W (x, y, z)) wr)) (fun _ kv _ => n - (intOf kv).toNat)
  case atStart => exact ⟨0, by omega, rfl, Lib.hid (fun j h => by omega), Lib.hid (Below.refl _ _)⟩
  case round =>
    obtain ⟨k, hk, rfl, hJ, hB⟩ := hrel
    have HBW : Hid (Below W.heap.size W wr) := Lib.hid (HB0.out.trans (hB.out.mono (by simp)))
    by_cases hkn : k = n
    · have E : Hid (decide ((0 : Int) ≤ -1) = decide ((x, y, z) ∈ l)) := Lib.hid (by
        rw [decide_eq_decide]
        constructor
        · intro h; omega
        · intro h
          obtain ⟨j, h1, h2⟩ := mem_getD h
          exact absurd h2 (hJ.out j (by rw [hkn, HN.out]; exact h1)))
      subst hkn
      clear hJ
      go_wp2
      go_ret
      exact ⟨_, rfl, E.out, HBW.out⟩
    · have hlt : k < n := by omega
      obtain ⟨b, off, rfl, hcap, hbl, hcl⟩ := HX.out.at (by omega)
      obtain ⟨c0, c1, c2⟩ := hcl k hlt
      have c0 := cell_later HBW.out c0
      have c1 := cell_later HBW.out c1
      have c2 := cell_later HBW.out c2
      obtain ⟨d0, d1, d2⟩ := (HC0.out.below hB.out).cells
      have hq := eqC_iff (x, y, z) (l.getD k (0, 0, 0))
      have hmem := getD_mem (l := l) (k := k) (by rw [← HN.out]; exact hlt)
      have HBD := Lib.hid hB.out.drew
      by_cases he : l.getD k (0, 0, 0) = (x, y, z)
      · rw [he] at c0 c1 c2 hq hmem
        simp only [decide_true] at hq
        have E : Hid (decide ((0 : Int) ≤ (k : Int)) = decide ((x, y, z) ∈ l)) := Lib.hid (by
          rw [decide_eq_decide]; exact ⟨fun _ => hmem, fun _ => by omega⟩)
        have HBD2 := Lib.hid HBW.out.drew
        clear hcl hJ hmem he
        go_wp2
        go_region
        go_wp2
        go_ret
        exact ⟨_, rfl, E.out, HBD2.out⟩
      · have HJ2 : Hid (∀ j, j < k + 1 → l.getD j (0, 0, 0) ≠ (x, y, z)) := Lib.hid fun j hj => by
          rcases Nat.lt_or_ge j k with h | h
          · exact hJ.out j h
          · rw [show j = k by omega]; exact he
        rw [decide_eq_false (fun h => he h.symm)] at hq
        revert c0 c1 c2 hq
        generalize l.getD k (0, 0, 0) = q
        obtain ⟨p0, p1, p2⟩ := q
        intro c0 c1 c2 hq
        simp only at c0 c1 c2 hq
        clear hcl hJ hmem he
        go_wp2
        go_region
        go_wp2
        go_roundw
        case rel => exact ⟨k + 1, by omega, by go_num, HJ2, HBD⟩
        case measure => simp [intOf]; omega

set_option maxRecDepth 10000 in
set_option maxHeartbeats 1000000 in
theorem contains_any {W : World} {v : Value} {l : List Ch} (hX : Cx W v l) (x y z : Int) :
    Calls Try.prog 34 #[v, .agg #[.int .i64 x, .int .i64 y, .int .i64 z]] W fun e w' => e = .returned (.bool (decide ((x, y, z) ∈ l))) ∧ Below W.heap.size W w' := by
  have HB0 := Lib.hid (cbox_below W (x, y, z))
  have HI := Lib.hid (index_any (hX.below HB0.out) x y z)
  obtain ⟨R, hR⟩ : ∃ R, R = decide ((x, y, z) ∈ l) := ⟨_, rfl⟩
  rw [← hR] at HI ⊢
  clear hR hX
  go_enter Try.func34, Try.ntmps34
  go_wp2_with (go_at_call 45; refine HI.out.mono ?_; rintro e w1 ⟨i, rfl, he, hb⟩; have HE := Lib.hid he; have HB := Lib.hid (HB0.out.trans (hb.mono HB0.out.size)); clear hb he)
  go_ret
  exact ⟨by rw [← HE.out]; first | rfl | (simp; done), HB.out⟩

/-- What ints of one's own, at least one of them, are. -/
theorem OwI.parts {W : World} {B n : Nat} {v : Value} {l : List Int} (h : OwI W B v n l) (hn : n ≠ 0) : ∃ g cap, v = .slice (some ⟨g, 0, none⟩) n cap ∧ n ≤ cap ∧ B ≤ g ∧ g < W.heap.size ∧ (∀ j, j < n → W.cell? ⟨g, j, none⟩ = some (.int .i64 (l.getD j 0))) ∧ (∀ j, W.frozen? ⟨g, j, none⟩ = false) ∧ (∀ j x, j < n → OwI (W.setCell ⟨g, j, none⟩ (.int .i64 x)) B v n (l.set j x)) := by
  have hl := owI_len h
  have h1 := h.1
  rcases h.2 with ⟨hv, h0⟩ | ⟨g, cap, cur, hv, hB, hg, hc, hm, hs, ht⟩
  · exact absurd h0 hn
  · refine ⟨g, cap, hv, hc, hB, (Array.getElem?_eq_some_iff.1 hg).1, fun j hj => ?_, fun j => frozen_of_row _ _ _ _ _ hg, fun j x hj => ?_⟩
    · have e : (cur.toList.take (n * 1))[j]? = (ints l)[j]? := by rw [ht]
      rw [List.getElem?_take_of_lt (by omega)] at e
      rw [cell_of_row _ _ _ _ _ _ hg, ← Array.getElem?_toList, e]
      have : j < l.length := by omega
      simp [ints, List.getD, this]
    · refine ⟨by simp [ints, hl], .inr ⟨g, cap, cur.setIfInBounds j (.int .i64 x), hv, hB, heap_setCell_same _ _ _ _ _ _ hg, hc, hm, by simp [hs], ?_⟩⟩
      rw [Array.toList_setIfInBounds, List.take_set, ht]
      simp [ints, List.map_set]

theorem clone_run {W : World} {b off n cap : Nat} {l : List Int} (h : Ix W (.slice (some ⟨b, off, none⟩) n cap) l) (hn : n ≠ 0) (hl : n ≤ 1000) :
    ∃ ao cap2 w2, Sem.run Try.prog (appI 25 #[.slice (some ⟨W.heap.size, 0, none⟩) 0 0, .slice (some ⟨b, off, none⟩) n cap]) (W.alloc (.cells #[] 3)) = .ok (.slice ao n cap2) w2 ∧ OwI w2 W.heap.size (.slice ao n cap2) n l ∧ Below W.heap.size W w2 := by
  obtain ⟨i0, hii, hz0, hz1, hz2⟩ := info_parts Try.info3
  have hbA : Below W.heap.size W (W.alloc (.cells #[] 3)) := (Below.refl _ _).alloc (Nat.le_refl _) _
  have hown0 : (W.alloc (.cells #[] 3)).ownsRow W.heap.size 3 1 (.slice (some ⟨W.heap.size, 0, none⟩) 0 0) 0 (ints []) := ⟨rfl, .inr ⟨W.heap.size, 0, #[], rfl, Nat.le_refl _, heap_alloc_new _ _, Nat.le_refl _, Nat.zero_le _, rfl, rfl⟩⟩
  obtain ⟨b', off', e, hq, hcap, hbl, hcl⟩ := h.at hn
  injection e with e; injection e with e1 e2; subst e1 e2
  obtain ⟨v2, w2, hrun, hown2, hgrow2, _⟩ := run_append_own (P := Try.prog) (w := W.alloc (.cells #[] 3)) W.heap.size 25 25 3 i0 (.int .i64 0) 1 8 Try.underlying25 hii hz0 hz1 hz2 rfl (by decide) _ 0 _ hown0 ⟨b, off, none⟩ n cap (ints l) (by simp [ints, hq])
    (fun j u hu => by
      have hj : j < n := by have := (List.getElem?_eq_some_iff.1 hu).1; simpa [ints, hq] using this
      rw [add_none, cell_later hbA (hcl j hj), ← hu]
      have : j < l.length := by omega
      simp [ints, List.getD, this]) (fun u hu => by simp [ints] at hu; obtain ⟨q, _, rfl⟩ := hu; rfl) (by unfold maxLen; omega) (by omega) (by simp)
  rw [appI_rw] at hrun
  rw [Nat.zero_add] at hown2
  obtain ⟨ao2, cap2, rfl⟩ := slice_of_owns hown2
  exact ⟨ao2, cap2, w2, hrun, hown2, hbA.grown hgrow2 (by simp) (fun j hj => (hown0.lt j hj).1)⟩

attribute [local go_sem ↓] appI_rw

set_option maxRecDepth 10000 in
set_option maxHeartbeats 1000000 in
theorem clone_any {W : World} {v : Value} {l : List Int} (hX : Ix W v l) (h0 : l.length ≠ 0) (hl : l.length ≤ 1000) :
    Calls Try.prog 46 #[v] W fun e w' => ∃ ao cap, e = .returned (.slice ao l.length cap) ∧ OwI w' W.heap.size (.slice ao l.length cap) l.length l ∧ Below W.heap.size W w' := by
  obtain ⟨ao, cap, rfl⟩ := hX.mk'
  obtain ⟨b, off, rfl, hq, hcap, hbl, hcl⟩ := hX.at h0
  obtain ⟨ao2, cap2, w2, hrun, ho, hb⟩ := clone_run hX h0 hl
  have hqn := fun (w : World) => Lib.run_eql_slice_nil (P := Try.prog) w 25 3 (some ⟨b, off, none⟩) l.length cap 0 0 Try.underlying25
  obtain ⟨n, hn⟩ : ∃ n, n = l.length := ⟨_, rfl⟩
  rw [← hn] at hl h0 hrun ho hqn ⊢
  have HO := Lib.hid ho
  have HB := Lib.hid hb
  clear hn hX hcl hq hbl ho hb
  go_enter Try.func46, Try.ntmps46
  go_wp2
  go_ret
  exact ⟨_, _, rfl, HO.out, HB.out⟩

end Go.Proofs.Ytjlneggfkpjnpaa
