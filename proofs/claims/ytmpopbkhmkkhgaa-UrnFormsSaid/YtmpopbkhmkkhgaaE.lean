/- Contracts: slices.Index and Contains of choices; Clone and before; ints of one's own that are written. -/
import Derived.Test.YtmpopbkhmkkhgaaB
import Derived.Laws.StructEq
import Derived.Laws.Rows
namespace Go.Proofs.Ytmpopbkhmkkhgaa
open Go.RowKit

def eqC (a b c x y z : Int) : Bool := a == x && (b == y && c == z)
theorem eqC_iff (c d : Ch) : eqC c.1 c.2.1 c.2.2 d.1 d.2.1 d.2.2 = decide (c = d) := by
  obtain ⟨a, b, c⟩ := c
  obtain ⟨x, y, z⟩ := d
  unfold eqC
  rw [Bool.eq_iff_iff]
  simp

theorem equal29 (a b c x y z : Int) (w : World) :
    (Op.equalIn 10000 29 (.agg #[.int .i64 a, .int .i64 b, .int .i64 c]) (.agg #[.int .i64 x, .int .i64 y, .int .i64 z])).run Try.prog w = .ok (eqC a b c x y z) w := by
  rw [run_equalIn_agg (P := Try.prog) w 9999 29 _ _ (by kernel_rfl) (by kernel_rfl)]
  have e : ∀ p q : Int, ∀ w, (Op.equalIn 9999 3 (.int .i64 p) (.int .i64 q)).run Try.prog w = .ok (p == q) w := fun p q w => run_equalIn_int w 9998 3 .i64 .i64 p q Try.underlying3
  have hp : ∀ (xs : Array Value) (i : Nat) (v : Int) (w : World), xs[i]? = some (.int .i64 v) → (part 3 xs i).run Try.prog w = .ok (.int .i64 v) w := fun xs i v w h => by
    simp [part, isAgg, run_underlying Try.underlying3, h]
  have hf : (Try.prog.fieldsOf 29).toList.map (fun f => (f.name ≠ "_", f.type, f.offset)) = [(True, 3, 0), (True, 3, 1), (True, 3, 2)] := by
    have : (Try.prog.fieldsOf 29).toList.map (fun f => (f.name, f.type, f.offset)) = [("Weight", 3, 0), ("Size", 3, 1), ("Arm", 3, 2)] := by kernel_rfl
    have h2 := congrArg (List.map fun (q : String × Nat × Nat) => (q.1 ≠ "_", q.2.1, q.2.2)) this
    simpa [List.map_map, Function.comp_def] using h2
  have h3 : (Try.prog.fieldsOf 29).toList.length = 3 := by
    have := congrArg List.length hf
    simpa using this
  revert hf h3
  generalize (Try.prog.fieldsOf 29).toList = fs
  intro hf h3
  match fs, h3, hf with
  | [f0, f1, f2], _, hf =>
    simp only [List.map_cons, List.map_nil, List.cons.injEq, Prod.mk.injEq, and_true, eq_iff_iff, iff_true] at hf
    obtain ⟨⟨n0, t0, o0⟩, ⟨n1, t1, o1⟩, ⟨n2, t2, o2⟩⟩ := hf
    have a0 := fun w => hp #[.int .i64 a, .int .i64 b, .int .i64 c] 0 a w rfl
    have a1 := fun w => hp #[.int .i64 a, .int .i64 b, .int .i64 c] 1 b w rfl
    have a2 := fun w => hp #[.int .i64 a, .int .i64 b, .int .i64 c] 2 c w rfl
    have x0 := fun w => hp #[.int .i64 x, .int .i64 y, .int .i64 z] 0 x w rfl
    have x1 := fun w => hp #[.int .i64 x, .int .i64 y, .int .i64 z] 1 y w rfl
    have x2 := fun w => hp #[.int .i64 x, .int .i64 y, .int .i64 z] 2 z w rfl
    unfold eqC
    simp only [Op.eqFields, n0, n1, n2, t0, t1, t2, o0, o1, o2, if_true, Sem.run_bind, a0, x0, a1, x1, a2, x2, e, Result.andThen_ok, Sem.run_ite, Sem.run_pure, ne_eq, not_false_eq_true]
    cases (a == x) <;> cases (b == y) <;> cases (c == z) <;> simp

theorem getD_mem {l : List Ch} {k : Nat} (h : k < l.length) : l.getD k (0, 0, 0) ∈ l := by
  have : l.getD k (0, 0, 0) = l[k] := by simp [List.getD, h]
  rw [this]; exact List.getElem_mem h
theorem mem_getD {l : List Ch} {c : Ch} (h : c ∈ l) : ∃ k, k < l.length ∧ l.getD k (0, 0, 0) = c := by
  obtain ⟨k, hk, rfl⟩ := List.getElem_of_mem h
  exact ⟨k, hk, by simp [List.getD, hk]⟩

abbrev cbox (W : World) (c : Ch) : World := W.alloc (.cells #[.int .i64 c.1, .int .i64 c.2.1, .int .i64 c.2.2] 29)
theorem cbox_is (W : World) (c : Ch) : CBox (cbox W c) W.heap.size c := heap_alloc_new _ _
theorem cbox_below (W : World) (c : Ch) : Below W.heap.size W (cbox W c) := (Below.refl _ _).alloc (Nat.le_refl _) _

attribute [local go_sem ↓] equal29

set_option maxRecDepth 10000 in
set_option maxHeartbeats 2000000 in
theorem index_any {W : World} {v : Value} {l : List Ch} (hX : Cx W v l) (x y z : Int) :
    Calls Try.prog 34 #[v, .agg #[.int .i64 x, .int .i64 y, .int .i64 z]] W fun e w' => ∃ i : Int, e = .returned (.int .i64 i) ∧ decide (0 ≤ i) = decide ((x, y, z) ∈ l) ∧ Below W.heap.size W w' := by
  obtain ⟨ao, cap, rfl⟩ := hX.mk'
  have hlen := hX.len
  unfold maxLen at hlen
  have HB0 := Lib.hid (cbox_below W (x, y, z))
  have HC0 := Lib.hid (cbox_is W (x, y, z))
  obtain ⟨n, hn⟩ : ∃ n, n = l.length := ⟨_, rfl⟩
  have HN := Lib.hid hn
  have HX := Lib.hid hX
  rw [← hn] at hlen HX ⊢
  clear hX hn
  go_enter Try.func34, Try.ntmps34
  go_wp2
  go_loopw [5, 8] (fun _ kv wr => ∃ k : Nat, k ≤ n ∧ kv = .int .i64 (k : Nat) ∧ Hid (∀ j, j < k → l.getD j (0, 0, 0) ≠ (x, y, z)) ∧ Hid (Below (cbox W (x, y, z)).heap.size (cbox W (x, y, z)) wr)) (fun _ kv _ => n - (intOf kv).toNat)
  case atStart => exact ⟨0, by omega, rfl, Lib.hid (fun j h => by omega), Lib.hid (Below.refl _ _)⟩
  case round =>
    obtain ⟨k, hk, rfl, hJ, hB⟩ := hrel
    have HBW : Hid (Below W.heap.size W wr) := Lib.hid (HB0.out.trans (hB.out.mono (by simp)))
    by_cases hkn : k = n
    · have E : Hid (decide ((0 : Int) ≤ -1) = decide ((x, y, z) ∈ l)) := Lib.hid (by
        rw [decide_eq_decide]
        constructor
        · intro h; omega
        · intro h
          obtain ⟨j, h1, h2⟩ := mem_getD h
          exact absurd h2 (hJ.out j (by rw [hkn, HN.out]; exact h1)))
      subst hkn
      clear hJ
      go_wp2
      go_ret
      exact ⟨_, rfl, E.out, HBW.out⟩
    · have hlt : k < n := by omega
      obtain ⟨b, off, rfl, hcap, hbl, hcl⟩ := HX.out.at (by omega)
      obtain ⟨c0, c1, c2⟩ := hcl k hlt
      have c0 := cell_later HBW.out c0
      have c1 := cell_later HBW.out c1
      have c2 := cell_later HBW.out c2
      obtain ⟨d0, d1, d2⟩ := (HC0.out.below hB.out).cells
      have hq := eqC_iff (x, y, z) (l.getD k (0, 0, 0))
      have hmem := getD_mem (l := l) (k := k) (by rw [← HN.out]; exact hlt)
      have HBD := Lib.hid hB.out.drew
      by_cases he : l.getD k (0, 0, 0) = (x, y, z)
      · rw [he] at c0 c1 c2 hq hmem
        simp only [decide_true] at hq
        have E : Hid (decide ((0 : Int) ≤ (k : Int)) = decide ((x, y, z) ∈ l)) := Lib.hid (by
          rw [decide_eq_decide]; exact ⟨fun _ => hmem, fun _ => by omega⟩)
        have HBD2 := Lib.hid HBW.out.drew
        clear hcl hJ hmem he
        go_wp2
        go_region
        go_wp2
        go_ret
        exact ⟨_, rfl, E.out, HBD2.out⟩
      · have HJ2 : Hid (∀ j, j < k + 1 → l.getD j (0, 0, 0) ≠ (x, y, z)) := Lib.hid fun j hj => by
          rcases Nat.lt_or_ge j k with h | h
          · exact hJ.out j h
          · rw [show j = k by omega]; exact he
        rw [decide_eq_false (fun h => he h.symm)] at hq
        revert c0 c1 c2 hq
        generalize l.getD k (0, 0, 0) = q
        obtain ⟨p0, p1, p2⟩ := q
        intro c0 c1 c2 hq
        simp only at c0 c1 c2 hq
        clear hcl hJ hmem he
        go_wp2
        go_region
        go_wp2
        go_roundw
        case rel => exact ⟨k + 1, by omega, by go_num, HJ2, HBD⟩
        case measure => simp [intOf]; omega

set_option maxRecDepth 10000 in
set_option maxHeartbeats 1000000 in
theorem contains_any {W : World} {v : Value} {l : List Ch} (hX : Cx W v l) (x y z : Int) :
    Calls Try.prog 30 #[v, .agg #[.int .i64 x, .int .i64 y, .int .i64 z]] W fun e w' => e = .returned (.bool (decide ((x, y, z) ∈ l))) ∧ Below W.heap.size W w' := by
  have HB0 := Lib.hid (cbox_below W (x, y, z))
  have HI := Lib.hid (index_any (hX.below HB0.out) x y z)
  obtain ⟨R, hR⟩ : ∃ R, R = decide ((x, y, z) ∈ l) := ⟨_, rfl⟩
  rw [← hR] at HI ⊢
  clear hR hX
  go_enter Try.func30, Try.ntmps30
  go_wp2_with (go_at_call 34; refine HI.out.mono ?_; rintro e w1 ⟨i, rfl, he, hb⟩; have HE := Lib.hid he; have HB := Lib.hid (HB0.out.trans (hb.mono HB0.out.size)); clear hb he)
  go_ret
  exact ⟨by rw [← HE.out]; first | rfl | (simp; done), HB.out⟩

/-- What ints of one's own, at least one of them, are. -/
theorem OwI.parts {W : World} {B n : Nat} {v : Value} {l : List Int} (h : OwI W B v n l) (hn : n ≠ 0) : ∃ g cap, v = .slice (some ⟨g, 0, none⟩) n cap ∧ n ≤ cap ∧ B ≤ g ∧ g < W.heap.size ∧ (∀ j, j < n → W.cell? ⟨g, j, none⟩ = some (.int .i64 (l.getD j 0))) ∧ (∀ j, W.frozen? ⟨g, j, none⟩ = false) ∧ (∀ j x, j < n → OwI (W.setCell ⟨g, j, none⟩ (.int .i64 x)) B v n (l.set j x)) := by
  have hl := owI_len h
  have h1 := h.1
  rcases h.2 with ⟨hv, h0⟩ | ⟨g, cap, cur, hv, hB, hg, hc, hm, hs, ht⟩
  · exact absurd h0 hn
  · refine ⟨g, cap, hv, hc, hB, (Array.getElem?_eq_some_iff.1 hg).1, fun j hj => ?_, fun j => frozen_of_row _ _ _ _ _ hg, fun j x hj => ?_⟩
    · have e : (cur.toList.take (n * 1))[j]? = (ints l)[j]? := by rw [ht]
      rw [List.getElem?_take_of_lt (by omega)] at e
      rw [cell_of_row _ _ _ _ _ _ hg, ← Array.getElem?_toList, e]
      have : j < l.length := by omega
      simp [ints, List.getD, this]
    · refine ⟨by simp [ints, hl], .inr ⟨g, cap, cur.setIfInBounds j (.int .i64 x), hv, hB, heap_setCell_same _ _ _ _ _ _ hg, hc, hm, by simp [hs], ?_⟩⟩
      rw [Array.toList_setIfInBounds, List.take_set, ht]
      simp [ints, List.map_set]

theorem ints_cells {W : World} {b off n cap : Nat} {l : List Int} (h : Ix W (.slice (some ⟨b, off, none⟩) n cap) l) {j : Nat} {u : Value} (hu : (ints l)[j]? = some u) : W.cell? ((Addr.mk b off none).add j) = some u := by
  have hj : j < l.length := by have := (List.getElem?_eq_some_iff.1 hu).1; simpa [ints] using this
  have hn := h.size
  obtain ⟨b', off', e, _, _, _, hcl⟩ := h.at (by omega)
  injection e with e; injection e with e1 e2; subst e1 e2
  rw [add_none, hcl j (by omega), ← hu]
  simp [ints, List.getD, hj]

theorem ints_plain (l : List Int) : ∀ u ∈ ints l, ∃ z, u = Value.int .i64 z := fun u hu => by simp [ints] at hu; obtain ⟨q, _, rfl⟩ := hu; exact ⟨_, rfl⟩

/-- A whole slice appended to one of one's own. -/
theorem join_ints {W : World} {B n : Nat} {v : Value} {xs l : List Int} {rao : Option Addr} {m cap : Nat} (h : OwI W B v n xs) (hS : Ix W (.slice rao m cap) l) (hn : n + m ≤ 1000) (hB : B ≤ W.heap.size) :
    ∃ ao cap2 w2, Sem.run Try.prog (appI 23 #[v, .slice rao m cap]) W = .ok (.slice ao (n + m) cap2) w2 ∧ OwI w2 B (.slice ao (n + m) cap2) (n + m) (xs ++ l) ∧ Below B W w2 ∧ W.grownBy w2 v.ownBlock := by
  obtain ⟨i0, hii, hz0, hz1, hz2⟩ := info_parts Try.info3
  have hm := hS.size
  cases rao with
  | none =>
    obtain ⟨rfl, rfl⟩ := hS.cap0
    have hl : l = [] := List.length_eq_zero_iff.1 hm.symm
    subst hl
    have hrun := run_append_owned_none (P := Try.prog) (w := W) B 23 23 3 i0 1 Try.underlying23 hii v n _ h
    rw [appI_rw] at hrun
    obtain ⟨ao, cap, rfl⟩ := slice_of_owns h
    refine ⟨_, _, _, hrun, by simpa using h, Below.refl _ _, World.grownBy.refl _ _⟩
  | some a =>
    obtain ⟨v2, w2, hrun, hown2, hgrow2, _⟩ := run_append_own (P := Try.prog) (w := W) B 23 23 3 i0 (.int .i64 0) 1 8 Try.underlying23 hii hz0 hz1 hz2 rfl (by decide) v n _ h a m cap (ints l) (by simp [ints]; omega)
      (fun j u hu => by
        have hj : j < l.length := by have := (List.getElem?_eq_some_iff.1 hu).1; simpa [ints] using this
        obtain ⟨b', off', e, _⟩ := hS.at (by omega)
        injection e with e; subst e
        exact ints_cells hS hu)
      (fun u hu => by simp [ints] at hu; obtain ⟨q, _, rfl⟩ := hu; rfl) (by unfold maxLen; omega) (by omega) hB
    rw [appI_rw] at hrun
    obtain ⟨ao2, cap2, rfl⟩ := slice_of_owns hown2
    exact ⟨ao2, cap2, w2, hrun, by rw [OwI, ints_append]; exact hown2, (Below.refl B W).grown hgrow2 hB (fun j hj => (h.lt j hj).1), hgrow2⟩

/-- []int{} -/
theorem own_new (W : World) : OwI (W.alloc (.cells #[] 3)) W.heap.size (.slice (some ⟨W.heap.size, 0, none⟩) 0 0) 0 [] := ⟨rfl, .inr ⟨W.heap.size, 0, #[], rfl, Nat.le_refl _, heap_alloc_new _ _, Nat.le_refl _, Nat.zero_le _, rfl, rfl⟩⟩

/-- append([]int{}, l...) -/
theorem clone_run {W : World} {rao : Option Addr} {n cap : Nat} {l : List Int} (h : Ix W (.slice rao n cap) l) (hl : n ≤ 1000) :
    ∃ ao cap2 w2, Sem.run Try.prog (appI 23 #[.slice (some ⟨W.heap.size, 0, none⟩) 0 0, .slice rao n cap]) (W.alloc (.cells #[] 3)) = .ok (.slice ao n cap2) w2 ∧ OwI w2 W.heap.size (.slice ao n cap2) n l ∧ Below W.heap.size W w2 := by
  have hbA : Below W.heap.size W (W.alloc (.cells #[] 3)) := (Below.refl _ _).alloc (Nat.le_refl _) _
  obtain ⟨ao, cap2, w2, h1, h2, h3, _⟩ := join_ints (own_new W) (h.below hbA) (by omega) (by simp)
  rw [Nat.zero_add] at h1 h2
  exact ⟨ao, cap2, w2, h1, h2, hbA.trans h3⟩

attribute [local go_sem ↓] appI_rw

set_option maxRecDepth 10000 in
set_option maxHeartbeats 1000000 in
theorem clone_any {W : World} {rao : Option Addr} {n cap : Nat} {l : List Int} (hX : Ix W (.slice rao n cap) l) (hl : n ≤ 1000) :
    Calls Try.prog 26 #[.slice rao n cap] W fun e w' => ∃ ao cap2, e = .returned (.slice ao n cap2) ∧ OwI w' W.heap.size (.slice ao n cap2) n l ∧ Below W.heap.size W w' := by
  obtain ⟨ao2, cap2, w2, hrun, ho, hb⟩ := clone_run hX hl
  have hqn := fun (w : World) => Lib.run_eql_slice_nil (P := Try.prog) w 23 3 rao n cap 0 0 Try.underlying23
  have HO := Lib.hid ho
  have HB := Lib.hid hb
  cases rao with
  | none =>
    obtain ⟨rfl, rfl⟩ := hX.cap0
    have hl : l = [] := List.length_eq_zero_iff.1 hX.size.symm
    subst hl
    clear hX ho hb hrun HO HB
    go_enter Try.func26, Try.ntmps26
    go_wp2
    go_ret
    exact ⟨_, _, rfl, World.ownsRow_nil _ _ _ _, Below.refl _ _⟩
  | some a =>
    clear hX ho hb
    go_enter Try.func26, Try.ntmps26
    go_wp2
    go_ret
    exact ⟨_, _, rfl, HO.out, HB.out⟩

end Go.Proofs.Ytmpopbkhmkkhgaa
