/- The law's small; lists of choices joined; lists of designs and of rows. Condition: the slices read as ints. -/
import Derived.Test.YtmpopbkhmkkhgaaKN
import Derived.Test.YtmpopbkhmkkhgaaP2
namespace Go.Proofs.Ytmpopbkhmkkhgaa
open Go.RowKit

/-- A whole list of choices appended to one of one's own. -/
theorem join_ch {W : World} {B B2 n m cap : Nat} {v : Value} {xs l : List Ch} {rao : Option Addr} (h : OwC W B v n xs) (hS : OwC W B2 (.slice rao m cap) m l) (hn : n + m ≤ 300) (hB : B ≤ W.heap.size) :
    ∃ ao cap2 w2, Sem.run Try.prog (appC 38 #[v, .slice rao m cap]) W = .ok (.slice ao (n + m) cap2) w2 ∧ OwC w2 B (.slice ao (n + m) cap2) (n + m) (xs ++ l) ∧ Below B W w2 ∧ W.grownBy w2 v.ownBlock := by
  obtain ⟨i0, hii, hz0, hz1, hz2⟩ := info_parts Try.info29
  have hm := owC_len hS
  rcases hS.2 with ⟨hv, h0⟩ | ⟨g, cap', cur, hv, hg0, hg, hc, hmx, hs, ht⟩
  · injection hv with e1 e2 e3
    subst e1 e2 e3
    have hl : l = [] := List.length_eq_zero_iff.1 hm.symm
    subst hl
    have hrun := run_append_owned_none (P := Try.prog) (w := W) B 38 38 29 i0 3 Try.underlying38 hii v n _ h
    rw [appC_rw] at hrun
    obtain ⟨ao, cap, rfl⟩ := slice_of_owns h
    exact ⟨_, _, _, hrun, by simpa using h, Below.refl _ _, World.grownBy.refl _ _⟩
  · injection hv with e1 e2 e3
    subst e1 e3
    obtain ⟨v2, w2, hrun, hown2, hgrow2, _⟩ := run_append_own (P := Try.prog) (w := W) B 38 38 29 i0 (.agg #[.int .i64 0, .int .i64 0, .int .i64 0]) 3 24 Try.underlying38 hii hz0 hz1 hz2 rfl (by decide) v n _ h ⟨g, 0, none⟩ m cap (chs l) (by rw [chs_len]; omega)
      (fun j u hu => by
        have hj : j < m * 3 := by have := (List.getElem?_eq_some_iff.1 hu).1; rw [chs_len] at this; omega
        rw [add_none, Nat.zero_add, cell_of_row _ _ _ _ _ _ hg, ← Array.getElem?_toList]
        have e : (cur.toList.take (m * 3))[j]? = (chs l)[j]? := by rw [ht]
        rw [List.getElem?_take_of_lt hj] at e
        rw [e]; exact hu)
      (fun u hu => by
        simp only [chs, List.mem_flatten, List.mem_map] at hu
        obtain ⟨q, ⟨c, _, rfl⟩, hu⟩ := hu
        simp at hu
        rcases hu with rfl | rfl | rfl <;> rfl) (by unfold maxLen; omega) (by omega) hB
    rw [appC_rw] at hrun
    obtain ⟨ao2, cap2, rfl⟩ := slice_of_owns hown2
    exact ⟨ao2, cap2, w2, hrun, by rw [OwC, chs_append]; exact hown2, (Below.refl B W).grown hgrow2 hB (fun j hj => (h.lt j hj).1), hgrow2⟩

/-- []api.Choice{}, and two choices. -/
theorem ownC_new {W' : World} {g B : Nat} (hg : W'.heap[g]? = some (.cells #[] 29 (0, 0))) (hB : B ≤ g) : OwC W' B (.slice (some ⟨g, 0, none⟩) 0 0) 0 [] := ⟨rfl, .inr ⟨g, 0, #[], rfl, hB, hg, Nat.le_refl _, Nat.zero_le _, rfl, rfl⟩⟩
theorem ownC_two {W' : World} {g B : Nat} {x y z p q s : Int} (hg : W'.heap[g]? = some (.cells #[.int .i64 x, .int .i64 y, .int .i64 z, .int .i64 p, .int .i64 q, .int .i64 s] 29 (0, 0))) (hB : B ≤ g) : OwC W' B (.slice (some ⟨g, 0, none⟩) 2 2) 2 [(x, y, z), (p, q, s)] := ⟨rfl, .inr ⟨g, 2, _, rfl, hB, hg, Nat.le_refl _, by decide, rfl, rfl⟩⟩

theorem two_last (w : World) (A B : Obj) : ((w.alloc A).alloc B).drew.heap[w.heap.size + 1]? = some B := two_last2 w A B
theorem two_first (w : World) (A B : Obj) : ((w.alloc B).alloc A).drew.heap[w.heap.size]? = some B := two_first2 w A B

set_option maxRecDepth 10000 in
set_option maxHeartbeats 2000000 in
/-- small, of a design that came in. -/
theorem small_any {W : World} {ar : Option Addr} {nr cr : Nat} {r : List Int} {vs c0 c1 : Value} (hr : Ix W (.slice ar nr cr) r) (kd a : Int) :
    Calls Try.prog 9 #[.agg #[.int .i64 kd, .slice ar nr cr, vs, .int .i64 a, c0, c1]] W fun e w' => e = .returned (DV kd (.slice ar (min nr 8) cr) a) ∧ Below W.heap.size W w' := by
  have hle := hr.le
  rcases Nat.lt_or_ge 8 nr with h8 | h8
  · rw [Nat.min_eq_right (by omega)]
    have e4 : (8 : Int) < (nr : Int) := by omega
    have e5 : (8 : Int) ≤ (cr : Int) := by omega
    clear hr
    go_enter Try.func9, Try.ntmps9
    go_wp2
    go_region
    go_wp2
    exact bodyPost_ret (results_cell27 (t := 2) rfl rfl (two_last _ _ _)) rfl ⟨rfl, (((Below.refl _ W).alloc (Nat.le_refl _) _).alloc (by simp) _).drew⟩
  · rw [Nat.min_eq_left (by omega)]
    have e4 : ¬ (8 : Int) < (nr : Int) := by omega
    have e5 : (nr : Int) ≤ (cr : Int) := by omega
    clear hr
    go_enter Try.func9, Try.ntmps9
    go_wp2
    go_region
    go_wp2
    exact bodyPost_ret (results_cell27 (t := 2) rfl rfl (two_last _ _ _)) rfl ⟨rfl, (((Below.refl _ W).alloc (Nat.le_refl _) _).alloc (by simp) _).drew⟩

end Go.Proofs.Ytmpopbkhmkkhgaa
