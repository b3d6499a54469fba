/- The law BlockWalks, walked. Condition: the arguments fit their types. -/
import Derived.Test.YtjlneggfkpjnpaaO2
import Derived.Test.YtjlneggfkpjnpaaN
namespace Go.Proofs.Ytjlneggfkpjnpaa
open Go.RowKit

theorem walk_ix {W : World} {ar az : Option Addr} {nr cr ns cs : Nat} {r s l : List Int} {vl : Value} (hr : Ix W (.slice ar nr cr) r) (hs : Ix W (.slice az ns cs) s) (lr : r.length ≤ 8) (ls : s.length ≤ 8) (hBl : hasB r s = true) (hl : Hx W vl l) :
    Calls Try.prog 21 #[.agg #[.int .i64 0, .slice ar nr cr, .slice az ns cs, .int .i64 0, .int .i64 0, .int .i64 0], vl] W fun e w' => ∃ aT cT aR cR m, e = .returned (.tuple #[.slice aT m cT, .slice aR m cR, .bool true]) ∧ m ≤ 400 ∧ Cx w' (.slice aT m cT) (takeC r s l m) ∧ (∀ j, j < m → ∃ g ao n cap, aR = some ⟨g, 0, none⟩ ∧ m ≤ cR ∧ w'.cell? ⟨g, j, none⟩ = some (.slice ao n cap) ∧ Ix w' (.slice ao n cap) (wRow r s l (j + 1))) ∧ Below W.heap.size W w' := by
  refine (walk_own hr hs lr ls hBl hl).mono fun e w' ⟨aT, cT, aR, cR, vals, W0, h1, h2, h3⟩ => ⟨aT, cT, aR, cR, min l.length 400, h1, by omega, ?_, fun j hj => ?_, h3⟩
  · refine h2.ft.cx (by omega) (fit_of fun c hc => ?_)
    unfold takeC at hc
    rw [List.mem_map] at hc
    obtain ⟨k, _, rfl⟩ := hc
    obtain ⟨a, b, c⟩ := chV_fit (wCh_mem hBl (fun k => (hl.fit k).1) k) lr
    exact ⟨⟨by omega, by omega⟩, ⟨by omega, by omega⟩, ⟨by omega, by omega⟩⟩
  · obtain ⟨ao, n, cap, g1, g2⟩ := h2.fv j hj
    rcases h2.fr.2 with ⟨_, h0⟩ | ⟨g, cap2, cur, hv, hB, hg, hc, hm, hsz, ht⟩
    · omega
    · injection hv with q1 q2 q3
      subst q3
      refine ⟨g, ao, n, cap, q1, hc, ?_, wRow_ix g2 lr⟩
      rw [cell_of_row _ _ _ _ _ _ hg, ← Array.getElem?_toList]
      rw [← ht, List.getElem?_take_of_lt (by omega)] at g1
      exact g1

/-- What each choice is, and what it leaves. -/
theorem w_facts {r s l : List Int} (hB : hasB r s = true) (hl : ∀ k, 0 ≤ l.getD k 0) (k : Nat) :
    ((wCh r s l k).2.1 = 0 ∧ (wRow r s l k).length = r.length ∨ (1 ≤ (wCh r s l k).2.1 ∧ (wCh r s l k).2.1 ≤ 4) ∧ wRow r s l k = []) ∧ (∃ a : Nat, a < r.length ∧ (wCh r s l k).2.2 = (a : Int) ∧ 1 ≤ (blockV r (wRow r s l k) (wCh r s l k).2.1).getD a 0) ∧ inB 0 1048576 (blockV r (wRow r s l k) (wCh r s l k).2.1) = true ∧ (blockV r (wRow r s l k) (wCh r s l k).2.1).length = r.length ∧ wRow r s l (k + 1) = if leftV (lessV (blockV r (wRow r s l k) (wCh r s l k).2.1) (wCh r s l k).2.2) = 0 then [] else lessV (blockV r (wRow r s l k) (wCh r s l k).2.1) (wCh r s l k).2.2 := by
  have hm := wCh_mem hB hl k
  have hne : ∀ k, wRow r s l k ≠ [] → leftV (wRow r s l k) ≠ 0 := fun k hk => by
    cases k with
    | zero => exact absurd rfl hk
    | succ k =>
      have e : wRow r s l (k + 1) = nextV r s (wRow r s l k) (pickC r s (wRow r s l k) (l.getD k 0)) := rfl
      rw [e] at hk ⊢
      unfold nextV at hk ⊢
      split at hk
      · split at hk
        · exact absurd rfl hk
        · rename_i h1 h2
          rw [if_pos h1, if_neg h2]; exact h2
      · exact absurd rfl hk
  have hrow : wRow r s l (k + 1) = if leftV (lessV (blockV r (wRow r s l k) (wCh r s l k).2.1) (wCh r s l k).2.2) = 0 then [] else lessV (blockV r (wRow r s l k) (wCh r s l k).2.1) (wCh r s l k).2.2 := by
    show nextV r s (wRow r s l k) (wCh r s l k) = _
    unfold nextV nextOk
    rw [decide_eq_true hm, if_pos rfl]
  generalize hc : wCh r s l k = c at hm hrow ⊢
  obtain ⟨x, y, z⟩ := c
  obtain ⟨_, hy, hin, hlen, a, ha, hz, h1, _⟩ := ch_facts hm
  refine ⟨?_, ⟨a, ha, hz, h1⟩, hin, hlen, hrow⟩
  by_cases he : wRow r s l k = []
  · right
    refine ⟨?_, he⟩
    rcases hy with ⟨h0, h2⟩ | h2
    · rw [he] at h2
      have := (hasB_iff.1 hB).1.1
      simp at h2; omega
    · exact h2
  · left
    have hl1 := hne k he
    unfold chV at hm
    split at hm
    · split at hm
      · obtain ⟨j, hj, h0, hq⟩ := mem_coll.1 hm
        injection hq with q1 q2
        injection q2 with q2 q3
        refine ⟨q2, ?_⟩
        rcases hy with ⟨_, h2⟩ | h2
        · exact h2
        · omega
      · rename_i hx
        have hin2 := wRow_in r s l k
        have := (sum_in hin2 (wRow r s l k).length (Nat.le_refl _)).1
        rw [List.take_length] at this
        unfold leftV at hx hl1
        rw [if_pos hin2] at hx hl1
        omega
    · simp at hm

end Go.Proofs.Ytjlneggfkpjnpaa
