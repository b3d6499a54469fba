/- Contract of num's texts: groups. -/
import Derived.Laws.OwnMore
import Derived.Test.YtdgmjmckeeeljaaGreatDoorGG
namespace Go.Proofs.YtdgmjmckeeeljaaGreatDoor
open Go.RowKit

/-- The digits to the base 10^9, at least one, the lowest first. -/
def grp (x : Nat) : List Nat := if x < 1000000000 then [x] else x % 1000000000 :: grp (x / 1000000000)
termination_by x
decreasing_by exact Nat.div_lt_self (by omega) (by omega)

theorem grp_step (x : Nat) : grp x = x % 1000000000 :: (if x / 1000000000 = 0 then [] else grp (x / 1000000000)) := by
  rw [grp]
  by_cases h : x < 1000000000
  · rw [if_pos h, if_pos (by omega), Nat.mod_eq_of_lt h]
  · rw [if_neg h, if_neg (by omega)]

theorem grp_len : ∀ (k x : Nat), x < 1000000000 ^ (k + 1) → (grp x).length ≤ k + 1
  | 0, x, h => by rw [grp, if_pos (by simpa using h)]; simp
  | k + 1, x, h => by
    rw [grp]
    by_cases h0 : x < 1000000000
    · rw [if_pos h0]; simp
    · rw [if_neg h0, List.length_cons]
      have := grp_len k (x / 1000000000) (by rw [Nat.div_lt_iff_lt_mul (by omega)]; rwa [Nat.pow_succ] at h)
      omega

theorem grp_bd (x : Nat) : ∀ d ∈ grp x, d < 1000000000 := by
  induction x using Nat.strongRecOn with
  | _ x ih =>
    intro d hd
    rw [grp] at hd
    by_cases h : x < 1000000000
    · rw [if_pos h] at hd
      simp at hd; omega
    · rw [if_neg h] at hd
      rcases List.mem_cons.1 hd with rfl | hd
      · exact Nat.mod_lt _ (by omega)
      · exact ih _ (Nat.div_lt_self (by omega) (by omega)) d hd

theorem Sw.keptNe {B : Nat} {W W' : World} {ao : Option Addr} {n cap : Nat} {ds : List Nat} {row : Option Nat} (h : Sw B W (.slice ao n cap) ds) (hg : W.grownBy W' row) (hne : ∀ b off, ao = some ⟨b, off, none⟩ → row ≠ some b) : Sw B W' (.slice ao n cap) ds := by
  have hb : ∀ b off, ao = some ⟨b, off, none⟩ → b < W.heap.size → W'.heap[b]? = W.heap[b]? := fun b off e hl => hg.block b hl (fun e' => hne b off e e'.symm)
  refine ⟨⟨h.sl.bd, h.sl.len, ?_⟩, ?_⟩
  · rcases h.sl.is with h1 | ⟨b, off, cap', hv, hc, hcl⟩
    · exact .inl h1
    · refine .inr ⟨b, off, cap', hv, hc, fun j hj => ?_⟩
      have := hb b off (by cases hv; rfl) (block_lt_of_cell (hcl j hj))
      rw [← hcl j hj]
      simp [World.cell?, this]
  · intro ao' n' cap' hv hn
    cases hv
    obtain ⟨b, off, e1, e2, e3⟩ := h.own _ _ _ rfl hn
    obtain ⟨b', off', e4, _, hlt, hcl⟩ := h.sl.at hn
    rw [e1] at e4
    cases e4
    refine ⟨b, off, e1, e2, fun j hj => ?_⟩
    have := hb b off e1 hlt
    rw [← e3 j hj]
    simp [World.frozen?, this]

/-- What holds at the head of the loop of groups. -/
structure GrpI (w : World) (B1 : Nat) (x : Nat) (ao : Option Addr) (cap : Nat) (wr : World) (y n : Nat) (lv : Value) (k : Nat) : Prop where
  rest : Sw w.heap.size wr (.slice ao n cap) (digs y)
  len : n = (digs y).length
  le : y ≤ x
  own : ∃ gs, gs.length = k ∧ wr.ownsRow B1 59 1 lv k (gs.map u32v) ∧ gs ++ (if y = 0 then [] else grp y) = grp x
  below : Below w.heap.size w wr
  big : B1 ≤ wr.heap.size

/-- The rest is divided once more. -/
theorem GrpI.cut {w wr W : World} {B1 x y n k cap : Nat} {ao : Option Addr} {lv : Value} (h : GrpI w B1 x ao cap wr y n lv k) (hB : w.heap.size ≤ B1) (hbl : Below w.heap.size wr W) (hk : ∀ g, g < wr.heap.size → (∀ b off, ao = some ⟨b, off, none⟩ → b ≠ g) → W.heap[g]? = wr.heap[g]?) (hao : ∀ b off, ao = some ⟨b, off, none⟩ → b < B1) :
    ∃ gs, gs.length = k ∧ W.ownsRow B1 59 1 lv k (gs.map u32v) ∧ gs ++ (if y = 0 then [] else grp y) = grp x := by
  obtain ⟨gs, h1, h2, h3⟩ := h.own
  refine ⟨gs, h1, ?_, h3⟩
  refine ⟨h2.1, ?_⟩
  rcases h2.2 with h4 | ⟨g, c, cur, e1, e2, e3, e4⟩
  · exact .inl h4
  · refine .inr ⟨g, c, cur, e1, e2, ?_, e4⟩
    rw [hk g (Array.getElem?_eq_some_iff.1 e3).1 (fun b off e => by have := hao b off e; omega)]
    exact e3

end Go.Proofs.YtdgmjmckeeeljaaGreatDoor
