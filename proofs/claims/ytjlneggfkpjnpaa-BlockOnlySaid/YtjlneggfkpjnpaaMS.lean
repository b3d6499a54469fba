/- What the laws share: designs that are made. -/
import Derived.Test.YtjlneggfkpjnpaaM
namespace Go.Proofs.Ytjlneggfkpjnpaa
open Go.RowKit

theorem sameInts_yes {w : World} {va vb : Value} {a : List Int} (ha : Ix w va a) (hb : Ix w vb a) : Calls Try.prog 20 #[va, vb] w fun e w' => e = .returned (.bool true) ∧ Below w.heap.size w w' := by
  have := sameInts_any ha hb
  rwa [decide_eq_true rfl] at this

/-- The sizes that are made. -/
def sizD (l : List Int) : List Int := if l.length = 0 then [1] else sizV l 3

theorem ratV_len (l : List Int) : 1 ≤ (ratV l 4).length ∧ (ratV l 4).length ≤ 5 := by
  unfold ratV; simp; omega
theorem ratV_in (l : List Int) : inB 0 8 (ratV l 4) = true := by
  rw [inB_iff]
  intro k hk
  have hm : (ratV l 4).getD k 0 ∈ ratV l 4 := by
    have : (ratV l 4).getD k 0 = (ratV l 4)[k] := by simp [List.getD, hk]
    rw [this]; exact List.getElem_mem hk
  revert hm
  generalize (ratV l 4).getD k 0 = q
  intro hm
  unfold ratV at hm
  rw [List.mem_cons, List.mem_map] at hm
  rcases hm with hm | ⟨x, _, hm⟩ <;> omega
theorem sizD_len (l : List Int) : 1 ≤ (sizD l).length ∧ (sizD l).length ≤ 3 := by
  unfold sizD sizV
  split
  · simp
  · simp; omega
theorem sizD_in (l : List Int) : inB 1 4 (sizD l) = true := by
  by_cases hl : l.length = 0
  · have e : sizD l = [1] := by unfold sizD; rw [if_pos hl]
    rw [e]; rfl
  · have e : sizD l = sizV l 3 := by unfold sizD; rw [if_neg hl]
    rw [e, inB_iff]
    intro k hk
    have hm : (sizV l 3).getD k 0 ∈ sizV l 3 := by
      have : (sizV l 3).getD k 0 = (sizV l 3)[k] := by simp [List.getD, hk]
      rw [this]; exact List.getElem_mem hk
    revert hm
    generalize (sizV l 3).getD k 0 = q
    intro hm
    unfold sizV at hm
    rw [List.mem_map] at hm
    obtain ⟨x, _, hm⟩ := hm
    omega
theorem fit_small {l : List Int} {lo hi : Int} (h : inB lo hi l = true) (h1 : -1000000 ≤ lo) (h2 : hi ≤ 1000000) (k : Nat) : I64 (l.getD k 0) := by
  by_cases hk : k < l.length
  · have := (inB_iff.1 h) k hk
    constructor <;> omega
  · rw [show l.getD k 0 = 0 by simp [List.getD, List.getElem?_eq_none (Nat.le_of_not_lt hk)]]; decide
theorem has_made (la lb : List Int) : hasB (ratV la 4) (sizD lb) = true := by
  rw [hasB_iff]
  have h1 := ratV_len la
  have h2 := sizD_len lb
  refine ⟨⟨h1.1, by omega, ratV_in la, ?_⟩, h2.1, h2.2, sizD_in lb⟩
  unfold ratV; rfl

/-- made, as slices that read as ints. -/
theorem made_ix {W : World} {va vb : Value} {la lb : List Int} (ha : Ux W va la) (hb : Ux W vb lb) :
    Calls Try.prog 9 #[.agg #[va, vb]] W fun e w' => ∃ ar nr cr az ns cs, e = .returned (.agg #[.int .i64 0, .slice ar nr cr, .slice az ns cs, .int .i64 0, .int .i64 0, .int .i64 0]) ∧ Ix w' (.slice ar nr cr) (ratV la 4) ∧ Ix w' (.slice az ns cs) (sizD lb) ∧ Below W.heap.size W w' := by
  refine (made_any ha hb).mono fun e w' ⟨ar, nr, cr, az, ns, cs, h1, h2, h3, h4⟩ => ⟨ar, nr, cr, az, ns, cs, h1, ?_, ?_, h4⟩
  · have := owI_len h2
    have := ratV_len la
    exact h2.ix (by omega) (fit_small (ratV_in la) (by decide) (by decide))
  · have h3 : OwI w' W.heap.size (.slice az ns cs) ns (sizD lb) := h3
    have := owI_len h3
    have := sizD_len lb
    exact h3.ix (by omega) (fit_small (sizD_in lb) (by decide) (by decide))

end Go.Proofs.Ytjlneggfkpjnpaa
