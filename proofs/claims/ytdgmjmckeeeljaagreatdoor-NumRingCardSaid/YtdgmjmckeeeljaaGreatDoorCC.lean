/- Contracts: Same of the reference, is, divides. No condition but that the slices read as digits. -/
import Derived.BigQuiet
import Derived.Test.YtdgmjmckeeeljaaGreatDoorBB
namespace Go.Proofs.YtdgmjmckeeeljaaGreatDoor
open Go.RowKit

theorem eq_of_getD {xs ys : List Nat} (hl : xs.length = ys.length) (h : ∀ j, j < xs.length → xs.getD j 0 = ys.getD j 0) : xs = ys := by
  refine List.ext_getElem hl fun i h1 h2 => ?_
  have := h i h1
  simpa [List.getD, List.getElem?_eq_getElem h1, List.getElem?_eq_getElem h2] using this

def SameRes (w : World) (r : Bool) (e : Ending) (w' : World) : Prop := e = .returned (.bool r) ∧ Below w.heap.size w w'

set_option maxRecDepth 10000 in
set_option maxHeartbeats 1000000 in
theorem same_sign {w : World} {sa sb : Value} (na nb : Bool) (h : (na == nb) = false) :
    Calls Tryz.prog 19 #[.agg #[.bool na, sa], .agg #[.bool nb, sb]] w (SameRes w false) := by
  go_enter Tryz.func19, Tryz.ntmps19
  go_wp2
  go_returns
  exact ⟨rfl, by go_grown⟩

set_option maxRecDepth 10000 in
set_option maxHeartbeats 1000000 in
theorem same_len {w : World} {aa ab : Option Addr} {n m ca cb : Nat} (na : Bool) (h : ((n : Int) == (m : Int)) = false) :
    Calls Tryz.prog 19 #[.agg #[.bool na, .slice aa n ca], .agg #[.bool na, .slice ab m cb]] w (SameRes w false) := by
  go_enter Tryz.func19, Tryz.ntmps19
  go_wp2
  go_returns
  exact ⟨rfl, by go_grown⟩

set_option maxRecDepth 10000 in
set_option maxHeartbeats 1000000 in
theorem same_nil {w : World} {aa ab : Option Addr} {ca cb : Nat} (na : Bool) :
    Calls Tryz.prog 19 #[.agg #[.bool na, .slice aa 0 ca], .agg #[.bool na, .slice ab 0 cb]] w (SameRes w true) := by
  go_enter Tryz.func19, Tryz.ntmps19
  go_wp2
  go_rounds 1
  go_returns
  exact ⟨rfl, by go_grown⟩

set_option maxRecDepth 10000 in
set_option maxHeartbeats 1000000 in
theorem same_pos {w : World} {sa sb : Value} {xs ys : List Nat} {n : Nat} (na : Bool) (ha : Sl w sa xs) (hb : Sl w sb ys) (h1 : xs.length = n) (h2 : ys.length = n) (h0 : n ≠ 0) :
    Calls Tryz.prog 19 #[.agg #[.bool na, sa], .agg #[.bool na, sb]] w (SameRes w (decide (xs = ys))) := by
  obtain ⟨aa, ca, rfl⟩ := ha.mk'
  obtain ⟨ab, cb, rfl⟩ := hb.mk'
  rw [h1] at ha ⊢
  rw [h2] at hb ⊢
  have HE : Hid ((∀ j, j < n → xs.getD j 0 = ys.getD j 0) → xs = ys) := fun h => eq_of_getD (by omega) (by rw [h1]; exact h)
  have HD : Hid (∀ k, xs.getD k 0 ≠ ys.getD k 0 → xs ≠ ys) := fun k h e => h (by rw [e])
  obtain ⟨ba, oa, rfl, hca, hba, hcla⟩ := ha.at h0
  obtain ⟨bb, ob, rfl, hcb, hbb, hclb⟩ := hb.at h0
  have hlen : n ≤ maxLen := by rw [← h1]; exact ha.len
  unfold maxLen at hlen
  have HAL := Lib.hid h1
  have HBL := Lib.hid h2
  clear h1 h2 ha hb
  have HA := Lib.hid hcla
  have HB := Lib.hid hclb
  clear hcla hclb
  go_enter Tryz.func19, Tryz.ntmps19
  go_wp2
  go_loopw [5] (fun i wr => ∃ k m : Nat, k ≤ n ∧ i = .int .i64 (k : Nat) ∧ Hid (∀ j, j < k → xs.getD j 0 = ys.getD j 0) ∧ wr = ((w.alloc (.cells #[.bool na, .slice (some ⟨ba, oa, none⟩) n ca] 27)).alloc (.cells #[.bool na, .slice (some ⟨bb, ob, none⟩) n cb] 27)).drewN m) (fun i _ => n - (intOf i).toNat)
  case atStart => exact ⟨0, 0, by omega, rfl, Lib.hid (fun j hj => by omega), rfl⟩
  case round =>
    obtain ⟨k, m, hk, rfl, hj, rfl⟩ := hrel
    by_cases hkn : k = n
    · subst hkn
      have he := HE.out hj.out
      go_wp2
      go_ret
      exact ⟨by simp [he], below_drewN' (by go_grown) _⟩
    · have hlt : k < n := by omega
      have hA := HA.out
      have hB := HB.out
      have ea := HAL.out
      have eb := HBL.out
      have hx := hA k (by omega)
      have hy := hB k (by omega)
      obtain ⟨x, hxx⟩ : ∃ x, x = xs.getD k 0 := ⟨_, rfl⟩
      obtain ⟨y, hyy⟩ : ∃ y, y = ys.getD k 0 := ⟨_, rfl⟩
      rw [← hxx] at hx
      rw [← hyy] at hy
      have hlx := block_lt_of_cell hx
      by_cases hxy : x = y
      · have hj2 : ∀ j, j < k + 1 → xs.getD j 0 = ys.getD j 0 := fun j h => by
          by_cases hjk : j = k
          · rw [hjk, ← hxx, ← hyy, hxy]
          · exact hj.out j (by omega)
        have HJ := Lib.hid hj2
        clear hA hB hj2 hxx hyy
        subst hxy
        clear ea eb
        go_wp2
        go_quiet (fail)
        go_wp2
        go_roundw
        case rel => exact ⟨k + 1, m + nq, by omega, by go_num, HJ, rfl⟩
        case measure => simp only [intOf]; omega
      · have hne : xs ≠ ys := HD.out k (by rw [← hxx, ← hyy]; exact hxy)
        have hf : ((x : Int) != (y : Int)) = true := by simp; omega
        clear hA hB hxx hyy ea eb
        go_wp2
        go_quiet (fail)
        go_wp2
        go_ret
        exact ⟨by simp [hne], below_drewN' (below_drewN' (by go_grown) _) _⟩

/-- Same of two Nums whose slices read as digits. -/
theorem same_any {w : World} {sa sb : Value} {xs ys : List Nat} (na nb : Bool) (ha : Sl w sa xs) (hb : Sl w sb ys) :
    Calls Tryz.prog 19 #[.agg #[.bool na, sa], .agg #[.bool nb, sb]] w (SameRes w (decide (na = nb ∧ xs = ys))) := by
  by_cases hn : na = nb
  · subst hn
    by_cases hl : xs.length = ys.length
    · have e : decide (na = na ∧ xs = ys) = decide (xs = ys) := by simp
      rw [e]
      by_cases h0 : xs.length = 0
      · obtain rfl := List.eq_nil_of_length_eq_zero h0
        obtain rfl := List.eq_nil_of_length_eq_zero (hl.symm.trans h0)
        obtain ⟨aa, ca, rfl⟩ := ha.mk'
        obtain ⟨ab, cb, rfl⟩ := hb.mk'
        exact same_nil na
      · exact same_pos na ha hb rfl hl.symm h0
    · have e : decide (na = na ∧ xs = ys) = false := by
        rw [decide_eq_false_iff_not]; exact fun h => hl (by rw [h.2])
      rw [e]
      obtain ⟨aa, ca, rfl⟩ := ha.mk'
      obtain ⟨ab, cb, rfl⟩ := hb.mk'
      exact same_len na (by simp; omega)
  · have e : decide (na = nb ∧ xs = ys) = false := by
      rw [decide_eq_false_iff_not]; exact fun h => hn h.1
    rw [e]
    exact same_sign na nb (by cases na <;> cases nb <;> simp_all)

/-- Same of right Nums is equality. -/
theorem same_nu {w : World} {x y : Value} {a b : Int} (hx : Nu w x a) (hy : Nu w y b) : Calls Tryz.prog 19 #[x, y] w (SameRes w (decide (a = b))) := by
  obtain ⟨sa, rfl, ha, la⟩ := hx
  obtain ⟨sb, rfl, hb, lb⟩ := hy
  have := same_any (decide (a < 0)) (decide (b < 0)) ha hb
  have e : decide (decide (a < 0) = decide (b < 0) ∧ digs a.natAbs = digs b.natAbs) = decide (a = b) := by
    by_cases h : a = b
    · subst h; simp
    · rw [decide_eq_false h, decide_eq_false_iff_not]
      rintro ⟨h1, h2⟩
      have h3 := digs_inj h2
      apply h
      simp only [decide_eq_decide] at h1
      omega
  rwa [e] at this

end Go.Proofs.YtdgmjmckeeeljaaGreatDoor
