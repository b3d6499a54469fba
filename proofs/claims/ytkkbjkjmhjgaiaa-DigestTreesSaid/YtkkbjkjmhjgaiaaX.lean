/- Contract of the reference: Same. No condition but that the slices read as strings. -/
import Derived.Deep.QuietTactic
import Derived.BigQuiet
import Derived.Test.YtkkbjkjmhjgaiaaV
namespace Go.Proofs.Ytkkbjkjmhjgaiaa
open Go.RowKit

theorem list_eq_of {la lb : List ByteArray} (hl : la.length = lb.length) (h : ∀ j, j < la.length → la.getD j ⟨#[]⟩ = lb.getD j ⟨#[]⟩) : la = lb := by
  apply List.ext_getElem hl
  intro j h1 h2
  have := h j h1
  simpa [List.getD, h1, h2] using this

theorem Sx.at {w : World} {v : Value} {l : List ByteArray} (h : Sx w v l) (hn : l ≠ []) : ∃ b off cap, v = .slice (some ⟨b, off, none⟩) l.length cap ∧ b < w.heap.size ∧ ∀ j, j < l.length → w.cell? ⟨b, off + j, none⟩ = some (.string (l.getD j ⟨#[]⟩)) := by
  rcases h.is with ⟨h0, _⟩ | ⟨b, off, cap, hv, _, hlt, hcl⟩
  · exact absurd h0 hn
  · exact ⟨b, off, cap, hv, hlt, hcl⟩

theorem below_drewN' {B : Nat} {a w : World} (h : Below B a w) (n : Nat) : Below B a (w.drewN n) := h.trans ⟨rfl, rfl, rfl, Nat.le_refl _, fun _ _ => rfl⟩

set_option maxRecDepth 10000 in
set_option maxHeartbeats 1000000 in
theorem same_any {w : World} {a b : Value} {la lb : List ByteArray} (ha : Sx w a la) (hb : Sx w b lb) : Calls Try.prog 26 #[a, b] w fun e w' => e = .returned (.bool (decide (la = lb))) ∧ Below w.heap.size w w' := by
  by_cases hl : la.length = lb.length
  · by_cases h0 : la = []
    · have h1 : lb = [] := List.eq_nil_of_length_eq_zero (by rw [← hl, h0]; rfl)
      subst h0 h1
      obtain ⟨ao, cap, rfl⟩ := ha.mk'
      obtain ⟨ao2, cap2, rfl⟩ := hb.mk'
      have e0 : decide (([] : List ByteArray) = []) = true := by simp
      rw [e0]
      clear ha hb e0 hl
      simp only [List.length_nil]
      go_enter Try.func26, Try.ntmps26
      go_wp2
      go_loop [5] (fun v => v = .int .i64 0) (fun _ => 0)
      case atStart => rfl
      case round =>
        subst hrel
        go_wp2
        go_ret
        exact ⟨rfl, Below.refl _ _⟩
    · have h1 : lb ≠ [] := fun e => h0 (List.eq_nil_of_length_eq_zero (by rw [hl, e]; rfl))
      obtain ⟨ba, oa, ca, rfl, lta, hca⟩ := ha.at h0
      obtain ⟨bb, ob, cb, rfl, ltb, hcb⟩ := hb.at h1
      rw [← hl] at hcb
      have hlen := ha.len
      unfold maxLen at hlen
      obtain ⟨n, hn⟩ : ∃ n, n = la.length := ⟨_, rfl⟩
      rw [← hl, ← hn]
      rw [← hn] at hca hcb hlen
      obtain ⟨r, hr⟩ : ∃ r, r = decide (la = lb) := ⟨_, rfl⟩
      rw [← hr]
      have HCA := Lib.hid hca
      have HCB := Lib.hid hcb
      have HR := Lib.hid hr
      have HN := Lib.hid hn
      have HL := Lib.hid hl
      clear hca hcb hr hn hl h0 h1 ha hb
      go_enter Try.func26, Try.ntmps26
      go_wp2
      go_loopw [5] (fun v wr => ∃ k : Nat, k ≤ n ∧ v = .int .i64 (k : Nat) ∧ Hid (Below w.heap.size w wr) ∧ Hid (∀ j, j < k → la.getD j ⟨#[]⟩ = lb.getD j ⟨#[]⟩)) (fun v _ => n - (intOf v).toNat)
      case atStart => exact ⟨0, by omega, rfl, Lib.hid (Below.refl _ _), Lib.hid (fun j hj => by omega)⟩
      case round =>
        obtain ⟨k, hk, rfl, HB, HE⟩ := hrel
        by_cases hkn : k = n
        · subst hkn
          have e1 : r = true := by
            rw [HR.out, decide_eq_true_eq]
            exact list_eq_of HL.out (by rw [← HN.out]; exact HE.out)
          have HE1 := Lib.hid e1
          clear e1
          go_wp2
          go_ret
          exact ⟨by rw [HE1.out]; rfl, HB.out⟩
        · have hkn2 : k < n := by omega
          have c1 := (HB.out.cell (p := ⟨ba, oa + k, none⟩) lta).trans (HCA.out k hkn2)
          have c2 := (HB.out.cell (p := ⟨bb, ob + k, none⟩) ltb).trans (HCB.out k hkn2)
          have hi1 : (k : Int) < (n : Int) := by omega
          by_cases he : la.getD k ⟨#[]⟩ = lb.getD k ⟨#[]⟩
          · have HE2 := Lib.hid he
            rw [← he] at c2
            obtain ⟨s, hs⟩ : ∃ s, s = la.getD k ⟨#[]⟩ := ⟨_, rfl⟩
            rw [← hs] at c1 c2
            clear he hs
            go_wp2_with fail
            go_quiet (fail)
            go_wp2
            exact ⟨⟨k + 1, by omega, by go_num, Lib.hid (below_drewN' HB.out nq), Lib.hid (fun j hj => by
              rcases Nat.lt_succ_iff_lt_or_eq.1 hj with h | h
              · exact HE.out j h
              · subst h; exact HE2.out)⟩, by simp [intOf]; omega⟩
          · have e1 : r = false := by
              rw [HR.out, decide_eq_false_iff_not]
              exact fun e => he (by rw [e])
            have HE1 := Lib.hid e1
            have hne : ¬ (la.getD k ⟨#[]⟩).toList = (lb.getD k ⟨#[]⟩).toList := fun e => he (by_inj (by rw [ByteArray.toList_eq, ByteArray.toList_eq] at e; exact e))
            obtain ⟨s, hs⟩ : ∃ s, s = la.getD k ⟨#[]⟩ := ⟨_, rfl⟩
            obtain ⟨t, ht⟩ : ∃ t, t = lb.getD k ⟨#[]⟩ := ⟨_, rfl⟩
            rw [← hs] at c1 hne
            rw [← ht] at c2 hne
            have hne2 : (s.toList == t.toList) = false := by simpa using hne
            clear he hs ht e1 hne
            go_wp2_with fail
            go_quiet (fail)
            go_wp2
            go_ret
            exact ⟨by rw [HE1.out]; rfl, below_drewN' HB.out nq⟩
  · obtain ⟨ao, cap, rfl⟩ := ha.mk'
    obtain ⟨ao2, cap2, rfl⟩ := hb.mk'
    have e0 : decide (la = lb) = false := by
      rw [decide_eq_false_iff_not]
      exact fun e => hl (by rw [e])
    rw [e0]
    obtain ⟨n1, h1⟩ : ∃ n, n = la.length := ⟨_, rfl⟩
    obtain ⟨n2, h2⟩ : ∃ n, n = lb.length := ⟨_, rfl⟩
    rw [← h1] at hl ⊢
    rw [← h2] at hl ⊢
    have hne : ((n1 : Int) != n2) = true := by simp; omega
    clear ha hb e0 h1 h2
    go_enter Try.func26, Try.ntmps26
    go_wp2
    go_ret
    exact ⟨rfl, Below.refl _ _⟩

end Go.Proofs.Ytkkbjkjmhjgaiaa
