/- Contracts: cut, numbers. -/
import Derived.Test.YtafdjohgoopcmaaXL
namespace Go.Proofs.Ytafdjohgoopcmaa
open Go.RowKit

theorem Cx.take {w : World} {ao : Option Addr} {n cap : Nat} {l : List Ch} (h : Cx w (.slice ao n cap) l) (m : Nat) (hm : m ≤ n) : Cx w (.slice ao m cap) (l.take m) := by
  have hfit : ∀ k, I64 ((l.take m).getD k (0, 0, 0)).1 := fun k => by
    by_cases hk : k < m
    · have := h.fit k
      simpa [List.getD, List.getElem?_take, hk] using this
    · have : (l.take m).getD k (0, 0, 0) = (0, 0, 0) := by simp [List.getD, List.getElem?_take, hk]
      rw [this]
      exact ⟨by decide, by decide⟩
  have hlen := h.len
  rcases h.is with ⟨rfl, ao2, cap2, e⟩ | ⟨b, off, cap2, e, h1, h2, h3⟩
  · injection e with e1 e2 e3
    subst e2
    obtain rfl : m = 0 := by omega
    exact ⟨by simp, hfit, .inl ⟨rfl, _, _, rfl⟩⟩
  · injection e with e1 e2 e3
    subst e1 e2 e3
    have hl : (l.take m).length = m := by rw [List.length_take]; omega
    refine ⟨by rw [hl]; omega, hfit, .inr ⟨b, off, cap, by rw [hl], by rw [hl]; omega, h2, fun j hj => ?_⟩⟩
    rw [hl] at hj
    have := h3 j (by omega)
    have e : (l.take m).getD j (0, 0, 0) = l.getD j (0, 0, 0) := by simp [List.getD, List.getElem?_take, hj]
    rw [e]
    exact this

set_option maxRecDepth 10000 in
set_option maxHeartbeats 1000000 in
theorem cut_any {w : World} {v : Value} {l : List Ch} (h : Cx w v l) : Calls Try.prog 13 #[v] w fun e w' => ∃ ao cap, e = .returned (.slice ao (min l.length 20) cap) ∧ Cx w (.slice ao (min l.length 20) cap) (l.take 20) ∧ w' = w := by
  obtain ⟨ao, cap, rfl⟩ := h.mk'
  have hlen := h.len
  unfold maxLen at hlen
  have hT := h.take (min l.length 20) (by omega)
  have e2 : l.take (min l.length 20) = l.take 20 := by
    rcases Nat.le_total l.length 20 with h | h
    · rw [Nat.min_eq_left h, List.take_length, List.take_of_length_le h]
    · rw [Nat.min_eq_right h]
  rw [e2] at hT
  have HT := Lib.hid hT
  have HX := Lib.hid h
  obtain ⟨n, hn⟩ : ∃ n, n = l.length := ⟨_, rfl⟩
  have HN := Lib.hid hn
  rw [← hn] at hlen HT HX ⊢
  have hcp : Hid (n ≤ cap ∨ n = 0) := by
    rcases h.is with ⟨rfl, ao2, cap2, e⟩ | ⟨b, off, cap2, e, h1, h2, h3⟩
    · exact Lib.hid (.inr (by simpa using hn))
    · injection e with e1 e2 e3
      subst e3
      exact Lib.hid (.inl (by omega))
  clear hT h hn e2
  have e3 : (min (n : Int) 20).toNat = min n 20 := by omega
  by_cases h0 : n = 0
  · subst h0
    go_enter Try.func13, Try.ntmps13
    go_wp2
    go_ret
    exact ⟨_, _, rfl, HT.out, rfl⟩
  · have hc2 : n ≤ cap := by rcases hcp.out with h | h <;> omega
    obtain ⟨b, off, rfl, hq, hbl, hcl⟩ := HX.out.at h0
    clear hcl hq hbl
    go_enter Try.func13, Try.ntmps13
    go_wp2
    go_ret
    exact ⟨_, _, rfl, HT.out, rfl⟩

theorem getD_ne {a b : List Int} (h : a.length = b.length) (he : a ≠ b) : ∃ k, k < a.length ∧ a.getD k 0 ≠ b.getD k 0 := by
  apply Classical.byContradiction
  intro hc
  apply he
  apply List.ext_getElem h
  intro k h1 h2
  apply Classical.byContradiction
  intro h3
  exact hc ⟨k, h1, by simpa [List.getD, h1, h2] using h3⟩

set_option maxRecDepth 10000 in
set_option maxHeartbeats 2000000 in
theorem numbers_any {w : World} {va vb : Value} {a b : List Int} (ha : Ix w va a) (hb : Ix w vb b) : Calls Try.prog 21 #[va, vb] w fun e w' => e = .returned (.bool (decide (a = b))) ∧ Below w.heap.size w w' := by
  obtain ⟨aa, ca, rfl⟩ := ha.mk'
  obtain ⟨ab, cb, rfl⟩ := hb.mk'
  have hla := ha.len
  have hlb := hb.len
  unfold maxLen at hla hlb
  by_cases hlen : a.length = b.length
  · obtain ⟨n, hn⟩ : ∃ n, n = a.length := ⟨_, rfl⟩
    have hnb : n = b.length := by omega
    have HA := Lib.hid ha
    have HB := Lib.hid hb
    have HN := Lib.hid hn
    have HNB := Lib.hid hnb
    rw [← hn] at hla HA ⊢
    rw [← hnb] at HB ⊢
    clear hlen hlb hn hnb ha hb
    go_enter Try.func21, Try.ntmps21
    go_wp2
    go_loopw [5, 13] (fun _ kv wr => ∃ k : Nat, k ≤ n ∧ kv = .int .i64 (k : Nat) ∧ Hid (∀ j, j < k → a.getD j 0 = b.getD j 0) ∧ Hid (Below w.heap.size w wr)) (fun _ kv _ => n - (intOf kv).toNat)
    case atStart => exact ⟨0, by omega, rfl, Lib.hid (fun j h => by omega), Lib.hid (Below.refl _ _)⟩
    case round =>
      obtain ⟨k, hk, rfl, hJ, hBl⟩ := hrel
      by_cases hkn : k = n
      · have e1 : Hid (decide (a = b) = true) := Lib.hid (by
          rw [decide_eq_true_eq]
          apply Classical.byContradiction
          intro he
          obtain ⟨j, h1, h2⟩ := getD_ne (by rw [← HN.out, ← HNB.out]) he
          exact h2 (hJ.out j (by rw [hkn, HN.out]; exact h1)))
        subst hkn
        go_wp2
        go_ret
        exact ⟨by rw [e1.out]; rfl, hBl.out⟩
      · have hlt : k < n := by omega
        obtain ⟨b1, o1, rfl, hq1, hcap1, hbl1, hcl1⟩ := HA.out.at (by omega)
        obtain ⟨b2, o2, rfl, hq2, hcap2, hbl2, hcl2⟩ := HB.out.at (by omega)
        have c1 := cell_later hBl.out (hcl1 k hlt)
        have c2 := cell_later hBl.out (hcl2 k hlt)
        by_cases he : a.getD k 0 = b.getD k 0
        · have HJ2 : Hid (∀ j, j < k + 1 → a.getD j 0 = b.getD j 0) := Lib.hid fun j hj => by
            rcases Nat.lt_or_ge j k with h | h
            · exact hJ.out j h
            · rw [show j = k by omega]; exact he
          rw [← he] at c2
          obtain ⟨x, hx⟩ : ∃ x, x = a.getD k 0 := ⟨_, rfl⟩
          rw [← hx] at c1 c2
          have HBD := Lib.hid hBl.out.drew
          clear hx he hcl1 hcl2 hq1 hq2 hJ
          go_wp2
          go_region
          go_wp2
          go_roundw
          case rel => exact ⟨k + 1, by omega, by go_num, HJ2, HBD⟩
          case measure => simp [intOf]; omega
        · have e1 : Hid (decide (a = b) = false) := Lib.hid (by
            rw [decide_eq_false_iff_not]
            intro h; rw [h] at he; exact he rfl)
          obtain ⟨x, hx⟩ : ∃ x, x = a.getD k 0 := ⟨_, rfl⟩
          obtain ⟨y, hy⟩ : ∃ y, y = b.getD k 0 := ⟨_, rfl⟩
          rw [← hx] at c1 he
          rw [← hy] at c2 he
          have HBD := Lib.hid hBl.out.drew
          clear hx hy hcl1 hcl2 hq1 hq2 hJ
          go_wp2
          go_region
          go_wp2
          go_ret
          exact ⟨by rw [e1.out]; rfl, HBD.out⟩
  · have e1 : decide (a = b) = false := by
      rw [decide_eq_false_iff_not]
      intro h; rw [h] at hlen; exact hlen rfl
    rw [e1]
    obtain ⟨n, hn⟩ : ∃ n, n = a.length := ⟨_, rfl⟩
    obtain ⟨m, hm⟩ : ∃ m, m = b.length := ⟨_, rfl⟩
    rw [← hn] at hla hlen ⊢
    rw [← hm] at hlb hlen ⊢
    have hne : ¬ (n : Int) = (m : Int) := by omega
    clear hn hm ha hb e1
    go_enter Try.func21, Try.ntmps21
    go_wp2
    go_ret
    exact ⟨rfl, Below.refl _ _⟩

end Go.Proofs.Ytafdjohgoopcmaa
