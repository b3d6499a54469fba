/- Appends of strings: a copy, one string more. Facts on the halves of a list of 2^(m+1) strings. -/
import Derived.Laws.AppendOwnNone
import Derived.Test.YtkkbjkjmhjgaiaaII
namespace Go.Proofs.Ytkkbjkjmhjgaiaa
open Go.RowKit

theorem add_none (b off j : Nat) : (Addr.mk b off none).add j = ⟨b, off + j, none⟩ := by
  unfold Addr.add
  by_cases hj0 : j = 0
  · subst hj0; rfl
  · rw [if_neg hj0]

theorem push_run {W : World} {B n : Nat} {v : Value} {xs : List ByteArray} (h : W.ownsRow B 9 1 v n (sv xs)) (hn : n ≤ 1000) (hB : B ≤ W.heap.size) (s : ByteArray) :
    ∃ ao n2 cap2 w2, Sem.run Try.prog (appX 29 #[v, .slice (some ⟨W.heap.size, 0, none⟩) 1 1]) (W.alloc (.cells #[.string s] 9)) = .ok (.slice ao n2 cap2) w2 ∧ w2.ownsRow B 9 1 (.slice ao n2 cap2) (n + 1) (sv (xs ++ [s])) ∧ Below B W w2 := by
  obtain ⟨i0, hii, hz0, hz1, hz2⟩ := info_parts Try.info9
  have hown3 : (W.alloc (.cells #[.string s] 9)).ownsRow B 9 1 v n (sv xs) := owns_kept h (KeptC.of_below ((Below.refl _ _).alloc (Nat.le_refl _) _))
  obtain ⟨v4, w4, hrun4, hown4, hgrow4, _⟩ := run_append_own (P := Try.prog) (w := W.alloc (.cells #[.string s] 9)) B 29 29 9 i0 (.string ⟨#[]⟩) 1 16 Try.underlying29 hii hz0 hz1 hz2 rfl (by decide) _ n _ hown3 ⟨W.heap.size, 0, none⟩ 1 1 [.string s] rfl (cell_one_new W (.string s) 9) (fun x hx => by simp at hx; subst hx; rfl) (by unfold maxLen; omega) (by omega) (by simp; omega)
  rw [appX_rw] at hrun4
  obtain ⟨ao4, n4, cap4, rfl⟩ := slice_of_owns hown4
  exact ⟨ao4, n4, cap4, w4, hrun4, by rw [sv_append]; exact hown4, (((Below.refl B W).alloc hB _)).grown hgrow4 (by simp; omega) (fun j hj => (hown3.lt j hj).1)⟩

theorem copy_run {W : World} {v : Value} {L : List ByteArray} (hS : Sx W v L) (hne : L ≠ []) (hlen : L.length ≤ 1000) :
    ∃ ao n2 cap2 w2, Sem.run Try.prog (appX 29 #[.slice (some ⟨W.heap.size, 0, none⟩) 0 0, v]) (W.alloc (.cells #[] 9)) = .ok (.slice ao n2 cap2) w2 ∧ w2.ownsRow W.heap.size 9 1 (.slice ao n2 cap2) L.length (sv L) ∧ Below W.heap.size W w2 := by
  obtain ⟨i0, hii, hz0, hz1, hz2⟩ := info_parts Try.info9
  obtain ⟨b', off, cap, rfl, hlt, hcl⟩ := hS.at hne
  have hbA : Below W.heap.size W (W.alloc (.cells #[] 9)) := (Below.refl _ _).alloc (Nat.le_refl _) _
  have hown0 : (W.alloc (.cells #[] 9)).ownsRow W.heap.size 9 1 (.slice (some ⟨W.heap.size, 0, none⟩) 0 0) 0 (sv []) := ⟨rfl, .inr ⟨W.heap.size, 0, #[], rfl, Nat.le_refl _, heap_alloc_new _ _, Nat.le_refl _, Nat.zero_le _, rfl, rfl⟩⟩
  obtain ⟨v2, w2, hrun, hown2, hgrow2, _⟩ := run_append_own (P := Try.prog) (w := W.alloc (.cells #[] 9)) W.heap.size 29 29 9 i0 (.string ⟨#[]⟩) 1 16 Try.underlying29 hii hz0 hz1 hz2 rfl (by decide) _ 0 _ hown0 ⟨b', off, none⟩ L.length cap (sv L) (by rw [sv, List.length_map]; omega)
    (fun j u hu => by
      have hj : j < L.length := by
        have := (List.getElem?_eq_some_iff.1 hu).1
        simpa [sv] using this
      have hc := cell_later hbA (hcl j hj)
      rw [add_none, hc, ← hu]
      simp [sv, List.getD, hj])
    (fun u hu => by
      simp only [sv, List.mem_map] at hu
      obtain ⟨s, _, rfl⟩ := hu
      rfl) (by unfold maxLen; omega) (by omega) (by simp)
  rw [appX_rw] at hrun
  rw [Nat.zero_add] at hown2
  obtain ⟨ao2, n2, cap2, rfl⟩ := slice_of_owns hown2
  exact ⟨ao2, n2, cap2, w2, hrun, hown2, hbA.grown hgrow2 (by simp) (fun j hj => (hown0.lt j hj).1)⟩

theorem Sx.sub {W : World} {b off len cap : Nat} {l : List ByteArray} (h : Sx W (.slice (some ⟨b, off, none⟩) len cap) l) (hlen : len = l.length) (lo k : Nat) (hk : 0 < k) (hlo : lo + k ≤ len) (cap2 : Nat) (hc2 : k ≤ cap2) : Sx W (.slice (some ⟨b, off + lo, none⟩) k cap2) ((l.drop lo).take k) := by
  have hl2 : ((l.drop lo).take k).length = k := by rw [List.length_take, List.length_drop]; omega
  obtain ⟨b1, off1, cap1, hv, hlt, hcl⟩ := h.at (fun e => by rw [e] at hlen; simp at hlen; omega)
  injection hv with hv1 hv2 hv3
  injection hv1 with hv1
  injection hv1 with hb ho _
  subst hb ho
  refine ⟨by rw [hl2]; have := h.len; omega, .inr ⟨b, off + lo, cap2, by rw [hl2], by rw [hl2]; exact hc2, hlt, fun j hj => ?_⟩⟩
  rw [hl2] at hj
  have := hcl (lo + j) (by omega)
  rw [show off + lo + j = off + (lo + j) by omega, this]
  simp [List.getD, List.getElem?_take, hj]

theorem wid_two_pow (m : Nat) : wid (2 ^ m) = 2 ^ m := by
  obtain ⟨m2, h1, h2, h3⟩ := wid_pow (2 ^ m)
  rw [h1]
  have a1 : m ≤ m2 := by
    apply Nat.le_of_not_lt
    intro h
    have := Nat.pow_lt_pow_right (a := 2) (by omega) h
    omega
  have a2 : m2 ≤ m := by
    apply Nat.le_of_not_lt
    intro h
    have h4 := h3 (by omega)
    have := Nat.pow_le_pow_right (n := 2) (i := m) (j := m2 - 1) (by omega) (by omega)
    omega
  rw [Nat.le_antisymm a2 a1]

theorem leavesD_full2 {l : List ByteArray} {m : Nat} (h : l.length = 2 ^ m) : leavesD (l.map by') = l.map fun s => leafD (by' s) := by
  unfold leavesD
  rw [List.length_map, h, wid_two_pow, Nat.sub_self, List.replicate_zero, List.append_nil, List.map_map]
  rfl

theorem leaves_halves {a b : List ByteArray} {m : Nat} (ha : a.length = 2 ^ m) (hb : b.length = 2 ^ m) : leavesD ((a ++ b).map by') = leavesD (a.map by') ++ leavesD (b.map by') := by
  rw [leavesD_full2 (m := m + 1) (by rw [List.length_append, ha, hb, Nat.pow_succ]; omega), leavesD_full2 ha, leavesD_full2 hb, List.map_append]

/-- The root of a list. -/
def rootS (L : List ByteArray) (m : Nat) : ByteArray := sA (rootD m (leavesD (L.map by')))

theorem root_halves {a b : List ByteArray} {m : Nat} (ha : a.length = 2 ^ m) (hb : b.length = 2 ^ m) : rootS (a ++ b) (m + 1) = ofS (⟨#[2]⟩ ++ rootS a m ++ rootS b m) := by
  unfold rootS
  rw [leaves_halves ha hb, rootD_append m _ _ (by rw [leavesD_len, List.length_map, ha, wid_two_pow]) (by rw [leavesD_len, List.length_map, hb, wid_two_pow]), sA_node]

theorem proof_low {a b : List ByteArray} {m i : Nat} (ha : a.length = 2 ^ m) (hb : b.length = 2 ^ m) (hi : i < 2 ^ m) : proofS (a ++ b) (m + 1) i = proofS a m i ++ [rootS b m] := by
  unfold proofS rootS
  rw [leaves_halves ha hb, proofD_low m _ _ i (by rw [leavesD_len, List.length_map, ha, wid_two_pow]) (by rw [leavesD_len, List.length_map, hb, wid_two_pow]) hi, List.map_append]
  rfl

theorem proof_high {a b : List ByteArray} {m i : Nat} (ha : a.length = 2 ^ m) (hb : b.length = 2 ^ m) (hi : i < 2 ^ m) : proofS (a ++ b) (m + 1) (2 ^ m + i) = proofS b m i ++ [rootS a m] := by
  unfold proofS rootS
  rw [leaves_halves ha hb, proofD_high m _ _ i (by rw [leavesD_len, List.length_map, ha, wid_two_pow]) (by rw [leavesD_len, List.length_map, hb, wid_two_pow]) hi, List.map_append]
  rfl

theorem rootS_size {L : List ByteArray} {m : Nat} (h : L.length = 2 ^ m) : (rootS L m).size = 8 := by
  unfold rootS
  rw [sA_size, rootD_lvl]
  have h1 := lvl_len m m (leavesD (L.map by')) (by rw [leavesD_len, List.length_map, h, wid_two_pow]) (Nat.le_refl _)
  have h2 := all8_lvl m (leavesD (L.map by')) (all8_leaves _)
  rw [Nat.sub_self, Nat.pow_zero] at h1
  generalize lvl m (leavesD (L.map by')) = X at h1 h2
  match X, h1 with
  | [x], _ => exact h2 x (List.mem_singleton.2 rfl)

theorem owns_base {W : World} {B B2 n : Nat} {v : Value} {xs : List Value} (h : W.ownsRow B 9 1 v n xs) (hB : B2 ≤ B) : W.ownsRow B2 9 1 v n xs := by
  refine ⟨h.1, ?_⟩
  rcases h.2 with h | ⟨g, cap, cur, h1, h2, h3⟩
  · exact .inl h
  · exact .inr ⟨g, cap, cur, h1, Nat.le_trans hB h2, h3⟩

theorem list_O {w W : World} {v : Value} {l : List ByteArray} (hX : Sx w v l) (hW : Below w.heap.size w W) : Calls Try.prog 21 #[v] W fun e w' => ∃ ao n cap, e = .returned (.slice ao n cap) ∧ w'.ownsRow w.heap.size 9 1 (.slice ao n cap) (cutL l).length (sv (cutL l)) ∧ Below W.heap.size W w' :=
  (list_any (hX.below hW)).mono fun _ _ ⟨ao, n, cap, h1, h2, h3⟩ => ⟨ao, n, cap, h1, owns_base h2 hW.size, h3⟩

end Go.Proofs.Ytkkbjkjmhjgaiaa
