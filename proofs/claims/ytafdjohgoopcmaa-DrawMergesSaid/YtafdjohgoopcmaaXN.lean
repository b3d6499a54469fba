/- What the law's sanity calls. No condition. -/
import Derived.Test.YtafdjohgoopcmaaXM
namespace Go.Proofs.Ytafdjohgoopcmaa
open Go.RowKit

theorem ix_new1 (W : World) (x : Int) (hx : I64 x) : Ix (W.alloc (.cells #[.int .i64 x] 3)) (.slice (some ⟨W.heap.size, 0, none⟩) 1 1) [x] := by
  refine ⟨by simp [maxLen], fun i => ?_, .inr ⟨_, 0, 1, rfl, Nat.le_refl _, by simp, fun i hi => ?_⟩⟩
  · match i with
    | 0 => simpa using hx
    | n + 1 => simp
  · rw [cell_of_row _ _ _ _ _ _ (heap_alloc_new _ _)]
    match i, hi with
    | 0, _ => rfl

theorem row_ix {W : World} {g n : Nat} {L : List Nat} (h : RowI W g L) (hn : n = L.length) (hl : n ≤ 1000) (hs : ∀ k, L.getD k 0 ≤ 1000000) : Ix W (.slice (some ⟨g, 0, none⟩) n n) (L.map fun (x : Nat) => (x : Int)) := by
  subst hn
  have e : ∀ k, (L.map fun (x : Nat) => (x : Int)).getD k 0 = ((L.getD k 0 : Nat) : Int) := fun k => by
    simp only [List.getD, List.getElem?_map]
    cases L[k]? <;> rfl
  refine ⟨by simp [maxLen]; omega, fun k => by rw [e]; have := hs k; omega, .inr ⟨g, 0, L.length, by simp, by simp, h.lt, fun j hj => ?_⟩⟩
  rw [List.length_map] at hj
  rw [Nat.zero_add, h.cell hj, e]

theorem fit_ch {l : List Ch} (h : ∀ c ∈ l, I64 c.1) : ∀ k, I64 (l.getD k (0, 0, 0)).1 := fun k => by
  by_cases hk : k < l.length
  · have : l.getD k (0, 0, 0) = l[k] := by simp [List.getD, hk]
    rw [this]; exact h _ (List.getElem_mem hk)
  · have : l.getD k (0, 0, 0) = (0, 0, 0) := by simp [List.getD, List.getElem?_eq_none (Nat.le_of_not_lt hk)]
    rw [this]; exact ⟨by decide, by decide⟩

theorem ch_one (W : World) (b : Nat) (hb : b = W.heap.size) : Calls Try.prog 22 #[.slice (some ⟨b, 0, none⟩) 1 1] (W.alloc (.cells #[.int .i64 7] 3)) fun e w' => ∃ ao cap, e = .returned (.slice ao 1 cap) ∧ Cx w' (.slice ao 1 cap) [(7, 0, 0)] ∧ Below W.heap.size W w' := by
  subst hb
  refine (choices_any (ix_new1 W 7 ⟨by decide, by decide⟩) (by decide)).mono fun e w' ⟨ao, cap, h1, h2, h3⟩ => ⟨ao, cap, h1, ?_, ((Below.refl _ _).alloc (Nat.le_refl _) _).trans (h3.mono (by simp))⟩
  exact h2.cx (by decide) (fit_ch fun c hc => by
    have : c = (7, 0, 0) := by simpa [withW] using hc
    subst this; exact ⟨by decide, by decide⟩)

theorem ix_new2 (W : World) : Ix (W.alloc (.cells #[.int .i64 1, .int .i64 0] 3)) (.slice (some ⟨W.heap.size, 0, none⟩) 2 2) [1, 0] := kj_new W 1 0 ⟨by decide, by decide⟩ ⟨by decide, by decide⟩

theorem ch_two (W : World) (b : Nat) (hb : b = W.heap.size) : Calls Try.prog 22 #[.slice (some ⟨b, 0, none⟩) 2 2] (W.alloc (.cells #[.int .i64 1, .int .i64 0] 3)) fun e w' => ∃ ao cap, e = .returned (.slice ao 2 cap) ∧ Cx w' (.slice ao 2 cap) [(1, 0, 0), (0, 0, 1)] ∧ Below W.heap.size W w' := by
  subst hb
  refine (choices_any (ix_new2 W) (by decide)).mono fun e w' ⟨ao, cap, h1, h2, h3⟩ => ⟨ao, cap, h1, ?_, ((Below.refl _ _).alloc (Nat.le_refl _) _).trans (h3.mono (by simp))⟩
  exact h2.cx (by decide) (fit_ch fun c hc => by
    have : c = (1, 0, 0) ∨ c = (0, 0, 1) := by simpa [withW, List.range_succ] using hc
    rcases this with rfl | rfl <;> exact ⟨by decide, by decide⟩)

abbrev xS : ByteArray := ⟨#[120]⟩
theorem num_one (W : World) : Calls Try.prog 11 #[.string xS, .int .i64 0, .int .i64 1] W fun e w' => e = .returned (.tuple #[.int .i64 0, .bool true]) ∧ Below W.heap.size W w' := by
  have h := number_any xS (by decide) 0 1 ⟨by decide, by decide⟩ ⟨by decide, by decide⟩ W
  have ho : okN xS 0 1 = true := by decide
  have hn : numV xS 0 1 = 0 := by rw [numV, if_pos ho, show (1 : Int).toNat = 1 from rfl, Nat.mod_one]
  rw [ho, hn] at h
  exact h
theorem num_no (k t : Int) (hk : I64 k) (ht : I64 t) (ho : okN xS k t = false) (W : World) : Calls Try.prog 11 #[.string xS, .int .i64 k, .int .i64 t] W fun e w' => e = .returned (.tuple #[.int .i64 0, .bool false]) ∧ Below W.heap.size W w' := by
  have h := number_any xS (by decide) k t hk ht W
  rw [ho, numV_no ho] at h
  exact h
theorem pick_one (W : World) (v : Value) (h : Cx W v [(7, 0, 0)]) : Calls Try.prog 14 #[.string xS, .int .i64 3, v] W fun e w' => e = .returned (.tuple #[.int .i64 0, .bool true]) ∧ Below W.heap.size W w' := by
  have h := pick_any h xS (by decide) 3 ⟨by decide, by decide⟩
  have ht : total [(7, 0, 0)] = 7 := by decide
  have ho : okN xS 3 (total [(7, 0, 0)]) = true := by rw [ht]; decide
  have hn : pickV xS 3 [(7, 0, 0)] = 0 := by
    have := numV_lt ho
    rw [ht] at this
    rw [pickV, if_pos ho, above, if_pos]
    rw [ht]
    show _ < 0 + 7
    omega
  rw [ho, hn] at h
  exact h
theorem pick_no (W : World) (v : Value) (l : List Ch) (h : Cx W v l) (ht : total l = 0) : Calls Try.prog 14 #[.string xS, .int .i64 3, v] W fun e w' => e = .returned (.tuple #[.int .i64 0, .bool false]) ∧ Below W.heap.size W w' := by
  have h := pick_any h xS (by decide) 3 ⟨by decide, by decide⟩
  have ho : okN xS 3 (total l) = false := by rw [ht]; decide
  have hn : pickV xS 3 l = 0 := by rw [pickV, if_neg (by rw [ho]; decide)]
  rw [ho, hn] at h
  exact h
theorem num_zero (W : World) (g b : Nat) (hg : RowI W g [0]) (hb : b = W.heap.size) : Calls Try.prog 21 #[.slice (some ⟨g, 0, none⟩) 1 1, .slice (some ⟨b, 0, none⟩) 1 1] (W.alloc (.cells #[.int .i64 0] 3)) fun e w' => e = .returned (.bool true) ∧ Below W.heap.size W w' := by
  subst hb
  have h1 : Ix (W.alloc (.cells #[.int .i64 0] 3)) (.slice (some ⟨g, 0, none⟩) 1 1) [0] := row_ix (L := [0]) (hg.below ((Below.refl _ _).alloc (Nat.le_refl _) _)) rfl (by decide) (fun k => by match k with | 0 => decide | k + 1 => simp)
  exact (numbers_any h1 (ix_new1 W 0 ⟨by decide, by decide⟩)).mono fun e w' h => ⟨h.1, ((Below.refl _ _).alloc (Nat.le_refl _) _).trans (h.2.mono (by simp))⟩
theorem join_none (W : World) : Calls Try.prog 16 #[.slice none 0 0] W fun e w' => e = .returned (.tuple #[.string ⟨#[]⟩, .bool false]) ∧ Below W.heap.size W w' := joined_any (Sx.nil W none 0)
theorem join_six (W : World) (b : Nat) (hb : b = W.heap.size) : Calls Try.prog 16 #[.slice (some ⟨b, 0, none⟩) 6 6] (W.alloc (.cells #[.string ⟨#[97]⟩, .string ⟨#[98]⟩, .string ⟨#[99]⟩, .string ⟨#[100]⟩, .string ⟨#[101]⟩, .string ⟨#[102]⟩] 9)) fun e w' => e = .returned (.tuple #[.string ⟨#[]⟩, .bool false]) ∧ Below W.heap.size W w' := by
  subst hb
  exact (joined_any (Sx.new W [⟨#[97]⟩, ⟨#[98]⟩, ⟨#[99]⟩, ⟨#[100]⟩, ⟨#[101]⟩, ⟨#[102]⟩] 6 rfl (by decide) _ rfl 9 (0, 0))).mono fun e w' h => ⟨h.1, ((Below.refl _ _).alloc (Nat.le_refl _) _).trans (h.2.mono (by simp))⟩
theorem join_a (W : World) (b : Nat) (hb : b = W.heap.size) : Calls Try.prog 16 #[.slice (some ⟨b, 0, none⟩) 1 1] (W.alloc (.cells #[.string ⟨#[97]⟩] 9)) fun e w' => ∃ s, s.size = 8 ∧ e = .returned (.tuple #[.string s, .bool true]) ∧ Below W.heap.size W w' := by
  subst hb
  exact (joined_any (Sx.new W [⟨#[97]⟩] 1 rfl (by decide) _ rfl 9 (0, 0))).mono fun e w' h => ⟨chS (ofS ⟨#[]⟩) ⟨#[97]⟩, chS_size _ _, h.1, ((Below.refl _ _).alloc (Nat.le_refl _) _).trans (h.2.mono (by simp))⟩

theorem shuf_zero (W : World) : Calls Try.prog 20 #[.string xS, .int .i64 0] W fun e w' => e = .returned (.tuple #[.slice (some ⟨W.heap.size, 0, none⟩) 0 0, .bool true]) ∧ Below W.heap.size W w' :=
  (shuffle_good xS (by decide) (by decide) 0 (by decide) W).mono fun e w' h => ⟨h.1, h.2.2⟩
theorem shuf_one (W : World) : Calls Try.prog 20 #[.string xS, .int .i64 1] W fun e w' => e = .returned (.tuple #[.slice (some ⟨W.heap.size, 0, none⟩) 1 1, .bool true]) ∧ RowI w' W.heap.size [0] ∧ Below W.heap.size W w' :=
  shuffle_good xS (by decide) (by decide) 1 (by decide) W
theorem shuf_no (W : World) : Calls Try.prog 20 #[.string xS, .int .i64 401] W fun e w' => e = .returned (.tuple #[.slice none 0 0, .bool false]) ∧ Below W.heap.size W w' :=
  (shuffle_bad xS (by decide) 401 ⟨by decide, by decide⟩ (.inr (.inr (by decide))) W).mono fun e w' h => ⟨h.1, by rw [h.2]; exact Below.refl _ _⟩

end Go.Proofs.Ytafdjohgoopcmaa
