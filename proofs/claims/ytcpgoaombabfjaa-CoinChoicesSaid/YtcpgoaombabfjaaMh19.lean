/- Contracts of the reference: the common divisor, Fit. Condition: a numerator and a denominator from 0 to 1000. The choices' numbers are small. No condition beyond those that are stated. What CoinShares asks of numbers: sums over the choices, what each arm weighs, the shares of those that are preferred. No condition beyond those that are stated. -/
import Derived.Test.YtcpgoaombabfjaaMh16
import Derived.Lib.MinMax
import Derived.BigQuiet
import Derived.Test.YtcpgoaombabfjaaMh17
namespace Go.Proofs.Ytcpgoaombabfjaa
set_option linter.unusedSimpArgs false
set_option linter.unusedVariables false
open Go.RowKit

set_option maxRecDepth 10000 in
set_option maxHeartbeats 4000000 in
theorem rCommon_any {W : World} (n p : Nat) :
    Calls Try.prog 52 #[.int .i64 (n : Int), .int .i64 (p : Int)] W fun e w' => e = .returned (.int .i64 (Nat.gcd n p : Nat)) ∧ Below W.heap.size W w' := by
  obtain ⟨G, hG⟩ : ∃ G, G = Nat.gcd n p := ⟨_, rfl⟩
  have HG := Lib.hid hG
  rw [← hG]
  clear hG
  go_enter Try.func52, Try.ntmps52
  go_wp2
  go_loopw [0, 1] (fun av bv wr => ∃ a b : Nat, av = .int .i64 (a : Int) ∧ bv = .int .i64 (b : Int) ∧ Hid (G = Nat.gcd a b) ∧ Hid (Below W.heap.size W wr)) (fun _ bv _ => (intOf bv).toNat)
  case atStart => exact ⟨n, p, rfl, rfl, HG, Lib.hid (Below.refl _ _)⟩
  case round =>
    obtain ⟨w, hw⟩ : ∃ w, w = wr := ⟨_, rfl⟩
    subst hw
    obtain ⟨a, b, rfl, rfl, HA, HB⟩ := hrel
    by_cases hb : b = 0
    · have hz : Hid (G = a) := Lib.hid (by rw [HA.out, hb, Nat.gcd_zero_right])
      subst hb
      go_wp2
      go_ret
      exact ⟨by rw [hz.out]; rfl, HB.out⟩
    · have hbI : ¬ (b : Int) = 0 := by omega
      have hb1 : ((b : Int) != 0) = true := bne_iff_ne.2 hbI
      have ht : (a : Int).tmod (b : Int) = ((a % b : Nat) : Int) := by rw [Int.tmod_eq_emod_of_nonneg (by omega)]; rfl
      have hlt : a % b < b := Nat.mod_lt _ (by omega)
      have HN : Hid (G = Nat.gcd b (a % b)) := Lib.hid (by rw [HA.out, Nat.gcd_comm, Nat.gcd_rec, Nat.gcd_comm])
      obtain ⟨c, hc⟩ : ∃ c, c = a % b := ⟨_, rfl⟩
      rw [← hc] at ht hlt HN
      have hz2 : (a : Int) % (b : Int) = (c : Int) := by rw [hc]; rfl
      clear hc
      go_upto_region 2 with fail
      go_quiet (fail)
      go_wp2
      go_roundw
      case rel => exact ⟨b, c, by first | rfl | trivial, by first | rfl | (rw [hz2]) | (rw [ht]), HN, Lib.hid (HB.out.trans ⟨rfl, rfl, rfl, Nat.le_refl _, fun _ _ => rfl⟩)⟩
      case measure => simp [intOf]; omega

set_option maxRecDepth 10000 in
set_option maxHeartbeats 4000000 in
theorem rFit_any {W : World} (n p : Nat) (h1 : n ≤ 1000) (h2 : p ≤ 1000) :
    Calls Try.prog 37 #[.agg #[.int .i64 (n : Int), .int .i64 (p : Int)]] W fun e w' => e = .returned (.bool (fitF (n : Int) (p : Int))) ∧ Below W.heap.size W w' := by
  have hb : Below W.heap.size W (W.alloc (.cells #[.int .i64 (n : Int), .int .i64 (p : Int)] 28)) := (Below.refl _ _).alloc (Nat.le_refl _) _
  have HB := Lib.hid hb
  have x0 := heap_alloc_new W (.cells #[.int .i64 (n : Int), .int .i64 (p : Int)] 28)
  have c0 : (W.alloc (.cells #[.int .i64 (n : Int), .int .i64 (p : Int)] 28)).cell? ⟨W.heap.size, 0, none⟩ = some (.int .i64 (n : Int)) := cell_of_row _ _ _ _ _ _ x0
  have c1 : (W.alloc (.cells #[.int .i64 (n : Int), .int .i64 (p : Int)] 28)).cell? ⟨W.heap.size, 1, none⟩ = some (.int .i64 (p : Int)) := cell_of_row _ _ _ _ _ _ x0
  have HC := Lib.hid (rCommon_any (W := W.alloc (.cells #[.int .i64 (n : Int), .int .i64 (p : Int)] 28)) n p)
  have hF : fitF (n : Int) (p : Int) = (decide (1 ≤ (p : Int)) && (Nat.gcd n p == 1)) := by unfold fitF; rw [Bool.eq_iff_iff]; simp
  have hmx : max (n : Int) (-(n : Int)) = (n : Int) := by omega
  have wn : IntKind.i64.wrap (-(n : Int)) = -(n : Int) := IntWalk.i64_in _ (by omega)
  clear hb x0
  rw [hF]
  clear hF
  by_cases hp : p = 0
  · subst hp
    have e : (decide (1 ≤ ((0 : Nat) : Int)) && (Nat.gcd n 0 == 1)) = false := by simp
    rw [e]
    clear e
    go_enter Try.func37, Try.ntmps37
    go_wp2
    go_ret
    exact ⟨rfl, HB.out⟩
  · have hp1 : ¬ (p : Int) < 1 := by omega
    have hp2 : ¬ (1048576 : Int) < (p : Int) := by omega
    have hn1 : ¬ (n : Int) < -1048576 := by omega
    have hn2 : ¬ (1048576 : Int) < (n : Int) := by omega
    rw [decide_eq_true (show 1 ≤ (p : Int) by omega), Bool.true_and]
    generalize Nat.gcd n p = G at HC ⊢
    by_cases hg : G = 1
    · subst hg
      go_enter Try.func37, Try.ntmps37
      go_wp2_with (go_at_call 52; (with_reducible refine HC.out.mono ?_); rintro e w1 ⟨rfl, hb1⟩; have HB1 := Lib.hid (HB.out.trans (hb1.mono HB.out.size)); clear hb1)
      go_ret
      exact ⟨rfl, HB1.out⟩
    · have hg1 : ¬ (G : Int) = 1 := by omega
      have hg2 : ((G : Int) == 1) = false := by simpa using hg1
      have hd : (G == 1) = false := by simpa using hg
      rw [hd]
      clear hd
      go_enter Try.func37, Try.ntmps37
      go_wp2_with (go_at_call 52; (with_reducible refine HC.out.mono ?_); rintro e w1 ⟨rfl, hb1⟩; have HB1 := Lib.hid (HB.out.trans (hb1.mono HB.out.size)); clear hb1)
      go_ret
      exact ⟨rfl, HB1.out⟩

end Go.Proofs.Ytcpgoaombabfjaa

namespace Go.Proofs.Ytcpgoaombabfjaa
open Go Go.RowKit

theorem mul_le_of {a b A B : Int} (ha : 0 ≤ a ∧ a ≤ A) (hb : 0 ≤ b ∧ b ≤ B) : 0 ≤ a * b ∧ a * b ≤ A * B :=
  ⟨Int.mul_nonneg ha.1 hb.1, Int.mul_le_mul ha.2 hb.2 hb.1 (by omega)⟩
theorem wgt_in {r p : List Int} {cn cd f g : Int} (hr : ∀ k, 0 ≤ r.getD k 0 ∧ r.getD k 0 ≤ 8) (hf : 0 ≤ f ∧ f ≤ 64) (hg : 0 ≤ g ∧ g ≤ 64) (hc : 0 ≤ cn ∧ cn ≤ cd ∧ cd ≤ 4) (k : Nat) : 0 ≤ wgt r p cn cd f g k ∧ wgt r p cn cd f g k ≤ 2048 := by
  have h := hr k
  have h1 := mul_le_of (show 0 ≤ cn ∧ cn ≤ 4 by omega) hg
  have h2 := mul_le_of (show 0 ≤ cd - cn ∧ cd - cn ≤ 4 by omega) hf
  have h3 := mul_le_of h h1
  have h4 := mul_le_of h h2
  unfold wgt
  split
  · omega
  · split <;> omega
theorem chN_in {r p : List Int} {cn cd f g : Int} (hr : ∀ k, 0 ≤ r.getD k 0 ∧ r.getD k 0 ≤ 8) (hf : 0 ≤ f ∧ f ≤ 64) (hg : 0 ≤ g ∧ g ≤ 64) (hc : 0 ≤ cn ∧ cn ≤ cd ∧ cd ≤ 4) : ∀ (k : Nat) (x : Ch), x ∈ chN r p cn cd f g k → (0 ≤ x.1 ∧ x.1 ≤ 2048) ∧ x.2.1 = 0 ∧ 0 ≤ x.2.2 ∧ x.2.2 ≤ (k : Int)
  | 0, x, h => by simp [chN] at h
  | k + 1, x, h => by
    rw [chN] at h
    rcases List.mem_append.1 h with h | h
    · have := chN_in hr hf hg hc k x h
      exact ⟨this.1, this.2.1, this.2.2.1, by omega⟩
    · split at h
      · have e : x = (wgt r p cn cd f g k, 0, (k : Int)) := by simpa using h
        subst e
        exact ⟨wgt_in hr hf hg hc k, rfl, by simp, by simp; omega⟩
      · simp at h
theorem chV_fit {r s t : List Int} {cn cd : Nat} (hok : MadeOk r cn cd) (k : Nat) : I64 ((chV r s t (cn : Int) (cd : Int)).getD k (0, 0, 0)).1 ∧ I64 ((chV r s t (cn : Int) (cd : Int)).getD k (0, 0, 0)).2.1 ∧ I64 ((chV r s t (cn : Int) (cd : Int)).getD k (0, 0, 0)).2.2 := by
  have hr : ∀ k, 0 ≤ r.getD k 0 ∧ r.getD k 0 ≤ 8 := fun k => by have := hok.rr k; omega
  have hl := hok.l4
  have hin : ∀ x ∈ chV r s t (cn : Int) (cd : Int), (0 ≤ x.1 ∧ x.1 ≤ 2048) ∧ x.2.1 = 0 ∧ 0 ≤ x.2.2 ∧ x.2.2 ≤ (r.length : Int) := fun x hx => by
    unfold chV at hx
    split at hx
    · have h1 := sumF_in (p := prfV r s t) hr r.length
      have h2 := sumG_in (p := prfV r s t) hr r.length
      exact chN_in hr (by omega) (by omega) (by rcases hok.coin with ⟨a, b⟩ | ⟨a, b⟩ | ⟨a, b⟩ | ⟨a, b⟩ <;> omega) r.length x hx
    · simp at hx
  by_cases hk : k < (chV r s t (cn : Int) (cd : Int)).length
  · have e : (chV r s t (cn : Int) (cd : Int)).getD k (0, 0, 0) = (chV r s t (cn : Int) (cd : Int))[k] := by simp [List.getD, hk]
    have h := hin _ (List.getElem_mem hk)
    rw [← e] at h
    obtain ⟨⟨a1, a2⟩, a3, a4, a5⟩ := h
    exact ⟨⟨by omega, by omega⟩, ⟨by omega, by omega⟩, ⟨by omega, by omega⟩⟩
  · rw [show (chV r s t (cn : Int) (cd : Int)).getD k (0, 0, 0) = (0, 0, 0) by simp [List.getD, List.getElem?_eq_none (Nat.le_of_not_lt hk)]]; decide
theorem chV_len4 {r s t : List Int} {cn cd : Nat} (hok : MadeOk r cn cd) : (chV r s t (cn : Int) (cd : Int)).length ≤ 4 := by
  have hl := hok.l4
  unfold chV
  split
  · have := chN_len r (prfV r s t) (cn : Int) (cd : Int) (sumF r (prfV r s t) r.length) (sumG r (prfV r s t) r.length) r.length
    omega
  · simp

theorem prf_len (r s t : List Int) : (prfV r s t).length ≤ r.length := by
  unfold prfV
  split
  · exact best_len _ _ _ _
  · simp
theorem prf_fit {r s t : List Int} {cn cd : Nat} (hok : MadeOk r cn cd) (j : Nat) : I64 ((prfV r s t).getD j 0) := by
  have hl := hok.l4
  unfold prfV
  split
  · rw [← least_is]
    have := ls_fit r (unV r s) (unV r t) r.length (opN r r.length).length j
    exact ⟨by omega, by omega⟩
  · simp; decide

end Go.Proofs.Ytcpgoaombabfjaa

namespace Go.Proofs.Ytcpgoaombabfjaa
open Go Go.RowKit

def sm (f : Ch → Int) (C : List Ch) : Int := (C.map f).sum
theorem sm_add (f : Ch → Int) (A B : List Ch) : sm f (A ++ B) = sm f A + sm f B := by simp [sm, List.map_append, List.sum_append]
theorem sm_one (f : Ch → Int) (c : Ch) : sm f [c] = f c := by simp [sm]
theorem sm_step {f : Ch → Int} {C : List Ch} {i : Nat} (h : i < C.length) : sm f (C.take (i + 1)) = sm f (C.take i) + f (C.getD i (0, 0, 0)) := by
  rw [List.take_add_one, List.getElem?_eq_getElem h, sm_add]
  simp [sm, List.getD, h]
theorem sm_in {f : Ch → Int} {b : Int} : ∀ {C : List Ch}, (∀ c ∈ C, 0 ≤ f c ∧ f c ≤ b) → 0 ≤ sm f C ∧ sm f C ≤ b * (C.length : Int)
  | [], _ => by simp [sm]
  | c :: C, h => by
    have h1 := sm_in (f := f) (b := b) (C := C) (fun x hx => h x (List.mem_cons_of_mem _ hx))
    have h2 := h c (by simp)
    have e : sm f (c :: C) = f c + sm f C := by simp [sm]
    rw [e, List.length_cons]
    have : b * ((C.length + 1 : Nat) : Int) = b * (C.length : Int) + b := by rw [Int.natCast_add, Int.mul_add]; simp
    omega
def fA : Ch → Int := fun c => c.1
def fO (P : List Int) : Ch → Int := fun c => if c.2.2 ∈ P then c.1 else 0
def fW (j : Int) : Ch → Int := fun c => if c.2.2 = j then c.1 else 0

theorem chN_step (r p : List Int) (cn cd f g : Int) (k : Nat) : chN r p cn cd f g (k + 1) = chN r p cn cd f g k ++ if 0 < r.getD k 0 ∧ 0 < wgt r p cn cd f g k then [(wgt r p cn cd f g k, 0, (k : Int))] else [] := rfl

/-- What one step adds. -/
theorem sm_chN (h : Ch → Int) (r p : List Int) (cn cd f g : Int) (k : Nat) : sm h (chN r p cn cd f g (k + 1)) = sm h (chN r p cn cd f g k) + if 0 < r.getD k 0 ∧ 0 < wgt r p cn cd f g k then h (wgt r p cn cd f g k, 0, (k : Int)) else 0 := by
  rw [chN_step, sm_add]
  split
  · rw [sm_one]
  · simp [sm]

section
variable {r p : List Int} {cn cd f g : Int}
theorem wgt_zero {k : Nat} (hr : r.getD k 0 = 0) : wgt r p cn cd f g k = 0 := by
  unfold wgt
  rw [hr]
  split
  · rfl
  · split <;> simp
theorem wgt_nn (hr : ∀ k, 0 ≤ r.getD k 0 ∧ r.getD k 0 ≤ 8) (hf : 0 ≤ f ∧ f ≤ 64) (hg : 0 ≤ g ∧ g ≤ 64) (hc : 0 ≤ cn ∧ cn ≤ cd ∧ cd ≤ 4) (k : Nat) : 0 ≤ wgt r p cn cd f g k := (wgt_in hr hf hg hc k).1
/-- An entry is there where the weight is. -/
theorem step_wgt (hr : ∀ k, 0 ≤ r.getD k 0 ∧ r.getD k 0 ≤ 8) (hf : 0 ≤ f ∧ f ≤ 64) (hg : 0 ≤ g ∧ g ≤ 64) (hc : 0 ≤ cn ∧ cn ≤ cd ∧ cd ≤ 4) (k : Nat) (h : Int → Int) (h0 : h 0 = 0) : (if 0 < r.getD k 0 ∧ 0 < wgt r p cn cd f g k then h (wgt r p cn cd f g k) else 0) = h (wgt r p cn cd f g k) := by
  split
  · rfl
  · rename_i hn
    have h1 := wgt_nn (p := p) hr hf hg hc k
    have h2 := hr k
    have e : wgt r p cn cd f g k = 0 := by
      by_cases h3 : 0 < r.getD k 0
      · by_cases h4 : 0 < wgt r p cn cd f g k
        · exact absurd ⟨h3, h4⟩ hn
        · omega
      · exact wgt_zero (by omega)
    rw [e, h0]
/-- What an arm weighs. -/
theorem sm_arm (hr : ∀ k, 0 ≤ r.getD k 0 ∧ r.getD k 0 ≤ 8) (hf : 0 ≤ f ∧ f ≤ 64) (hg : 0 ≤ g ∧ g ≤ 64) (hc : 0 ≤ cn ∧ cn ≤ cd ∧ cd ≤ 4) (j : Nat) : ∀ k : Nat, sm (fW (j : Int)) (chN r p cn cd f g k) = if j < k then wgt r p cn cd f g j else 0
  | 0 => by simp [sm, chN]
  | k + 1 => by
    rw [sm_chN, sm_arm hr hf hg hc j k]
    have e := step_wgt (p := p) hr hf hg hc k (fun x => if (k : Int) = (j : Int) then x else 0) (by simp)
    unfold fW
    show _ + (if 0 < r.getD k 0 ∧ 0 < wgt r p cn cd f g k then (if (k : Int) = (j : Int) then wgt r p cn cd f g k else 0) else 0) = _
    rw [e]
    by_cases h : k = j
    · subst h; simp
    · have h' : ¬ (k : Int) = (j : Int) := by omega
      simp only [h', if_false, Int.add_zero]
      by_cases h2 : j < k
      · rw [if_pos h2, if_pos (by omega)]
      · rw [if_neg h2, if_neg (by omega)]
/-- What is preferred, and all, weigh together: with others, and without. -/
theorem sm_own (hr : ∀ k, 0 ≤ r.getD k 0 ∧ r.getD k 0 ≤ 8) (hf : 0 ≤ f ∧ f ≤ 64) (hg : 0 ≤ g ∧ g ≤ 64) (hc : 0 ≤ cn ∧ cn ≤ cd ∧ cd ≤ 4) (hg0 : g ≠ 0) : ∀ k : Nat, sm (fO p) (chN r p cn cd f g k) = sumF r p k * (cn * g) ∧ sm fA (chN r p cn cd f g k) = sumF r p k * (cn * g) + sumG r p k * ((cd - cn) * f)
  | 0 => by simp [sm, chN, sumF, sumG]
  | k + 1 => by
    obtain ⟨i1, i2⟩ := sm_own hr hf hg hc hg0 k
    rw [sm_chN, sm_chN, i1, i2]
    have e1 := step_wgt (p := p) hr hf hg hc k (fun x => if (k : Int) ∈ p then x else 0) (by simp)
    have e2 := step_wgt (p := p) hr hf hg hc k (fun x => x) rfl
    have h := hr k
    unfold fO fA
    show _ + (if 0 < r.getD k 0 ∧ 0 < wgt r p cn cd f g k then (if (k : Int) ∈ p then wgt r p cn cd f g k else 0) else 0) = _ ∧ _ + (if 0 < r.getD k 0 ∧ 0 < wgt r p cn cd f g k then wgt r p cn cd f g k else 0) = _
    rw [e1, e2, sumF, sumG]
    clear e1 e2
    unfold wgt
    rw [if_neg hg0]
    generalize r.getD k 0 = x at *
    by_cases hp : 0 < x
    · by_cases hm : (k : Int) ∈ p
      · simp only [hp, hm, true_and, if_true, not_true, if_false, Int.add_zero, Int.add_mul]
        omega
      · simp only [hp, hm, true_and, if_false, not_false_iff, if_true, Int.add_zero, Int.add_mul]
        omega
    · have h0 : x = 0 := by omega
      subst h0
      simp
theorem sm_alone (hr : ∀ k, 0 ≤ r.getD k 0 ∧ r.getD k 0 ≤ 8) (hf : 0 ≤ f ∧ f ≤ 64) (hc : 0 ≤ cn ∧ cn ≤ cd ∧ cd ≤ 4) : ∀ k : Nat, sm (fO p) (chN r p cn cd f 0 k) = sumF r p k ∧ sm fA (chN r p cn cd f 0 k) = sumF r p k + sumG r p k
  | 0 => by simp [sm, chN, sumF, sumG]
  | k + 1 => by
    obtain ⟨i1, i2⟩ := sm_alone hr hf hc k
    rw [sm_chN, sm_chN, i1, i2]
    have e1 := step_wgt (p := p) (g := 0) hr hf (by omega) hc k (fun x => if (k : Int) ∈ p then x else 0) (by simp)
    have e2 := step_wgt (p := p) (g := 0) hr hf (by omega) hc k (fun x => x) rfl
    have h := hr k
    unfold fO fA
    show _ + (if 0 < r.getD k 0 ∧ 0 < wgt r p cn cd f 0 k then (if (k : Int) ∈ p then wgt r p cn cd f 0 k else 0) else 0) = _ ∧ _ + (if 0 < r.getD k 0 ∧ 0 < wgt r p cn cd f 0 k then wgt r p cn cd f 0 k else 0) = _
    rw [e1, e2, sumF, sumG]
    clear e1 e2
    unfold wgt
    rw [if_pos rfl]
    generalize r.getD k 0 = x at *
    by_cases hp : 0 < x
    · by_cases hm : (k : Int) ∈ p
      · simp only [hp, hm, true_and, if_true, not_true, if_false, Int.add_zero]
        omega
      · simp only [hp, hm, true_and, if_false, not_false_iff, if_true, Int.add_zero]
        omega
    · have h0 : x = 0 := by omega
      subst h0
      simp
theorem chN_pos : ∀ {k : Nat} (c : Ch), c ∈ chN r p cn cd f g k → 0 < c.1
  | 0, c, h => by simp [chN] at h
  | k + 1, c, h => by
    rw [chN_step] at h
    rcases List.mem_append.1 h with h | h
    · exact chN_pos c h
    · split at h
      · rename_i hp
        have e : c = (wgt r p cn cd f g k, 0, (k : Int)) := by simpa using h
        rw [e]; exact hp.2
      · simp at h
/-- Arms increase. -/
theorem chN_up : ∀ k : Nat, (chN r p cn cd f g k).Pairwise (fun a b => a.2.2 < b.2.2) ∧ ∀ c ∈ chN r p cn cd f g k, c.2.2 < (k : Int)
  | 0 => by simp [chN]
  | k + 1 => by
    obtain ⟨i1, i2⟩ := chN_up k
    rw [chN_step]
    split
    · refine ⟨List.pairwise_append.2 ⟨i1, by simp, fun a ha b hb => ?_⟩, fun c hc => ?_⟩
      · have e : b = (wgt r p cn cd f g k, 0, (k : Int)) := by simpa using hb
        rw [e]; exact i2 a ha
      · rcases List.mem_append.1 hc with hc | hc
        · have := i2 c hc; omega
        · have e : c = (wgt r p cn cd f g k, 0, (k : Int)) := by simpa using hc
          rw [e]; simp; omega
    · rw [List.append_nil]
      exact ⟨i1, fun c hc => by have := i2 c hc; omega⟩
end

theorem sm_new {C : List Ch} (h : C.Pairwise (fun a b => a.2.2 < b.2.2)) {i : Nat} (hi : i < C.length) : sm (fW (C.getD i (0, 0, 0)).2.2) (C.take i) = 0 := by
  have e : ∀ c ∈ C.take i, fW (C.getD i (0, 0, 0)).2.2 c = 0 := fun c hc => by
    obtain ⟨j, hj, e⟩ := List.getElem_of_mem hc
    rw [List.length_take] at hj
    have h1 := List.pairwise_iff_getElem.1 h j i (by omega) hi (by omega)
    rw [List.getElem_take] at e
    unfold fW
    rw [if_neg]
    rw [← e]
    simp [List.getD, hi]
    omega
  unfold sm
  have : (C.take i).map (fW (C.getD i (0, 0, 0)).2.2) = (C.take i).map (fun _ => 0) := List.map_congr_left e
  rw [this]
  induction C.take i with
  | nil => rfl
  | cons a l ih => simpa using ih

/-- With how many arms something is preferred. -/
theorem cnt_opN (r : List Int) : ∀ k, (opN r k).length = cnt r k
  | 0 => rfl
  | k + 1 => by
    rw [opN, cnt, List.length_append, cnt_opN r k]
    split <;> rfl
theorem opN_mem {r : List Int} {x : Nat} : ∀ {k : Nat}, x < k → 0 < r.getD x 0 → x ∈ opN r k
  | k + 1, h, hp => by
    rw [opN]
    by_cases e : x = k
    · subst e; rw [if_pos hp]; simp
    · exact List.mem_append.2 (.inl (opN_mem (by omega) hp))
theorem sumG_zero {r p : List Int} (hr : ∀ k, 0 ≤ r.getD k 0 ∧ r.getD k 0 ≤ 8) : ∀ {k : Nat}, sumG r p k = 0 ↔ ∀ j, j < k → 0 < r.getD j 0 → (j : Int) ∈ p
  | 0 => by simp [sumG]
  | k + 1 => by
    have ih := sumG_zero (p := p) hr (k := k)
    have h1 := sumG_in (p := p) hr k
    have h2 := hr k
    rw [sumG]
    constructor
    · intro h j hj hp
      by_cases e : j = k
      · subst e
        apply Classical.byContradiction
        intro hn
        rw [if_pos ⟨hp, hn⟩] at h
        omega
      · refine ih.1 ?_ j (by omega) hp
        split at h <;> omega
    · intro h
      rw [ih.2 (fun j hj hp => h j (by omega) hp)]
      by_cases hp : 0 < r.getD k 0
      · rw [if_neg (by have := h k (by omega) hp; simp [this])]; rfl
      · rw [if_neg (fun h => hp h.1)]; rfl

/-- What is asked of the preferred arms and of the choices. -/
structure ShOk (r P : List Int) (C : List Ch) (cn cd : Nat) : Prop where
  pl : 1 ≤ P.length ∧ P.length ≤ cnt r r.length
  pm : ∀ i, i < P.length → ∃ a : Nat, P.getD i 0 = (a : Int) ∧ a < r.length ∧ 0 < r.getD a 0
  cl : C.length ≤ 4
  cm : ∀ i, i < C.length → ∃ (x : Int) (a : Nat), C.getD i (0, 0, 0) = (x, 0, (a : Int)) ∧ (1 ≤ x ∧ x ≤ 2048) ∧ a < r.length ∧ sm (fW (a : Int)) (C.take i) = 0
  w : ∀ i j : Nat, i < r.length → j < r.length → ((i : Int) ∈ P ↔ (j : Int) ∈ P) → sm (fW (i : Int)) C * r.getD j 0 = sm (fW (j : Int)) C * r.getD i 0
  wb : ∀ i : Nat, i < r.length → 0 ≤ sm (fW (i : Int)) C ∧ sm (fW (i : Int)) C ≤ 2048
  e1 : P.length = cnt r r.length → sm (fO P) C = sm fA C
  e2 : P.length < cnt r r.length → sm (fO P) C * (cd : Int) = sm fA C * (cn : Int)

theorem wgt_pair {r p : List Int} {cn cd f g : Int} {i j : Nat} (h : (i : Int) ∈ p ↔ (j : Int) ∈ p) : wgt r p cn cd f g i * r.getD j 0 = wgt r p cn cd f g j * r.getD i 0 := by
  unfold wgt
  by_cases hg : g = 0
  · rw [if_pos hg, if_pos hg, Int.mul_comm]
  · rw [if_neg hg, if_neg hg]
    by_cases hi : (i : Int) ∈ p
    · rw [if_pos hi, if_pos (h.1 hi)]
      generalize cn * g = z
      rw [Int.mul_right_comm, Int.mul_right_comm (r.getD j 0), Int.mul_comm (r.getD i 0)]
    · rw [if_neg hi, if_neg (fun hj => hi (h.2 hj))]
      generalize (cd - cn) * f = z
      rw [Int.mul_right_comm, Int.mul_right_comm (r.getD j 0), Int.mul_comm (r.getD i 0)]

theorem tos_made {r : List Int} {cn cd : Nat} (h : MadeOk r cn cd) : tosB (cn : Int) (cd : Int) = true := by
  rcases h.coin with ⟨a, b⟩ | ⟨a, b⟩ | ⟨a, b⟩ | ⟨a, b⟩ <;> subst a <;> subst b <;> decide

theorem shares_ok {r row row2 : List Int} {cn cd : Nat} (hok : MadeOk r cn cd) (h1 : RowOk r row) (h2 : RowOk r row2) : ShOk r (prfV r row row2) (chV r row row2 (cn : Int) (cd : Int)) cn cd := by
  have hr : ∀ k, 0 ≤ r.getD k 0 ∧ r.getD k 0 ≤ 8 := fun k => by have := hok.rr k; omega
  have hl := hok.l4
  have hpr := hok.pr
  have hb : prfB r row row2 = true := by unfold prfB; rw [hpr, h1.fi, h2.fi]; rfl
  have hP : prfV r row row2 = asI (lsL r (unV r row) (unV r row2) (opN r r.length) (opN r r.length).length) := by rw [least_is]; unfold prfV; rw [if_pos hb]
  obtain ⟨t, ht⟩ : ∃ t : Nat → Bool, t = fun k => (opN r r.length).all fun j => decide (tog r (unV r row) (unV r row2) k ≤ tog r (unV r row) (unV r row2) j) := ⟨_, rfl⟩
  have hPf : prfV r row row2 = asI ((opN r r.length).filter t) := by rw [hP, lsL, List.take_length, ht]
  have hne : prfV r row row2 ≠ [] := by
    unfold prfV
    rw [if_pos hb]
    rcases best_is r (unV r row) (unV r row2) r.length with ⟨e, _⟩ | ⟨_, _, h⟩
    · have h3 := (prB_iff.1 hpr).2.2
      have h4 := cnt_opN r r.length
      rw [e] at h4; simp at h4; omega
    · exact h
  have hmem : ∀ x : Nat, (x : Int) ∈ prfV r row row2 ↔ x ∈ opN r r.length ∧ t x = true := fun x => by
    rw [hPf]; unfold asI
    rw [List.mem_map]
    constructor
    · rintro ⟨y, hy, e⟩
      have : y = x := by omega
      subst this
      exact List.mem_filter.1 hy
    · intro h; exact ⟨x, List.mem_filter.2 h, rfl⟩
  have hlenP : (prfV r row row2).length = ((opN r r.length).filter t).length := by rw [hPf]; simp [asI]
  have hcnt := cnt_opN r r.length
  have hle := List.length_filter_le t (opN r r.length)
  have hfull : (prfV r row row2).length = cnt r r.length ↔ sumG r (prfV r row row2) r.length = 0 := by
    rw [hlenP, ← hcnt, List.length_filter_eq_length_iff, sumG_zero hr]
    constructor
    · intro h j hj hp
      have := opN_mem hj hp
      exact (hmem j).2 ⟨this, h j this⟩
    · intro h x hx
      obtain ⟨a, b⟩ := mem_opN hx
      exact ((hmem x).1 (h x a b)).2
  have hf := sumF_in (p := prfV r row row2) hr r.length
  have hg := sumG_in (p := prfV r row row2) hr r.length
  have hc : (0 : Int) ≤ (cn : Int) ∧ (cn : Int) ≤ (cd : Int) ∧ (cd : Int) ≤ 4 := by rcases hok.coin with ⟨a, b⟩ | ⟨a, b⟩ | ⟨a, b⟩ | ⟨a, b⟩ <;> omega
  have hC : chV r row row2 (cn : Int) (cd : Int) = chN r (prfV r row row2) (cn : Int) (cd : Int) (sumF r (prfV r row row2) r.length) (sumG r (prfV r row row2) r.length) r.length := by
    unfold chV; rw [if_pos ⟨hne, tos_made hok⟩]
  have hC4 := chV_len4 (s := row) (t := row2) hok
  have hf64 : 0 ≤ sumF r (prfV r row row2) r.length ∧ sumF r (prfV r row row2) r.length ≤ 64 := by omega
  have hg64 : 0 ≤ sumG r (prfV r row row2) r.length ∧ sumG r (prfV r row row2) r.length ≤ 64 := by omega
  have hW : ∀ i : Nat, i < r.length → sm (fW (i : Int)) (chV r row row2 (cn : Int) (cd : Int)) = wgt r (prfV r row row2) (cn : Int) (cd : Int) (sumF r (prfV r row row2) r.length) (sumG r (prfV r row row2) r.length) i := fun i hi => by
    rw [hC, sm_arm hr hf64 hg64 hc i r.length, if_pos hi]
  refine ⟨⟨?_, by omega⟩, fun i hi => ?_, hC4, fun i hi => ?_, fun i j hi hj he => ?_, fun i hi => ?_, fun e => ?_, fun e => ?_⟩
  · have := List.length_pos_iff.2 hne; omega
  · have hm : (prfV r row row2).getD i 0 ∈ prfV r row row2 := by simp [List.getD, hi]
    have hm2 : (prfV r row row2).getD i 0 ∈ ((opN r r.length).filter t).map (fun k : Nat => (k : Int)) := by
      have h9 : asI ((opN r r.length).filter t) = ((opN r r.length).filter t).map (fun k : Nat => (k : Int)) := rfl
      rw [← h9, ← hPf]; exact hm
    obtain ⟨y, hy, e⟩ := List.mem_map.1 hm2
    obtain ⟨a, b⟩ := mem_opN (List.mem_filter.1 hy).1
    exact ⟨y, e.symm, a, b⟩
  · have hm : (chV r row row2 (cn : Int) (cd : Int)).getD i (0, 0, 0) ∈ chV r row row2 (cn : Int) (cd : Int) := by simp [List.getD, hi]
    have hpw := (chN_up (r := r) (p := prfV r row row2) (cn := (cn : Int)) (cd := (cd : Int)) (f := sumF r (prfV r row row2) r.length) (g := sumG r (prfV r row row2) r.length) r.length)
    have hnew := sm_new hpw.1 (i := i) (by rw [← hC]; exact hi)
    rw [← hC] at hnew
    have hu := hpw.2 _ (by rw [← hC]; exact hm)
    have hin := chN_in hr hf64 hg64 hc r.length _ (by rw [← hC]; exact hm)
    have hp : 0 < ((chV r row row2 (cn : Int) (cd : Int)).getD i (0, 0, 0)).1 := chN_pos _ (by rw [← hC]; exact hm)
    generalize hx : (chV r row row2 (cn : Int) (cd : Int)).getD i (0, 0, 0) = X at *
    obtain ⟨x, s, a⟩ := X
    simp only at hnew hu hin hp
    obtain ⟨i1, i2, i3, i4⟩ := hin
    refine ⟨x, a.toNat, ?_, ⟨by omega, by omega⟩, by omega, ?_⟩
    · rw [i2, Int.toNat_of_nonneg i3]
    · rw [Int.toNat_of_nonneg i3]; exact hnew
  · rw [hW i hi, hW j hj]; exact wgt_pair he
  · rw [hW i hi]; exact wgt_in hr hf64 hg64 hc i
  · have h0 := hfull.1 e
    rw [hC, h0]
    have := sm_alone (p := prfV r row row2) (f := sumF r (prfV r row row2) r.length) hr hf64 hc r.length
    rw [this.1, this.2, h0, Int.add_zero]
  · have h0 : sumG r (prfV r row row2) r.length ≠ 0 := fun h => by have := hfull.2 h; omega
    have := sm_own (p := prfV r row row2) (f := sumF r (prfV r row row2) r.length) hr hf64 hg64 hc h0 r.length
    rw [hC, this.1, this.2]
    generalize sumF r (prfV r row row2) r.length = F
    generalize sumG r (prfV r row row2) r.length = G
    generalize (cn : Int) = c
    generalize (cd : Int) = d
    rw [Int.add_mul, Int.sub_mul, Int.mul_sub, Int.sub_mul]
    have e1 : F * (c * G) * d = G * (d * F) * c := by
      rw [Int.mul_comm F, Int.mul_assoc, Int.mul_comm (c * G), Int.mul_comm c G, Int.mul_comm F d, ← Int.mul_assoc, Int.mul_comm (d * F) G]
    have e2 : F * (c * G) * c = G * (c * F) * c := by
      rw [Int.mul_comm F, Int.mul_comm c G, Int.mul_assoc G c F]
    omega
end Go.Proofs.Ytcpgoaombabfjaa
