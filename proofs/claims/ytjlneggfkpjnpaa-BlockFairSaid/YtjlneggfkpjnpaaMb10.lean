/- The law's factorial(24). Condition: a number from 0 to 36. Arithmetic for the law BlockFair: what holds while a block is drawn. No condition beyond those that are stated. Arithmetic for the law BlockFair: what can be drawn, and what a draw makes of it. No condition beyond those that are stated. Contract: the law's walk. Condition: a design that has blocks; the slices read as ints and as numbers of two bytes. -/
import Derived.Test.YtjlneggfkpjnpaaMb9
import Derived.Test.YtjlneggfkpjnpaaMb5
set_option linter.unusedSimpArgs false
set_option linter.unusedVariables false
namespace Go.Proofs.Ytjlneggfkpjnpaa
set_option linter.unusedSimpArgs false
set_option linter.unusedVariables false
open Go Go.RowKit

theorem small_iff {n : Nat} : SmallN n ↔ n < 4294967296 ^ 100 := Nums.digs_length_le
theorem small_mono {n m : Nat} (h : n ≤ m) (hm : SmallN m) : SmallN n := by
  rw [small_iff] at hm ⊢
  exact Nat.lt_of_le_of_lt h hm
theorem facN_pos : ∀ n, 1 ≤ facN n
  | 0 => Nat.le_refl _
  | n + 1 => by
    rw [facN]
    exact Nat.mul_pos (by omega) (facN_pos n)
theorem facN_mono : ∀ {n m : Nat}, n ≤ m → facN n ≤ facN m
  | n, 0, h => by have : n = 0 := by omega
                  subst this; exact Nat.le_refl _
  | n, m + 1, h => by
    by_cases e : n = m + 1
    · subst e; exact Nat.le_refl _
    · have := facN_mono (show n ≤ m by omega)
      rw [facN]
      exact Nat.le_trans this (Nat.le_mul_of_pos_left _ (by omega))
theorem fac36 : facN 36 < 2 ^ 140 := by decide +kernel
theorem small_of {n : Nat} (h : n < 4294967296 ^ 20) : SmallN n := by
  rw [small_iff]
  exact Nat.lt_of_lt_of_le h (Nat.pow_le_pow_right (by decide) (by decide))

/-- What lies in memory while a factorial is made. -/
structure FcI (W wr : World) (g n : Nat) : Prop where
  b : Below W.heap.size W wr
  r : NBx wr W.heap.size false (.slice none 0 0)
  o : NB wr g n
  g1 : W.heap.size < g
theorem FcI.later {W wr w' : World} {g n : Nat} (h : FcI W wr g n) (hb : Below wr.heap.size wr w') : FcI W w' g n := ⟨h.b.trans (hb.mono h.b.size), h.r.later hb, h.o.later hb, h.g1⟩
theorem FcI.put {W wr : World} {g n m : Nat} {d : Bool} {ao : Option Addr} {k cap : Nat} (h : FcI W wr g n) (hm : NuA wr d (.slice ao k cap) m) : FcI W ((wr.setCell ⟨g, 0, none⟩ (.bool d)).setCell ⟨g, 1, none⟩ (.slice ao k cap)) g m :=
  ⟨(h.b.setCell (by have := h.g1; simp only; omega) _).setCell (by have := h.g1; simp only; omega) _, (Below.heap_setCell _ _ _ _ (by have := h.g1; simp only; omega)).trans ((Below.heap_setCell _ _ _ _ (by have := h.g1; simp only; omega)).trans h.r), h.o.put hm, h.g1⟩

set_option maxRecDepth 10000 in
set_option maxHeartbeats 4000000 in
theorem factorial_any {W : World} (n : Nat) (hn : n ≤ 36) :
    Calls Try.prog 24 #[.int .i64 (n : Int)] W fun e w' => ∃ d ao k cap, e = .returned (.agg #[.bool d, .slice ao k cap]) ∧ NuA w' d (.slice ao k cap) (facN n) ∧ Below W.heap.size W w' := by
  have HOF : Hid (Calls Try.prog 22 #[.int .i64 1] (W.alloc (.cells #[.bool false, .slice none 0 0] 54)) fun e w' => ∃ b ao k cap, e = .returned (.agg #[.bool b, .slice ao k cap]) ∧ NuA w' b (.slice ao k cap) 1 ∧ Below (W.alloc (.cells #[.bool false, .slice none 0 0] 54)).heap.size (W.alloc (.cells #[.bool false, .slice none 0 0] 54)) w') := Lib.hid (of_num 1 (by omega) _)
  have hb0 : Below W.heap.size W (W.alloc (.cells #[.bool false, .slice none 0 0] 54)) := (Below.refl _ _).alloc (Nat.le_refl _) _
  have HB0 := Lib.hid hb0
  have HR0 : Hid (NBx (W.alloc (.cells #[.bool false, .slice none 0 0] 54)) W.heap.size false (.slice none 0 0)) := Lib.hid (heap_alloc_new _ _)
  have HSM : Hid (∀ k, k ≤ n → SmallN (facN (k - 1) * k)) := Lib.hid (fun k hk => small_of (by
    have h1 := fac36
    have h2 := facN_mono (show k ≤ 36 by omega)
    have e : facN (k - 1) * k ≤ facN 36 := by
      by_cases h0 : k = 0
      · subst h0; simp
      · obtain ⟨j, rfl⟩ : ∃ j, k = j + 1 := ⟨k - 1, by omega⟩
        rw [facN] at h2
        rw [Nat.add_sub_cancel, Nat.mul_comm]; exact h2
    have h3 : (2 : Nat) ^ 140 ≤ 4294967296 ^ 20 := by decide
    omega))
  clear hb0
  go_enter Try.func24, Try.ntmps24
  go_wp2_with (go_at_call 22; (with_reducible refine HOF.out.mono ?_); rintro e w1 ⟨d1, a1, k1, c1, rfl, hn1, hb1⟩; have HN1 := Lib.hid hn1; have HB1 := Lib.hid hb1; clear hn1 hb1)
  have HI : Hid (FcI W (w1.alloc (.cells #[.bool d1, .slice a1 k1 c1] 54)) w1.heap.size (facN 1)) := Lib.hid (by
    have ha : Below w1.heap.size w1 (w1.alloc (.cells #[.bool d1, .slice a1 k1 c1] 54)) := (Below.refl _ _).alloc (Nat.le_refl _) _
    refine ⟨HB0.out.trans ((HB1.out.trans (ha.mono HB1.out.size)).mono HB0.out.size), (HR0.out.later HB1.out).later ha, ⟨d1, a1, k1, c1, heap_alloc_new _ _, HN1.out.below ha⟩, ?_⟩
    have := (HR0.out.later HB1.out).lt
    exact this)
  generalize (w1.alloc (.cells #[.bool d1, .slice a1 k1 c1] 54)) = wx at HI ⊢
  generalize w1.heap.size = g at HI ⊢
  clear HOF HB0 HR0 HN1 HB1
  go_loopw [4] (fun kv wr => ∃ k : Nat, (2 ≤ k ∧ (k ≤ n + 1 ∨ k = 2)) ∧ kv = .int .i64 (k : Nat) ∧ Hid (FcI W wr g (facN (k - 1)))) (fun kv _ => n + 1 - (intOf kv).toNat)
  case atStart => exact ⟨2, by omega, rfl, HI⟩
  case round =>
    obtain ⟨w, hw⟩ : ∃ w, w = wr := ⟨_, rfl⟩
    subst hw
    obtain ⟨k, hk, rfl, HK⟩ := hrel
    by_cases hkn : k ≤ n
    · have hkI : (k : Int) ≤ (n : Int) := by omega
      obtain ⟨d, ao, kk, cap, h1, h2⟩ := HK.out.o
      obtain ⟨x0, x1⟩ := h1.cells
      have HP : Hid (Calls Try.prog 25 #[.agg #[.bool d, .slice ao kk cap], .int .i64 (k : Int)] w fun e w' => ∃ d ao k' cap, e = .returned (.agg #[.bool d, .slice ao k' cap]) ∧ NuA w' d (.slice ao k' cap) (facN k) ∧ Below w.heap.size w w') := Lib.hid (by
        have h := product_any h2 (m := k) (by omega) (HSM.out k hkn)
        have e : facN (k - 1) * k = facN k := by
          obtain ⟨j, rfl⟩ : ∃ j, k = j + 1 := ⟨k - 1, by omega⟩
          rw [facN, Nat.add_sub_cancel, Nat.mul_comm]
        rwa [e] at h)
      have HX := Lib.hid h1
      clear h1 h2
      go_wp2_with (go_at_call 25; (with_reducible refine HP.out.mono ?_); rintro e w2 ⟨d2, a2, k2, c2, rfl, hn2, hb2⟩; have HN2 := Lib.hid hn2; have HK2 := Lib.hid (HK.out.later hb2); have hx2 := HX.out.later hb2; obtain ⟨y0, y1⟩ := hx2.cells; have f0 := hx2.free 0; have f1 := hx2.free 1; have l0 := hx2.lt; clear hn2 hb2 hx2)
      go_roundw
      case rel => exact ⟨k + 1, by omega, by go_num, Lib.hid (HK2.out.put HN2.out)⟩
      case measure => simp [intOf]; omega
    · have hkI : ¬ (k : Int) ≤ (n : Int) := by omega
      obtain ⟨d, ao, kk, cap, h1, h2⟩ := HK.out.o
      obtain ⟨x0, x1⟩ := h1.cells
      obtain ⟨y0, y1⟩ := HK.out.r.cells
      have f0 := HK.out.r.free 0
      have f1 := HK.out.r.free 1
      have l0 := HK.out.r.lt
      have hfe : facN (k - 1) = facN n := by
        rcases hk.2 with h | h
        · have : k - 1 = n := by omega
          rw [this]
        · rcases (show n = 0 ∨ n = 1 by omega) with rfl | rfl <;> rw [h] <;> rfl
      rw [hfe] at h2
      have HN := Lib.hid h2
      clear h1 h2 hfe
      go_wp2
      refine bodyPost_ret (results_cell54 (t := 2) rfl rfl (nbx_put HK.out.r)) rfl ?_
      have hB := (HK.out.b.setCell (p := ⟨W.heap.size, 0, none⟩) (by simp only; omega) (.bool d)).setCell (p := ⟨W.heap.size, 1, none⟩) (by simp only; omega) (.slice ao kk cap)
      have hN := nu_put (d' := d) (ao' := ao) (k' := kk) (cap' := cap) HN.out HK.out.r
      cases d with
      | false => exact .inl ⟨_, _, _, rfl, hN, hB⟩
      | true => exact .inr ⟨_, _, _, rfl, hN, hB⟩
end Go.Proofs.Ytjlneggfkpjnpaa

namespace Go.Proofs.Ytjlneggfkpjnpaa
set_option linter.unusedSimpArgs false
set_option linter.unusedVariables false
open Go.RowKit

theorem facP_snoc : ∀ (l : List Int) (x : Int), facP (l ++ [x]) = facP l * facN x.toNat
  | [], x => by simp [facP]
  | y :: l, x => by
    show facN y.toNat * facP (l ++ [x]) = facN y.toNat * facP l * facN x.toNat
    rw [facP_snoc l x, Nat.mul_assoc]
theorem facP_pos : ∀ l, 1 ≤ facP l
  | [] => Nat.le_refl _
  | x :: l => Nat.mul_pos (facN_pos _) (facP_pos l)
theorem fac8 : facN 8 = 40320 := by decide +kernel
theorem facP_le : ∀ {l : List Int}, (∀ x ∈ l, x ≤ 8) → facP l ≤ 40320 ^ l.length
  | [], _ => Nat.le_refl _
  | x :: l, h => by
    have h1 := facP_le (l := l) (fun y hy => h y (List.mem_cons_of_mem _ hy))
    have h2 := h x (by simp)
    have h3 : facN x.toNat ≤ 40320 := by rw [← fac8]; exact facN_mono (by omega)
    show facN x.toNat * facP l ≤ 40320 ^ (l.length + 1)
    rw [Nat.pow_succ, Nat.mul_comm]
    exact Nat.mul_le_mul h1 h3

/-- What is asked of a ratio and a size. -/
structure FaOk (r : List Int) (s : Nat) : Prop where
  l1 : 1 ≤ r.length
  l5 : r.length ≤ 5
  s1 : 1 ≤ s
  s4 : s ≤ 4
  rr : ∀ k, 0 ≤ r.getD k 0 ∧ r.getD k 0 ≤ 2
  r0 : r.getD 0 0 = 1
  has : hasB r [(s : Int)] = true
/-- The block when nothing is drawn. -/
def fulV (r : List Int) (s : Nat) : List Int := r.map fun x => (s : Int) * x
def whN (r : List Int) (s : Nat) : Nat := (fulV r s).sum.toNat

theorem sum_get : ∀ (l : List Int), (∀ k, 0 ≤ l.getD k 0) → 0 ≤ l.sum ∧ ∀ k, l.getD k 0 ≤ l.sum
  | [], _ => by simp
  | x :: l, h => by
    obtain ⟨i1, i2⟩ := sum_get l (fun k => by have := h (k + 1); simpa using this)
    have h0 : 0 ≤ x := h 0
    refine ⟨by simp only [List.sum_cons]; omega, fun k => ?_⟩
    cases k with
    | zero => simp only [List.sum_cons, List.getD_cons_zero]; omega
    | succ k =>
      have := i2 k
      simp only [List.sum_cons, List.getD_cons_succ]; omega
theorem sum_le {b : Int} : ∀ (l : List Int), (∀ k, l.getD k 0 ≤ b) → 0 ≤ b → l.sum ≤ b * (l.length : Int)
  | [], _, _ => by simp
  | x :: l, h, hb => by
    have i := sum_le l (fun k => by have := h (k + 1); simpa using this) hb
    have h0 : x ≤ b := h 0
    have e : b * ((l.length + 1 : Nat) : Int) = b * (l.length : Int) + b := by rw [Int.natCast_add, Int.mul_add]; simp
    simp only [List.sum_cons, List.length_cons]
    rw [e]; omega
theorem sum_map (s : Int) : ∀ (l : List Int), (l.map fun x => s * x).sum = s * l.sum
  | [] => by simp
  | x :: l => by simp only [List.map_cons, List.sum_cons]; rw [sum_map s l, Int.mul_add]

section
variable {r : List Int} {s : Nat}
theorem ful_get (k : Nat) : (fulV r s).getD k 0 = (s : Int) * r.getD k 0 := by
  unfold fulV
  by_cases hk : k < r.length
  · exact getD_map hk
  · rw [show (r.map fun x => (s : Int) * x).getD k 0 = 0 by simp [List.getD, List.getElem?_eq_none (Nat.le_of_not_lt hk)], show r.getD k 0 = 0 by simp [List.getD, List.getElem?_eq_none (Nat.le_of_not_lt hk)]]
    simp
theorem ful_in (h : FaOk r s) (k : Nat) : 0 ≤ (fulV r s).getD k 0 ∧ (fulV r s).getD k 0 ≤ 8 := by
  rw [ful_get]
  have h1 := h.rr k
  have h2 := h.s4
  refine ⟨Int.mul_nonneg (by omega) h1.1, ?_⟩
  exact Int.le_trans (Int.mul_le_mul (show (s : Int) ≤ 4 by omega) h1.2 h1.1 (by omega)) (by omega)
theorem ful_len : (fulV r s).length = r.length := by simp [fulV]
theorem rsum_in (h : FaOk r s) : 1 ≤ r.sum ∧ r.sum ≤ 9 := by
  have h1 := sum_get r (fun k => (h.rr k).1)
  have h2 := h1.2 0
  rw [h.r0] at h2
  refine ⟨h2, ?_⟩
  have hl := h.l1
  obtain ⟨x, t, e⟩ : ∃ x t, r = x :: t := by
    cases r with
    | nil => simp at hl
    | cons x t => exact ⟨x, t, rfl⟩
  have hx : x = 1 := by have := h.r0; rw [e] at this; simpa using this
  have ht := sum_le t (b := 2) (fun k => by have := (h.rr (k + 1)).2; rw [e] at this; simpa using this) (by omega)
  have h5 := h.l5
  rw [e] at h5 ⊢
  simp only [List.length_cons, List.sum_cons] at h5 ⊢
  omega
theorem wh_is (h : FaOk r s) : ((whN r s : Nat) : Int) = (s : Int) * r.sum ∧ 1 ≤ whN r s ∧ whN r s ≤ 36 := by
  have e : (fulV r s).sum = (s : Int) * r.sum := sum_map _ _
  have h1 := rsum_in h
  have h2 := h.s1
  have h3 := h.s4
  have h4 : 1 * 1 ≤ (s : Int) * r.sum := Int.mul_le_mul (by omega) h1.1 (by omega) (by omega)
  have h5 : (s : Int) * r.sum ≤ 4 * 9 := Int.mul_le_mul (by omega) h1.2 (by omega) (by omega)
  unfold whN
  rw [e]
  omega
theorem wt_small (h : FaOk r s) : SmallN (facP (fulV r s) * facN (whN r s)) := by
  refine small_of ?_
  have h1 := facP_le (l := fulV r s) (fun x hx => by
    obtain ⟨k, hk, e⟩ := List.getElem_of_mem hx
    have := (ful_in h k).2
    simp [List.getD, hk, e] at this
    exact this)
  have h2 : (40320 : Nat) ^ (fulV r s).length ≤ 40320 ^ 5 := Nat.pow_le_pow_right (by decide) (by rw [ful_len]; exact h.l5)
  have h3 := facN_mono (show whN r s ≤ 36 from (wh_is h).2.2)
  have h4 := fac36
  have h5 : facP (fulV r s) * facN (whN r s) ≤ 40320 ^ 5 * facN 36 := Nat.mul_le_mul (Nat.le_trans h1 h2) h3
  have h6 : 40320 ^ 5 * facN 36 ≤ 40320 ^ 5 * 2 ^ 140 := Nat.mul_le_mul_left _ (Nat.le_of_lt h4)
  have h7 : (40320 : Nat) ^ 5 * 2 ^ 140 < 4294967296 ^ 20 := by decide
  omega

/-- What holds while a block is drawn. -/
structure FairI (r : List Int) (s k : Nat) (R V : List Int) (A B : Nat) : Prop where
  lv : V.length = r.length
  nn : ∀ j, 0 ≤ V.getD j 0
  sm : V.sum = ((whN r s - k : Nat) : Int)
  kl : k ≤ whN r s
  hA : A * (if k = 0 then 1 else s) * facP V = facP (fulV r s)
  hB : B * (if k = 0 then 1 else s) * facN (whN r s - k) = facN (whN r s)
  hR : R = if k = 0 ∨ k = whN r s then [] else V
  h0 : k = 0 → V = fulV r s ∧ A = 1 ∧ B = 1
theorem FairI.start (h : FaOk r s) : FairI r s 0 [] (fulV r s) 1 1 :=
  ⟨ful_len, fun j => (ful_in h j).1, by
    have h1 := wh_is h
    have e : (fulV r s).sum = (s : Int) * r.sum := sum_map _ _
    rw [e, ← h1.1]; simp, by omega, by simp, by simp, by simp, fun _ => ⟨rfl, rfl, rfl⟩⟩

def szI (s k : Nat) : Int := if k = 0 then (s : Int) else 0
def wtI (r V : List Int) (k : Nat) : List Int := if k = 0 then r else V
theorem fair_small {k : Nat} {R V : List Int} {A B : Nat} (hf : FairI r s k R V A B) (h : FaOk r s) : A ≤ facP (fulV r s) ∧ B ≤ facN (whN r s) := by
  have h1 := hf.hA
  have h2 := hf.hB
  have hs : 1 ≤ (if k = 0 then 1 else s) := by have := h.s1; split <;> omega
  generalize (if k = 0 then 1 else s) = c at h1 h2 hs
  constructor
  · rw [← h1, Nat.mul_assoc]
    exact Nat.le_mul_of_pos_right _ (Nat.mul_pos hs (facP_pos V))
  · rw [← h2, Nat.mul_assoc]
    exact Nat.le_mul_of_pos_right _ (Nat.mul_pos hs (facN_pos _))
end
end Go.Proofs.Ytjlneggfkpjnpaa

namespace Go.Proofs.Ytjlneggfkpjnpaa
set_option linter.unusedSimpArgs false
set_option linter.unusedVariables false
open Go.RowKit

def sumW (C : List Ch) : Int := (C.map (·.1)).sum
theorem sumW_step {C : List Ch} {i : Nat} (h : i < C.length) : sumW (C.take (i + 1)) = sumW (C.take i) + (C.getD i (0, 0, 0)).1 := by
  unfold sumW
  rw [List.take_add_one, List.getElem?_eq_getElem h, List.map_append, List.sum_append]
  simp [List.getD, h]
def psum (w : List Int) : Nat → Int
  | 0 => 0
  | k + 1 => psum w k + w.getD k 0
theorem psum_all : ∀ (w : List Int), psum w w.length = w.sum := by
  intro w
  have h : ∀ k, k ≤ w.length → psum w k = (w.take k).sum := by
    intro k
    induction k with
    | zero => intro _; simp [psum]
    | succ k ih =>
      intro hk
      rw [psum, ih (by omega), List.take_add_one, List.getElem?_eq_getElem (show k < w.length by omega), List.sum_append]
      simp [List.getD, show k < w.length by omega]
  rw [h _ (Nat.le_refl _), List.take_length]
theorem coll_sum {size : Int} {w : List Int} (h : ∀ k, 0 ≤ w.getD k 0) : ∀ k, sumW (coll size w k) = psum w k
  | 0 => rfl
  | k + 1 => by
    have ih := coll_sum (size := size) h k
    have h0 := h k
    unfold sumW at *
    rw [coll, psum, List.map_append, List.sum_append, ih]
    by_cases hp : 0 < w.getD k 0
    · rw [if_pos hp]; simp
    · rw [if_neg hp]
      have : w.getD k 0 = 0 := by omega
      rw [this]; simp
theorem mem_coll2 {size : Int} {w : List Int} {c : Ch} : ∀ {k : Nat}, c ∈ coll size w k → ∃ a : Nat, a < k ∧ 0 < w.getD a 0 ∧ c = (w.getD a 0, size, (a : Int))
  | 0, h => by simp [coll] at h
  | k + 1, h => by
    rw [coll] at h
    rcases List.mem_append.1 h with h | h
    · obtain ⟨a, h1, h2, h3⟩ := mem_coll2 h
      exact ⟨a, by omega, h2, h3⟩
    · split at h
      · rename_i hp
        exact ⟨k, by omega, hp, by simpa using h⟩
      · simp at h
theorem sumW_in {C : List Ch} (h : ∀ c ∈ C, 0 ≤ c.1) : ∀ i, 0 ≤ sumW (C.take i) ∧ sumW (C.take i) ≤ sumW C := by
  intro i
  induction C generalizing i with
  | nil => simp [sumW]
  | cons c C ih =>
    have h0 := h c (by simp)
    have i1 := ih (fun x hx => h x (List.mem_cons_of_mem _ hx))
    cases i with
    | zero =>
      have := (i1 C.length)
      rw [List.take_length] at this
      simp [sumW] at *; omega
    | succ i =>
      have := i1 i
      simp [sumW] at *; omega

section
variable {r R V : List Int} {s k A B : Nat}
theorem v_in (hf : FairI r s k R V A B) (h : FaOk r s) : inB 0 1048576 V = true := by
  rw [inB_iff]
  intro j hj
  have h1 := sum_get V hf.nn
  have h2 := h1.2 j
  have h3 := wh_is h
  have h4 := hf.sm
  exact ⟨hf.nn j, by omega⟩
theorem left_sum {L : List Int} (h : inB 0 1048576 L = true) : leftV L = L.sum := by unfold leftV; rw [if_pos h]
theorem wt_nn (hf : FairI r s k R V A B) (h : FaOk r s) (j : Nat) : 0 ≤ (wtI r V k).getD j 0 := by
  unfold wtI
  split
  · exact (h.rr j).1
  · exact hf.nn j
theorem wt_sum (hf : FairI r s k R V A B) (h : FaOk r s) (hk : k < whN r s) : (wtI r V k).length = r.length ∧ 1 ≤ (wtI r V k).sum ∧ (wtI r V k).sum ≤ 36 ∧ (wtI r V k).sum.toNat * (if k = 0 then s else 1) = whN r s - k := by
  have h1 := wh_is h
  have h2 := rsum_in h
  unfold wtI
  by_cases h0 : k = 0
  · subst h0
    rw [if_pos rfl, if_pos rfl]
    refine ⟨rfl, h2.1, by omega, ?_⟩
    have h3 := h1.1
    obtain ⟨q, hq⟩ : ∃ q : Nat, (q : Int) = r.sum := ⟨r.sum.toNat, by omega⟩
    rw [← hq] at h3 ⊢
    rw [Int.toNat_natCast]
    have : whN r s = s * q := by exact_mod_cast h3
    rw [this, Nat.mul_comm]; omega
  · rw [if_neg h0, if_neg h0]
    have h4 := hf.sm
    exact ⟨hf.lv, by omega, by omega, by omega⟩
theorem fair_ch (hf : FairI r s k R V A B) (h : FaOk r s) (hk : k < whN r s) : chV r [(s : Int)] R = coll (szI s k) (wtI r V k) r.length := by
  have hR := hf.hR
  unfold chV
  rw [h.has, Bool.true_and]
  by_cases h0 : k = 0
  · subst h0
    rw [if_pos (.inl rfl)] at hR
    subst hR
    have e1 : fitB r [] = true := by simp [fitB]
    have e2 : leftV [] = 0 := by rfl
    rw [e1, if_pos rfl, e2, if_neg (by decide)]
    show blks r [(s : Int)] 1 = _
    simp [blks, szI, wtI]
  · rw [if_neg (by omega)] at hR
    rw [hR]
    have h1 := v_in hf h
    have h2 : fitB r V = true := by
      unfold fitB
      rw [decide_eq_true hf.lv, h1]; simp
    have h3 : 0 < leftV V := by rw [left_sum h1, hf.sm]; omega
    rw [h2, if_pos rfl, if_pos h3, hf.lv]
    simp [szI, wtI, h0]
theorem fair_next (hf : FairI r s k R V A B) (h : FaOk r s) (hk : k < whN r s) {c : Ch} (hc : c ∈ chV r [(s : Int)] R) :
    ∃ a : Nat, a < r.length ∧ c.2.2 = (a : Int) ∧ 1 ≤ c.1 ∧ c.1 ≤ 36 ∧ (∃ V', FairI r s (k + 1) (nextV r [(s : Int)] R c) V' (A * c.1.toNat) (B * (wtI r V k).sum.toNat)) := by
  have hm := hc
  rw [fair_ch hf h hk] at hm
  obtain ⟨a, ha, hp, e⟩ := mem_coll2 hm
  have hws := wt_sum hf h hk
  have hwn := wt_nn hf h
  have hle := (sum_get _ hwn).2 a
  have hwh := wh_is h
  have hcx : c.1 = (wtI r V k).getD a 0 := by rw [e]
  have hca : c.2.2 = (a : Int) := by rw [e]
  have hcs : c.2.1 = szI s k := by rw [e]
  have hs1 := h.s1
  have haV : a < V.length := by rw [hf.lv]; exact ha
  -- the block
  have hblk : blockV r R c.2.1 = V := by
    rw [hcs]
    unfold blockV szI
    by_cases h0 : k = 0
    · rw [if_pos h0, if_neg (by omega), (hf.h0 h0).1]; rfl
    · rw [if_neg h0, if_pos rfl, hf.hR, if_neg (by omega)]
  have hVa : 1 ≤ V.getD a 0 ∧ (V.getD a 0).toNat = c.1.toNat * (if k = 0 then s else 1) := by
    rw [hcx]
    unfold wtI at hp ⊢
    by_cases h0 : k = 0
    · rw [if_pos h0] at hp ⊢
      rw [if_pos h0, (hf.h0 h0).1, ful_get]
      obtain ⟨q, hq⟩ : ∃ q : Nat, (q : Int) = r.getD a 0 := ⟨(r.getD a 0).toNat, by omega⟩
      rw [← hq] at hp ⊢
      have h1 : 1 * 1 ≤ (s : Int) * (q : Int) := Int.mul_le_mul (by omega) (by omega) (by omega) (by omega)
      refine ⟨by omega, ?_⟩
      rw [Int.toNat_natCast, ← Int.natCast_mul, Int.toNat_natCast, Nat.mul_comm]
    · rw [if_neg h0] at hp ⊢
      rw [if_neg h0]
      exact ⟨by omega, by omega⟩
  have hV0 : 1 ≤ V.sum := by rw [hf.sm]; omega
  have hset := facP_set V a haV hVa.1
  have hsum := sum_set V a haV
  obtain ⟨L, hL⟩ : ∃ L, L = V.set a (V.getD a 0 - 1) := ⟨_, rfl⟩
  rw [← hL] at hset hsum
  have hLn : ∀ j, 0 ≤ L.getD j 0 := fun j => by
    rw [hL]
    by_cases e2 : j = a
    · subst e2
      simp only [List.getD, List.getElem?_set_self haV, Option.getD_some]
      have := hVa.1
      simp only [List.getD] at this
      omega
    · have := hf.nn j
      simp only [List.getD, List.getElem?_set_ne (fun e3 => e2 e3.symm)] at *
      exact this
  have hLs : L.sum = ((whN r s - (k + 1) : Nat) : Int) := by rw [hsum, hf.sm]; omega
  have hLin : inB 0 1048576 L = true := by
    rw [inB_iff]
    intro j hj
    have h2 := (sum_get L hLn).2 j
    exact ⟨hLn j, by omega⟩
  have hnx : nextV r [(s : Int)] R c = if k + 1 = whN r s then [] else L := by
    unfold nextV nextOk lessV
    rw [decide_eq_true hc, if_pos rfl, hblk, hca, Int.toNat_natCast, ← hL, left_sum hLin, hLs]
    by_cases e2 : k + 1 = whN r s
    · rw [if_pos e2, if_pos (by omega)]
    · rw [if_neg e2, if_neg (by omega)]
  refine ⟨a, ha, hca, by omega, by omega, L, ?_⟩
  refine ⟨by rw [hL, List.length_set, hf.lv], hLn, hLs, hk, ?_, ?_, ?_, fun e2 => by omega⟩
  · have hA := hf.hA
    rw [hset, hVa.2] at hA
    rw [if_neg (by omega)]
    rw [← hA]
    by_cases h0 : k = 0
    · rw [if_pos h0, if_pos h0]
      generalize facP L = q
      generalize c.1.toNat = x
      rw [Nat.mul_one, Nat.mul_assoc, Nat.mul_assoc, Nat.mul_assoc]
    · rw [if_neg h0, if_neg h0, Nat.mul_one]
      generalize facP L = q
      generalize c.1.toNat = x
      rw [Nat.mul_right_comm A x s, Nat.mul_assoc]
  · have hB := hf.hB
    have h4 := hws.2.2.2
    have hfs : facN (whN r s - k) = (whN r s - k) * facN (whN r s - (k + 1)) := by
      obtain ⟨q, hq⟩ : ∃ q, whN r s - k = q + 1 := ⟨whN r s - k - 1, by omega⟩
      have : whN r s - (k + 1) = q := by omega
      rw [hq, this, facN]
    rw [hfs, ← h4] at hB
    rw [if_neg (by omega), ← hB]
    generalize facN (whN r s - (k + 1)) = q
    generalize (wtI r V k).sum.toNat = x
    by_cases h0 : k = 0
    · rw [if_pos h0, if_pos h0, Nat.mul_one, Nat.mul_assoc, Nat.mul_assoc, Nat.mul_assoc]
    · rw [if_neg h0, if_neg h0, Nat.mul_one, Nat.mul_right_comm B x s, Nat.mul_assoc]
  · rw [hnx]
    by_cases e2 : k + 1 = whN r s
    · rw [if_pos e2, if_pos (.inr e2)]
    · rw [if_neg e2, if_neg (by omega)]
theorem fair_end (hf : FairI r s k R V A B) (h : FaOk r s) (hk : k = whN r s) : R = [] ∧ A * facN (whN r s) = facP (fulV r s) * B := by
  have h1 := (wh_is h).2.1
  have hA := hf.hA
  have hB := hf.hB
  have hR := hf.hR
  rw [if_pos (.inr hk)] at hR
  refine ⟨hR, ?_⟩
  have hs0 := (sum_get V hf.nn).2
  have e : facP V = 1 := facP_zero V fun j hj => by
    have h2 := hs0 j
    have h3 := hf.nn j
    have h4 := hf.sm
    omega
  rw [e, if_neg (by omega), Nat.mul_one] at hA
  rw [if_neg (by omega), show whN r s - k = 0 by omega] at hB
  have e2 : facN 0 = 1 := rfl
  rw [e2, Nat.mul_one] at hB
  rw [← hA, ← hB]
  rw [Nat.mul_comm B s, ← Nat.mul_assoc]
end
end Go.Proofs.Ytjlneggfkpjnpaa

namespace Go.Proofs.Ytjlneggfkpjnpaa
open Go.RowKit

attribute [local go_sem ↓] appC_rw appR_rw

theorem wRow_ix {W : World} {B n : Nat} {v : Value} {r s l : List Int} {k : Nat} (h : OwI W B v n (wRow r s l k)) (lr : r.length ≤ 8) : Ix W v (wRow r s l k) :=
  h.ix (by have := owI_len h; have := wRow_len (s := s) (l := l) lr k; omega) (fit_in (wRow_in r s l k))

set_option maxRecDepth 10000 in
set_option maxHeartbeats 4000000 in
theorem walk_own {W : World} {ar az : Option Addr} {nr cr ns cs : Nat} {r s l : List Int} {vl : Value} (hr : Ix W (.slice ar nr cr) r) (hs : Ix W (.slice az ns cs) s) (lr : r.length ≤ 8) (ls : s.length ≤ 8) (hBl : hasB r s = true) (hl : Hx W vl l) :
    Calls Try.prog 21 #[.agg #[.int .i64 0, .slice ar nr cr, .slice az ns cs, .int .i64 0, .int .i64 0, .int .i64 0], vl] W fun e w' => ∃ aT cT aR cR vals W0, e = .returned (.tuple #[.slice aT (min l.length 400) cT, .slice aR (min l.length 400) cR, .bool true]) ∧ WkI W0 w' r s l (.slice aT (min l.length 400) cT) (.slice aR (min l.length 400) cR) vals (min l.length 400) ∧ Below W.heap.size W w' := by
  obtain ⟨al, cl, rfl⟩ := hl.mk'
  have hlen := hl.len
  unfold maxLen at hlen
  obtain ⟨n, hn⟩ : ∃ n, n = l.length := ⟨_, rfl⟩
  have HX := Lib.hid hl
  rw [← hn] at hlen HX ⊢
  have HD0 := Lib.hid (dbox_is W (.slice ar nr cr) (.slice az ns cs))
  have hb0 := dbox_below W (.slice ar nr cr) (.slice az ns cs)
  have HR := Lib.hid (hr.below hb0)
  have HS := Lib.hid (hs.below hb0)
  have HX0 := Lib.hid (HX.out.below hb0)
  have HM := Lib.hid (fun k => wCh_mem (l := l) hBl (fun k => (hl.fit k).1) k)
  have HP := Lib.hid (fun k => pick_mem (r := r) (s := s) (row := wRow r s l k) ((hl.fit k).1) (ch_some hBl (wRow_fit r s l k)))
  have HNE := Lib.hid (fun k => ch_some (s := s) hBl (wRow_fit r s l k))
  have HFIT := Lib.hid hl.fit
  obtain ⟨m, hm⟩ : ∃ m, m = min n 400 := ⟨_, rfl⟩
  rw [← hm]
  have hm1 : m ≤ n := by omega
  have hm2 : m ≤ 400 := by omega
  have hm3 : m = n ∨ m = 400 := by omega
  have HM3 := Lib.hid hm3
  have HW0 := Lib.hid hb0
  clear hm hm3 hl hn hr hs hb0 HX
  go_enter Try.func21, Try.ntmps21
  go_wp2
  change Code.wp _ _ _ _ (dbox W (.slice ar nr cr) (.slice az ns cs))
  revert HD0 HR HS HX0 HW0
  generalize dbox W (.slice ar nr cr) (.slice az ns cs) = W0
  intro HD0 HR HS HX0 HW0
  go_loopw [7, 8, 9, 10] (fun tv rv wv kv wr => ∃ (k : Nat) (aT aR aw : Option Addr) (cT cR nw cw : Nat) (vals : List Value), k ≤ m ∧ kv = .int .i64 (k : Nat) ∧ tv = .slice aT k cT ∧ rv = .slice aR k cR ∧ wv = .slice aw nw cw ∧ Hid (WkI W0 wr r s l (.slice aT k cT) (.slice aR k cR) vals k) ∧ Hid (OwI wr W0.heap.size (.slice aw nw cw) nw (wRow r s l k))) (fun _ _ _ kv _ => m - (intOf kv).toNat)
  case atStart => exact ⟨0, none, none, none, 0, 0, 0, 0, [], by omega, rfl, rfl, rfl, rfl, Lib.hid ⟨World.ownsRow_nil _ _ _ _, World.ownsRow_nil _ _ _ _, fun j hj => by omega, Below.refl _ _⟩, Lib.hid (World.ownsRow_nil _ _ _ _)⟩
  case round =>
    obtain ⟨k, aT, aR, aw, cT, cR, nw, cw, vals, hk, rfl, rfl, rfl, rfl, hI, hO⟩ := hrel
    by_cases hkm : k = m
    · have hend : k = n ∨ k = 400 := by have := HM3.out; omega
      subst hkm
      rcases Nat.lt_or_ge k n with hkn | hkn
      all_goals
        go_wp2
        exact bodyPost_ret (results_tmp3 rfl _ _ _) rfl ⟨_, _, _, _, _, W0, rfl, hI.out, HW0.out.trans (hI.out.fb.mono HW0.out.size)⟩
    · have hlt : k < m := by omega
      have hkn : k < n := by omega
      have hk4 : k < 400 := by omega
      have hB := hI.out.fb
      obtain ⟨bl, ol, rfl, hcapl, hbll, hcll⟩ := HX0.out.at (by omega)
      have hcl := hcll k hkn
      have hfit := HFIT.out k
      obtain ⟨d0, d1, d2, d3, d4, d5⟩ := (DBox.below HD0.out hB).cells
      have hix := wRow_ix hO.out lr
      have HCH := Lib.hid (choices_any (HR.out.below hB) (HS.out.below hB) hix lr ls (wRow_len lr k))
      have hmem := HM.out k
      have hpk := (HP.out k).2
      have hne := HNE.out k
      have hcd : (chV r s (wRow r s l k)).getD (l.getD k 0 % ((chV r s (wRow r s l k)).length : Int)).toNat (0, 0, 0) = wCh r s l k := rfl
      have HNX := Lib.hid (fun W' (hb : Below wr.heap.size wr W') (x y z : Int) => next_any (HR.out.below (hB.trans (hb.mono hB.size))) (HS.out.below (hB.trans (hb.mono hB.size))) (hix.below hb) lr ls (wRow_len lr k) x y z)
      obtain ⟨cx, cy, cz, hceq⟩ : ∃ cx cy cz, wCh r s l k = (cx, cy, cz) := ⟨_, _, _, rfl⟩
      have hok : nextOk r s (wRow r s l k) (cx, cy, cz) = true ∧ nextV r s (wRow r s l k) (cx, cy, cz) = wRow r s l (k + 1) := by
        rw [← hceq]; exact ⟨decide_eq_true hmem, rfl⟩
      have HNY := Lib.hid (fun W' (hb : Below wr.heap.size wr W') => by
        have := HNX.out W' hb cx cy cz
        rw [hok.1, hok.2] at this
        exact this)
      have HCX := Lib.hid (fun W' v (B n : Nat) (h : OwC W' B v n (chV r s (wRow r s l k))) => (And.intro (owC_len h) (h.chx lr ls (wRow_len lr k))))
      have HST := Lib.hid (fun W' (hb : Below wr.heap.size wr W') (ao : Option Addr) (n cap : Nat) (h : OwI W' W0.heap.size (.slice ao n cap) n (wRow r s l (k + 1))) => by
        have := (hI.out.later hb).step (by omega) h
        rw [hceq] at this
        exact this)
      obtain ⟨X, hX⟩ : ∃ X, X = l.getD k 0 := ⟨_, rfl⟩
      rw [← hX] at hcl hfit hpk hcd
      rw [hceq] at hcd
      obtain ⟨L, hL⟩ : ∃ L, L = chV r s (wRow r s l k) := ⟨_, rfl⟩
      rw [← hL] at hcd hpk hne HCX HCH
      obtain ⟨N, hN⟩ : ∃ N, N = L.length := ⟨_, rfl⟩
      rw [← hN] at hcd hpk hne
      have h1 := Int.emod_nonneg X (show (N : Int) ≠ 0 by omega)
      obtain ⟨ix, hixx⟩ : ∃ ix : Nat, X % (N : Int) = (ix : Int) := ⟨(X % (N : Int)).toNat, by omega⟩
      have htm : X.tmod (N : Int) = (ix : Int) := by rw [Int.tmod_eq_emod_of_nonneg hfit.1, hixx]
      rw [hixx, Int.toNat_natCast] at hcd hpk
      have HCD := Lib.hid hcd
      have HN := Lib.hid hN
      have hw : IntKind.i64.wrap X = X := IntWalk.i64_in _ (by omega)
      have hsz := hB.size
      have HSZ := Lib.hid hsz
      have hN0 : ¬ N = 0 := hne
      clear hX hL hN hcd hixx h1 hmem hceq hok hfit hcll hbll hne hix hsz hO
      go_wp2_with (first
        | (go_at_call 14; (with_reducible refine HCH.out.mono ?_); rintro e w1 ⟨aC, nC, cC, rfl, ho, hb⟩; obtain ⟨hnC, hcx⟩ := HCX.out _ _ _ _ ho; rw [← HN.out] at hnC; subst hnC; obtain ⟨bC, oC, rfl, hcapC, hbC, hclC⟩ := hcx.at hN0; obtain ⟨c0, c1, c2⟩ := hclC ix hpk; rw [HCD.out] at c0 c1 c2; simp only at c0 c1 c2; have hcl := cell_later (hB.trans (hb.mono HSZ.out)) hcl; have HB1 := Lib.hid hb; clear d0 d1 d2 d3 d4 d5; obtain ⟨d0, d1, d2, d3, d4, d5⟩ := (DBox.below HD0.out (hB.trans (hb.mono HSZ.out))).cells; have hq1 := (Array.getElem?_eq_some_iff.1 (DBox.below HD0.out (hB.trans (hb.mono HSZ.out)))).1; clear hclC hcx ho hb)
        | (go_at_call 18; (with_reducible refine (HNY.out _ (HB1.out.alloc HB1.out.size _)).mono ?_); rintro e w2 ⟨aN, nN, cN, rfl, ho, hb⟩; have hbb := (HB1.out.alloc HB1.out.size (.cells #[.int .i64 cx, .int .i64 cy, .int .i64 cz] 28)).trans (hb.mono (HB1.out.alloc HB1.out.size _).size); obtain ⟨c0, c1, c2⟩ := ((cbox_is w1 (cx, cy, cz)).below hb).cells; have ho2 := owns_mono ho (Nat.le_trans HSZ.out (HB1.out.alloc HB1.out.size (.cells #[.int .i64 cx, .int .i64 cy, .int .i64 cz] 28)).size); obtain ⟨g1, cp1, w3, g2, cp2, w4, hr1, hr2, hI2, hO2⟩ := HST.out w2 hbb aN nN cN ho2; have HI2 := Lib.hid hI2; have HO2 := Lib.hid hO2; clear hI2 hO2 ho ho2 hb hbb d0 d1 d2 d3 d4 d5))
      go_roundw
      case rel => exact ⟨k + 1, _, _, _, _, _, _, _, _, by omega, by go_num, rfl, rfl, rfl, HI2, HO2⟩
      case measure => simp [intOf]; omega

end Go.Proofs.Ytjlneggfkpjnpaa
