/- What CoinEven asks of numbers: rows with the same load, and one unit more of an arm. No condition beyond those that are stated. A range over a function whose rounds are those places that are in use: the law; what open and its iterator do. No condition beyond those that are stated. Contracts: within and what it calls. Condition: the slice reads as ints. Contracts: slices.Index, Contains and Clone of ints; choices that are equal; ints of one's own that are written. What a loop over open keeps: the boxes of the function that runs it, all else that lay before. No condition beyond those that are stated. -/
import Derived.Test.YtcpgoaombabfjaaMh1
import Derived.RangeFuncNested
import Derived.RangeFuncBound
import Derived.RangeFuncCalls
import Derived.RangeFuncLeaves
import Derived.RangeFuncFrom
import Derived.RangeFuncWrites
import Derived.Shelf.Abstract
import Derived.Shelf.RegionOpen
import Derived.OwnWalkIn
import Derived.TacticsInMore
import Derived.LoopNIn
import Derived.LoopIn
import Derived.Laws.StructEq
import Derived.Laws.Rows
namespace Go.Proofs.Ytcpgoaombabfjaa
open Go.RowKit

theorem cnt_other {r : List Int} (K : Nat) : ∀ {n : Nat}, 2 ≤ cnt r n → ∃ j, j < n ∧ j ≠ K ∧ 0 < r.getD j 0 := by
  have h1 : ∀ n : Nat, (∀ j, j < n → j ≠ K → ¬ 0 < r.getD j 0) → cnt r n ≤ if K < n then 1 else 0 := by
    intro n
    induction n with
    | zero => intro _; simp [cnt]
    | succ n ih =>
      intro h
      have := ih (fun j hj => h j (by omega))
      rw [cnt]
      by_cases hK : n = K
      · subst hK
        rw [if_neg (Nat.lt_irrefl _)] at this
        rw [if_pos (Nat.lt_succ_self _)]
        split <;> omega
      · rw [if_neg (h n (by omega) hK)]
        split at this
        · rw [if_pos (by omega)]; omega
        · split <;> omega
  intro n hn
  apply Classical.byContradiction
  intro hc
  have := h1 n (fun j hj hjK h => hc ⟨j, hj, hjK, h⟩)
  split at this <;> omega

/-- All loads are c, but one is e more. -/
theorem unev_line {r l : List Int} {c e : Int} {K : Nat} (h : prB r = true) (hK : K < r.length ∧ 0 < r.getD K 0) (he : 0 ≤ e) (hk : load r l (mulN r r.length) K = c + e) (ho : ∀ j, j < r.length → j ≠ K → 0 < r.getD j 0 → load r l (mulN r r.length) j = c) : unev r l = e := by
  obtain ⟨a, b, ⟨a1, a2⟩, ⟨b1, b2⟩, hu, hc⟩ := unev_is (l := l) h
  obtain ⟨j, j1, j2, j3⟩ := cnt_other K (prB_iff.1 h).2.2
  have h1 := (hc K hK.1 hK.2).2
  have h2 := (hc j j1 j3).1
  have h3 := ho j j1 j2 j3
  have ha : load r l (mulN r r.length) a = c ∨ load r l (mulN r r.length) a = c + e := by
    by_cases h : a = K
    · subst h; exact .inr hk
    · exact .inl (ho a a1 h a2)
  have hb : load r l (mulN r r.length) b = c ∨ load r l (mulN r r.length) b = c + e := by
    by_cases h : b = K
    · subst h; exact .inr hk
    · exact .inl (ho b b1 h b2)
  rw [hu]
  omega
theorem unev_flat {r l : List Int} {c : Int} (h : prB r = true) (ho : ∀ j, j < r.length → 0 < r.getD j 0 → load r l (mulN r r.length) j = c) : unev r l = 0 := by
  obtain ⟨a, b, ⟨a1, a2⟩, ⟨b1, b2⟩, hu, _⟩ := unev_is (l := l) h
  rw [hu, ho a a1 a2, ho b b1 b2]; omega

/-- The row that has c units for each of the ratio. -/
def rwL (r : List Int) (c : Int) : Nat → List Int
  | 0 => []
  | k + 1 => rwL r c k ++ [c * r.getD k 0]
theorem rwL_len (r : List Int) (c : Int) : ∀ k, (rwL r c k).length = k
  | 0 => rfl
  | k + 1 => by simp [rwL, rwL_len r c k]
theorem rwL_get {r : List Int} {c : Int} {j : Nat} : ∀ {k : Nat}, j < k → (rwL r c k).getD j 0 = c * r.getD j 0
  | k + 1, h => by
    rw [rwL]
    by_cases hj : j < k
    · have := rwL_get (r := r) (c := c) hj
      rw [← this]
      simp [List.getD, List.getElem?_append_left (show j < (rwL r c k).length by rw [rwL_len]; exact hj)]
    · obtain rfl : j = k := by omega
      have e : (rwL r c j).length = j := rwL_len r c j
      simp [List.getD, List.getElem?_append_right (show (rwL r c j).length ≤ j by omega), e]
/-- The greatest ratio of the first arms, and which arms have it. -/
def grL (r : List Int) : Nat → Int
  | 0 => 0
  | k + 1 => max (grL r k) (r.getD k 0)
def wnL (r : List Int) (g : Int) : Nat → List Int
  | 0 => []
  | k + 1 => wnL r g k ++ if r.getD k 0 = g then [(k : Int)] else []
theorem grL_ge (r : List Int) : ∀ {k j : Nat}, j < k → r.getD j 0 ≤ grL r k
  | k + 1, j, h => by
    rw [grL]
    by_cases hj : j = k
    · subst hj; omega
    · have := grL_ge r (show j < k by omega); omega
theorem grL_nn (r : List Int) : ∀ k, 0 ≤ grL r k
  | 0 => Int.le_refl _
  | k + 1 => by have := grL_nn r k; rw [grL]; omega
theorem wnL_none {r : List Int} {g : Int} : ∀ {k : Nat}, (∀ j, j < k → r.getD j 0 ≠ g) → wnL r g k = []
  | 0, _ => rfl
  | k + 1, h => by
    rw [wnL, if_neg (h k (by omega)), List.append_nil]
    exact wnL_none (fun j hj => h j (by omega))
theorem wnL_len (r : List Int) (g : Int) : ∀ k, (wnL r g k).length ≤ k
  | 0 => by simp [wnL]
  | k + 1 => by
    have := wnL_len r g k
    rw [wnL]
    split <;> simp <;> omega
theorem mem_wnL {r : List Int} {g : Int} {x : Int} : ∀ {k : Nat}, x ∈ wnL r g k → ∃ j : Nat, j < k ∧ x = (j : Int)
  | 0, h => by simp [wnL] at h
  | k + 1, h => by
    rw [wnL] at h
    rcases List.mem_append.1 h with h | h
    · obtain ⟨j, h1, h2⟩ := mem_wnL h; exact ⟨j, by omega, h2⟩
    · split at h
      · exact ⟨k, by omega, by simpa using h⟩
      · simp at h

theorem div_lt {m g x : Int} (hg : 0 < g) (hx : g < x) (hm : 0 < m) (h1 : g ∣ m) (h2 : x ∣ m) : m / x < m / g := by
  obtain ⟨a, ha⟩ := h2
  obtain ⟨b, hb⟩ := h1
  have ea : m / x = a := by rw [ha]; exact Int.mul_ediv_cancel_left _ (by omega)
  have eb : m / g = b := by rw [hb]; exact Int.mul_ediv_cancel_left _ (by omega)
  rw [ea, eb]
  apply Classical.byContradiction
  intro hc
  have ha0 : 0 < a := by
    apply Classical.byContradiction
    intro h
    have : x * a ≤ 0 := Int.mul_nonpos_of_nonneg_of_nonpos (by omega) (by omega)
    omega
  have h3 : g * b ≤ g * a := Int.mul_le_mul_of_nonneg_left (by omega) (by omega)
  have h4 : g * a < x * a := Int.mul_lt_mul_of_pos_right hx ha0
  omega

/-- Where what both rows become is as the ratio, the arms with the greatest one are best. -/
theorem best_even {r s t : List Int} {m : Int} (hm : 0 < m) (h0 : ∀ j, 0 ≤ r.getD j 0) : ∀ n : Nat, (∀ j, j < n → 0 < r.getD j 0 → tog r s t j = 2 * (m / r.getD j 0) ∧ r.getD j 0 ∣ m) →
    (grL r n = 0 ∧ best r s t n = ([], 0)) ∨ (0 < grL r n ∧ best r s t n = (wnL r (grL r n) n, 2 * (m / grL r n)) ∧ wnL r (grL r n) n ≠ [] ∧ grL r n ∣ m)
  | 0, _ => .inl ⟨rfl, rfl⟩
  | n + 1, h => by
    have ih := best_even hm h0 n (fun j hj => h j (by omega))
    by_cases hp : 0 < r.getD n 0
    · obtain ⟨ht, hd⟩ := h n (by omega) hp
      right
      rcases ih with ⟨g0, hb⟩ | ⟨g0, hb, hne, hdg⟩
      · have e : grL r (n + 1) = r.getD n 0 := by rw [grL]; omega
        have hw : wnL r (r.getD n 0) n = [] := wnL_none (fun j hj => by have := grL_ge r hj; omega)
        rw [e]
        refine ⟨hp, ?_, ?_, hd⟩
        · rw [best, if_pos hp, hb, if_pos (.inl rfl), ht, wnL, hw, if_pos rfl]; rfl
        · rw [wnL, if_pos rfl]; simp
      · by_cases hc : grL r n < r.getD n 0
        · have e : grL r (n + 1) = r.getD n 0 := by rw [grL]; omega
          have hw : wnL r (r.getD n 0) n = [] := wnL_none (fun j hj => by have := grL_ge r hj; omega)
          have hlt := div_lt g0 hc hm hdg hd
          rw [e]
          refine ⟨hp, ?_, ?_, hd⟩
          · rw [best, if_pos hp, hb, if_pos (.inr (by rw [ht]; show _ < 2 * (m / grL r n); omega)), ht, wnL, hw, if_pos rfl]; rfl
          · rw [wnL, if_pos rfl]; simp
        · have e : grL r (n + 1) = grL r n := by rw [grL]; omega
          rw [e]
          by_cases he : r.getD n 0 = grL r n
          · refine ⟨g0, ?_, ?_, hdg⟩
            · rw [best, if_pos hp, hb, ht, he, if_neg (by rintro (h | h); exact hne h; exact Int.lt_irrefl _ h), if_pos rfl, wnL, if_pos he]
            · rw [wnL, if_pos he]; simp
          · have hlt := div_lt hp (show r.getD n 0 < grL r n by omega) hm hd hdg
            refine ⟨g0, ?_, ?_, hdg⟩
            · rw [best, if_pos hp, hb, ht, if_neg (by rintro (h | h); exact hne h; (have h : 2 * (m / r.getD n 0) < 2 * (m / grL r n) := h); omega), if_neg (by show ¬ 2 * (m / r.getD n 0) = 2 * (m / grL r n); omega), wnL, if_neg he, List.append_nil]
            · rw [wnL, if_neg he, List.append_nil]; exact hne
    · have e : grL r (n + 1) = grL r n := by have := grL_nn r n; have := h0 n; rw [grL]; omega
      have hb : best r s t (n + 1) = best r s t n := by rw [best, if_neg hp]
      rw [e, hb]
      rcases ih with ih | ⟨g0, h1, h2, h3⟩
      · exact .inl ih
      · right
        have hw : wnL r (grL r n) (n + 1) = wnL r (grL r n) n := by rw [wnL, if_neg (by omega), List.append_nil]
        rw [hw]
        exact ⟨g0, h1, h2, h3⟩

theorem r_dvd {r : List Int} {k : Nat} (hk : k < r.length) (hp : 0 < r.getD k 0) : r.getD k 0 ∣ (mulN r r.length : Nat) := by
  have h := mulN_div hp hk
  have e : ((r.getD k 0).toNat : Int) = r.getD k 0 := by omega
  rw [← e]
  exact Int.ofNat_dvd.2 h
theorem load_even {r l : List Int} {c d : Int} {k : Nat} (hk : k < r.length) (hp : 0 < r.getD k 0) (hl : l.getD k 0 = c * r.getD k 0 + d) : load r l (mulN r r.length) k = c * (mulN r r.length : Nat) + d * ((mulN r r.length : Nat) / r.getD k 0) := by
  obtain ⟨b, hb⟩ := r_dvd hk hp
  unfold load
  have e : ((mulN r r.length : Nat) : Int) / r.getD k 0 = b := by rw [hb]; exact Int.mul_ediv_cancel_left _ (by omega)
  rw [hl, e, Int.add_mul, Int.mul_assoc, ← hb]

end Go.Proofs.Ytcpgoaombabfjaa

namespace Go.Proofs.Ytcpgoaombabfjaa
open Go.RowKit Go.Shelf
attribute [local go_sem] Oper.semAt_some

/-- How the body of a counted round is left: off its end, the next invariant holding. -/
def countPost (B : Nat) (I : World → Prop) (W : World) : Exit → Act → World → Prop
  | .normal, _, W' => KeepsFrom B W W' ∧ I W'
  | _, _, _ => False

/-- What an iterator owes that goes over N places and makes a round for those in use. -/
def Steps (F : Fence) (n : Nat) (P : Program) (g : Nat) (lb : Array Value) (args : Nat → Array Value) (N : Nat) (used : Nat → Prop) (I : Nat → World → Prop) : Prop :=
  ∀ (l : Nat) (A : World → Prop) (W : World), (∀ k W1, k < N → used k → I k W1 → A W1 → YieldAt F (n - 1) P l (args k) W1 fun e W' => e = .returned (.bool true) ∧ I (k + 1) W' ∧ A W') → I 0 W → A W →
    CallsIn F n P g (#[.func (.yield l) #[] #[]] ++ lb) W fun e W' => (∃ v, e = .returned v) ∧ I N W' ∧ A W'

theorem rangeFunc_steps {F : Fence} {n : Nat} {P : Program} {g : Operand} {ps : Array Tmp} {assign body : Code} {Q : Exit → Act → World → Prop} {a : Act} {w : World}
    (hro : F.round = none) (h1 : 1 ≤ n) {gf : Nat} {lb : Array Value} (hg : a.eval g = .func (.func gf) #[] lb) (hFg : F.fn gf) (eg : ∀ args w, (callFunc gf args).run P w = .ok (.enter gf args) w)
    {args : Nat → Array Value} {N : Nat} {used : Nat → Prop} {I : Nat → World → Prop} (hseq : Steps F (n - 1) P gf lb args N used I) (hps : ∀ k, (args k).size = ps.size)
    (hI : OwnFrom w.heap.size I) (h0 : I 0 w) (a₁ : Nat → Act)
    (hassign : ∀ (l k : Nat) (W : World) (K : Act → World → Prop), K (a₁ k) W →
      assign.wpIn (F.inRound l) (n - 1 - 1) P (Exit.then K (fun _ _ _ => False)) { tmps := (ps.zip (args k)).foldl (fun t (p, v) => t.setIfInBounds p v) a.tmps, defers := [] } W)
    (hbody : ∀ (l k : Nat) (W : World), k < N → used k → I k W → body.wpIn (F.inRound l) (n - 1 - 1) P (countPost w.heap.size (I (k + 1)) W) (a₁ k) W)
    (hdone : ∀ (D : Nat) (W : World), w.heap.size ≤ D → I N W → W.heap[D]? = some (.deferred (some [])) → Q .normal { a with defers := { target := .collected D, args := #[] } :: a.defers } W) :
    (Code.rangeFunc g ps assign body).wpIn F n P Q a w := by
  refine wpIn_rangeFunc ?_
  intro fn hfn
  rw [hro]
  let rec0 : LoopState → Loop := fun st => { state := st, pending := none, fn, tmps := a.tmps, params := ps, assign, body, defers := w.heap.size }
  obtain ⟨W1, hW1⟩ : ∃ W1, (w.alloc (.deferred (some []))).alloc (.loop (rec0 .ready)) = W1 := ⟨_, rfl⟩
  have hL1 : W1.heap[w.heap.size + 1]? = some (.loop (rec0 .ready)) := by
    have := World.alloc_heap_new (w.alloc (.deferred (some []))) (.loop (rec0 .ready))
    rw [World.size_alloc] at this
    rw [← hW1]; exact this
  have hD1 : W1.heap[w.heap.size]? = some (.deferred (some [])) := by
    rw [← hW1, Below.heap_alloc _ _ _ (by simp)]
    exact World.alloc_heap_new w _
  have hI1 : I 0 W1 := by rw [← hW1]; exact hI.alloc _ (hI.alloc _ h0)
  refine ⟨w.heap.size + 1, [{ target := .collected w.heap.size, args := #[] }], W1, { target := .fn (.func gf) lb, args := #[.func (.yield (w.heap.size + 1)) #[] #[]] }, W1, gf,
    #[.func (.yield (w.heap.size + 1)) #[] #[]] ++ lb, W1, ?_, ?_, ?_, ?_, fun _ => h1, ?_⟩
  · rw [← hW1]; exact run_enterLoop_outer _ _ _ _ _
  · simp only [resolve, hg]
    simp [go_sem]
  · intro f' hf'; simp [Target.leads] at hf'; subst hf'; exact hFg
  · simp [invoke, go_sem, eg]
  refine (hseq (w.heap.size + 1) (fun W => W.heap[w.heap.size + 1]? = some (.loop (rec0 .ready)) ∧ W.heap[w.heap.size]? = some (.deferred (some []))) W1 ?_ hI1 ⟨hL1, hD1⟩).mono ?_
  · rintro k W hk hu hi ⟨hl, hd⟩
    have hlt : w.heap.size + 1 < W.heap.size := (Array.getElem?_eq_some_iff.1 hl).1
    refine ⟨fn, _, assign, body, run_yield hl (hps k), roundIn_of_wpIn hfn (hassign _ k W _ ⟨_, run_beginRound hl rfl, ?_⟩)⟩
    have hl2 : (W.putObj (w.heap.size + 1) (.loop (rec0 .busy))).heap[w.heap.size + 1]? = some (.loop (rec0 .busy)) := World.putObj_heap_same hlt
    have hd2 : (W.putObj (w.heap.size + 1) (.loop (rec0 .busy))).heap[w.heap.size]? = some (.deferred (some [])) := (World.putObj_heap_other (by omega)).trans hd
    refine wpIn_mono (hbody _ k _ hk hu (hI.putObj _ hi (by omega) hl rfl)) ?_
    rintro e a3 W3 hp
    cases e with
    | normal =>
      obtain ⟨hkf, hi3⟩ := hp
      have hl3 := hkf.same _ _ (by omega) hl2 rfl
      have hd3 := hkf.same _ _ (Nat.le_refl _) hd2 rfl
      refine ⟨_, _, run_endRound none hl3, rfl, hI.putObj _ hi3 (by omega) hl3 rfl, World.putObj_heap_same (Array.getElem?_eq_some_iff.1 hl3).1, (World.putObj_heap_other (by omega)).trans hd3⟩
    | ret => exact hp.elim
    | exit id => exact hp.elim
    | goto t => exact hp.elim
    | panic ch => exact hp.elim
    | outgrown => exact hp.elim
  · rintro e W2 ⟨⟨v, rfl⟩, hi, hl, hd⟩
    refine ⟨none, _, run_endLoop hl (by simp [rec0]), hdone _ _ (Nat.le_refl _) (hI.putObj _ hi (by omega) hl rfl) ((World.putObj_heap_other (by omega)).trans hd)⟩

/-- What a round of open is handed. -/
def rg (r : List Int) (k : Nat) : Int := r.getD k 0
def opArgs (r : List Int) (k : Nat) : Array Value := #[.int .i64 (k : Int), .int .i64 (rg r k)]

set_option maxRecDepth 100000 in
set_option maxHeartbeats 2000000 in
/-- open's iterator: a round for each open arm. -/
theorem open_steps (F : Fence) (n : Nat) (h49 : F.fn 49) (hro : F.round = none) (hn : 1 ≤ n) (Bd nr cr : Nat) (ar : Option Addr) (r : List Int) (hnr : nr ≤ 1000) (I : Nat → World → Prop)
    (hB : ∀ k W, I k W → W.cell? ⟨Bd, 1, none⟩ = some (.slice ar nr cr))
    (hc : ∀ k W, I k W → k < nr → ∃ b' off, ar = some ⟨b', off, none⟩ ∧ W.cell? ⟨b', off + k, none⟩ = some (.int .i64 (r.getD k 0)))
    (hskip : ∀ k W, k < nr → ¬ 0 < r.getD k 0 → I k W → I (k + 1) W) :
    Steps F n Try.prog 49 #[.pointer (some ⟨Bd, 0, none⟩)] (opArgs r) nr (fun k => 0 < r.getD k 0) I := by
  intro l A W hY h0 hA
  have HBB := Lib.hid hB
  have HC := Lib.hid hc
  have HY := Lib.hid hY
  have HSK := Lib.hid hskip
  have hd0 := hB 0 W h0
  clear hB hc hY hskip
  refine callsIn_of_wp Try.func49 rfl h49 ?_ hro
  simp only [Try.ntmps49, List.size_toArray, List.length_cons, List.length_nil, Nat.reduceAdd, Nat.reduceSub, Array.replicate_succ, Array.replicate_zero, List.push_toArray, List.append_toArray, List.nil_append, List.cons_append]
  have HI0 := Lib.hid h0
  have HA0 := Lib.hid hA
  clear h0 hA
  gi_wp2
  gi_loopw [3, 4, 8] (fun _ _ i wr => ∃ m : Nat, m ≤ nr ∧ i = .int .i64 (m : Int) ∧ Hid (I m wr) ∧ Hid (A wr))
    (fun _ _ i _ => nr - (intOf i).toNat)
  case atStart => exact ⟨0, by omega, rfl, HI0, HA0⟩
  case round =>
    obtain ⟨m, hk, rfl, hJs, hJa⟩ := hrel
    have hd1 := HBB.out _ _ hJs.out
    by_cases hmn : m = nr
    · subst hmn
      gi_wp2
      go_end0
      exact ⟨⟨_, rfl⟩, hJs.out, hJa.out⟩
    · have hlt : m < nr := by omega
      obtain ⟨b2, off2, rfl, hcr⟩ := HC.out _ _ hJs.out hlt
      by_cases hu : 0 < r.getD m 0
      · obtain ⟨fn, tmps, assign, body, hy, hR⟩ := HY.out m wr hlt hu hJs.out hJa.out
        unfold opArgs rg at hy
        obtain ⟨x, hx⟩ : ∃ x, x = r.getD m 0 := ⟨_, rfl⟩
        rw [← hx] at hcr hu hy
        have HR := Lib.hid hR
        clear hx hR
        gi_wp2
        refine HR.out.mono ?_
        rintro e W3 ⟨rfl, hJ3, hA3⟩
        have HJ3 := Lib.hid hJ3
        have HA3 := Lib.hid hA3
        clear hJ3 hA3
        gi_wp2
        go_roundw
        case rel => exact ⟨m + 1, by omega, by go_num, HJ3, HA3⟩
        case measure => simp [intOf]; omega
      · have HJ3 := Lib.hid (HSK.out m wr hlt (by first | exact hu | omega) hJs.out)
        obtain ⟨x, hx⟩ : ∃ x, x = r.getD m 0 := ⟨_, rfl⟩
        rw [← hx] at hcr hu
        clear hx
        gi_wp2
        refine ⟨fun f hf => (by cases hf), ?_⟩
        gi_wp2
        go_roundw
        case rel => exact ⟨m + 1, by omega, by go_num, HJ3, hJa⟩
        case measure => simp [intOf]; omega

set_option maxRecDepth 10000 in
set_option maxHeartbeats 1000000 in
theorem open_any {W : World} {kd : Int} {vr : Value} {cn cd : Int} :
    Calls Try.prog 34 #[DV kd vr cn cd] W fun e w' => e = .returned (.func (.func 49) #[] #[.pointer (some ⟨W.heap.size, 0, none⟩)]) ∧ w' = dbox W kd vr cn cd := by
  go_enter Try.func34, Try.ntmps34
  go_wp2
  go_ret
  exact ⟨by first | rfl | (simp; done), rfl⟩

end Go.Proofs.Ytcpgoaombabfjaa

namespace Go.Proofs.Ytcpgoaombabfjaa
open Go.RowKit

/-- An int in a box. -/
abbrev Hi (W : World) (C : Nat) (hi : Int) : Prop := W.heap[C]? = some (.cells #[.int .i64 hi] 3 (0, 0))

set_option maxRecDepth 10000 in
set_option maxHeartbeats 1000000 in
theorem out_any {W : World} {C : Nat} {hi : Int} (h : Hi W C hi) (x : Int) :
    Calls Try.prog 54 #[.int .i64 x, .pointer (some ⟨C, 0, none⟩)] W fun e w' => e = .returned (.bool (!(decide (0 ≤ x) && decide (x ≤ hi)))) ∧ w' = W := by
  have c2 := cell_of_one h
  clear h
  by_cases h1 : x < 0
  · have h2 : ¬ 0 ≤ x := by omega
    have E : Hid ((!(decide (0 ≤ x) && decide (x ≤ hi))) = true) := Lib.hid (by simp [h2])
    rw [E.out]
    clear h2
    go_enter Try.func54, Try.ntmps54
    go_wp2
    go_ret
    exact ⟨rfl, rfl⟩
  · have h2 : 0 ≤ x := by omega
    by_cases h3 : hi < x
    · have E : Hid ((!(decide (0 ≤ x) && decide (x ≤ hi))) = true) := Lib.hid (by have : ¬ x ≤ hi := (by omega); simp [this])
      rw [E.out]
      clear h2
      go_enter Try.func54, Try.ntmps54
      go_wp2
      go_ret
      exact ⟨rfl, rfl⟩
    · have E : Hid ((!(decide (0 ≤ x) && decide (x ≤ hi))) = false) := Lib.hid (by have : x ≤ hi := (by omega); simp [this, h2])
      rw [E.out]
      clear h2
      go_enter Try.func54, Try.ntmps54
      go_wp2
      go_ret
      exact ⟨rfl, rfl⟩

/-- The first index of a number outside, or -1. -/
def badAt (lo hi : Int) (l : List Int) : Nat → Int
  | 0 => -1
  | k + 1 => if (decide (lo ≤ l.getD (l.length - (k + 1)) 0) && decide (l.getD (l.length - (k + 1)) 0 ≤ hi)) = true then badAt lo hi l k else ((l.length - (k + 1) : Nat) : Int)

theorem badAt_in {lo hi : Int} {l : List Int} : ∀ k, k ≤ l.length → (badAt lo hi l k < 0 ↔ ∀ j, l.length - k ≤ j → j < l.length → lo ≤ l.getD j 0 ∧ l.getD j 0 ≤ hi)
  | 0, _ => by
    simp only [badAt]
    constructor
    · intro _ j h1 h2; omega
    · intro _; decide
  | k + 1, hk => by
    rw [badAt]
    split
    · rename_i h
      rw [badAt_in k (by omega)]
      simp only [Bool.and_eq_true, decide_eq_true_eq] at h
      constructor
      · intro hj j h1 h2
        by_cases he : j = l.length - (k + 1)
        · rw [he]; exact h
        · exact hj j (by omega) h2
      · intro hj j h1 h2
        exact hj j (by omega) h2
    · rename_i h
      constructor
      · intro h2; omega
      · intro hj
        exact absurd (by simpa using hj (l.length - (k + 1)) (by omega) (by omega)) (by simpa using h)

set_option maxRecDepth 10000 in
set_option maxHeartbeats 2000000 in
theorem indexOut_any {W : World} {v : Value} {l : List Int} (hX : Ix W v l) {C : Nat} {hi : Int} (h : Hi W C hi) :
    Calls Try.prog 60 #[v, .func (.func 54) #[] #[.pointer (some ⟨C, 0, none⟩)]] W fun e w' => e = .returned (.int .i64 (badAt 0 hi l l.length)) ∧ w' = W := by
  obtain ⟨ao, cap, rfl⟩ := hX.mk'
  have hlen := hX.len
  unfold maxLen at hlen
  obtain ⟨n, hn⟩ : ∃ n, n = l.length := ⟨_, rfl⟩
  have HN := Lib.hid hn
  have HX := Lib.hid hX
  rw [← hn] at hlen HX ⊢
  obtain ⟨R, hR⟩ : ∃ R, R = badAt 0 hi l n := ⟨_, rfl⟩
  have HR := Lib.hid hR
  rw [← hR]
  have HO := Lib.hid (fun x => out_any h x)
  clear hX hn hR h
  go_enter Try.func60, Try.ntmps60
  go_wp2
  go_loopw [8] (fun kv wr => ∃ k : Nat, k ≤ n ∧ kv = .int .i64 (k : Nat) ∧ Hid (badAt 0 hi l (n - k) = R) ∧ wr = W) (fun kv _ => n - (intOf kv).toNat)
  case atStart => exact ⟨0, by omega, rfl, Lib.hid HR.out.symm, rfl⟩
  case round =>
    obtain ⟨k, hk, rfl, hJ, rfl⟩ := hrel
    by_cases hkn : k = n
    · subst hkn
      have E : Hid (R = -1) := Lib.hid (by rw [← hJ.out, Nat.sub_self]; rfl)
      go_wp2
      go_ret
      exact ⟨by rw [E.out]; rfl, rfl⟩
    · have hlt : k < n := by omega
      obtain ⟨b, off, rfl, hq, hcap, hbl, hcl⟩ := HX.out.at (by omega)
      have hc := hcl k hlt
      have hJo := hJ.out
      rw [show n - k = (n - (k + 1)) + 1 by omega, badAt, ← HN.out, show n - (n - (k + 1) + 1) = k by omega] at hJo
      obtain ⟨x, hx⟩ : ∃ x, x = l.getD k 0 := ⟨_, rfl⟩
      rw [← hx] at hc hJo
      have HC := Lib.hid (HO.out x)
      by_cases hin : (decide (0 ≤ x) && decide (x ≤ hi)) = true
      · rw [if_pos hin] at hJo
        rw [hin] at HC
        have HJ := Lib.hid hJo
        clear hx hcl hq hJ hJo hin
        go_wp2_with (go_at_call 54; refine HC.out.mono ?_; rintro e w2 ⟨rfl, rfl⟩)
        go_roundw
        case rel => exact ⟨k + 1, by omega, by go_num, HJ, by trivial⟩
        case measure => simp [intOf]; omega
      · rw [if_neg hin] at hJo
        have hf : (decide (0 ≤ x) && decide (x ≤ hi)) = false := by simpa using hin
        rw [hf] at HC
        have HJ := Lib.hid hJo
        clear hx hcl hq hJ hJo hin hf
        go_wp2_with (go_at_call 54; refine HC.out.mono ?_; rintro e w2 ⟨rfl, rfl⟩)
        go_ret
        exact ⟨by rw [← HJ.out]; rfl, rfl⟩

set_option maxRecDepth 10000 in
set_option maxHeartbeats 1000000 in
theorem someOut_any {W : World} {v : Value} {l : List Int} (hX : Ix W v l) {C : Nat} {hi : Int} (h : Hi W C hi) :
    Calls Try.prog 53 #[v, .func (.func 54) #[] #[.pointer (some ⟨C, 0, none⟩)]] W fun e w' => e = .returned (.bool (!(inB 0 hi l))) ∧ w' = W := by
  have HI := Lib.hid (indexOut_any hX h)
  have hbi := badAt_in (lo := 0) (hi := hi) (l := l) l.length (Nat.le_refl _)
  rw [Nat.sub_self] at hbi
  obtain ⟨R, hR⟩ : ∃ R, R = badAt 0 hi l l.length := ⟨_, rfl⟩
  rw [← hR] at hbi HI
  have e : Hid (decide (R ≥ 0) = !(inB 0 hi l)) := Lib.hid (by
    cases hb : inB 0 hi l with
    | true =>
      have := hbi.2 fun j _ h2 => (inB_iff.1 hb) j h2
      simp; omega
    | false =>
      have : ¬ R < 0 := fun hc => by
        have := inB_iff.2 fun k hk => hbi.1 hc k (by omega) hk
        rw [this] at hb; cases hb
      simp; omega)
  rw [← e.out]
  clear hbi hR hX h
  go_enter Try.func53, Try.ntmps53
  go_wp2_with (go_at_call 60; refine HI.out.mono ?_; rintro e w2 ⟨rfl, rfl⟩)
  go_ret
  exact ⟨by first | rfl | (simp; done), rfl⟩

set_option maxRecDepth 10000 in
set_option maxHeartbeats 1000000 in
theorem within_any {W : World} {v : Value} {l : List Int} (hX : Ix W v l) (hi : Int) :
    Calls Try.prog 40 #[v, .int .i64 hi] W fun e w' => e = .returned (.bool (inB 0 hi l)) ∧ Below W.heap.size W w' := by
  have HI := Lib.hid (someOut_any (hX.below ((Below.refl _ W).alloc (Nat.le_refl _) (.cells #[.int .i64 hi] 3))) (heap_alloc_new W (.cells #[.int .i64 hi] 3)))
  have HB := Lib.hid ((Below.refl _ W).alloc (Nat.le_refl _) (.cells #[.int .i64 hi] 3))
  obtain ⟨R, hR⟩ : ∃ R, R = inB 0 hi l := ⟨_, rfl⟩
  rw [← hR] at HI ⊢
  clear hR hX
  go_enter Try.func40, Try.ntmps40
  go_wp2_with (go_at_call 53; refine HI.out.mono ?_; rintro e w2 ⟨rfl, rfl⟩)
  go_ret
  exact ⟨by cases R <;> rfl, HB.out⟩

end Go.Proofs.Ytcpgoaombabfjaa

namespace Go.Proofs.Ytcpgoaombabfjaa
open Go.RowKit

def eqC (a b c x y z : Int) : Bool := a == x && (b == y && c == z)
theorem eqC_iff (c d : Ch) : eqC c.1 c.2.1 c.2.2 d.1 d.2.1 d.2.2 = decide (c = d) := by
  obtain ⟨a, b, c⟩ := c
  obtain ⟨x, y, z⟩ := d
  unfold eqC
  rw [Bool.eq_iff_iff]
  simp

theorem equal51 (a b c x y z : Int) (w : World) :
    (Op.equalIn 10000 51 (.agg #[.int .i64 a, .int .i64 b, .int .i64 c]) (.agg #[.int .i64 x, .int .i64 y, .int .i64 z])).run Try.prog w = .ok (eqC a b c x y z) w := by
  rw [run_equalIn_agg (P := Try.prog) w 9999 51 _ _ (by kernel_rfl) (by kernel_rfl)]
  have e : ∀ p q : Int, ∀ w, (Op.equalIn 9999 3 (.int .i64 p) (.int .i64 q)).run Try.prog w = .ok (p == q) w := fun p q w => run_equalIn_int w 9998 3 .i64 .i64 p q Try.underlying3
  have hp : ∀ (xs : Array Value) (i : Nat) (v : Int) (w : World), xs[i]? = some (.int .i64 v) → (part 3 xs i).run Try.prog w = .ok (.int .i64 v) w := fun xs i v w h => by
    simp [part, isAgg, run_underlying Try.underlying3, h]
  have hf : (Try.prog.fieldsOf 51).toList.map (fun f => (f.name ≠ "_", f.type, f.offset)) = [(True, 3, 0), (True, 3, 1), (True, 3, 2)] := by
    have : (Try.prog.fieldsOf 51).toList.map (fun f => (f.name, f.type, f.offset)) = [("Weight", 3, 0), ("Size", 3, 1), ("Arm", 3, 2)] := by kernel_rfl
    have h2 := congrArg (List.map fun (q : String × Nat × Nat) => (q.1 ≠ "_", q.2.1, q.2.2)) this
    simpa [List.map_map, Function.comp_def] using h2
  have h3 : (Try.prog.fieldsOf 51).toList.length = 3 := by
    have := congrArg List.length hf
    simpa using this
  revert hf h3
  generalize (Try.prog.fieldsOf 51).toList = fs
  intro hf h3
  match fs, h3, hf with
  | [f0, f1, f2], _, hf =>
    simp only [List.map_cons, List.map_nil, List.cons.injEq, Prod.mk.injEq, and_true, eq_iff_iff, iff_true] at hf
    obtain ⟨⟨n0, t0, o0⟩, ⟨n1, t1, o1⟩, ⟨n2, t2, o2⟩⟩ := hf
    have a0 := fun w => hp #[.int .i64 a, .int .i64 b, .int .i64 c] 0 a w rfl
    have a1 := fun w => hp #[.int .i64 a, .int .i64 b, .int .i64 c] 1 b w rfl
    have a2 := fun w => hp #[.int .i64 a, .int .i64 b, .int .i64 c] 2 c w rfl
    have x0 := fun w => hp #[.int .i64 x, .int .i64 y, .int .i64 z] 0 x w rfl
    have x1 := fun w => hp #[.int .i64 x, .int .i64 y, .int .i64 z] 1 y w rfl
    have x2 := fun w => hp #[.int .i64 x, .int .i64 y, .int .i64 z] 2 z w rfl
    unfold eqC
    simp only [Op.eqFields, n0, n1, n2, t0, t1, t2, o0, o1, o2, if_true, Sem.run_bind, a0, x0, a1, x1, a2, x2, e, Result.andThen_ok, Sem.run_ite, Sem.run_pure, ne_eq, not_false_eq_true]
    cases (a == x) <;> cases (b == y) <;> cases (c == z) <;> simp

theorem getD_mem {l : List Ch} {k : Nat} (h : k < l.length) : l.getD k (0, 0, 0) ∈ l := by
  have : l.getD k (0, 0, 0) = l[k] := by simp [List.getD, h]
  rw [this]; exact List.getElem_mem h
theorem mem_getD {l : List Ch} {c : Ch} (h : c ∈ l) : ∃ k, k < l.length ∧ l.getD k (0, 0, 0) = c := by
  obtain ⟨k, hk, rfl⟩ := List.getElem_of_mem h
  exact ⟨k, hk, by simp [List.getD, hk]⟩

abbrev cbox (W : World) (c : Ch) : World := W.alloc (.cells #[.int .i64 c.1, .int .i64 c.2.1, .int .i64 c.2.2] 51)
theorem cbox_is (W : World) (c : Ch) : CBox (cbox W c) W.heap.size c := heap_alloc_new _ _
theorem cbox_below (W : World) (c : Ch) : Below W.heap.size W (cbox W c) := (Below.refl _ _).alloc (Nat.le_refl _) _

theorem mem_getI {l : List Int} {x : Int} (h : x ∈ l) : ∃ k, k < l.length ∧ l.getD k 0 = x := by
  obtain ⟨k, hk, rfl⟩ := List.getElem_of_mem h
  exact ⟨k, hk, by simp [List.getD, hk]⟩
theorem getI_mem {l : List Int} {k : Nat} (h : k < l.length) : l.getD k 0 ∈ l := by
  have : l.getD k 0 = l[k] := by simp [List.getD, h]
  rw [this]; exact List.getElem_mem h

set_option maxRecDepth 10000 in
set_option maxHeartbeats 2000000 in
theorem index_any {W : World} {v : Value} {l : List Int} (hX : Ix W v l) (x : Int) :
    Calls Try.prog 51 #[v, .int .i64 x] W fun e w' => ∃ i : Int, e = .returned (.int .i64 i) ∧ decide (0 ≤ i) = decide (x ∈ l) ∧ w' = W := by
  obtain ⟨ao, cap, rfl⟩ := hX.mk'
  have hlen := hX.len
  unfold maxLen at hlen
  obtain ⟨n, hn⟩ : ∃ n, n = l.length := ⟨_, rfl⟩
  have HN := Lib.hid hn
  have HX := Lib.hid hX
  rw [← hn] at hlen HX ⊢
  clear hX hn
  go_enter Try.func51, Try.ntmps51
  go_wp2
  go_loopw [5, 8] (fun _ kv wr => ∃ k : Nat, k ≤ n ∧ kv = .int .i64 (k : Nat) ∧ Hid (∀ j, j < k → l.getD j 0 ≠ x) ∧ wr = W) (fun _ kv _ => n - (intOf kv).toNat)
  case atStart => exact ⟨0, by omega, rfl, Lib.hid (fun j h => by omega), rfl⟩
  case round =>
    obtain ⟨k, hk, rfl, hJ, rfl⟩ := hrel
    by_cases hkn : k = n
    · have E : Hid (decide ((0 : Int) ≤ -1) = decide (x ∈ l)) := Lib.hid (by
        rw [decide_eq_decide]
        constructor
        · intro h; omega
        · intro h
          obtain ⟨j, h1, h2⟩ := mem_getI h
          exact absurd h2 (hJ.out j (by rw [hkn, HN.out]; exact h1)))
      subst hkn
      clear hJ
      go_wp2
      go_ret
      exact ⟨_, rfl, E.out, rfl⟩
    · have hlt : k < n := by omega
      obtain ⟨b, off, rfl, hq, hcap, hbl, hcl⟩ := HX.out.at (by omega)
      have hc := hcl k hlt
      have HM : Hid (l.getD k 0 ∈ l) := Lib.hid (getI_mem (by omega))
      by_cases he : l.getD k 0 = x
      · have E : Hid (decide ((0 : Int) ≤ (k : Int)) = decide (x ∈ l)) := Lib.hid (by
          rw [← he, decide_eq_true HM.out, decide_eq_true (by omega)])
        rw [he] at hc
        clear hcl hq hJ he
        go_wp2
        go_ret
        exact ⟨_, rfl, E.out, rfl⟩
      · have HJ : Hid (∀ j, j < k + 1 → l.getD j 0 ≠ x) := Lib.hid (fun j h => by
          by_cases hj : j = k
          · subst hj; exact he
          · exact hJ.out j (by omega))
        obtain ⟨y, hy⟩ : ∃ y, y = l.getD k 0 := ⟨_, rfl⟩
        rw [← hy] at hc he
        have he2 : ¬ x = y := fun h => he h.symm
        clear hcl hq hJ hy he HM
        go_wp2
        go_roundw
        case rel => exact ⟨k + 1, by omega, by go_num, HJ, by trivial⟩
        case measure => simp [intOf]; omega

set_option maxRecDepth 10000 in
set_option maxHeartbeats 1000000 in
theorem contains_any {W : World} {v : Value} {l : List Int} (hX : Ix W v l) (x : Int) :
    Calls Try.prog 36 #[v, .int .i64 x] W fun e w' => e = .returned (.bool (decide (x ∈ l))) ∧ w' = W := by
  have HI := Lib.hid (index_any hX x)
  obtain ⟨b, hb⟩ : ∃ b, b = decide (x ∈ l) := ⟨_, rfl⟩
  rw [← hb] at HI ⊢
  obtain ⟨ao, cap, rfl⟩ := hX.mk'
  clear hb hX
  go_enter Try.func36, Try.ntmps36
  go_wp2_with (go_at_call 51; refine HI.out.mono ?_; rintro e w2 ⟨i, rfl, hi, rfl⟩)
  go_ret
  exact ⟨by rw [← hi]; rfl, rfl⟩

/-- What ints of one's own, at least one of them, are. -/
theorem OwI.parts {W : World} {B n : Nat} {v : Value} {l : List Int} (h : OwI W B v n l) (hn : n ≠ 0) : ∃ g cap, v = .slice (some ⟨g, 0, none⟩) n cap ∧ n ≤ cap ∧ B ≤ g ∧ g < W.heap.size ∧ (∀ j, j < n → W.cell? ⟨g, j, none⟩ = some (.int .i64 (l.getD j 0))) ∧ (∀ j, W.frozen? ⟨g, j, none⟩ = false) ∧ (∀ j x, j < n → OwI (W.setCell ⟨g, j, none⟩ (.int .i64 x)) B v n (l.set j x)) := by
  have hl := owI_len h
  have h1 := h.1
  rcases h.2 with ⟨hv, h0⟩ | ⟨g, cap, cur, hv, hB, hg, hc, hm, hs, ht⟩
  · exact absurd h0 hn
  · refine ⟨g, cap, hv, hc, hB, (Array.getElem?_eq_some_iff.1 hg).1, fun j hj => ?_, fun j => frozen_of_row _ _ _ _ _ hg, fun j x hj => ?_⟩
    · have e : (cur.toList.take (n * 1))[j]? = (ints l)[j]? := by rw [ht]
      rw [List.getElem?_take_of_lt (by omega)] at e
      rw [cell_of_row _ _ _ _ _ _ hg, ← Array.getElem?_toList, e]
      have : j < l.length := by omega
      simp [ints, List.getD, this]
    · refine ⟨by simp [ints, hl], .inr ⟨g, cap, cur.setIfInBounds j (.int .i64 x), hv, hB, heap_setCell_same _ _ _ _ _ _ hg, hc, hm, by simp [hs], ?_⟩⟩
      rw [Array.toList_setIfInBounds, List.take_set, ht]
      simp [ints, List.map_set]

theorem ints_cells {W : World} {b off n cap : Nat} {l : List Int} (h : Ix W (.slice (some ⟨b, off, none⟩) n cap) l) {j : Nat} {u : Value} (hu : (ints l)[j]? = some u) : W.cell? ((Addr.mk b off none).add j) = some u := by
  have hj : j < l.length := by have := (List.getElem?_eq_some_iff.1 hu).1; simpa [ints] using this
  have hn := h.size
  obtain ⟨b', off', e, _, _, _, hcl⟩ := h.at (by omega)
  injection e with e; injection e with e1 e2; subst e1 e2
  rw [add_none, hcl j (by omega), ← hu]
  simp [ints, List.getD, hj]

theorem ints_plain (l : List Int) : ∀ u ∈ ints l, ∃ z, u = Value.int .i64 z := fun u hu => by simp [ints] at hu; obtain ⟨q, _, rfl⟩ := hu; exact ⟨_, rfl⟩

/-- A whole slice appended to one of one's own. -/
theorem join_ints {W : World} {B n : Nat} {v : Value} {xs l : List Int} {rao : Option Addr} {m cap : Nat} (h : OwI W B v n xs) (hS : Ix W (.slice rao m cap) l) (hn : n + m ≤ 1000) (hB : B ≤ W.heap.size) :
    ∃ ao cap2 w2, Sem.run Try.prog (appI 22 #[v, .slice rao m cap]) W = .ok (.slice ao (n + m) cap2) w2 ∧ OwI w2 B (.slice ao (n + m) cap2) (n + m) (xs ++ l) ∧ Below B W w2 ∧ W.grownBy w2 v.ownBlock := by
  obtain ⟨i0, hii, hz0, hz1, hz2⟩ := info_parts Try.info3
  have hm := hS.size
  cases rao with
  | none =>
    obtain ⟨rfl, rfl⟩ := hS.cap0
    have hl : l = [] := List.length_eq_zero_iff.1 hm.symm
    subst hl
    have hrun := run_append_owned_none (P := Try.prog) (w := W) B 22 22 3 i0 1 Try.underlying22 hii v n _ h
    rw [appI_rw] at hrun
    obtain ⟨ao, cap, rfl⟩ := slice_of_owns h
    refine ⟨_, _, _, hrun, by simpa using h, Below.refl _ _, World.grownBy.refl _ _⟩
  | some a =>
    obtain ⟨v2, w2, hrun, hown2, hgrow2, _⟩ := run_append_own (P := Try.prog) (w := W) B 22 22 3 i0 (.int .i64 0) 1 8 Try.underlying22 hii hz0 hz1 hz2 rfl (by decide) v n _ h a m cap (ints l) (by simp [ints]; omega)
      (fun j u hu => by
        have hj : j < l.length := by have := (List.getElem?_eq_some_iff.1 hu).1; simpa [ints] using this
        obtain ⟨b', off', e, _⟩ := hS.at (by omega)
        obtain rfl := Option.some.inj e
        exact ints_cells hS hu)
      (fun u hu => by simp [ints] at hu; obtain ⟨q, _, rfl⟩ := hu; rfl) (by unfold maxLen; omega) (by omega) hB
    rw [appI_rw] at hrun
    obtain ⟨ao2, cap2, rfl⟩ := slice_of_owns hown2
    exact ⟨ao2, cap2, w2, hrun, by rw [OwI, ints_append]; exact hown2, (Below.refl B W).grown hgrow2 hB (fun j hj => (h.lt j hj).1), hgrow2⟩

/-- []int{} -/
theorem own_new (W : World) : OwI (W.alloc (.cells #[] 3)) W.heap.size (.slice (some ⟨W.heap.size, 0, none⟩) 0 0) 0 [] := ⟨rfl, .inr ⟨W.heap.size, 0, #[], rfl, Nat.le_refl _, heap_alloc_new _ _, Nat.le_refl _, Nat.zero_le _, rfl, rfl⟩⟩

/-- append([]int{}, l...) -/
theorem clone_run {W : World} {rao : Option Addr} {n cap : Nat} {l : List Int} (h : Ix W (.slice rao n cap) l) (hl : n ≤ 1000) :
    ∃ ao cap2 w2, Sem.run Try.prog (appI 22 #[.slice (some ⟨W.heap.size, 0, none⟩) 0 0, .slice rao n cap]) (W.alloc (.cells #[] 3)) = .ok (.slice ao n cap2) w2 ∧ OwI w2 W.heap.size (.slice ao n cap2) n l ∧ Below W.heap.size W w2 := by
  have hbA : Below W.heap.size W (W.alloc (.cells #[] 3)) := (Below.refl _ _).alloc (Nat.le_refl _) _
  obtain ⟨ao, cap2, w2, h1, h2, h3, _⟩ := join_ints (own_new W) (h.below hbA) (by omega) (by simp)
  rw [Nat.zero_add] at h1 h2
  exact ⟨ao, cap2, w2, h1, h2, hbA.trans h3⟩

attribute [local go_sem ↓] appI_rw

set_option maxRecDepth 10000 in
set_option maxHeartbeats 1000000 in
theorem clone_any {W : World} {rao : Option Addr} {n cap : Nat} {l : List Int} (hX : Ix W (.slice rao n cap) l) (hl : n ≤ 1000) :
    Calls Try.prog 48 #[.slice rao n cap] W fun e w' => ∃ ao cap2, e = .returned (.slice ao n cap2) ∧ OwI w' W.heap.size (.slice ao n cap2) n l ∧ Below W.heap.size W w' := by
  obtain ⟨ao2, cap2, w2, hrun, ho, hb⟩ := clone_run hX hl
  have hqn := fun (w : World) => Lib.run_eql_slice_nil (P := Try.prog) w 22 3 rao n cap 0 0 Try.underlying22
  have HO := Lib.hid ho
  have HB := Lib.hid hb
  cases rao with
  | none =>
    obtain ⟨rfl, rfl⟩ := hX.cap0
    have hl : l = [] := List.length_eq_zero_iff.1 hX.size.symm
    subst hl
    clear hX ho hb hrun HO HB
    go_enter Try.func48, Try.ntmps48
    go_wp2
    go_ret
    exact ⟨_, _, rfl, World.ownsRow_nil _ _ _ _, Below.refl _ _⟩
  | some a =>
    clear hX ho hb
    go_enter Try.func48, Try.ntmps48
    go_wp2
    go_ret
    exact ⟨_, _, rfl, HO.out, HB.out⟩

end Go.Proofs.Ytcpgoaombabfjaa

namespace Go.Proofs.Ytcpgoaombabfjaa
open Go.RowKit Go.Shelf

/-- A box. -/
abbrev Box (W : World) (q : Nat) (v : Value) (ty : TypeId) : Prop := W.heap[q]? = some (.cells #[v] ty (0, 0))
theorem Box.below {W W' : World} {q : Nat} {v : Value} {ty : TypeId} (h : Box W q v ty) (hb : Below W.heap.size W W') : Box W' q v ty := (hb.block q (Array.getElem?_eq_some_iff.1 h).1).trans h
theorem Box.cell {W : World} {q : Nat} {v : Value} {ty : TypeId} (h : Box W q v ty) : W.cell? ⟨q, 0, none⟩ = some v := cell_of_row _ _ _ _ _ _ h
theorem Box.free {W : World} {q : Nat} {v : Value} {ty : TypeId} (h : Box W q v ty) : W.frozen? ⟨q, 0, none⟩ = false := frozen_of_row _ _ _ _ _ h
theorem Box.lt {W : World} {q : Nat} {v : Value} {ty : TypeId} (h : Box W q v ty) : q < W.heap.size := (Array.getElem?_eq_some_iff.1 h).1
theorem Box.set {W : World} {q : Nat} {v : Value} {ty : TypeId} (h : Box W q v ty) (u : Value) : Box (W.setCell ⟨q, 0, none⟩ u) q u ty := heap_setCell_same _ _ _ _ _ _ h
theorem Box.other {W : World} {q g o : Nat} {v u : Value} {ty : TypeId} (h : Box W q v ty) (hne : g ≠ q) : Box (W.setCell ⟨g, o, none⟩ u) q v ty := (Below.heap_setCell _ _ _ _ (by simp only; omega)).trans h
theorem Box.new (W : World) (v : Value) (ty : TypeId) : Box (W.alloc (.cells #[v] ty)) W.heap.size v ty := heap_alloc_new _ _
theorem Box.alloc {W : World} {q : Nat} {v : Value} {ty : TypeId} (h : Box W q v ty) (o : Obj) : Box (W.alloc o) q v ty := h.below ((Below.refl _ _).alloc (Nat.le_refl _) _)

theorem grown_block {w w' : World} {row : Option Nat} (hg : w.grownBy w' row) {k : Nat} (hk : k < w.heap.size) (hne : row ≠ some k) : w'.heap[k]? = w.heap[k]? :=
  hg.block k hk (fun e => hne e.symm)
theorem owns_same {e : TypeId} {size : Nat} {W W' : World} {B n : Nat} {v : Value} {xs : List Value} (h : W.ownsRow B e size v n xs) (hb : ∀ g, v.ownBlock = some g → W'.heap[g]? = W.heap[g]?) : W'.ownsRow B e size v n xs := by
  refine ⟨h.1, ?_⟩
  rcases h.2 with h | ⟨g, cap, cur, h1, h2, h3, h4⟩
  · exact .inl h
  · exact .inr ⟨g, cap, cur, h1, h2, (hb g (by rw [h1]; rfl)).trans h3, h4⟩
theorem own_lt {e : TypeId} {size : Nat} {W : World} {B n : Nat} {v : Value} {xs : List Value} (h : W.ownsRow B e size v n xs) {g : Nat} (hg : v.ownBlock = some g) : B ≤ g ∧ g < W.heap.size := h.lt g hg
/-- The own block is one of cells. -/
theorem own_cells {e : TypeId} {size : Nat} {W : World} {B n : Nat} {v : Value} {xs : List Value} (h : W.ownsRow B e size v n xs) {g : Nat} (hg : v.ownBlock = some g) : ∃ o : Obj, W.heap[g]? = some o ∧ o.isCells = true := by
  rcases h.2 with ⟨hv, _⟩ | ⟨g', cap, cur, h1, h2, h3, h4⟩
  · rw [hv] at hg; cases hg
  · rw [h1] at hg
    have e : g' = g := by simpa [Value.ownBlock] using hg
    subst e
    exact ⟨_, h3, rfl⟩
/-- What is owned is owned when what is deferred is taken. -/
theorem owns_put {e : TypeId} {size : Nat} {W : World} {B n : Nat} {v : Value} {xs : List Value} {D : Nat} {o' : Obj} {l : Option (List Deferred)} (h : W.ownsRow B e size v n xs) (hD : W.heap[D]? = some (.deferred l)) : (W.putObj D o').ownsRow B e size v n xs :=
  owns_same h fun g hg => World.putObj_heap_other (fun e => by
    obtain ⟨o, ho, hc⟩ := own_cells h hg
    subst e
    rw [hD] at ho
    cases ho
    cases hc)

/-- What holds, whatever else than cells is turned from B on. -/
def Keep (B : Nat) (Q : World → Prop) : Prop := ∀ W W' row, Q W → W.grownBy W' row → (∀ r, row = some r → B ≤ r ∧ ∃ o : Obj, W.heap[r]? = some o ∧ o.isCells = false) → Q W'
theorem keep_and {B : Nat} {P Q : World → Prop} (hp : Keep B P) (hq : Keep B Q) : Keep B (fun W => P W ∧ Q W) := fun W W' row h hg hr => ⟨hp W W' row h.1 hg hr, hq W W' row h.2 hg hr⟩
theorem keep_ex {α : Sort _} {B : Nat} {P : α → World → Prop} (hp : ∀ a, Keep B (P a)) : Keep B (fun W => ∃ a, P a W) := fun W W' row ⟨a, h⟩ hg hr => ⟨a, hp a W W' row h hg hr⟩
theorem keep_box {B q : Nat} {v : Value} {ty : TypeId} (hq : q < B) : Keep B (fun W => Box W q v ty) := fun W W' row h hg hr =>
  (grown_block hg h.lt (fun e => by have := (hr q e).1; omega)).trans h
theorem keep_own {B B' n : Nat} {e : TypeId} {size : Nat} {v : Value} {xs : List Value} : Keep B (fun W => W.ownsRow B' e size v n xs) := fun W W' row h hg hr =>
  owns_same h fun g hg' => grown_block hg (own_lt h hg').2 fun e => by
    obtain ⟨o, ho, hc⟩ := own_cells h hg'
    obtain ⟨_, o', ho', hc'⟩ := hr g e
    rw [ho] at ho'
    cases ho'
    rw [hc] at hc'
    cases hc'
theorem keep_pure {B : Nat} {p : Prop} : Keep B (fun _ => p) := fun _ _ _ h _ _ => h

/-- All is as it was before the loop, but for some boxes. -/
structure Fr (W Wx : World) (ex : List Nat) (W' : World) : Prop where
  b : Below W.heap.size W W'
  s : Wx.heap.size ≤ W'.heap.size
  k : ∀ j, j < Wx.heap.size → j ∉ ex → W'.heap[j]? = Wx.heap[j]?
theorem Fr.start {W Wx : World} {ex : List Nat} (h : Below W.heap.size W Wx) : Fr W Wx ex Wx := ⟨h, Nat.le_refl _, fun _ _ _ => rfl⟩
theorem keep_fr {W Wx : World} {ex : List Nat} (hB : W.heap.size ≤ Wx.heap.size) : Keep Wx.heap.size (Fr W Wx ex) := fun W1 W2 row h hg hr => by
  have hsz := hg.size
  refine ⟨h.b.grown hg h.b.size (fun j e => Nat.le_trans hB (hr j e).1), Nat.le_trans h.s hsz, fun j hj hx => (grown_block hg (Nat.lt_of_lt_of_le hj h.s) (fun e => by have := (hr j e).1; omega)).trans (h.k j hj hx)⟩
theorem Fr.below {W Wx W1 W2 : World} {ex : List Nat} (h : Fr W Wx ex W1) (hb : Below W1.heap.size W1 W2) : Fr W Wx ex W2 :=
  ⟨h.b.trans (hb.mono h.b.size), Nat.le_trans h.s hb.size, fun j hj hx => (hb.block j (Nat.lt_of_lt_of_le hj h.s)).trans (h.k j hj hx)⟩
theorem Fr.set {W Wx W1 : World} {ex : List Nat} (h : Fr W Wx ex W1) {q o : Nat} {v : Value} (hq : q ∈ ex) (hw : W.heap.size ≤ q) : Fr W Wx ex (W1.setCell ⟨q, o, none⟩ v) := by
  refine ⟨h.b.setCell hw _, ?_, fun j hj hx => ?_⟩
  · simp only [World.setCell, Array.size_modify]; exact h.s
  · rw [Below.heap_setCell _ _ _ _ (by simp only; rintro rfl; exact hx hq)]
    exact h.k j hj hx
theorem Fr.drew {W Wx W1 : World} {ex : List Nat} (h : Fr W Wx ex W1) : Fr W Wx ex W1.drew := ⟨h.b.drew, h.s, h.k⟩
theorem Fr.own {W Wx W1 W2 : World} {ex : List Nat} (h : Fr W Wx ex W1) {row : Option Nat} (hg : W1.grownBy W2 row) (hr : ∀ r, row = some r → Wx.heap.size ≤ r) (hB : W.heap.size ≤ Wx.heap.size) : Fr W Wx ex W2 := by
  have hsz := hg.size
  exact ⟨h.b.grown hg h.b.size (fun j e => Nat.le_trans hB (hr j e)), Nat.le_trans h.s hsz, fun j hj hx => (grown_block hg (Nat.lt_of_lt_of_le hj h.s) (fun e => by have := hr j e; omega)).trans (h.k j hj hx)⟩
theorem Fr.box {W Wx W1 : World} {ex : List Nat} (h : Fr W Wx ex W1) {q : Nat} {v : Value} {ty : TypeId} (hb : Box Wx q v ty) (hx : q ∉ ex) : Box W1 q v ty := (h.k q hb.lt hx).trans hb
theorem Fr.dbox {W Wx W1 : World} {ex : List Nat} (h : Fr W Wx ex W1) {q : Nat} {kd cn cd : Int} {vr : Value} (hb : DBox Wx q kd vr cn cd) (hx : q ∉ ex) : DBox W1 q kd vr cn cd := (h.k q (Array.getElem?_eq_some_iff.1 hb).1 hx).trans hb

theorem keeps_below {B : Nat} {W W' : World} (h : Below W.heap.size W W') : KeepsFrom B W W' :=
  ⟨h.size, fun j o _ ho _ => (h.block j (Array.getElem?_eq_some_iff.1 ho).1).trans ho⟩
theorem keeps_set {B : Nat} {W W1 : World} (h : KeepsFrom B W W1) {q : Nat} {v u : Value} {ty : TypeId} (hb : Box W1 q v ty) : KeepsFrom B W (W1.setCell ⟨q, 0, none⟩ u) := by
  refine ⟨by simp only [World.setCell, Array.size_modify]; exact h.1, fun j o hj ho hc => ?_⟩
  have h2 := h.2 j o hj ho hc
  rw [Below.heap_setCell _ _ _ _ (fun e => by
    simp only at e
    subst e
    rw [hb] at h2
    cases h2
    cases hc)]
  exact h2
/-- Appended to what is one's own. -/
theorem keeps_own {B : Nat} {W W1 : World} {e : TypeId} {size n B' : Nat} {v : Value} {xs : List Value} (h : W.ownsRow B' e size v n xs) {o : Obj} (hg : (W.alloc o).grownBy W1 v.ownBlock) : KeepsFrom B W W1 := by
  have hsz := hg.size
  rw [World.size_alloc] at hsz
  refine ⟨by omega, fun j x hj ho hc => ?_⟩
  have hlt := (Array.getElem?_eq_some_iff.1 ho).1
  rw [grown_block hg (by rw [World.size_alloc]; omega) (fun e => by
    obtain ⟨o', ho', hc'⟩ := own_cells h e
    rw [ho] at ho'
    cases ho'
    rw [hc] at hc'
    cases hc')]
  exact (Below.heap_alloc W _ j hlt).trans ho

end Go.Proofs.Ytcpgoaombabfjaa
