/- A range over a function whose rounds are those places that are in use: the law; what inUse and its iterator do. No condition beyond those that are stated. -/
import Derived.RangeFuncNested
import Derived.RangeFuncBound
import Derived.RangeFuncCalls
import Derived.RangeFuncLeaves
import Derived.RangeFuncFrom
import Derived.RangeFuncWrites
import Derived.Shelf.Abstract
import Derived.Shelf.RegionOpen
import Derived.OwnWalkIn
import Derived.TacticsInMore
import Derived.LoopNIn
import Derived.LoopIn
import Derived.Test.YtmpopbkhmkkhgaaD
namespace Go.Proofs.Ytmpopbkhmkkhgaa
open Go.RowKit Go.Shelf
attribute [local go_sem] Oper.semAt_some

/-- How the body of a counted round is left: off its end, the next invariant holding. -/
def countPost (B : Nat) (I : World → Prop) (W : World) : Exit → Act → World → Prop
  | .normal, _, W' => KeepsFrom B W W' ∧ I W'
  | _, _, _ => False

/-- What an iterator owes that goes over N places and makes a round for those in use. -/
def Steps (F : Fence) (n : Nat) (P : Program) (g : Nat) (lb : Array Value) (args : Nat → Array Value) (N : Nat) (used : Nat → Prop) (I : Nat → World → Prop) : Prop :=
  ∀ (l : Nat) (A : World → Prop) (W : World), (∀ k W1, k < N → used k → I k W1 → A W1 → YieldAt F (n - 1) P l (args k) W1 fun e W' => e = .returned (.bool true) ∧ I (k + 1) W' ∧ A W') → I 0 W → A W →
    CallsIn F n P g (#[.func (.yield l) #[] #[]] ++ lb) W fun e W' => (∃ v, e = .returned v) ∧ I N W' ∧ A W'

theorem rangeFunc_steps {F : Fence} {n : Nat} {P : Program} {g : Operand} {ps : Array Tmp} {assign body : Code} {Q : Exit → Act → World → Prop} {a : Act} {w : World}
    (hro : F.round = none) (h1 : 1 ≤ n) {gf : Nat} {lb : Array Value} (hg : a.eval g = .func (.func gf) #[] lb) (hFg : F.fn gf) (eg : ∀ args w, (callFunc gf args).run P w = .ok (.enter gf args) w)
    {args : Nat → Array Value} {N : Nat} {used : Nat → Prop} {I : Nat → World → Prop} (hseq : Steps F (n - 1) P gf lb args N used I) (hps : ∀ k, (args k).size = ps.size)
    (hI : OwnFrom w.heap.size I) (h0 : I 0 w) (a₁ : Nat → Act)
    (hassign : ∀ (l k : Nat) (W : World) (K : Act → World → Prop), K (a₁ k) W →
      assign.wpIn (F.inRound l) (n - 1 - 1) P (Exit.then K (fun _ _ _ => False)) { tmps := (ps.zip (args k)).foldl (fun t (p, v) => t.setIfInBounds p v) a.tmps, defers := [] } W)
    (hbody : ∀ (l k : Nat) (W : World), k < N → used k → I k W → body.wpIn (F.inRound l) (n - 1 - 1) P (countPost w.heap.size (I (k + 1)) W) (a₁ k) W)
    (hdone : ∀ (D : Nat) (W : World), w.heap.size ≤ D → I N W → W.heap[D]? = some (.deferred (some [])) → Q .normal { a with defers := { target := .collected D, args := #[] } :: a.defers } W) :
    (Code.rangeFunc g ps assign body).wpIn F n P Q a w := by
  refine wpIn_rangeFunc ?_
  intro fn hfn
  rw [hro]
  let rec0 : LoopState → Loop := fun st => { state := st, pending := none, fn, tmps := a.tmps, params := ps, assign, body, defers := w.heap.size }
  obtain ⟨W1, hW1⟩ : ∃ W1, (w.alloc (.deferred (some []))).alloc (.loop (rec0 .ready)) = W1 := ⟨_, rfl⟩
  have hL1 : W1.heap[w.heap.size + 1]? = some (.loop (rec0 .ready)) := by
    have := World.alloc_heap_new (w.alloc (.deferred (some []))) (.loop (rec0 .ready))
    rw [World.size_alloc] at this
    rw [← hW1]; exact this
  have hD1 : W1.heap[w.heap.size]? = some (.deferred (some [])) := by
    rw [← hW1, Below.heap_alloc _ _ _ (by simp)]
    exact World.alloc_heap_new w _
  have hI1 : I 0 W1 := by rw [← hW1]; exact hI.alloc _ (hI.alloc _ h0)
  refine ⟨w.heap.size + 1, [{ target := .collected w.heap.size, args := #[] }], W1, { target := .fn (.func gf) lb, args := #[.func (.yield (w.heap.size + 1)) #[] #[]] }, W1, gf,
    #[.func (.yield (w.heap.size + 1)) #[] #[]] ++ lb, W1, ?_, ?_, ?_, ?_, fun _ => h1, ?_⟩
  · rw [← hW1]; exact run_enterLoop_outer _ _ _ _ _
  · simp only [resolve, hg]
    simp [go_sem]
  · intro f' hf'; simp [Target.leads] at hf'; subst hf'; exact hFg
  · simp [invoke, go_sem, eg]
  refine (hseq (w.heap.size + 1) (fun W => W.heap[w.heap.size + 1]? = some (.loop (rec0 .ready)) ∧ W.heap[w.heap.size]? = some (.deferred (some []))) W1 ?_ hI1 ⟨hL1, hD1⟩).mono ?_
  · rintro k W hk hu hi ⟨hl, hd⟩
    have hlt : w.heap.size + 1 < W.heap.size := (Array.getElem?_eq_some_iff.1 hl).1
    refine ⟨fn, _, assign, body, run_yield hl (hps k), roundIn_of_wpIn hfn (hassign _ k W _ ⟨_, run_beginRound hl rfl, ?_⟩)⟩
    have hl2 : (W.putObj (w.heap.size + 1) (.loop (rec0 .busy))).heap[w.heap.size + 1]? = some (.loop (rec0 .busy)) := World.putObj_heap_same hlt
    have hd2 : (W.putObj (w.heap.size + 1) (.loop (rec0 .busy))).heap[w.heap.size]? = some (.deferred (some [])) := (World.putObj_heap_other (by omega)).trans hd
    refine wpIn_mono (hbody _ k _ hk hu (hI.putObj _ hi (by omega) hl rfl)) ?_
    rintro e a3 W3 hp
    cases e with
    | normal =>
      obtain ⟨hkf, hi3⟩ := hp
      have hl3 := hkf.same _ _ (by omega) hl2 rfl
      have hd3 := hkf.same _ _ (Nat.le_refl _) hd2 rfl
      refine ⟨_, _, run_endRound none hl3, rfl, hI.putObj _ hi3 (by omega) hl3 rfl, World.putObj_heap_same (Array.getElem?_eq_some_iff.1 hl3).1, (World.putObj_heap_other (by omega)).trans hd3⟩
    | ret => exact hp.elim
    | exit id => exact hp.elim
    | goto t => exact hp.elim
    | panic ch => exact hp.elim
    | outgrown => exact hp.elim
  · rintro e W2 ⟨⟨v, rfl⟩, hi, hl, hd⟩
    refine ⟨none, _, run_endLoop hl (by simp [rec0]), hdone _ _ (Nat.le_refl _) (hI.putObj _ hi (by omega) hl rfl) ((World.putObj_heap_other (by omega)).trans hd)⟩

/-- What a round of inUse is handed. -/
def useArgs (b : List Int) (k : Nat) : Array Value := #[.int .i64 (k : Int), .int .i64 (b.getD k 0)]

set_option maxRecDepth 100000 in
set_option maxHeartbeats 2000000 in
/-- inUse's iterator: a round for each arm in use; the cells that are still to come are as they were. -/
theorem inUse_steps (F : Fence) (n : Nat) (h33 : F.fn 33) (hro : F.round = none) (hn : 1 ≤ n) (Bb Bd nb cb nr cr : Nat) (ab ar : Option Addr) (b r : List Int) (hnb : nb ≤ 1000) (hle : nb ≤ nr) (hr1000 : nr ≤ 1000) (I : Nat → World → Prop)
    (hB : ∀ k W, I k W → W.cell? ⟨Bb, 0, none⟩ = some (.slice ab nb cb) ∧ W.cell? ⟨Bd, 1, none⟩ = some (.slice ar nr cr))
    (hc : ∀ k W, I k W → k < nb → (∃ b' off, ab = some ⟨b', off, none⟩ ∧ W.cell? ⟨b', off + k, none⟩ = some (.int .i64 (b.getD k 0))) ∧ (∃ b' off, ar = some ⟨b', off, none⟩ ∧ W.cell? ⟨b', off + k, none⟩ = some (.int .i64 (r.getD k 0))))
    (hskip : ∀ k W, k < nb → ¬ 0 < r.getD k 0 → I k W → I (k + 1) W) :
    Steps F n Try.prog 33 #[.pointer (some ⟨Bb, 0, none⟩), .pointer (some ⟨Bd, 0, none⟩)] (useArgs b) nb (fun k => 0 < r.getD k 0) I := by
  intro l A W hY h0 hA
  have HBB := Lib.hid hB
  have HC := Lib.hid hc
  have HY := Lib.hid hY
  have HSK := Lib.hid hskip
  obtain ⟨hb0, hd0⟩ := hB 0 W h0
  clear hB hc hY hskip
  refine callsIn_of_wp Try.func33 rfl h33 ?_ hro
  simp only [Try.ntmps33, List.size_toArray, List.length_cons, List.length_nil, Nat.reduceAdd, Nat.reduceSub, Array.replicate_succ, Array.replicate_zero, List.push_toArray, List.append_toArray, List.nil_append, List.cons_append]
  have HI0 := Lib.hid h0
  have HA0 := Lib.hid hA
  clear h0 hA
  gi_wp2
  gi_loopw [4, 5, 8] (fun _ _ i wr => ∃ m : Nat, m ≤ nb ∧ i = .int .i64 (m : Int) ∧ Hid (I m wr) ∧ Hid (A wr))
    (fun _ _ i _ => nb - (intOf i).toNat)
  case atStart => exact ⟨0, by omega, rfl, HI0, HA0⟩
  case round =>
    obtain ⟨m, hk, rfl, hJs, hJa⟩ := hrel
    obtain ⟨hb1, hd1⟩ := HBB.out _ _ hJs.out
    by_cases hmn : m = nb
    · subst hmn
      gi_wp2
      go_end0
      exact ⟨⟨_, rfl⟩, hJs.out, hJa.out⟩
    · have hlt : m < nb := by omega
      obtain ⟨⟨b', off, rfl, hcx⟩, ⟨b2, off2, rfl, hcr⟩⟩ := HC.out _ _ hJs.out hlt
      by_cases hu : 0 < r.getD m 0
      · obtain ⟨fn, tmps, assign, body, hy, hR⟩ := HY.out m wr hlt hu hJs.out hJa.out
        unfold useArgs at hy
        obtain ⟨z, hz⟩ : ∃ z, z = b.getD m 0 := ⟨_, rfl⟩
        obtain ⟨x, hx⟩ : ∃ x, x = r.getD m 0 := ⟨_, rfl⟩
        rw [← hz] at hcx hy
        rw [← hx] at hcr hu
        have HR := Lib.hid hR
        clear hz hx hR
        gi_wp2
        refine HR.out.mono ?_
        rintro e W3 ⟨rfl, hJ3, hA3⟩
        have HJ3 := Lib.hid hJ3
        have HA3 := Lib.hid hA3
        clear hJ3 hA3
        gi_wp2
        go_roundw
        case rel => exact ⟨m + 1, by omega, by go_num, HJ3, HA3⟩
        case measure => simp [intOf]; omega
      · have HJ3 := Lib.hid (HSK.out m wr hlt (by first | exact hu | omega) hJs.out)
        obtain ⟨z, hz⟩ : ∃ z, z = b.getD m 0 := ⟨_, rfl⟩
        obtain ⟨x, hx⟩ : ∃ x, x = r.getD m 0 := ⟨_, rfl⟩
        rw [← hz] at hcx
        rw [← hx] at hcr hu
        clear hz hx
        gi_wp2
        refine ⟨fun f hf => (by cases hf), ?_⟩
        gi_wp2
        go_roundw
        case rel => exact ⟨m + 1, by omega, by go_num, HJ3, hJa⟩
        case measure => simp [intOf]; omega

set_option maxRecDepth 10000 in
set_option maxHeartbeats 1000000 in
theorem inUse_any {W : World} {kd : Int} {vr : Value} {a : Int} {ab : Option Addr} {nb cb : Nat} :
    Calls Try.prog 29 #[DV kd vr a, .slice ab nb cb] W fun e w' => e = .returned (.func (.func 33) #[] #[.pointer (some ⟨W.heap.size + 1, 0, none⟩), .pointer (some ⟨W.heap.size, 0, none⟩)]) ∧ w' = (dbox W kd vr a).alloc (.cells #[.slice ab nb cb] 23) := by
  go_enter Try.func29, Try.ntmps29
  go_wp2
  go_ret
  exact ⟨by first | rfl | (simp; done), rfl⟩

end Go.Proofs.Ytmpopbkhmkkhgaa
