/- A range over a function whose rounds are counted: the body may write the very memory that the iterator reads. No condition beyond those that are stated. -/
import Derived.Test.YtdgmjmckeeeljaaGreatDoorQ
namespace Go.Proofs.YtdgmjmckeeeljaaGreatDoor
open Go.RowKit Go.Shelf
attribute [local go_sem] Oper.semAt_some

/-- How the body of a counted round is left: off its end, the next invariant holding. -/
def countPost (B : Nat) (I : World → Prop) (W : World) : Exit → Act → World → Prop
  | .normal, _, W' => KeepsFrom B W W' ∧ I W'
  | _, _, _ => False

/-- What an iterator that makes N rounds owes, round by round. -/
def Counts (F : Fence) (n : Nat) (P : Program) (g : Nat) (lb : Array Value) (args : Nat → Array Value) (N : Nat) (I : Nat → World → Prop) : Prop :=
  ∀ (l : Nat) (A : World → Prop) (W : World), (∀ k W1, k < N → I k W1 → A W1 → YieldAt F (n - 1) P l (args k) W1 fun e W' => e = .returned (.bool true) ∧ I (k + 1) W' ∧ A W') → I 0 W → A W →
    CallsIn F n P g (#[.func (.yield l) #[] #[]] ++ lb) W fun e W' => (∃ v, e = .returned v) ∧ I N W' ∧ A W'

theorem rangeFunc_counts {F : Fence} {n : Nat} {P : Program} {g : Operand} {ps : Array Tmp} {assign body : Code} {Q : Exit → Act → World → Prop} {a : Act} {w : World}
    (hro : F.round = none) (h1 : 1 ≤ n) {gf : Nat} {lb : Array Value} (hg : a.eval g = .func (.func gf) #[] lb) (hFg : F.fn gf) (eg : ∀ args w, (callFunc gf args).run P w = .ok (.enter gf args) w)
    {args : Nat → Array Value} {N : Nat} {I : Nat → World → Prop} (hseq : Counts F (n - 1) P gf lb args N I) (hps : ∀ k, (args k).size = ps.size)
    (hI : OwnFrom w.heap.size I) (h0 : I 0 w) (a₁ : Nat → Act)
    (hassign : ∀ (l k : Nat) (W : World) (K : Act → World → Prop), K (a₁ k) W →
      assign.wpIn (F.inRound l) (n - 1 - 1) P (Exit.then K (fun _ _ _ => False)) { tmps := (ps.zip (args k)).foldl (fun t (p, v) => t.setIfInBounds p v) a.tmps, defers := [] } W)
    (hbody : ∀ (l k : Nat) (W : World), k < N → I k W → body.wpIn (F.inRound l) (n - 1 - 1) P (countPost w.heap.size (I (k + 1)) W) (a₁ k) W)
    (hdone : ∀ (D : Nat) (W : World), w.heap.size ≤ D → I N W → W.heap[D]? = some (.deferred (some [])) → Q .normal { a with defers := { target := .collected D, args := #[] } :: a.defers } W) :
    (Code.rangeFunc g ps assign body).wpIn F n P Q a w := by
  refine wpIn_rangeFunc ?_
  intro fn hfn
  rw [hro]
  let rec0 : LoopState → Loop := fun st => { state := st, pending := none, fn, tmps := a.tmps, params := ps, assign, body, defers := w.heap.size }
  obtain ⟨W1, hW1⟩ : ∃ W1, (w.alloc (.deferred (some []))).alloc (.loop (rec0 .ready)) = W1 := ⟨_, rfl⟩
  have hL1 : W1.heap[w.heap.size + 1]? = some (.loop (rec0 .ready)) := by
    have := World.alloc_heap_new (w.alloc (.deferred (some []))) (.loop (rec0 .ready))
    rw [World.size_alloc] at this
    rw [← hW1]; exact this
  have hD1 : W1.heap[w.heap.size]? = some (.deferred (some [])) := by
    rw [← hW1, Below.heap_alloc _ _ _ (by simp)]
    exact World.alloc_heap_new w _
  have hI1 : I 0 W1 := by rw [← hW1]; exact hI.alloc _ (hI.alloc _ h0)
  refine ⟨w.heap.size + 1, [{ target := .collected w.heap.size, args := #[] }], W1, { target := .fn (.func gf) lb, args := #[.func (.yield (w.heap.size + 1)) #[] #[]] }, W1, gf,
    #[.func (.yield (w.heap.size + 1)) #[] #[]] ++ lb, W1, ?_, ?_, ?_, ?_, fun _ => h1, ?_⟩
  · rw [← hW1]; exact run_enterLoop_outer _ _ _ _ _
  · simp only [resolve, hg]
    simp [go_sem]
  · intro f' hf'; simp [Target.leads] at hf'; subst hf'; exact hFg
  · simp [invoke, go_sem, eg]
  refine (hseq (w.heap.size + 1) (fun W => W.heap[w.heap.size + 1]? = some (.loop (rec0 .ready)) ∧ W.heap[w.heap.size]? = some (.deferred (some []))) W1 ?_ hI1 ⟨hL1, hD1⟩).mono ?_
  · rintro k W hk hi ⟨hl, hd⟩
    have hlt : w.heap.size + 1 < W.heap.size := (Array.getElem?_eq_some_iff.1 hl).1
    refine ⟨fn, _, assign, body, run_yield hl (hps k), roundIn_of_wpIn hfn (hassign _ k W _ ⟨_, run_beginRound hl rfl, ?_⟩)⟩
    have hl2 : (W.putObj (w.heap.size + 1) (.loop (rec0 .busy))).heap[w.heap.size + 1]? = some (.loop (rec0 .busy)) := World.putObj_heap_same hlt
    have hd2 : (W.putObj (w.heap.size + 1) (.loop (rec0 .busy))).heap[w.heap.size]? = some (.deferred (some [])) := (World.putObj_heap_other (by omega)).trans hd
    refine wpIn_mono (hbody _ k _ hk (hI.putObj _ hi (by omega) hl rfl)) ?_
    rintro e a3 W3 hp
    cases e with
    | normal =>
      obtain ⟨hkf, hi3⟩ := hp
      have hl3 := hkf.same _ _ (by omega) hl2 rfl
      have hd3 := hkf.same _ _ (Nat.le_refl _) hd2 rfl
      refine ⟨_, _, run_endRound none hl3, rfl, hI.putObj _ hi3 (by omega) hl3 rfl, World.putObj_heap_same (Array.getElem?_eq_some_iff.1 hl3).1, (World.putObj_heap_other (by omega)).trans hd3⟩
    | ret => exact hp.elim
    | exit id => exact hp.elim
    | goto t => exact hp.elim
    | panic ch => exact hp.elim
    | outgrown => exact hp.elim
  · rintro e W2 ⟨⟨v, rfl⟩, hi, hl, hd⟩
    refine ⟨none, _, run_endLoop hl (by simp [rec0]), hdone _ _ (Nat.le_refl _) (hI.putObj _ hi (by omega) hl rfl) ((World.putObj_heap_other (by omega)).trans hd)⟩

/-- What a round of Backward is handed. -/
def backArgs (zs : List Nat) (k : Nat) : Array Value := #[.int .i64 ((zs.length - 1 - k : Nat) : Int), .int .u32 ((zs.getD (zs.length - 1 - k) 0 : Nat) : Int)]

set_option maxRecDepth 100000 in
set_option maxHeartbeats 2000000 in
/-- slices.Backward over digits: in each round the cells that are still to come are as they were. -/
theorem backward_counts (F : Fence) (n : Nat) (h90 : F.fn 90) (hro : F.round = none) (hn : 1 ≤ n) (B : Nat) (ao : Option Addr) (cap : Nat) (zs : List Nat) (hreach : zs.length ≤ 140737488351232) (I : Nat → World → Prop)
    (hB : ∀ k W, I k W → W.cell? ⟨B, 0, none⟩ = some (.slice ao zs.length cap)) (hc : ∀ k W, I k W → k < zs.length → ∃ b off, ao = some ⟨b, off, none⟩ ∧ W.cell? ⟨b, off + (zs.length - 1 - k), none⟩ = some (.int .u32 ((zs.getD (zs.length - 1 - k) 0 : Nat) : Int))) :
    Counts F n Tryz.prog 90 #[.pointer (some ⟨B, 0, none⟩)] (backArgs zs) zs.length I := by
  intro l A W hY h0 hA
  obtain ⟨len, hlen⟩ : ∃ len : Nat, len = zs.length := ⟨_, rfl⟩
  rw [← hlen] at hreach
  have HLEN := Lib.hid hlen
  have HBB := Lib.hid hB
  have HC := Lib.hid hc
  have HY := Lib.hid hY
  have hb0 := hB 0 W h0
  rw [← hlen] at hb0 ⊢
  clear hlen hB hc hY
  refine callsIn_of_wp Tryz.func90 rfl h90 ?_ hro
  simp only [Tryz.ntmps90, List.size_toArray, List.length_cons, List.length_nil, Nat.reduceAdd, Nat.reduceSub, Array.replicate_succ, Array.replicate_zero, List.push_toArray, List.append_toArray, List.nil_append, List.cons_append]
  have HI0 := Lib.hid h0
  have HA0 := Lib.hid hA
  clear h0 hA
  gi_wp2
  gi_loopw [3] (fun i wr => ∃ m : Nat, m ≤ len ∧ i = .int .i64 ((m : Int) - 1) ∧ Hid (I (len - m) wr) ∧ Hid (A wr))
    (fun i _ => (intOf i + 1).toNat)
  case atStart => exact ⟨len, Nat.le_refl _, by go_num, by rw [Nat.sub_self]; exact HI0, HA0⟩
  case round =>
    obtain ⟨m, hk, rfl, hJs, hJa⟩ := hrel
    have hb1 := HBB.out _ _ hJs.out
    rw [← HLEN.out] at hb1
    cases m with
    | succ m =>
      have e1 : zs.length - 1 - (len - (m + 1)) = m := by rw [← HLEN.out]; omega
      obtain ⟨b, off, rfl, hcx⟩ := HC.out _ _ hJs.out (by rw [← HLEN.out]; omega)
      obtain ⟨fn, tmps, assign, body, hy, hR⟩ := HY.out (len - (m + 1)) wr (by rw [← HLEN.out]; omega) hJs.out hJa.out
      unfold backArgs at hy
      rw [e1] at hy hcx
      obtain ⟨z, hz⟩ : ∃ z, z = zs.getD m 0 := ⟨_, rfl⟩
      rw [← hz] at hcx hy
      have e2 : len - (m + 1) + 1 = len - m := by omega
      rw [e2] at hR
      have HR := Lib.hid hR
      clear hz e1 e2 hR
      gi_wp2
      refine HR.out.mono ?_
      rintro e W3 ⟨rfl, hJ3, hA3⟩
      have HJ3 := Lib.hid hJ3
      have HA3 := Lib.hid hA3
      clear hJ3 hA3
      gi_wp2
      go_roundw
      case rel => exact ⟨m, by omega, by go_num, HJ3, HA3⟩
      case measure => simp [intOf]
    | zero =>
      gi_wp2
      go_end0
      exact ⟨⟨_, rfl⟩, hJs.out, hJa.out⟩

end Go.Proofs.YtdgmjmckeeeljaaGreatDoor
