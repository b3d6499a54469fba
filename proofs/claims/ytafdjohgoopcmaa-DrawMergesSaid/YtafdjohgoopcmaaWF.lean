/- What the frames share: arguments that came in. -/
import Derived.Test.YtafdjohgoopcmaaRows
import Derived.ProofKit
import Derived.OpenShut
import Derived.ShutString
import Derived.ChangeOld
import Derived.ChangeSame
import Derived.SliceStrings
import Derived.Test.YtafdjohgoopcmaaLN
namespace Go.Proofs.Ytafdjohgoopcmaa
open Go.ChangeShapes Go.WideShapes Go.ChangeAt Go.RowKit Go.Joins

theorem own : ownKnob Try.prog.godebug = none := by kernel_rfl
theorem laidOut : laidOutB Try.prog = true := by kernel_rfl

theorem u8_wf {a : Int} (h : (Lit.int .u8 a).wf = true) : 0 ≤ a ∧ a ≤ 255 := by
  simp only [Lit.wf, IntKind.min, IntKind.max, IntKind.signed, IntKind.bits, Bool.and_eq_true, decide_eq_true_eq] at h
  simpa using h
theorem i64_wf {a : Int} (h : (Lit.int .i64 a).wf = true) : I64 a := by
  simp only [Lit.wf, IntKind.min, IntKind.max, IntKind.signed, IntKind.bits, Bool.and_eq_true, decide_eq_true_eq] at h
  simpa using h

theorem cells9 : Try.prog.cellsOf 9 = 1 := by kernel_rfl
theorem cells5 : Try.prog.cellsOf 5 = 1 := by kernel_rfl
theorem cells3 : Try.prog.cellsOf 3 = 1 := by kernel_rfl
theorem cells32 : Try.prog.cellsOf 32 = 3 := by kernel_rfl

theorem spotless {W : World} {a : Addr} {v : Value} (h : W.cell? a = some v) : a.spot = none ∧ a.block < W.heap.size := by
  unfold World.cell? at h
  cases hb : W.heap[a.block]? with
  | none => rw [hb] at h; cases h
  | some o =>
    have hlt := (Array.getElem?_eq_some_iff.1 hb).1
    rw [hb] at h
    cases o <;> simp at h
    exact ⟨h.1, hlt⟩

/-- A slice of strings that came in. -/
theorem open_strs {H : Type} {enc : TypeId × Value → H} {W : World} {r : Reach} {b0 : Nat} {v : Value} {d : DataW H} {p : List MemPlace} (hv : Value.okWide Try.prog W r b0 37 v) (h : DataW.Trod enc Try.prog W 0 (fun _ => true) true 37 v d p) : ∃ l, Sx W v l ∧ ∀ s ∈ l, s.size ≤ 9223372036854775807 := by
  obtain ⟨a0, len, cap, rfl⟩ := okWide_slice Try.underlying37 hv
  obtain ⟨fuel, hf⟩ := h
  rcases open_strings Try.underlying37 Try.underlying9 cells9 hf with ⟨hcs, hx⟩ | ⟨a, len', cap', ss, hcs, _, hl, hm, hz, hx, hcell, hsz⟩
  · refine ⟨[], ?_, by simp⟩
    simp only [Value.cells, List.cons.injEq, and_true, Value.slice.injEq] at hcs
    obtain ⟨rfl, rfl, rfl⟩ := hcs
    exact Sx.nil _ _ _
  · simp only [Value.cells, List.cons.injEq, and_true, Value.slice.injEq] at hcs
    obtain ⟨rfl, rfl, rfl⟩ := hcs
    simp only [if_true] at hz
    refine ⟨ss.take len, ?_, fun s hs => hsz s (List.mem_of_mem_take hs)⟩
    have hlen : (ss.take len).length = len := by rw [List.length_take]; omega
    by_cases h0 : len = 0
    · subst h0
      exact Sx.nil _ _ _
    · obtain ⟨hs0, hb0⟩ := spotless (hcell 0 (by omega))
      obtain ⟨b, off, spot⟩ := a
      have hs1 : spot = none := hs0
      subst hs1
      refine ⟨by rw [hlen]; omega, .inr ⟨b, off, cap, by rw [hlen], by rw [hlen]; exact hl, hb0, fun j hj => ?_⟩⟩
      rw [hlen] at hj
      have hc := hcell j (by omega)
      rw [add_none] at hc
      rw [hc]
      simp [List.getD, List.getElem?_take, hj]
      rfl

/-- A slice that reads as bytes. -/
structure Ux (w : World) (v : Value) (l : List Int) : Prop where
  len : l.length ≤ maxLen
  fit : ∀ k, 0 ≤ l.getD k 0 ∧ l.getD k 0 ≤ 255
  is : (l = [] ∧ ∃ ao cap, v = .slice ao 0 cap) ∨ ∃ b off cap, v = .slice (some ⟨b, off, none⟩) l.length cap ∧ l.length ≤ cap ∧ b < w.heap.size ∧ ∀ j, j < l.length → w.cell? ⟨b, off + j, none⟩ = some (.int .u8 (l.getD j 0))
theorem Ux.mk' {w : World} {v : Value} {l : List Int} (h : Ux w v l) : ∃ ao cap, v = .slice ao l.length cap := by
  rcases h.is with ⟨rfl, ao, cap, rfl⟩ | ⟨b, off, cap, rfl, _⟩
  · exact ⟨_, _, rfl⟩
  · exact ⟨_, _, rfl⟩
theorem Ux.at {w : World} {ao : Option Addr} {n cap : Nat} {l : List Int} (h : Ux w (.slice ao n cap) l) (hn : n ≠ 0) : ∃ b off, ao = some ⟨b, off, none⟩ ∧ n ≤ cap ∧ b < w.heap.size ∧ ∀ j, j < n → w.cell? ⟨b, off + j, none⟩ = some (.int .u8 (l.getD j 0)) := by
  rcases h.is with ⟨rfl, ao2, cap2, e⟩ | ⟨b, off, cap2, e, h1, h2, h3⟩
  · injection e with _ e2 _; exact absurd e2 hn
  · injection e with e1 e2 e3; subst e1 e2 e3; exact ⟨b, off, rfl, h1, h2, h3⟩

theorem open_bytes {H : Type} {enc : TypeId × Value → H} {W : World} {r : Reach} {b0 : Nat} {v : Value} {d : DataW H} {p : List MemPlace} (hv : Value.okWide Try.prog W r b0 42 v) (h : DataW.Trod enc Try.prog W 0 (fun _ => true) true 42 v d p) : ∃ l, Ux W v l := by
  obtain ⟨a0, len, cap, rfl⟩ := okWide_slice Try.underlying42 hv
  obtain ⟨fuel, hf⟩ := h
  rcases open_ints Try.underlying42 Try.underlying5 cells5 hf with ⟨hcs, hx⟩ | ⟨a, len', cap', zs, hcs, _, hl, hm, hz, hx, hcell, hwf⟩
  · refine ⟨[], by simp, fun k => by simp, .inl ⟨rfl, ?_⟩⟩
    simp only [Value.cells, List.cons.injEq, and_true, Value.slice.injEq] at hcs
    obtain ⟨rfl, rfl, rfl⟩ := hcs
    exact ⟨_, _, rfl⟩
  · simp only [Value.cells, List.cons.injEq, and_true, Value.slice.injEq] at hcs
    obtain ⟨rfl, rfl, rfl⟩ := hcs
    simp only [if_true] at hz
    have hlen : (zs.take len).length = len := by rw [List.length_take]; omega
    have hfit : ∀ k, 0 ≤ (zs.take len).getD k 0 ∧ (zs.take len).getD k 0 ≤ 255 := fun k => by
      by_cases hk : k < (zs.take len).length
      · rw [List.getD_eq_getElem?_getD, List.getElem?_eq_getElem hk]
        exact u8_wf (hwf _ (List.mem_of_mem_take (List.getElem_mem hk)))
      · rw [show (zs.take len).getD k 0 = 0 by simp [List.getD, List.getElem?_eq_none (Nat.le_of_not_lt hk)]]
        exact ⟨by decide, by decide⟩
    refine ⟨zs.take len, by rw [hlen]; omega, hfit, ?_⟩
    by_cases h0 : len = 0
    · subst h0
      exact .inl ⟨by simp, _, _, rfl⟩
    · obtain ⟨hs0, hb0⟩ := spotless (hcell 0 (by omega))
      obtain ⟨b, off, spot⟩ := a
      have hs1 : spot = none := hs0
      subst hs1
      refine .inr ⟨b, off, cap, by rw [hlen], by rw [hlen]; exact hl, hb0, fun j hj => ?_⟩
      rw [hlen] at hj
      have hc := hcell j (by omega)
      rw [add_none] at hc
      rw [hc]
      simp [List.getD, List.getElem?_take, hj]

theorem trod_ch {H : Type} {enc : TypeId × Value → H} {W : World} {fuel : Nat} {cs : List Value} {x : DataW H × List MemPlace} (h : DataW.trod enc Try.prog W 0 (fun _ => true) true fuel 32 cs = some x) : ∃ a b c : Int, cs = [.int .i64 a, .int .i64 b, .int .i64 c] ∧ I64 a := by
  obtain ⟨xs, n, _, rfl, hl, hlen, hf⟩ := DataW.trod_struct Try.underlying32 h
  rw [cells32] at hl
  match cs, hl with
  | [c0, c1, c2], _ =>
    match xs, hlen with
    | [y0, y1, y2], _ =>
      have f0 : DataW.trod enc Try.prog W 0 (fun _ => true) true n 3 (([c0, c1, c2].drop 0).take (Try.prog.cellsOf 3)) = some y0 := hf 0 _ rfl
      have f1 : DataW.trod enc Try.prog W 0 (fun _ => true) true n 3 (([c0, c1, c2].drop 1).take (Try.prog.cellsOf 3)) = some y1 := hf 1 _ rfl
      have f2 : DataW.trod enc Try.prog W 0 (fun _ => true) true n 3 (([c0, c1, c2].drop 2).take (Try.prog.cellsOf 3)) = some y2 := hf 2 _ rfl
      rw [cells3] at f0 f1 f2
      obtain ⟨a, e0, _, w0⟩ := DataW.trod_int Try.underlying3 f0
      obtain ⟨b, e1, _, w1⟩ := DataW.trod_int Try.underlying3 f1
      obtain ⟨c, e2, _, w2⟩ := DataW.trod_int Try.underlying3 f2
      refine ⟨a, b, c, ?_, i64_wf w0⟩
      simp at e0 e1 e2
      rw [e0, e1, e2]

/-- A slice of choices that came in. -/
theorem open_chs {H : Type} {enc : TypeId × Value → H} {W : World} {r : Reach} {b0 : Nat} {v : Value} {d : DataW H} {p : List MemPlace} (hv : Value.okWide Try.prog W r b0 29 v) (h : DataW.Trod enc Try.prog W 0 (fun _ => true) true 29 v d p) : ∃ l, Cx W v l := by
  obtain ⟨a0, len, cap, rfl⟩ := okWide_slice Try.underlying29 hv
  obtain ⟨fuel, hf⟩ := h
  rcases DataW.trod_slice Try.underlying29 hf with ⟨hcs, hx⟩ | ⟨a, len', cap', elems, rest, n, _, hcs, hx, hb, hl, hm, hlen, hel, _, _⟩
  · refine ⟨[], by simp, fun k => ⟨by simp, by simp⟩, .inl ⟨rfl, ?_⟩⟩
    simp only [Value.cells, List.cons.injEq, and_true, Value.slice.injEq] at hcs
    obtain ⟨rfl, rfl, rfl⟩ := hcs
    exact ⟨_, _, rfl⟩
  · simp only [Value.cells, List.cons.injEq, and_true, Value.slice.injEq] at hcs
    obtain ⟨rfl, rfl, rfl⟩ := hcs
    rw [cells32] at hel
    have hc : ∀ i, i < len → ∃ c : Ch, I64 c.1 ∧ W.cell? (a.add (i * 3)) = some (.int .i64 c.1) ∧ W.cell? ((a.add (i * 3)).add 1) = some (.int .i64 c.2.1) ∧ W.cell? ((a.add (i * 3)).add 2) = some (.int .i64 c.2.2) := fun i hi => by
      have h1 := hel i hi
      rw [List.getElem?_eq_getElem (by omega), Option.bind_eq_some_iff] at h1
      obtain ⟨cs, h2, h3⟩ := h1
      obtain ⟨x, y, z, rfl, hx⟩ := trod_ch h3
      obtain ⟨_, _, h4⟩ := World.cells?_some h2
      have g0 := h4 0 (by omega)
      have g1 := h4 1 (by omega)
      have g2 := h4 2 (by omega)
      refine ⟨(x, y, z), hx, ?_, g1, g2⟩
      have e : (a.add (i * 3)).add 0 = a.add (i * 3) := by unfold Addr.add; simp
      rw [e] at g0
      exact g0
    by_cases h0 : len = 0
    · subst h0
      exact ⟨[], by simp, fun k => ⟨by simp, by simp⟩, .inl ⟨rfl, _, _, rfl⟩⟩
    · obtain ⟨c, _, hcc, _⟩ := hc 0 (by omega)
      have e0 : a.add (0 * 3) = a := by unfold Addr.add; simp
      rw [e0] at hcc
      obtain ⟨hs0, hb0⟩ := spotless hcc
      obtain ⟨b, off, spot⟩ := a
      have hs1 : spot = none := hs0
      subst hs1
      simp only [add_none] at hc
      have hex : ∃ f : Nat → Ch, ∀ i, i < len → I64 (f i).1 ∧ W.cell? ⟨b, off + i * 3, none⟩ = some (.int .i64 (f i).1) ∧ W.cell? ⟨b, off + i * 3 + 1, none⟩ = some (.int .i64 (f i).2.1) ∧ W.cell? ⟨b, off + i * 3 + 2, none⟩ = some (.int .i64 (f i).2.2) := by
        refine ⟨fun i => if h : i < len then Classical.choose (hc i h) else (0, 0, 0), fun i hi => ?_⟩
        have := Classical.choose_spec (hc i hi)
        simp only [dif_pos hi]
        exact this
      obtain ⟨f, hf⟩ := hex
      have hl2 : ((List.range len).map f).length = len := by simp
      have hg : ∀ j, j < len → ((List.range len).map f).getD j (0, 0, 0) = f j := fun j hj => by simp [List.getD, hj]
      refine ⟨(List.range len).map f, by rw [hl2]; omega, fun k => ?_, .inr ⟨b, off, cap, by rw [hl2], by rw [hl2]; exact hl, hb0, fun j hj => ?_⟩⟩
      · by_cases hk : k < len
        · rw [hg k hk]; exact (hf k hk).1
        · rw [show ((List.range len).map f).getD k (0, 0, 0) = (0, 0, 0) by simp [List.getD, hk]]
          exact ⟨by decide, by decide⟩
      · rw [hl2] at hj
        rw [hg j hj]
        exact (hf j hj).2

end Go.Proofs.Ytafdjohgoopcmaa
