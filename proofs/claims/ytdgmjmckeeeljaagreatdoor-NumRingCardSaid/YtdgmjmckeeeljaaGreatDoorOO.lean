/- Contract of num.Text, for a right Num. Premise: the table uint64pow10 is laid in the world. -/
import Derived.Test.YtdgmjmckeeeljaaGreatDoorNN
namespace Go.Proofs.YtdgmjmckeeeljaaGreatDoor
open Go.RowKit Go.Shelf
attribute [local go_sem] Oper.semAt_some

/-- The table that FormatUint reads is laid. -/
abbrev Tab (w : World) : Prop := Lib.TabIs Tryz.prog w "internal/strconv.uint64pow10" .u64 Lib.pow10Tab

theorem tab_kept {w W : World} (h : Tab w) (hk : ∀ (g : Nat) (o : Obj), w.heap[g]? = some o → o.isCells = true → g < w.heap.size → W.heap[g]? = some o) : Tab W := by
  unfold Tab Lib.TabIs World.var? at h ⊢
  cases hg : Tryz.prog.globalNamed "internal/strconv.uint64pow10" with
  | none => rw [hg] at h; cases h
  | some g =>
    rw [hg] at h
    simp only [Option.bind_some] at h ⊢
    cases ho : w.heap[g]? with
    | none => rw [ho] at h; cases h
    | some o =>
      rw [ho] at h
      cases o with
      | cells cs t f =>
        rw [hk g _ ho rfl (Array.getElem?_eq_some_iff.1 ho).1]
        exact h
      | _ => cases h

theorem tab_below {w W : World} (h : Tab w) (hb : Below w.heap.size w W) : Tab W := tab_kept h fun g _ h1 _ h2 => (hb.block g h2).trans h1

/-- Bytes as cells. -/
def chars (l : List UInt8) : List Value := l.map fun b => Value.int .u8 b.toNat
theorem chars_append (a b : List UInt8) : chars (a ++ b) = chars a ++ chars b := by simp [chars]
theorem chars_str (l : List UInt8) : Lib.strCells ⟨l.toArray⟩ = chars l := rfl

/-- A builder holds what it held, where all cells are as they were. -/
theorem builder_kept {B b : Nat} {p : Value} {bs : List Value} {w W : World} (h : Lib.BuilderAt 73 5 B b p bs w) (hk : ∀ (g : Nat) (o : Obj), w.heap[g]? = some o → o.isCells = true → W.heap[g]? = some o) : Lib.BuilderAt 73 5 B b p bs W := by
  obtain ⟨hB, v, hb, hown, hne⟩ := h
  refine ⟨hB, v, hk _ _ hb rfl, ⟨hown.1, ?_⟩, hne⟩
  rcases hown.2 with h1 | ⟨g, cap, cur, h1, h2, h3, h4⟩
  · exact .inl h1
  · exact .inr ⟨g, cap, cur, h1, h2, hk _ _ h3 rfl, h4⟩

theorem isBuilder_kept {B b : Nat} {bs : List Value} {w W : World} (h : Lib.IsBuilder 73 5 B b bs w) (hk : ∀ (g : Nat) (o : Obj), w.heap[g]? = some o → o.isCells = true → W.heap[g]? = some o) : Lib.IsBuilder 73 5 B b bs W :=
  h.imp (fun h => builder_kept h hk) (fun h => builder_kept h hk)

theorem isBuilder_below {B b : Nat} {bs : List Value} {w W : World} (h : Lib.IsBuilder 73 5 B b bs w) (hb : Below w.heap.size w W) : Lib.IsBuilder 73 5 B b bs W :=
  isBuilder_kept h fun g _ h1 _ => (hb.block g (Array.getElem?_eq_some_iff.1 h1).1).trans h1

/-- What holds when k groups are written. -/
structure TxI (B0 b g : Nat) (w : World) (ao : Option Addr) (cap : Nat) (L : List Nat) (pre : List UInt8) (k : Nat) (W : World) : Prop where
  c : W.heap[g]? = some (.cells #[.slice ao L.length cap] 25 (0, 0))
  sl : Sl W (.slice ao L.length cap) L
  ty : ∀ bb off, ao = some ⟨bb, off, none⟩ → ∃ cs f t, t ≠ 5 ∧ bb ≠ b ∧ W.heap[bb]? = some (.cells cs t f)
  bd : Lib.IsBuilder 73 5 B0 b (chars (pre ++ grpText (L.drop (L.length - k)))) W
  tab : Tab W
  bl : Below B0 w W

theorem txI_kept {B0 b g : Nat} {w W W' : World} {ao : Option Addr} {cap : Nat} {L : List Nat} {pre : List UInt8} {k : Nat} (h : TxI B0 b g w ao cap L pre k W) (hk : ∀ (g : Nat) (o : Obj), W.heap[g]? = some o → o.isCells = true → W'.heap[g]? = some o) (hb : Below B0 w W') : TxI B0 b g w ao cap L pre k W' := by
  refine ⟨hk _ _ h.c rfl, ⟨h.sl.bd, h.sl.len, ?_⟩, fun bb off e => ?_, isBuilder_kept h.bd hk, tab_kept h.tab (fun g o h1 h2 _ => hk g o h1 h2), hb⟩
  · rcases h.sl.is with h1 | ⟨bb, off, cap', hv, hc, hcl⟩
    · exact .inl h1
    · refine .inr ⟨bb, off, cap', hv, hc, fun j hj => ?_⟩
      cases hv
      obtain ⟨cs, f, t, _, _, ho⟩ := h.ty bb off rfl
      rw [← hcl j hj]
      exact World.cell?_of_block (a := ⟨bb, off + j, none⟩) ((hk _ _ ho rfl).trans ho.symm)
  · obtain ⟨cs, f, t, h1, h2, ho⟩ := h.ty bb off e
    exact ⟨cs, f, t, h1, h2, hk _ _ ho rfl⟩

theorem txI_own {B0 b g : Nat} {w : World} {ao : Option Addr} {cap : Nat} {L : List Nat} {pre : List UInt8} {w0 : World} (h0 : B0 ≤ w.heap.size) (h1 : w.heap.size ≤ w0.heap.size) : OwnFrom w0.heap.size (TxI B0 b g w ao cap L pre) := by
  intro k W W' row hs hg hr
  refine txI_kept hs (fun q o hq hc => ?_) (hs.bl.grown hg (Nat.le_trans h0 hs.bl.size) (fun r e => Nat.le_trans (Nat.le_trans h0 h1) (hr r e).1))
  refine (hg.block q (Array.getElem?_eq_some_iff.1 hq).1 fun e => ?_).trans hq
  obtain ⟨_, o', ho', hc'⟩ := hr q e.symm
  rw [hq] at ho'
  cases ho'
  rw [hc] at hc'
  cases hc'

theorem grpText_drop {L : List Nat} {k : Nat} (hk : k < L.length) (h0 : k ≠ 0) : grpText (L.drop (L.length - (k + 1))) = grpText (L.drop (L.length - k)) ++ (Lib.repeatL [48] (9 - (Lib.decDigits (L.getD (L.length - 1 - k) 0)).length) ++ Lib.decDigits (L.getD (L.length - 1 - k) 0)) := by
  have h1 : L.length - (k + 1) < L.length := by omega
  rw [List.drop_eq_getElem_cons h1, show L.length - (k + 1) + 1 = L.length - k by omega]
  have h2 : L.getD (L.length - 1 - k) 0 = L[L.length - (k + 1)] := by
    rw [show L.length - 1 - k = L.length - (k + 1) by omega]
    simp [List.getD, h1]
  rw [h2]
  have h3 : L.length - k < L.length := by omega
  rw [List.drop_eq_getElem_cons h3]
  rfl

theorem grpText_first {L : List Nat} (h : 0 < L.length) : grpText (L.drop (L.length - 1)) = Lib.decDigits (L.getD (L.length - 1) 0) := by
  have h1 : L.length - 1 < L.length := by omega
  rw [List.drop_eq_getElem_cons h1, show L.length - 1 + 1 = L.length by omega, List.drop_length]
  simp [List.getD, h1, grpText]

end Go.Proofs.YtdgmjmckeeeljaaGreatDoor
