/- Rows of digits in the call's own memory. No condition. -/
import Derived.Test.YtdgmjmckeeeljaaGreatDoorA
namespace Go.Proofs.YtdgmjmckeeeljaaGreatDoor
open Go.RowKit

def u32v (d : Nat) : Value := .int .u32 (d : Int)

/-- Block g is a row of these digits. -/
def Row (w : World) (g : Nat) (xs : List Nat) : Prop := w.heap[g]? = some (.cells (xs.map u32v).toArray 59 (0, 0))

theorem Row.lt {w : World} {g : Nat} {xs : List Nat} (h : Row w g xs) : g < w.heap.size := by
  unfold Row at h
  exact (Array.getElem?_eq_some_iff.1 h).1

theorem Row.cell {w : World} {g : Nat} {xs : List Nat} (h : Row w g xs) (j : Nat) (hj : j < xs.length) : w.cell? ⟨g, j, none⟩ = some (.int .u32 ((xs.getD j 0 : Nat) : Int)) := by
  rw [cell_of_row w g j _ 59 (0, 0) h]
  simp [hj, u32v, List.getD]

theorem Row.free {w : World} {g : Nat} {xs : List Nat} (h : Row w g xs) (j : Nat) : w.frozen? ⟨g, j, none⟩ = false := frozen_of_row w g j _ 59 h

theorem Row.set {w : World} {g : Nat} {xs : List Nat} (h : Row w g xs) (j d : Nat) : Row (w.setCell ⟨g, j, none⟩ (.int .u32 (d : Int))) g (xs.set j d) := by
  have := heap_setCell_same w g j _ 59 (.int .u32 (d : Int)) h
  unfold Row
  rw [this]
  congr 2
  apply Array.ext'
  simp [u32v, List.map_set]

theorem Row.set' {w : World} {g : Nat} {xs : List Nat} (h : Row w g xs) (j d : Nat) {x : Int} (hx : x = (d : Int)) : Row (w.setCell ⟨g, j, none⟩ (.int .u32 x)) g (xs.set j d) := hx ▸ h.set j d

theorem Row.other {w : World} {g k : Nat} {xs : List Nat} (h : Row w g xs) (hk : g ≠ k) (j : Nat) (u : Value) : Row (w.setCell ⟨k, j, none⟩ u) g xs := by
  unfold Row
  rw [heap_setCell_other w ⟨k, j, none⟩ g u (by simpa using hk)]
  exact h

theorem Row.below {w w' : World} {g : Nat} {xs : List Nat} (h : Row w g xs) (hb : Below w.heap.size w w') : Row w' g xs := (hb.block g h.lt).trans h

theorem Row.alloc {w : World} {g : Nat} {xs : List Nat} (h : Row w g xs) (o : Obj) : Row (w.alloc o) g xs := (Below.heap_alloc w o g h.lt).trans h

theorem row_new (w : World) (ds : List Nat) : Row (w.alloc (.cells (ds.map u32v).toArray 59)) w.heap.size ds := heap_alloc_new w _

/-- What is owned: a slice that is not empty begins in a block from B on, and may be written. -/
def Own (B : Nat) (w : World) (v : Value) : Prop :=
  ∀ ao n cap, v = .slice ao n cap → n ≠ 0 → ∃ b off, ao = some ⟨b, off, none⟩ ∧ B ≤ b ∧ ∀ j, j < n → w.frozen? ⟨b, off + j, none⟩ = false

/-- Digits in memory of the call's own. -/
structure Sw (B : Nat) (w : World) (v : Value) (ds : List Nat) : Prop where
  sl : Sl w v ds
  own : Own B w v

theorem Sl.mk' {w : World} {v : Value} {ds : List Nat} (h : Sl w v ds) : ∃ ao cap, v = .slice ao ds.length cap := by
  rcases h.is with ⟨rfl, ao, cap, rfl⟩ | ⟨b, off, cap, rfl, _⟩
  · exact ⟨_, _, rfl⟩
  · exact ⟨_, _, rfl⟩

theorem Sl.nil (w : World) (ao : Option Addr) (cap : Nat) : Sl w (.slice ao 0 cap) [] := ⟨bd_nil, by simp, .inl ⟨rfl, _, _, rfl⟩⟩

theorem Row.sw {w : World} {B g : Nat} {xs : List Nat} (h : Row w g xs) (hB : B ≤ g) (hb : Bd xs) (hl : xs.length ≤ maxLen) : Sw B w (.slice (some ⟨g, 0, none⟩) xs.length xs.length) xs := by
  refine ⟨⟨hb, hl, .inr ⟨g, 0, xs.length, rfl, Nat.le_refl _, fun j hj => by rw [Nat.zero_add]; exact h.cell j hj⟩⟩, ?_⟩
  intro ao n cap hv _
  cases hv
  exact ⟨g, 0, rfl, hB, fun j _ => h.free _⟩

theorem Own.below {B : Nat} {w w' : World} {v : Value} {ds : List Nat} (h : Own B w v) (hs : Sl w v ds) (hb : Below w.heap.size w w') : Own B w' v := by
  intro ao n cap hv hn
  obtain ⟨b, off, h1, h2, h3⟩ := h ao n cap hv hn
  refine ⟨b, off, h1, h2, fun j hj => ?_⟩
  have hlt : b < w.heap.size := by
    rcases hs.is with ⟨rfl, ao', cap', hv'⟩ | ⟨b', off', cap', hv', hc, hcl⟩
    · rw [hv] at hv'; cases hv'; exact absurd rfl hn
    · rw [hv, h1] at hv'; cases hv'
      exact block_lt_of_cell (hcl j hj)
  rw [hb.frozen (by exact hlt)]
  exact h3 j hj

theorem Sw.below {B : Nat} {w w' : World} {v : Value} {ds : List Nat} (h : Sw B w v ds) (hb : Below w.heap.size w w') : Sw B w' v ds := ⟨h.sl.below hb, h.own.below h.sl hb⟩
theorem Sw.mono {B B' : Nat} {w : World} {v : Value} {ds : List Nat} (h : Sw B w v ds) (hB : B' ≤ B) : Sw B' w v ds :=
  ⟨h.sl, fun ao n cap hv hn => let ⟨b, off, h1, h2, h3⟩ := h.own ao n cap hv hn; ⟨b, off, h1, Nat.le_trans hB h2, h3⟩⟩

theorem Sl.bytes {w : World} {v : Value} {ds : List Nat} (h : Sl w v ds) : Bd ds := h.bd

theorem getD_take (ds : List Nat) (m j : Nat) (h : j < m) : (ds.take m).getD j 0 = ds.getD j 0 := by
  simp [List.getD, List.getElem?_take, h]

/-- The digits without the zeros at their end, in the same memory. -/
theorem Sl.trim {w : World} {ao : Option Addr} {n cap : Nat} {ds : List Nat} (h : Sl w (.slice ao n cap) ds) : Sl w (.slice ao (digs (val ds)).length cap) (digs (val ds)) := by
  obtain ⟨hb, hl, h⟩ := h
  obtain ⟨t1, t2⟩ := take_trim hb
  refine ⟨bd_digs _, by omega, ?_⟩
  rcases h with ⟨rfl, ao', cap', hv⟩ | ⟨b, off, cap', hv, hc, hcl⟩
  · refine .inl ⟨by simp [val, digs_zero], ao, cap, by simp [val, digs_zero]⟩
  · cases hv
    refine .inr ⟨b, off, cap, rfl, by omega, fun j hj => ?_⟩
    rw [hcl j (by omega)]
    congr 3
    rw [t1, getD_take _ _ _ hj]

theorem Sw.trim {B : Nat} {w : World} {ao : Option Addr} {n cap : Nat} {ds : List Nat} (h : Sw B w (.slice ao n cap) ds) : Sw B w (.slice ao (digs (val ds)).length cap) (digs (val ds)) := by
  refine ⟨h.sl.trim, ?_⟩
  have hn : n = ds.length := by
    obtain ⟨ao', cap', hv⟩ := h.sl.mk'
    cases hv; rfl
  have t2 := (take_trim h.sl.bd).2
  intro ao' n' cap' hv hne
  cases hv
  obtain ⟨b, off, h1, h2, h3⟩ := h.own ao n cap rfl (by omega)
  exact ⟨b, off, h1, h2, fun j hj => h3 j (by omega)⟩

theorem Tryz.info59 : (Tryz.prog.info? 59).map (fun i => (i.zero, i.size, i.bytes)) = some (some (.int .u32 0), 1, 4) := by kernel_rfl

theorem zeros_cells (n : Nat) : madeCells (Value.int .u32 0).cells (n * 1) = ((List.replicate n 0).map u32v).toArray := by
  apply Array.ext'
  rw [show (Value.int .u32 0).cells = #[.int .u32 0] from rfl, toList_madeCells_one]
  simp [u32v]

/-- 'make([]uint32, n)': a row of zeros. -/
theorem wpList_make_row (w : World) {ops : Array Oper} {rest : List Oper} {o : Oper} {a : Act} {Q : Exit → Act → World → Prop}
    (hg : o.guard = none) (l c : Operand) (hop : o.op = Op.makeSlice 25 l c)
    (kl kc : IntKind) (L C : Int) (n : Nat) (hl : a.eval l = .int kl L) (hc : a.eval c = .int kc C) (hL : L = (n : Int)) (hC : C = (n : Int)) (b2 : 4 * n ≤ 281474976710656)
    (hK : ∀ w', Row w' w.heap.size (List.replicate n 0) → Below w.heap.size w w' → wpList Tryz.prog ops Q rest (a.put o.dst (.slice (some ⟨w.heap.size, 0, none⟩) n n)) w') :
    wpList Tryz.prog ops Q (o :: rest) a w := by
  obtain ⟨i, hi, hz0, hz1, hz2⟩ := info_parts Tryz.info59
  refine wpList_plain hg fun K hK' => ?_
  subst hL hC
  have hr := run_make (P := Tryz.prog) w 25 59 i _ Tryz.underlying25 hi hz0 kl kc n n (by omega) (Int.le_refl _) (by rw [hz2]; omega) (by omega)
  simp only [Int.toNat_natCast, hz1] at hr
  rw [zeros_cells] at hr
  unfold Oper.wp
  simp [execOp, hop, hl, hc, hr, Result.andThen]
  exact hK' _ _ (hK _ (by simpa using row_new w (List.replicate n 0)) ((Below.refl _ _).alloc (Nat.le_refl _) _))

theorem Row.sw' {w : World} {B g n : Nat} {xs : List Nat} (h : Row w g xs) (hB : B ≤ g) (hb : Bd xs) (hn : xs.length = n) (hl : n ≤ maxLen) : Sw B w (.slice (some ⟨g, 0, none⟩) n n) xs := by
  subst hn
  exact h.sw hB hb hl

theorem Sl.size {w : World} {ao : Option Addr} {n cap : Nat} {ds : List Nat} (h : Sl w (.slice ao n cap) ds) : n = ds.length := by
  obtain ⟨ao', cap', hv⟩ := h.mk'
  cases hv; rfl

/-- Where there is a digit, there is an address. -/
theorem Sl.at {w : World} {ao : Option Addr} {n cap : Nat} {ds : List Nat} (h : Sl w (.slice ao n cap) ds) (hn : n ≠ 0) :
    ∃ b off, ao = some ⟨b, off, none⟩ ∧ n ≤ cap ∧ b < w.heap.size ∧ Cl w b off ds := by
  have hs := h.size
  rcases h.is with ⟨rfl, ao', cap', hv⟩ | ⟨b, off, cap', hv, hc, hcl⟩
  · exact absurd hs hn
  · cases hv
    exact ⟨b, off, rfl, hc, block_lt_of_cell (hcl 0 (by omega)), hcl⟩

theorem Cl.at {w wr : World} {b off : Nat} {ds : List Nat} (h : Cl w b off ds) {g : Nat} (hb : Below g w wr) (hg : b < g) (k : Nat) (hk : k < ds.length) :
    wr.cell? ⟨b, off + k, none⟩ = some (.int .u32 ((ds.getD k 0 : Nat) : Int)) := (hb.cell (by exact hg)).trans (h k hk)

end Go.Proofs.YtdgmjmckeeeljaaGreatDoor
