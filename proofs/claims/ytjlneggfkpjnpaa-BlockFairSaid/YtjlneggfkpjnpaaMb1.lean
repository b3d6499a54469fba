/- What is drawn, as plain lists; slices of ints and of choices, those of one's own; a design in a box. Contracts: within and what it calls, Max. Condition: the slice reads as ints. Contracts: Left, hasBlocks, fits. Condition: the slices read az ints; few of them in Left. -/
import Derived.Test.YtjlneggfkpjnpaaProg
import Derived.WalkKit
import Derived.WalkSpells
import Derived.Handy
import Derived.Lib.Hide
import Derived.Laws.AppendOwnNone
import Derived.OwnWalk
import Derived.Deep.AppendLies
set_option linter.unusedSimpArgs false
set_option linter.unusedVariables false
namespace Go.Proofs.Ytjlneggfkpjnpaa
open Go.RowKit

abbrev I64 (n : Int) : Prop := -9223372036854775808 ≤ n ∧ n ≤ 9223372036854775807

/-- A choice: weight, size, arm. -/
abbrev Ch := Int × Int × Int

/-- A slice that reads as ints. -/
structure Ix (w : World) (v : Value) (l : List Int) : Prop where
  len : l.length ≤ maxLen
  fit : ∀ k, I64 (l.getD k 0)
  is : (l = [] ∧ ∃ ao cap, v = .slice ao 0 cap) ∨ ∃ b off cap, v = .slice (some ⟨b, off, none⟩) l.length cap ∧ l.length ≤ cap ∧ b < w.heap.size ∧ ∀ j, j < l.length → w.cell? ⟨b, off + j, none⟩ = some (.int .i64 (l.getD j 0))

theorem Ix.below {w w' : World} {v : Value} {l : List Int} (h : Ix w v l) (hb : Below w.heap.size w w') : Ix w' v l := by
  obtain ⟨h1, h2, h3⟩ := h
  refine ⟨h1, h2, ?_⟩
  rcases h3 with h3 | ⟨b, off, cap, hv, hc, hlt, hl⟩
  · exact .inl h3
  · exact .inr ⟨b, off, cap, hv, hc, Nat.lt_of_lt_of_le hlt hb.size, fun j hj => cell_later hb (hl j hj)⟩

theorem Ix.mk' {w : World} {v : Value} {l : List Int} (h : Ix w v l) : ∃ ao cap, v = .slice ao l.length cap := by
  rcases h.is with ⟨rfl, ao, cap, rfl⟩ | ⟨b, off, cap, rfl, _⟩
  · exact ⟨_, _, rfl⟩
  · exact ⟨_, _, rfl⟩

theorem Ix.at {w : World} {ao : Option Addr} {n cap : Nat} {l : List Int} (h : Ix w (.slice ao n cap) l) (hn : n ≠ 0) : ∃ b off, ao = some ⟨b, off, none⟩ ∧ n = l.length ∧ n ≤ cap ∧ b < w.heap.size ∧ ∀ j, j < n → w.cell? ⟨b, off + j, none⟩ = some (.int .i64 (l.getD j 0)) := by
  rcases h.is with ⟨rfl, ao2, cap2, e⟩ | ⟨b, off, cap2, e, h1, h2, h3⟩
  · injection e with _ e2 _; exact absurd e2 hn
  · injection e with e1 e2 e3; subst e1 e2 e3; exact ⟨b, off, rfl, rfl, h1, h2, h3⟩

theorem Ix.size {w : World} {ao : Option Addr} {n cap : Nat} {l : List Int} (h : Ix w (.slice ao n cap) l) : n = l.length := by
  obtain ⟨_, _, e⟩ := h.mk'
  injection e

theorem Ix.nil (w : World) (ao : Option Addr) (cap : Nat) : Ix w (.slice ao 0 cap) [] := ⟨by simp, fun k => by simp; decide, .inl ⟨rfl, _, _, rfl⟩⟩

/-- A slice that reads as choices. -/
structure Cx (w : World) (v : Value) (l : List Ch) : Prop where
  len : l.length ≤ maxLen
  fit : ∀ k, I64 (l.getD k (0, 0, 0)).1 ∧ I64 (l.getD k (0, 0, 0)).2.1 ∧ I64 (l.getD k (0, 0, 0)).2.2
  is : (l = [] ∧ ∃ ao cap, v = .slice ao 0 cap) ∨ ∃ b off cap, v = .slice (some ⟨b, off, none⟩) l.length cap ∧ l.length ≤ cap ∧ b < w.heap.size ∧ ∀ j, j < l.length → w.cell? ⟨b, off + j * 3, none⟩ = some (.int .i64 (l.getD j (0, 0, 0)).1) ∧ w.cell? ⟨b, off + j * 3 + 1, none⟩ = some (.int .i64 (l.getD j (0, 0, 0)).2.1) ∧ w.cell? ⟨b, off + j * 3 + 2, none⟩ = some (.int .i64 (l.getD j (0, 0, 0)).2.2)

theorem Cx.below {w w' : World} {v : Value} {l : List Ch} (h : Cx w v l) (hb : Below w.heap.size w w') : Cx w' v l := by
  obtain ⟨h1, h2, h3⟩ := h
  refine ⟨h1, h2, ?_⟩
  rcases h3 with h3 | ⟨b, off, cap, hv, hc, hlt, hl⟩
  · exact .inl h3
  · exact .inr ⟨b, off, cap, hv, hc, Nat.lt_of_lt_of_le hlt hb.size, fun j hj => ⟨cell_later hb (hl j hj).1, cell_later hb (hl j hj).2.1, cell_later hb (hl j hj).2.2⟩⟩

theorem Cx.mk' {w : World} {v : Value} {l : List Ch} (h : Cx w v l) : ∃ ao cap, v = .slice ao l.length cap := by
  rcases h.is with ⟨rfl, ao, cap, rfl⟩ | ⟨b, off, cap, rfl, _⟩
  · exact ⟨_, _, rfl⟩
  · exact ⟨_, _, rfl⟩

theorem Cx.at {w : World} {ao : Option Addr} {n cap : Nat} {l : List Ch} (h : Cx w (.slice ao n cap) l) (hn : n ≠ 0) : ∃ b off, ao = some ⟨b, off, none⟩ ∧ n ≤ cap ∧ b < w.heap.size ∧ ∀ j, j < n → w.cell? ⟨b, off + j * 3, none⟩ = some (.int .i64 (l.getD j (0, 0, 0)).1) ∧ w.cell? ⟨b, off + j * 3 + 1, none⟩ = some (.int .i64 (l.getD j (0, 0, 0)).2.1) ∧ w.cell? ⟨b, off + j * 3 + 2, none⟩ = some (.int .i64 (l.getD j (0, 0, 0)).2.2) := by
  rcases h.is with ⟨rfl, ao2, cap2, e⟩ | ⟨b, off, cap2, e, h1, h2, h3⟩
  · injection e with _ e2 _; exact absurd e2 hn
  · injection e with e1 e2 e3; subst e1 e2 e3; exact ⟨b, off, rfl, h1, h2, h3⟩

theorem Cx.size {w : World} {ao : Option Addr} {n cap : Nat} {l : List Ch} (h : Cx w (.slice ao n cap) l) : n = l.length := by
  obtain ⟨_, _, e⟩ := h.mk'
  injection e

/-- The numbers of a list lie between two. -/
def inB (lo hi : Int) (l : List Int) : Bool := l.all fun x => decide (lo ≤ x) && decide (x ≤ hi)
theorem inB_iff {lo hi : Int} {l : List Int} : inB lo hi l = true ↔ ∀ k, k < l.length → lo ≤ l.getD k 0 ∧ l.getD k 0 ≤ hi := by
  unfold inB
  rw [List.all_eq_true]
  constructor
  · intro h k hk
    have := h l[k] (List.getElem_mem hk)
    simpa [List.getD, hk] using this
  · intro h x hx
    obtain ⟨k, hk, rfl⟩ := List.getElem_of_mem hx
    have := h k hk
    simpa [List.getD, hk] using this

def leftV (l : List Int) : Int := if inB 0 1048576 l = true then l.sum else 0

/-- The choices with these weights, of the first arms. -/
def coll (size : Int) (w : List Int) : Nat → List Ch
  | 0 => []
  | k + 1 => coll size w k ++ if 0 < w.getD k 0 then [(w.getD k 0, size, (k : Int))] else []

def blks (r s : List Int) : Nat → List Ch
  | 0 => []
  | k + 1 => blks r s k ++ coll (s.getD k 0) r r.length

def hasR (r : List Int) : Bool := decide (1 ≤ r.length) && decide (r.length ≤ 6) && inB 0 8 r && r.any (fun x => decide (0 < x))
def hasS (s : List Int) : Bool := decide (1 ≤ s.length) && decide (s.length ≤ 3) && inB 1 4 s
def hasB (r s : List Int) : Bool := hasR r && hasS s
def fitB (r row : List Int) : Bool := decide (row.length = 0) || (decide (row.length = r.length) && inB 0 1048576 row)

/-- What can be drawn. -/
def chV (r s row : List Int) : List Ch := if (hasB r s && fitB r row) = true then (if 0 < leftV row then coll 0 row row.length else blks r s s.length) else []

/-- The block, and with a place less. -/
def blockV (r row : List Int) (size : Int) : List Int := if size = 0 then row else r.map fun x => size * x
def lessV (l : List Int) (a : Int) : List Int := l.set a.toNat (l.getD a.toNat 0 - 1)
def nextOk (r s row : List Int) (c : Ch) : Bool := decide (c ∈ chV r s row)
def nextV (r s row : List Int) (c : Ch) : List Int := if nextOk r s row c = true then (if leftV (lessV (blockV r row c.2.1) c.2.2) = 0 then [] else lessV (blockV r row c.2.1) c.2.2) else []

theorem coll_len (size : Int) (w : List Int) : ∀ k, (coll size w k).length ≤ k
  | 0 => by simp [coll]
  | k + 1 => by
    have := coll_len size w k
    rw [coll, List.length_append]
    split <;> simp <;> omega

theorem blks_len (r s : List Int) : ∀ k, (blks r s k).length ≤ k * r.length
  | 0 => by simp [blks]
  | k + 1 => by
    have := blks_len r s k
    have := coll_len (s.getD k 0) r r.length
    rw [blks, List.length_append, Nat.add_mul]
    omega

theorem mem_coll {size : Int} {w : List Int} {c : Ch} : ∀ {k : Nat}, c ∈ coll size w k ↔ ∃ j, j < k ∧ 0 < w.getD j 0 ∧ c = (w.getD j 0, size, (j : Int))
  | 0 => by simp [coll]
  | k + 1 => by
    rw [coll, List.mem_append, mem_coll (k := k)]
    constructor
    · rintro (⟨j, h1, h2, h3⟩ | h)
      · exact ⟨j, by omega, h2, h3⟩
      · split at h
        · rename_i h0
          exact ⟨k, by omega, h0, by simpa using h⟩
        · simp at h
    · rintro ⟨j, h1, h2, h3⟩
      by_cases hj : j = k
      · subst hj
        right
        rw [if_pos h2, h3]; simp
      · exact .inl ⟨j, by omega, h2, h3⟩

theorem mem_blks {r s : List Int} {c : Ch} : ∀ {k : Nat}, c ∈ blks r s k ↔ ∃ i, i < k ∧ c ∈ coll (s.getD i 0) r r.length
  | 0 => by simp [blks]
  | k + 1 => by
    rw [blks, List.mem_append, mem_blks (k := k)]
    constructor
    · rintro (⟨j, h1, h2⟩ | h)
      · exact ⟨j, by omega, h2⟩
      · exact ⟨k, by omega, h⟩
    · rintro ⟨j, h1, h2⟩
      by_cases hj : j = k
      · subst hj; exact .inr h2
      · exact .inl ⟨j, by omega, h2⟩

theorem sum_take {l : List Int} {k : Nat} (h : k < l.length) : (l.take (k + 1)).sum = (l.take k).sum + l.getD k 0 := by
  rw [List.take_add_one, List.getElem?_eq_getElem h, List.sum_append]
  simp [List.getD, h]

/-- Partial sums of numbers between 0 and 2^20. -/
theorem sum_in {l : List Int} (h : inB 0 1048576 l = true) : ∀ k, k ≤ l.length → 0 ≤ (l.take k).sum ∧ (l.take k).sum ≤ 1048576 * (k : Int)
  | 0, _ => by simp
  | k + 1, hk => by
    have := sum_in h k (by omega)
    have := (inB_iff.1 h) k (by omega)
    rw [sum_take (by omega)]
    omega

/-- A design in a box. -/
abbrev DBox (W : World) (B : Nat) (vr vs : Value) : Prop := W.heap[B]? = some (.cells #[.int .i64 0, vr, vs, .int .i64 0, .int .i64 0, .int .i64 0] 33 (0, 0))
theorem DBox.below {W W' : World} {B : Nat} {vr vs : Value} (h : DBox W B vr vs) (hb : Below W.heap.size W W') : DBox W' B vr vs := (hb.block B (Array.getElem?_eq_some_iff.1 h).1).trans h
theorem DBox.cells {W : World} {B : Nat} {vr vs : Value} (h : DBox W B vr vs) : W.cell? ⟨B, 0, none⟩ = some (.int .i64 0) ∧ W.cell? ⟨B, 1, none⟩ = some vr ∧ W.cell? ⟨B, 2, none⟩ = some vs ∧ W.cell? ⟨B, 3, none⟩ = some (.int .i64 0) ∧ W.cell? ⟨B, 4, none⟩ = some (.int .i64 0) ∧ W.cell? ⟨B, 5, none⟩ = some (.int .i64 0) :=
  ⟨cell_of_row _ _ _ _ _ _ h, cell_of_row _ _ _ _ _ _ h, cell_of_row _ _ _ _ _ _ h, cell_of_row _ _ _ _ _ _ h, cell_of_row _ _ _ _ _ _ h, cell_of_row _ _ _ _ _ _ h⟩

/-- The world with one more design in a box. -/
abbrev dbox (W : World) (vr vs : Value) : World := W.alloc (.cells #[.int .i64 0, vr, vs, .int .i64 0, .int .i64 0, .int .i64 0] 33)
theorem dbox_is (W : World) (vr vs : Value) : DBox (dbox W vr vs) W.heap.size vr vs := heap_alloc_new _ _
theorem dbox_below (W : World) (vr vs : Value) : Below W.heap.size W (dbox W vr vs) := (Below.refl _ _).alloc (Nat.le_refl _) _
theorem dbox_up {W W' : World} {vr vs : Value} (h : Below (dbox W vr vs).heap.size (dbox W vr vs) W') : Below W.heap.size W W' := (dbox_below W vr vs).trans (h.mono (by simp))

theorem dbox_size (W : World) (vr vs : Value) : (dbox W vr vs).heap.size = W.heap.size + 1 := World.size_alloc _ _
theorem dbox_up1 {W W' : World} {vr vs : Value} (h : Below (W.heap.size + 1) (dbox W vr vs) W') : Below W.heap.size W W' := dbox_up (by rw [dbox_size]; exact h)
theorem DBox.below1 {W W' : World} {vr vs : Value} (h : Below (W.heap.size + 1) (dbox W vr vs) W') : DBox W' W.heap.size vr vs := DBox.below (dbox_is W vr vs) (by rw [dbox_size]; exact h)

/-- A choice in a box. -/
abbrev CBox (W : World) (B : Nat) (c : Ch) : Prop := W.heap[B]? = some (.cells #[.int .i64 c.1, .int .i64 c.2.1, .int .i64 c.2.2] 28 (0, 0))
theorem CBox.below {W W' : World} {B : Nat} {c : Ch} (h : CBox W B c) (hb : Below W.heap.size W W') : CBox W' B c := (hb.block B (Array.getElem?_eq_some_iff.1 h).1).trans h
theorem CBox.cells {W : World} {B : Nat} {c : Ch} (h : CBox W B c) : W.cell? ⟨B, 0, none⟩ = some (.int .i64 c.1) ∧ W.cell? ⟨B, 1, none⟩ = some (.int .i64 c.2.1) ∧ W.cell? ⟨B, 2, none⟩ = some (.int .i64 c.2.2) :=
  ⟨cell_of_row _ _ _ _ _ _ h, cell_of_row _ _ _ _ _ _ h, cell_of_row _ _ _ _ _ _ h⟩

theorem owns_later {e : TypeId} {size : Nat} {W W' : World} {B n : Nat} {v : Value} {xs : List Value} (h : W.ownsRow B e size v n xs) (hb : Below W.heap.size W W') : W'.ownsRow B e size v n xs := by
  refine ⟨h.1, ?_⟩
  rcases h.2 with h | ⟨g, cap, cur, h1, h2, h3, h4⟩
  · exact .inl h
  · exact .inr ⟨g, cap, cur, h1, h2, (hb.block g (Array.getElem?_eq_some_iff.1 h3).1).trans h3, h4⟩

theorem slice_of_owns {W : World} {B : Nat} {e : TypeId} {size n : Nat} {v : Value} {xs : List Value} (h : W.ownsRow B e size v n xs) : ∃ ao cap, v = .slice ao n cap := by
  rcases h.2 with ⟨hv, hn⟩ | ⟨g, cap, cur, hv, _⟩
  · subst hn; exact ⟨_, _, hv⟩
  · exact ⟨_, _, hv⟩

theorem owns_mono {e : TypeId} {size : Nat} {W : World} {B B' n : Nat} {v : Value} {xs : List Value} (h : W.ownsRow B e size v n xs) (hb : B' ≤ B) : W.ownsRow B' e size v n xs := by
  refine ⟨h.1, ?_⟩
  rcases h.2 with h | ⟨g, cap, cur, h1, h2, h3, h4⟩
  · exact .inl h
  · exact .inr ⟨g, cap, cur, h1, by omega, h3, h4⟩

theorem add_none (b off j : Nat) : (Addr.mk b off none).add j = ⟨b, off + j, none⟩ := by
  unfold Addr.add
  by_cases hj0 : j = 0
  · subst hj0; rfl
  · rw [if_neg hj0]

theorem Try.info28 : (Try.prog.info? 28).map (fun i => (i.zero, i.size, i.bytes)) = some (some (.agg #[.int .i64 0, .int .i64 0, .int .i64 0]), 3, 24) := by kernel_rfl
theorem Try.info3 : (Try.prog.info? 3).map (fun i => (i.zero, i.size, i.bytes)) = some (some (.int .i64 0), 1, 8) := by kernel_rfl

/-- Choices as cells. -/
def chs (l : List Ch) : List Value := (l.map fun c => [Value.int .i64 c.1, Value.int .i64 c.2.1, Value.int .i64 c.2.2]).flatten
theorem chs_append (a b : List Ch) : chs (a ++ b) = chs a ++ chs b := by simp [chs]
theorem chs_len (l : List Ch) : (chs l).length = l.length * 3 := by
  induction l with
  | nil => rfl
  | cons c l ih => simp only [chs, List.map_cons, List.flatten_cons, List.length_append, List.length_cons, List.length_nil] at *; omega
theorem chs_get : ∀ (l : List Ch) (j : Nat), j < l.length → (chs l)[j * 3]? = some (.int .i64 (l.getD j (0, 0, 0)).1) ∧ (chs l)[j * 3 + 1]? = some (.int .i64 (l.getD j (0, 0, 0)).2.1) ∧ (chs l)[j * 3 + 2]? = some (.int .i64 (l.getD j (0, 0, 0)).2.2)
  | [], j, h => absurd h (by simp)
  | c :: l, 0, _ => ⟨rfl, rfl, rfl⟩
  | c :: l, j + 1, h => by
    have ih := chs_get l j (by simpa using h)
    have e : chs (c :: l) = [Value.int .i64 c.1, Value.int .i64 c.2.1, Value.int .i64 c.2.2] ++ chs l := rfl
    rw [e, List.getD_cons_succ]
    refine ⟨?_, ?_, ?_⟩
    · rw [List.getElem?_append_right (by simp; omega), show (j + 1) * 3 - [Value.int .i64 c.1, Value.int .i64 c.2.1, Value.int .i64 c.2.2].length = j * 3 by simp; omega]; exact ih.1
    · rw [List.getElem?_append_right (by simp; omega), show (j + 1) * 3 + 1 - [Value.int .i64 c.1, Value.int .i64 c.2.1, Value.int .i64 c.2.2].length = j * 3 + 1 by simp; omega]; exact ih.2.1
    · rw [List.getElem?_append_right (by simp; omega), show (j + 1) * 3 + 2 - [Value.int .i64 c.1, Value.int .i64 c.2.1, Value.int .i64 c.2.2].length = j * 3 + 2 by simp; omega]; exact ih.2.2

/-- A slice of choices, one of ints, of the call's own. -/
abbrev OwC (W : World) (B : Nat) (v : Value) (n : Nat) (l : List Ch) : Prop := W.ownsRow B 28 3 v n (chs l)
def ints (l : List Int) : List Value := l.map fun x => Value.int .i64 x
theorem ints_append (a b : List Int) : ints (a ++ b) = ints a ++ ints b := by simp [ints]
abbrev OwI (W : World) (B : Nat) (v : Value) (n : Nat) (l : List Int) : Prop := W.ownsRow B 3 1 v n (ints l)

theorem owC_len {W : World} {B n : Nat} {v : Value} {l : List Ch} (h : OwC W B v n l) : n = l.length := by
  have := h.1
  rw [chs_len] at this
  omega
theorem owI_len {W : World} {B n : Nat} {v : Value} {l : List Int} (h : OwI W B v n l) : n = l.length := by
  have := h.1
  simp [ints] at this
  omega

theorem OwC.cx {W : World} {B n : Nat} {v : Value} {l : List Ch} (h : OwC W B v n l) (hn : n ≤ 1000) (hf : ∀ k, I64 (l.getD k (0, 0, 0)).1 ∧ I64 (l.getD k (0, 0, 0)).2.1 ∧ I64 (l.getD k (0, 0, 0)).2.2) : Cx W v l := by
  have hl := owC_len h
  rcases h.2 with ⟨hv, h0⟩ | ⟨g, cap, cur, hv, hB, hg, hc, hm, hs, ht⟩
  · have e : l = [] := List.eq_nil_of_length_eq_zero (by omega)
    subst e h0
    exact ⟨by simp, hf, .inl ⟨rfl, _, _, hv⟩⟩
  · subst hl
    refine ⟨by unfold maxLen; omega, hf, .inr ⟨g, 0, cap, hv, hc, (Array.getElem?_eq_some_iff.1 hg).1, fun j hj => ?_⟩⟩
    have hcl : ∀ i, i < l.length * 3 → W.cell? ⟨g, 0 + i, none⟩ = (chs l)[i]? := fun i hi => by
      have e : (cur.toList.take (l.length * 3))[i]? = (chs l)[i]? := by rw [ht]
      rw [List.getElem?_take_of_lt hi] at e
      rw [cell_of_row _ _ _ _ _ _ hg, Nat.zero_add, ← Array.getElem?_toList, e]
    obtain ⟨g1, g2, g3⟩ := chs_get l j hj
    refine ⟨?_, ?_, ?_⟩
    · rw [hcl (j * 3) (by omega)]; exact g1
    · rw [show 0 + j * 3 + 1 = 0 + (j * 3 + 1) by omega, hcl (j * 3 + 1) (by omega)]; exact g2
    · rw [show 0 + j * 3 + 2 = 0 + (j * 3 + 2) by omega, hcl (j * 3 + 2) (by omega)]; exact g3

theorem OwI.ix {W : World} {B n : Nat} {v : Value} {l : List Int} (h : OwI W B v n l) (hn : n ≤ 1000) (hf : ∀ k, I64 (l.getD k 0)) : Ix W v l := by
  have hl := owI_len h
  rcases h.2 with ⟨hv, h0⟩ | ⟨g, cap, cur, hv, hB, hg, hc, hm, hs, ht⟩
  · have e : l = [] := List.eq_nil_of_length_eq_zero (by omega)
    subst e h0
    exact ⟨by simp, hf, .inl ⟨rfl, _, _, hv⟩⟩
  · subst hl
    refine ⟨by unfold maxLen; omega, hf, .inr ⟨g, 0, cap, hv, hc, (Array.getElem?_eq_some_iff.1 hg).1, fun j hj => ?_⟩⟩
    have e : (cur.toList.take (l.length * 1))[j]? = (ints l)[j]? := by rw [ht]
    rw [List.getElem?_take_of_lt (by omega)] at e
    rw [cell_of_row _ _ _ _ _ _ hg, Nat.zero_add, ← Array.getElem?_toList, e]
    simp [ints, List.getD, hj]

def appC (ty : TypeId) (vs : Array Value) : Sem Value := Builtin.append_ #[39, 39] ty vs
theorem appC_rw (ty : TypeId) (vs : Array Value) : Builtin.append_ #[39, 39] ty vs = appC ty vs := rfl
def appI (ty : TypeId) (vs : Array Value) : Sem Value := Builtin.append_ #[25, 25] ty vs
theorem appI_rw (ty : TypeId) (vs : Array Value) : Builtin.append_ #[25, 25] ty vs = appI ty vs := rfl

/-- An append of one choice. -/
theorem push_choice {W : World} {B n : Nat} {v : Value} {l : List Ch} (h : OwC W B v n l) (hn : n ≤ 1000) (hB : B ≤ W.heap.size) (x y z : Int) :
    ∃ g cap2 w2, Sem.run Try.prog (appC 39 #[v, .slice (some ⟨W.heap.size, 0, none⟩) 1 1]) (W.alloc (.cells #[.int .i64 x, .int .i64 y, .int .i64 z] 28)) = .ok (.slice (some ⟨g, 0, none⟩) (n + 1) cap2) w2 ∧ OwC w2 B (.slice (some ⟨g, 0, none⟩) (n + 1) cap2) (n + 1) (l ++ [(x, y, z)]) ∧ Below B W w2 ∧ (W.alloc (.cells #[.int .i64 x, .int .i64 y, .int .i64 z] 28)).grownBy w2 v.ownBlock ∧ (v.ownBlock = some g ∨ g = W.heap.size + 1) ∧ g < w2.heap.size := by
  obtain ⟨i0, hii, hz0, hz1, hz2⟩ := info_parts Try.info28
  have hown3 : (W.alloc (.cells #[.int .i64 x, .int .i64 y, .int .i64 z] 28)).ownsRow B 28 3 v n (chs l) := owns_later h ((Below.refl _ _).alloc (Nat.le_refl _) _)
  obtain ⟨g, cap4, w4, hrun4, hown4, hgrow4, hg, hlt⟩ := run_append_lies (P := Try.prog) (w := W.alloc (.cells #[.int .i64 x, .int .i64 y, .int .i64 z] 28)) 39 39 B 28 i0 (.agg #[.int .i64 0, .int .i64 0, .int .i64 0]) 3 24 Try.underlying39 hii hz0 hz1 hz2 rfl (by decide) _ n _ hown3 ⟨W.heap.size, 0, none⟩ 1 1 [.int .i64 x, .int .i64 y, .int .i64 z] rfl
    (fun j u hu => by
      rw [add_none, Nat.zero_add, cell_of_row _ _ _ _ _ _ (heap_alloc_new _ _)]
      rw [← hu, ← Array.getElem?_toList])
    (fun u hu => by simp at hu; rcases hu with rfl | rfl | rfl <;> rfl) (by omega) (by unfold maxLen; omega) (by omega) (by simp; omega) _ (World.size_alloc _ _)
  rw [appC_rw] at hrun4
  exact ⟨g, cap4, w4, hrun4, by rw [OwC, chs_append]; exact hown4, (((Below.refl B W).alloc hB _)).grown hgrow4 (by simp; omega) (fun j hj => (hown3.lt j hj).1), hgrow4, hg, hlt⟩

/-- An append of one int. -/
theorem push_int {W : World} {B n : Nat} {v : Value} {l : List Int} (h : OwI W B v n l) (hn : n ≤ 1000) (hB : B ≤ W.heap.size) (x : Int) :
    ∃ g cap2 w2, Sem.run Try.prog (appI 25 #[v, .slice (some ⟨W.heap.size, 0, none⟩) 1 1]) (W.alloc (.cells #[.int .i64 x] 3)) = .ok (.slice (some ⟨g, 0, none⟩) (n + 1) cap2) w2 ∧ OwI w2 B (.slice (some ⟨g, 0, none⟩) (n + 1) cap2) (n + 1) (l ++ [x]) ∧ Below B W w2 ∧ (W.alloc (.cells #[.int .i64 x] 3)).grownBy w2 v.ownBlock ∧ (v.ownBlock = some g ∨ g = W.heap.size + 1) ∧ g < w2.heap.size := by
  obtain ⟨i0, hii, hz0, hz1, hz2⟩ := info_parts Try.info3
  have hown3 : (W.alloc (.cells #[.int .i64 x] 3)).ownsRow B 3 1 v n (ints l) := owns_later h ((Below.refl _ _).alloc (Nat.le_refl _) _)
  obtain ⟨g, cap4, w4, hrun4, hown4, hgrow4, hg, hlt⟩ := run_append_lies (P := Try.prog) (w := W.alloc (.cells #[.int .i64 x] 3)) 25 25 B 3 i0 (.int .i64 0) 1 8 Try.underlying25 hii hz0 hz1 hz2 rfl (by decide) _ n _ hown3 ⟨W.heap.size, 0, none⟩ 1 1 [.int .i64 x] rfl (cell_one_new W (.int .i64 x) 3) (fun u hu => by simp at hu; subst hu; rfl) (by omega) (by unfold maxLen; omega) (by omega) (by simp; omega) _ (World.size_alloc _ _)
  rw [appI_rw] at hrun4
  exact ⟨g, cap4, w4, hrun4, by rw [OwI, ints_append]; exact hown4, (((Below.refl B W).alloc hB _)).grown hgrow4 (by simp; omega) (fun j hj => (hown3.lt j hj).1), hgrow4, hg, hlt⟩

theorem fit_nil (k : Nat) : I64 (([] : List Int).getD k 0) := by simp; decide

end Go.Proofs.Ytjlneggfkpjnpaa

namespace Go.Proofs.Ytjlneggfkpjnpaa
open Go.RowKit

/-- Two ints in boxes. -/
structure LoHi (W : World) (B C : Nat) (lo hi : Int) : Prop where
  b : W.heap[B]? = some (.cells #[.int .i64 lo] 3 (0, 0))
  c : W.heap[C]? = some (.cells #[.int .i64 hi] 3 (0, 0))

set_option maxRecDepth 10000 in
set_option maxHeartbeats 1000000 in
theorem out_any {W : World} {B C : Nat} {lo hi : Int} (h : LoHi W B C lo hi) (x : Int) :
    Calls Try.prog 44 #[.int .i64 x, .pointer (some ⟨B, 0, none⟩), .pointer (some ⟨C, 0, none⟩)] W fun e w' => e = .returned (.bool (!(decide (lo ≤ x) && decide (x ≤ hi)))) ∧ w' = W := by
  have c1 := cell_of_one h.b
  have c2 := cell_of_one h.c
  clear h
  by_cases h1 : x < lo
  · have h2 : ¬ lo ≤ x := by omega
    have E : Hid ((!(decide (lo ≤ x) && decide (x ≤ hi))) = true) := Lib.hid (by simp [h2])
    rw [E.out]
    clear h2
    go_enter Try.func44, Try.ntmps44
    go_wp2
    go_ret
    exact ⟨rfl, rfl⟩
  · have h2 : lo ≤ x := by omega
    by_cases h3 : hi < x
    · have E : Hid ((!(decide (lo ≤ x) && decide (x ≤ hi))) = true) := Lib.hid (by have : ¬ x ≤ hi := by omega
                                                                                   simp [this])
      rw [E.out]
      clear h2
      go_enter Try.func44, Try.ntmps44
      go_wp2
      go_ret
      exact ⟨rfl, rfl⟩
    · have E : Hid ((!(decide (lo ≤ x) && decide (x ≤ hi))) = false) := Lib.hid (by have : x ≤ hi := by omega
                                                                                    simp [this, h2])
      rw [E.out]
      clear h2
      go_enter Try.func44, Try.ntmps44
      go_wp2
      go_ret
      exact ⟨rfl, rfl⟩

/-- The first index of a number outside, or -1. -/
def badAt (lo hi : Int) (l : List Int) : Nat → Int
  | 0 => -1
  | k + 1 => if (decide (lo ≤ l.getD (l.length - (k + 1)) 0) && decide (l.getD (l.length - (k + 1)) 0 ≤ hi)) = true then badAt lo hi l k else ((l.length - (k + 1) : Nat) : Int)

theorem badAt_in {lo hi : Int} {l : List Int} : ∀ k, k ≤ l.length → (badAt lo hi l k < 0 ↔ ∀ j, l.length - k ≤ j → j < l.length → lo ≤ l.getD j 0 ∧ l.getD j 0 ≤ hi)
  | 0, _ => by
    simp only [badAt]
    constructor
    · intro _ j h1 h2; omega
    · intro _; decide
  | k + 1, hk => by
    rw [badAt]
    split
    · rename_i h
      rw [badAt_in k (by omega)]
      simp only [Bool.and_eq_true, decide_eq_true_eq] at h
      constructor
      · intro hj j h1 h2
        by_cases he : j = l.length - (k + 1)
        · rw [he]; exact h
        · exact hj j (by omega) h2
      · intro hj j h1 h2
        exact hj j (by omega) h2
    · rename_i h
      constructor
      · intro h2; omega
      · intro hj
        exact absurd (by simpa using hj (l.length - (k + 1)) (by omega) (by omega)) (by simpa using h)

set_option maxRecDepth 10000 in
set_option maxHeartbeats 2000000 in
theorem indexOut_any {W : World} {v : Value} {l : List Int} (hX : Ix W v l) {B C : Nat} {lo hi : Int} (h : LoHi W B C lo hi) :
    Calls Try.prog 51 #[v, .func (.func 44) #[] #[.pointer (some ⟨B, 0, none⟩), .pointer (some ⟨C, 0, none⟩)]] W fun e w' => e = .returned (.int .i64 (badAt lo hi l l.length)) ∧ w' = W := by
  obtain ⟨ao, cap, rfl⟩ := hX.mk'
  have hlen := hX.len
  unfold maxLen at hlen
  obtain ⟨n, hn⟩ : ∃ n, n = l.length := ⟨_, rfl⟩
  have HN := Lib.hid hn
  have HX := Lib.hid hX
  rw [← hn] at hlen HX ⊢
  obtain ⟨R, hR⟩ : ∃ R, R = badAt lo hi l n := ⟨_, rfl⟩
  have HR := Lib.hid hR
  rw [← hR]
  have HO := Lib.hid (fun x => out_any h x)
  clear hX hn hR h
  go_enter Try.func51, Try.ntmps51
  go_wp2
  go_loopw [8] (fun kv wr => ∃ k : Nat, k ≤ n ∧ kv = .int .i64 (k : Nat) ∧ Hid (badAt lo hi l (n - k) = R) ∧ wr = W) (fun kv _ => n - (intOf kv).toNat)
  case atStart => exact ⟨0, by omega, rfl, Lib.hid HR.out.symm, rfl⟩
  case round =>
    obtain ⟨k, hk, rfl, hJ, rfl⟩ := hrel
    by_cases hkn : k = n
    · subst hkn
      have E : Hid (R = -1) := Lib.hid (by rw [← hJ.out, Nat.sub_self]; rfl)
      go_wp2
      go_ret
      exact ⟨by rw [E.out]; rfl, rfl⟩
    · have hlt : k < n := by omega
      obtain ⟨b, off, rfl, hq, hcap, hbl, hcl⟩ := HX.out.at (by omega)
      have hc := hcl k hlt
      have hJo := hJ.out
      rw [show n - k = (n - (k + 1)) + 1 by omega, badAt, ← HN.out, show n - (n - (k + 1) + 1) = k by omega] at hJo
      obtain ⟨x, hx⟩ : ∃ x, x = l.getD k 0 := ⟨_, rfl⟩
      rw [← hx] at hc hJo
      have HC := Lib.hid (HO.out x)
      by_cases hin : (decide (lo ≤ x) && decide (x ≤ hi)) = true
      · rw [if_pos hin] at hJo
        rw [hin] at HC
        have HJ := Lib.hid hJo
        clear hx hcl hq hJ hJo hin
        go_wp2_with (go_at_call 44; refine HC.out.mono ?_; rintro e w2 ⟨rfl, rfl⟩)
        go_roundw
        case rel => exact ⟨k + 1, by omega, by go_num, HJ, by trivial⟩
        case measure => simp [intOf]; omega
      · rw [if_neg hin] at hJo
        have hf : (decide (lo ≤ x) && decide (x ≤ hi)) = false := by simpa using hin
        rw [hf] at HC
        have HJ := Lib.hid hJo
        clear hx hcl hq hJ hJo hin hf
        go_wp2_with (go_at_call 44; refine HC.out.mono ?_; rintro e w2 ⟨rfl, rfl⟩)
        go_ret
        exact ⟨by rw [← HJ.out]; rfl, rfl⟩

set_option maxRecDepth 10000 in
set_option maxHeartbeats 1000000 in
theorem someOut_any {W : World} {v : Value} {l : List Int} (hX : Ix W v l) {B C : Nat} {lo hi : Int} (h : LoHi W B C lo hi) :
    Calls Try.prog 43 #[v, .func (.func 44) #[] #[.pointer (some ⟨B, 0, none⟩), .pointer (some ⟨C, 0, none⟩)]] W fun e w' => e = .returned (.bool (!(inB lo hi l))) ∧ w' = W := by
  have HI := Lib.hid (indexOut_any hX h)
  have hbi := badAt_in (lo := lo) (hi := hi) (l := l) l.length (Nat.le_refl _)
  rw [Nat.sub_self] at hbi
  obtain ⟨R, hR⟩ : ∃ R, R = badAt lo hi l l.length := ⟨_, rfl⟩
  rw [← hR] at hbi HI
  have e : Hid (decide (R ≥ 0) = !(inB lo hi l)) := Lib.hid (by
    cases hb : inB lo hi l with
    | true =>
      have := hbi.2 fun j _ h2 => (inB_iff.1 hb) j h2
      simp; omega
    | false =>
      have : ¬ R < 0 := fun hc => by
        have := inB_iff.2 fun k hk => hbi.1 hc k (by omega) hk
        rw [this] at hb; cases hb
      simp; omega)
  rw [← e.out]
  clear hbi hR hX h
  go_enter Try.func43, Try.ntmps43
  go_wp2_with (go_at_call 51; refine HI.out.mono ?_; rintro e w2 ⟨rfl, rfl⟩)
  go_ret
  exact ⟨by first | rfl | (simp; done), rfl⟩

theorem lohi_new (W : World) (lo hi : Int) : LoHi ((W.alloc (.cells #[.int .i64 lo] 3)).alloc (.cells #[.int .i64 hi] 3)) W.heap.size (W.heap.size + 1) lo hi := by
  refine ⟨?_, ?_⟩
  · rw [Below.heap_alloc _ _ _ (by simp)]; exact heap_alloc_new _ _
  · have := heap_alloc_new (W.alloc (.cells #[.int .i64 lo] 3)) (.cells #[.int .i64 hi] 3)
    rw [World.size_alloc] at this
    exact this

set_option maxRecDepth 10000 in
set_option maxHeartbeats 1000000 in
theorem within_any {W : World} {v : Value} {l : List Int} (hX : Ix W v l) (lo hi : Int) :
    Calls Try.prog 33 #[v, .int .i64 lo, .int .i64 hi] W fun e w' => e = .returned (.bool (inB lo hi l)) ∧ Below W.heap.size W w' := by
  have HI := Lib.hid (someOut_any (hX.below (((Below.refl _ W).alloc (Nat.le_refl _) (.cells #[.int .i64 lo] 3)).alloc (by simp) (.cells #[.int .i64 hi] 3))) (lohi_new W lo hi))
  have HB := Lib.hid (((Below.refl _ W).alloc (Nat.le_refl _) (.cells #[.int .i64 lo] 3)).alloc (by simp) (.cells #[.int .i64 hi] 3))
  obtain ⟨R, hR⟩ : ∃ R, R = inB lo hi l := ⟨_, rfl⟩
  rw [← hR] at HI ⊢
  clear hR hX
  go_enter Try.func33, Try.ntmps33
  go_wp2_with (go_at_call 43; refine HI.out.mono ?_; rintro e w2 ⟨rfl, rfl⟩)
  go_ret
  exact ⟨by cases R <;> rfl, HB.out⟩

/-- The greatest of some numbers. -/
def maxV (l : List Int) (m : Int) : Nat → Int
  | 0 => m
  | k + 1 => max (maxV l m k) (l.getD (k + 1) 0)

theorem maxV_ge {l : List Int} : ∀ k, ∀ j, j ≤ k → l.getD j 0 ≤ maxV l (l.getD 0 0) k
  | 0, j, h => by rw [show j = 0 by omega, maxV]; omega
  | k + 1, j, h => by
    rw [maxV]
    by_cases hj : j = k + 1
    · subst hj; omega
    · have := maxV_ge (l := l) k j (by omega); omega
theorem maxV_mem {l : List Int} : ∀ k, ∃ j, j ≤ k ∧ maxV l (l.getD 0 0) k = l.getD j 0
  | 0 => ⟨0, by omega, rfl⟩
  | k + 1 => by
    obtain ⟨j, h1, h2⟩ := maxV_mem (l := l) k
    rw [maxV]
    by_cases hc : maxV l (l.getD 0 0) k ≤ l.getD (k + 1) 0
    · exact ⟨k + 1, by omega, by omega⟩
    · exact ⟨j, by omega, by omega⟩

set_option maxRecDepth 10000 in
set_option maxHeartbeats 1000000 in
theorem max_any {W : World} {v : Value} {l : List Int} (hX : Ix W v l) (h0 : l.length ≠ 0) :
    Calls Try.prog 42 #[v] W fun e w' => e = .returned (.int .i64 (maxV l (l.getD 0 0) (l.length - 1))) ∧ w' = W := by
  obtain ⟨ao, cap, rfl⟩ := hX.mk'
  have hlen := hX.len
  unfold maxLen at hlen
  obtain ⟨b, off, rfl, hq, hcap, hbl, hcl⟩ := hX.at h0
  obtain ⟨n, hn⟩ : ∃ n, n = l.length := ⟨_, rfl⟩
  rw [← hn] at hlen h0 hcl hcap ⊢
  have hc0 := hcl 0 (by omega)
  rw [Nat.add_zero] at hc0
  have HCL := Lib.hid hcl
  obtain ⟨f, hf⟩ : ∃ f : Nat → Int, f = maxV l (l.getD 0 0) := ⟨_, rfl⟩
  have HF : Hid (∀ k, f (k + 1) = max (f k) (l.getD (k + 1) 0)) := Lib.hid (fun k => by rw [hf, maxV])
  have hf0 : f 0 = l.getD 0 0 := by rw [hf]; rfl
  rw [← hf0] at hc0
  rw [← hf]
  clear hf hf0 hq hn hX hcl hbl
  go_enter Try.func42, Try.ntmps42
  go_wp2
  go_loop [3, 4] (fun mv kv => ∃ k : Nat, 1 ≤ k ∧ k ≤ n ∧ kv = .int .i64 (k : Nat) ∧ mv = .int .i64 (f (k - 1))) (fun _ kv => n - (intOf kv).toNat)
  case atStart => exact ⟨1, by omega, by omega, rfl, rfl⟩
  case round =>
    obtain ⟨k, hk1, hk, rfl, rfl⟩ := hrel
    by_cases hkn : k = n
    · subst hkn
      go_wp2
      go_ret
      exact ⟨rfl, rfl⟩
    · have hlt : k < n := by omega
      have hc := HCL.out k hlt
      have e := HF.out (k - 1)
      rw [show k - 1 + 1 = k by omega] at e
      obtain ⟨x, hx⟩ : ∃ x, x = l.getD k 0 := ⟨_, rfl⟩
      rw [← hx] at e hc
      have E := Lib.hid e
      clear e hx
      go_wp2
      go_round
      case rel => exact ⟨k + 1, by omega, by omega, by go_num, by rw [show k + 1 - 1 = k by omega, E.out]; congr 1; split <;> omega⟩
      case measure => simp [intOf]; omega

end Go.Proofs.Ytjlneggfkpjnpaa

namespace Go.Proofs.Ytjlneggfkpjnpaa
open Go.RowKit

set_option maxRecDepth 10000 in
set_option maxHeartbeats 1000000 in
theorem left_any {W : World} {v : Value} {l : List Int} (hX : Ix W v l) (hl : l.length ≤ 1000) :
    Calls Try.prog 15 #[v] W fun e w' => e = .returned (.int .i64 (leftV l)) ∧ Below W.heap.size W w' := by
  obtain ⟨ao, cap, rfl⟩ := hX.mk'
  have HW := Lib.hid (within_any hX 0 1048576)
  have HX := Lib.hid hX
  obtain ⟨n, hn⟩ : ∃ n, n = l.length := ⟨_, rfl⟩
  have HN := Lib.hid hn
  rw [← hn] at hl HX HW ⊢
  unfold leftV
  by_cases hin : inB 0 1048576 l = true
  · have HS := Lib.hid (sum_in hin)
    rw [if_pos hin]
    rw [hin] at HW
    obtain ⟨R, hR⟩ : ∃ R, R = l.sum := ⟨_, rfl⟩
    have HR := Lib.hid hR
    rw [← hR]
    clear hX hn hin hR
    go_enter Try.func15, Try.ntmps15
    go_wp2_with (go_at_call 33; refine HW.out.mono ?_; rintro e w1 ⟨rfl, hb1⟩; have HB1 := Lib.hid hb1; clear hb1)
    go_loop [3, 11] (fun sv kv => ∃ (k : Nat) (S : Int), k ≤ n ∧ 0 ≤ S ∧ S ≤ 1048576 * 1000 ∧ kv = .int .i64 (k : Nat) ∧ sv = .int .i64 S ∧ Hid (S = (l.take k).sum)) (fun _ kv => n - (intOf kv).toNat)
    case atStart => exact ⟨0, 0, by omega, by omega, by omega, rfl, rfl, Lib.hid (by simp)⟩
    case round =>
      obtain ⟨k, S, hk, hS0, hS1, rfl, rfl, hJ⟩ := hrel
      by_cases hkn : k = n
      · have e1 : S = R := by rw [hJ.out, HR.out, hkn, HN.out, List.take_length]
        subst hkn e1
        go_wp2
        go_ret
        exact ⟨rfl, HB1.out⟩
      · have hlt : k < n := by omega
        obtain ⟨b, off, rfl, hq, hcap, hbl, hcl⟩ := HX.out.at (by omega)
        have hc := cell_later HB1.out (hcl k hlt)
        have hs := HS.out (k + 1) (by rw [← HN.out]; omega)
        have e := sum_take (l := l) (k := k) (by rw [← HN.out]; omega)
        rw [e, ← hJ.out] at hs
        rw [← hJ.out] at e
        obtain ⟨x, hx⟩ : ∃ x, x = l.getD k 0 := ⟨_, rfl⟩
        rw [← hx] at hc hs e
        obtain ⟨hs1, hs2⟩ := hs
        have hs3 : S + x ≤ 1048576 * 1000 := by omega
        have E := Lib.hid e
        clear hx hcl hq e hs2
        go_wp2
        go_round
        case rel => exact ⟨k + 1, S + x, by omega, hs1, hs3, by go_num, rfl, Lib.hid E.out.symm⟩
        case measure => simp [intOf]; omega
  · have hf : inB 0 1048576 l = false := by simpa using hin
    rw [if_neg hin]
    rw [hf] at HW
    clear hX hn hin hf
    go_enter Try.func15, Try.ntmps15
    go_wp2_with (go_at_call 33; refine HW.out.mono ?_; rintro e w1 ⟨rfl, hb1⟩; have HB1 := Lib.hid hb1; clear hb1)
    go_ret
    exact ⟨rfl, HB1.out⟩

theorem any_max {r : List Int} (h1 : 1 ≤ r.length) (h2 : inB 0 8 r = true) : r.any (fun x => decide (0 < x)) = decide (¬ maxV r (r.getD 0 0) (r.length - 1) = 0) := by
  have h3 := inB_iff.1 h2
  cases ha : r.any (fun x => decide (0 < x)) with
  | true =>
    rw [List.any_eq_true] at ha
    obtain ⟨x, hx, h4⟩ := ha
    obtain ⟨k, hk, rfl⟩ := List.getElem_of_mem hx
    have h5 := maxV_ge (l := r) (r.length - 1) k (by omega)
    have e : r.getD k 0 = r[k] := by simp [List.getD, hk]
    rw [e] at h5
    have h6 : (0 : Int) < r[k] := by simpa using h4
    symm; rw [decide_eq_true_eq]; omega
  | false =>
    rw [List.any_eq_false] at ha
    obtain ⟨j, hj1, hj2⟩ := maxV_mem (l := r) (r.length - 1)
    have hjl : j < r.length := by omega
    have e : r.getD j 0 = r[j] := by simp [List.getD, hjl]
    have h4 := ha r[j] (List.getElem_mem hjl)
    have h5 := h3 j hjl
    have h6 : ¬ (0 : Int) < r[j] := by simpa using h4
    symm; rw [decide_eq_false_iff_not, hj2, e]
    rw [e] at h5
    omega

theorem hasR_no1 {r : List Int} (h : r.length < 1) : hasR r = false := by
  unfold hasR; rw [show decide (1 ≤ r.length) = false from decide_eq_false (by omega)]; rfl
theorem hasR_no2 {r : List Int} (h : 6 < r.length) : hasR r = false := by
  unfold hasR; rw [show decide (r.length ≤ 6) = false from decide_eq_false (by omega)]; simp
theorem hasR_no3 {r : List Int} (h : inB 0 8 r = false) : hasR r = false := by
  unfold hasR; rw [h]; simp
theorem hasR_max {r : List Int} (h1 : 1 ≤ r.length) (h2 : r.length ≤ 6) (h3 : inB 0 8 r = true) : hasR r = decide (¬ maxV r (r.getD 0 0) (r.length - 1) = 0) := by
  unfold hasR; rw [any_max h1 h3, h3]; simp [h1, h2]

set_option maxRecDepth 10000 in
set_option maxHeartbeats 1000000 in
theorem hasBlocks_any {W : World} {ar az : Option Addr} {nr cr ns cs : Nat} {r s : List Int} (hr : Ix W (.slice ar nr cr) r) (hs : Ix W (.slice az ns cs) s) :
    Calls Try.prog 30 #[.agg #[.int .i64 0, .slice ar nr cr, .slice az ns cs, .int .i64 0, .int .i64 0, .int .i64 0]] W fun e w' => e = .returned (.bool (hasB r s)) ∧ Below W.heap.size W w' := by
  have hnr := hr.size
  have hns := hs.size
  have HB0 := Lib.hid ((Below.refl W.heap.size W).alloc (Nat.le_refl _) (.cells #[.int .i64 0, .slice ar nr cr, .slice az ns cs, .int .i64 0, .int .i64 0, .int .i64 0] 33))
  have HD0 : Hid (DBox (W.alloc (.cells #[.int .i64 0, .slice ar nr cr, .slice az ns cs, .int .i64 0, .int .i64 0, .int .i64 0] 33)) W.heap.size (.slice ar nr cr) (.slice az ns cs)) := Lib.hid (heap_alloc_new _ _)
  have HW := Lib.hid (within_any (hr.below HB0.out) 0 8)
  by_cases h1 : nr < 1
  · have e : hasB r s = false := by unfold hasB; rw [hasR_no1 (by omega)]; rfl
    rw [e]
    clear hr hs hnr hns e
    go_enter Try.func30, Try.ntmps30
    go_wp2
    go_ret
    exact ⟨rfl, HB0.out⟩
  · by_cases h2 : 6 < nr
    · have e : hasB r s = false := by unfold hasB; rw [hasR_no2 (by omega)]; rfl
      rw [e]
      clear hr hs hnr hns e
      go_enter Try.func30, Try.ntmps30
      go_wp2
      go_ret
      exact ⟨rfl, HB0.out⟩
    · by_cases h3 : inB 0 8 r = true
      · have hem := hasR_max (r := r) (by omega) (by omega) h3
        rw [← hnr] at hem
        have HM := Lib.hid (fun W' (hb : Below W.heap.size W W') => max_any (hr.below hb) (by omega))
        rw [← hnr] at HM
        obtain ⟨m, hm⟩ : ∃ m, m = maxV r (r.getD 0 0) (nr - 1) := ⟨_, rfl⟩
        rw [← hm] at HM hem
        rw [h3] at HW
        unfold hasB
        rw [hem]
        have HS := Lib.hid (fun W' (hb : Below W.heap.size W W') => within_any (hs.below hb) 1 4)
        by_cases h4 : m = 0
        · have e : (decide (¬ m = 0) && hasS s) = false := by rw [h4]; rfl
          rw [e]
          clear hr hs hnr hns e hm hem h3
          go_enter Try.func30, Try.ntmps30
          go_wp2_with (first | (go_at_call 33; (with_reducible refine HW.out.mono ?_); rintro e w1 ⟨rfl, hb1⟩; have HB1 := Lib.hid (HB0.out.trans (hb1.mono HB0.out.size)); obtain ⟨c0, c1, c2, -, -, -⟩ := (DBox.below HD0.out hb1).cells; clear hb1) | (go_at_call 42; (with_reducible refine (HM.out _ HB1.out).mono ?_); rintro e w2 ⟨rfl, rfl⟩))
          go_ret
          exact ⟨rfl, HB1.out⟩
        · have hd : decide (¬ m = 0) = true := by simpa using h4
          by_cases h5 : ns < 1
          · have e : (decide (¬ m = 0) && hasS s) = false := by
              rw [hd]; unfold hasS; rw [show decide (1 ≤ s.length) = false from decide_eq_false (by omega)]; rfl
            rw [e]
            clear hr hs hnr hns e hm hem h3 hd
            go_enter Try.func30, Try.ntmps30
            go_wp2_with (first | (go_at_call 33; (with_reducible refine HW.out.mono ?_); rintro e w1 ⟨rfl, hb1⟩; have HB1 := Lib.hid (HB0.out.trans (hb1.mono HB0.out.size)); obtain ⟨c0, c1, c2, -, -, -⟩ := (DBox.below HD0.out hb1).cells; clear hb1) | (go_at_call 42; (with_reducible refine (HM.out _ HB1.out).mono ?_); rintro e w2 ⟨rfl, rfl⟩))
            all_goals first | (go_ret; exact ⟨by first | rfl | (simp; done), HB1.out⟩) | (exfalso; rename_i hq; rcases hq with (hq | hq) | hq <;> first | omega | (simp at hq; omega))
          · by_cases h6 : 3 < ns
            · have e : (decide (¬ m = 0) && hasS s) = false := by
                rw [hd]; unfold hasS; rw [show decide (s.length ≤ 3) = false from decide_eq_false (by omega)]; simp
              rw [e]
              clear hr hs hnr hns e hm hem h3 hd
              go_enter Try.func30, Try.ntmps30
              go_wp2_with (first | (go_at_call 33; (with_reducible refine HW.out.mono ?_); rintro e w1 ⟨rfl, hb1⟩; have HB1 := Lib.hid (HB0.out.trans (hb1.mono HB0.out.size)); obtain ⟨c0, c1, c2, -, -, -⟩ := (DBox.below HD0.out hb1).cells; clear hb1) | (go_at_call 42; (with_reducible refine (HM.out _ HB1.out).mono ?_); rintro e w2 ⟨rfl, rfl⟩))
              all_goals first | (go_ret; exact ⟨by first | rfl | (simp; done), HB1.out⟩) | (exfalso; rename_i hq; rcases hq with (hq | hq) | hq <;> first | omega | (simp at hq; omega))
            · have e : (decide (¬ m = 0) && hasS s) = inB 1 4 s := by
                rw [hd]; unfold hasS; rw [show decide (s.length ≤ 3) = true from decide_eq_true (by omega), show decide (1 ≤ s.length) = true from decide_eq_true (by omega)]; simp
              rw [e]
              obtain ⟨q, hq⟩ : ∃ q, q = inB 1 4 s := ⟨_, rfl⟩
              rw [← hq] at HS ⊢
              clear hr hs hnr hns e hm hem h3 hd hq
              go_enter Try.func30, Try.ntmps30
              go_wp2_with (first | (go_at_call 33; (with_reducible refine HW.out.mono ?_); rintro e w1 ⟨rfl, hb1⟩; have HB1 := Lib.hid (HB0.out.trans (hb1.mono HB0.out.size)); obtain ⟨c0, c1, c2, -, -, -⟩ := (DBox.below HD0.out hb1).cells; clear hb1) | (go_at_call 42; (with_reducible refine (HM.out _ HB1.out).mono ?_); rintro e w2 ⟨rfl, rfl⟩) | (go_at_call 33; (with_reducible refine (HS.out _ HB1.out).mono ?_); rintro e w3 ⟨rfl, hb3⟩; have HB3 := Lib.hid (HB1.out.trans (hb3.mono HB1.out.size)); clear hb3))
              all_goals first | (go_ret; exact ⟨by first | rfl | (simp; done), HB3.out⟩) | (exfalso; rename_i hq; rcases hq with (hq | hq) | hq <;> first | omega | (simp at hq; omega))
      · have hf : inB 0 8 r = false := by simpa using h3
        have e : hasB r s = false := by unfold hasB; rw [hasR_no3 hf]; rfl
        rw [e]
        rw [hf] at HW
        clear hr hs hnr hns e h3 hf
        go_enter Try.func30, Try.ntmps30
        go_wp2_with (go_at_call 33; (with_reducible refine HW.out.mono ?_); rintro e w1 ⟨rfl, hb1⟩; have HB1 := Lib.hid (HB0.out.trans (hb1.mono HB0.out.size)); clear hb1)
        go_ret
        exact ⟨rfl, HB1.out⟩

set_option maxRecDepth 10000 in
set_option maxHeartbeats 1000000 in
theorem fits_any {W : World} {ar az aw : Option Addr} {nr cr ns cs nw cw : Nat} {r row : List Int} (hr : nr = r.length) (hw : Ix W (.slice aw nw cw) row) :
    Calls Try.prog 31 #[.agg #[.int .i64 0, .slice ar nr cr, .slice az ns cs, .int .i64 0, .int .i64 0, .int .i64 0], .slice aw nw cw] W fun e w' => e = .returned (.bool (fitB r row)) ∧ Below W.heap.size W w' := by
  have hnw := hw.size
  have HB0 := Lib.hid ((Below.refl W.heap.size W).alloc (Nat.le_refl _) (.cells #[.int .i64 0, .slice ar nr cr, .slice az ns cs, .int .i64 0, .int .i64 0, .int .i64 0] 33))
  have HW := Lib.hid (within_any (hw.below HB0.out) 0 1048576)
  unfold fitB
  rw [← hr, ← hnw]
  obtain ⟨q, hq⟩ : ∃ q, q = inB 0 1048576 row := ⟨_, rfl⟩
  rw [← hq] at HW ⊢
  clear hr hw hnw hq
  by_cases h1 : nw = 0
  · subst h1
    go_enter Try.func31, Try.ntmps31
    go_wp2
    go_ret
    exact ⟨rfl, HB0.out⟩
  · have e1 : decide (nw = 0) = false := by simpa using h1
    rw [e1]
    clear e1
    by_cases h2 : nw = nr
    · subst h2
      have e2 : (false || (decide (nw = nw) && q)) = q := by simp
      rw [e2]
      clear e2
      go_enter Try.func31, Try.ntmps31
      go_wp2_with (go_at_call 33; (with_reducible refine HW.out.mono ?_); rintro e w1 ⟨rfl, hb1⟩; have HB1 := Lib.hid (HB0.out.trans (hb1.mono HB0.out.size)); clear hb1)
      go_ret
      exact ⟨by first | rfl | (simp [h1]; done) | (simp [h1, h3]; done), HB1.out⟩
    · have e2 : (false || (decide (nw = nr) && q)) = false := by simp [h2]
      rw [e2]
      have h3 : ¬ (nw : Int) = (nr : Int) := by omega
      clear e2
      go_enter Try.func31, Try.ntmps31
      go_wp2
      go_ret
      exact ⟨by first | rfl | (simp [h1]; done) | (simp [h1, h3]; done), HB0.out⟩

end Go.Proofs.Ytjlneggfkpjnpaa
