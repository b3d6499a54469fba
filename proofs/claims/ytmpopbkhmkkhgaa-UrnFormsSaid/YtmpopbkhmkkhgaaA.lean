/- What is drawn, as plain lists; slices of ints and of choices, those of one's own; a design in a box. -/
import Derived.Test.YtmpopbkhmkkhgaaProg
import Derived.WalkKit
import Derived.WalkSpells
import Derived.Handy
import Derived.Lib.Hide
import Derived.Laws.AppendOwnNone
import Derived.OwnWalk
import Derived.Deep.AppendLies
namespace Go.Proofs.Ytmpopbkhmkkhgaa
open Go.RowKit

abbrev I64 (n : Int) : Prop := -9223372036854775808 ≤ n ∧ n ≤ 9223372036854775807

/-- A choice: weight, size, arm. -/
abbrev Ch := Int × Int × Int

/-- A slice that reads as ints. -/
structure Ix (w : World) (v : Value) (l : List Int) : Prop where
  len : l.length ≤ maxLen
  fit : ∀ k, I64 (l.getD k 0)
  is : (l = [] ∧ ∃ ao cap, v = .slice ao 0 cap ∧ (ao = none → cap = 0)) ∨ ∃ b off cap, v = .slice (some ⟨b, off, none⟩) l.length cap ∧ l.length ≤ cap ∧ b < w.heap.size ∧ ∀ j, j < l.length → w.cell? ⟨b, off + j, none⟩ = some (.int .i64 (l.getD j 0))

theorem Ix.below {w w' : World} {v : Value} {l : List Int} (h : Ix w v l) (hb : Below w.heap.size w w') : Ix w' v l := by
  obtain ⟨h1, h2, h3⟩ := h
  refine ⟨h1, h2, ?_⟩
  rcases h3 with h3 | ⟨b, off, cap, hv, hc, hlt, hl⟩
  · exact .inl h3
  · exact .inr ⟨b, off, cap, hv, hc, Nat.lt_of_lt_of_le hlt hb.size, fun j hj => cell_later hb (hl j hj)⟩

theorem Ix.mk' {w : World} {v : Value} {l : List Int} (h : Ix w v l) : ∃ ao cap, v = .slice ao l.length cap := by
  rcases h.is with ⟨rfl, ao, cap, rfl, _⟩ | ⟨b, off, cap, rfl, _⟩
  · exact ⟨_, _, rfl⟩
  · exact ⟨_, _, rfl⟩

theorem Ix.at {w : World} {ao : Option Addr} {n cap : Nat} {l : List Int} (h : Ix w (.slice ao n cap) l) (hn : n ≠ 0) : ∃ b off, ao = some ⟨b, off, none⟩ ∧ n = l.length ∧ n ≤ cap ∧ b < w.heap.size ∧ ∀ j, j < n → w.cell? ⟨b, off + j, none⟩ = some (.int .i64 (l.getD j 0)) := by
  rcases h.is with ⟨rfl, ao2, cap2, e, _⟩ | ⟨b, off, cap2, e, h1, h2, h3⟩
  · injection e with _ e2 _; exact absurd e2 hn
  · injection e with e1 e2 e3; subst e1 e2 e3; exact ⟨b, off, rfl, rfl, h1, h2, h3⟩

theorem Ix.size {w : World} {ao : Option Addr} {n cap : Nat} {l : List Int} (h : Ix w (.slice ao n cap) l) : n = l.length := by
  obtain ⟨_, _, e⟩ := h.mk'
  injection e

theorem Ix.nil (w : World) : Ix w (.slice none 0 0) [] := ⟨by simp, fun k => by simp; decide, .inl ⟨rfl, _, _, rfl, fun _ => rfl⟩⟩
theorem Ix.cap0 {w : World} {n cap : Nat} {l : List Int} (h : Ix w (.slice none n cap) l) : n = 0 ∧ cap = 0 := by
  rcases h.is with ⟨rfl, ao2, cap2, e, hc⟩ | ⟨b, off, cap2, e, _⟩
  · injection e with e1 e2 e3
    exact ⟨e2, by rw [e3]; exact hc e1.symm⟩
  · injection e with e1 _ _
    cases e1

/-- A slice that reads as choices. -/
structure Cx (w : World) (v : Value) (l : List Ch) : Prop where
  len : l.length ≤ maxLen
  fit : ∀ k, I64 (l.getD k (0, 0, 0)).1 ∧ I64 (l.getD k (0, 0, 0)).2.1 ∧ I64 (l.getD k (0, 0, 0)).2.2
  is : (l = [] ∧ ∃ ao cap, v = .slice ao 0 cap) ∨ ∃ b off cap, v = .slice (some ⟨b, off, none⟩) l.length cap ∧ l.length ≤ cap ∧ b < w.heap.size ∧ ∀ j, j < l.length → w.cell? ⟨b, off + j * 3, none⟩ = some (.int .i64 (l.getD j (0, 0, 0)).1) ∧ w.cell? ⟨b, off + j * 3 + 1, none⟩ = some (.int .i64 (l.getD j (0, 0, 0)).2.1) ∧ w.cell? ⟨b, off + j * 3 + 2, none⟩ = some (.int .i64 (l.getD j (0, 0, 0)).2.2)

theorem Cx.below {w w' : World} {v : Value} {l : List Ch} (h : Cx w v l) (hb : Below w.heap.size w w') : Cx w' v l := by
  obtain ⟨h1, h2, h3⟩ := h
  refine ⟨h1, h2, ?_⟩
  rcases h3 with h3 | ⟨b, off, cap, hv, hc, hlt, hl⟩
  · exact .inl h3
  · exact .inr ⟨b, off, cap, hv, hc, Nat.lt_of_lt_of_le hlt hb.size, fun j hj => ⟨cell_later hb (hl j hj).1, cell_later hb (hl j hj).2.1, cell_later hb (hl j hj).2.2⟩⟩

theorem Cx.mk' {w : World} {v : Value} {l : List Ch} (h : Cx w v l) : ∃ ao cap, v = .slice ao l.length cap := by
  rcases h.is with ⟨rfl, ao, cap, rfl⟩ | ⟨b, off, cap, rfl, _⟩
  · exact ⟨_, _, rfl⟩
  · exact ⟨_, _, rfl⟩

theorem Cx.at {w : World} {ao : Option Addr} {n cap : Nat} {l : List Ch} (h : Cx w (.slice ao n cap) l) (hn : n ≠ 0) : ∃ b off, ao = some ⟨b, off, none⟩ ∧ n ≤ cap ∧ b < w.heap.size ∧ ∀ j, j < n → w.cell? ⟨b, off + j * 3, none⟩ = some (.int .i64 (l.getD j (0, 0, 0)).1) ∧ w.cell? ⟨b, off + j * 3 + 1, none⟩ = some (.int .i64 (l.getD j (0, 0, 0)).2.1) ∧ w.cell? ⟨b, off + j * 3 + 2, none⟩ = some (.int .i64 (l.getD j (0, 0, 0)).2.2) := by
  rcases h.is with ⟨rfl, ao2, cap2, e⟩ | ⟨b, off, cap2, e, h1, h2, h3⟩
  · injection e with _ e2 _; exact absurd e2 hn
  · injection e with e1 e2 e3; subst e1 e2 e3; exact ⟨b, off, rfl, h1, h2, h3⟩

theorem Cx.size {w : World} {ao : Option Addr} {n cap : Nat} {l : List Ch} (h : Cx w (.slice ao n cap) l) : n = l.length := by
  obtain ⟨_, _, e⟩ := h.mk'
  injection e

/-- The numbers of a list lie between two. -/
def inB (lo hi : Int) (l : List Int) : Bool := l.all fun x => decide (lo ≤ x) && decide (x ≤ hi)
theorem inB_iff {lo hi : Int} {l : List Int} : inB lo hi l = true ↔ ∀ k, k < l.length → lo ≤ l.getD k 0 ∧ l.getD k 0 ≤ hi := by
  unfold inB
  rw [List.all_eq_true]
  constructor
  · intro h k hk
    have := h l[k] (List.getElem_mem hk)
    simpa [List.getD, hk] using this
  · intro h x hx
    obtain ⟨k, hk, rfl⟩ := List.getElem_of_mem hx
    have := h k hk
    simpa [List.getD, hk] using this

/-- Is a design usable, is a row well-formed? -/
def usB (r : List Int) (a : Int) : Bool := decide (r.length ≤ 6) && inB 0 8 r && (decide (0 ≤ a) && decide (a ≤ 8))
def fitB (r row : List Int) : Bool := decide (row.length = 0) || (decide (row.length = r.length) && inB 0 1048576 row)
/-- The balls. -/
def balV (r : List Int) (a : Int) (row : List Int) : List Int := if (usB r a && fitB r row) = true then (if row.length = 0 then r else row) else []
/-- The choices of the first arms. -/
def cho (r b : List Int) : Nat → List Ch
  | 0 => []
  | k + 1 => cho r b k ++ if 0 < r.getD k 0 ∧ 0 < b.getD k 0 then [(b.getD k 0, 0, (k : Int))] else []
def chV (r : List Int) (a : Int) (row : List Int) : List Ch := cho r (balV r a row) (balV r a row).length
/-- The balls when the first arms have got what is added. -/
def addN (r : List Int) (a arm : Int) (b : List Int) (k j : Nat) : Int := if j < k ∧ 0 < r.getD j 0 ∧ ¬ (j : Int) = arm then b.getD j 0 + a else b.getD j 0
def addV (r : List Int) (a arm : Int) (b : List Int) (k : Nat) : List Int := (List.range b.length).map (addN r a arm b k)
/-- Next. -/
def allV (r : List Int) (a : Int) (row : List Int) (arm : Int) : List Int := addV r a arm (balV r a row) (balV r a row).length
def nxB (r : List Int) (a : Int) (row : List Int) (c : Ch) : Bool := decide (c ∈ chV r a row) && inB 0 1048576 (allV r a row c.2.2)
def nxV (r : List Int) (a : Int) (row : List Int) (c : Ch) : List Int := if nxB r a row c = true then allV r a row c.2.2 else []

theorem cho_len (r b : List Int) : ∀ k, (cho r b k).length ≤ k
  | 0 => by simp [cho]
  | k + 1 => by
    have := cho_len r b k
    rw [cho, List.length_append]
    split <;> simp <;> omega

theorem mem_cho {r b : List Int} {c : Ch} : ∀ {k : Nat}, c ∈ cho r b k ↔ ∃ j, j < k ∧ 0 < r.getD j 0 ∧ 0 < b.getD j 0 ∧ c = (b.getD j 0, 0, (j : Int))
  | 0 => by simp [cho]
  | k + 1 => by
    rw [cho, List.mem_append, mem_cho (k := k)]
    constructor
    · rintro (⟨j, h1, h2, h3, h4⟩ | h)
      · exact ⟨j, by omega, h2, h3, h4⟩
      · split at h
        · rename_i h0
          exact ⟨k, by omega, h0.1, h0.2, by simpa using h⟩
        · simp at h
    · rintro ⟨j, h1, h2, h3, h4⟩
      by_cases hj : j = k
      · subst hj
        right
        rw [if_pos ⟨h2, h3⟩, h4]; simp
      · exact .inl ⟨j, by omega, h2, h3, h4⟩

theorem addV_len {r : List Int} {a arm : Int} {b : List Int} {k : Nat} : (addV r a arm b k).length = b.length := by simp [addV]
theorem addV_get {r : List Int} {a arm : Int} {b : List Int} {k j : Nat} (h : j < b.length) : (addV r a arm b k).getD j 0 = addN r a arm b k j := by
  simp [addV, List.getD, h]
theorem addV_zero {r : List Int} {a arm : Int} {b : List Int} : addV r a arm b 0 = b := by
  apply List.ext_getElem
  · exact addV_len
  · intro j h1 h2
    simp [addV, addN, List.getD, h2]
theorem addV_set {r : List Int} {a arm : Int} {b : List Int} {k : Nat} (hk : k < b.length) {x : Int} (hx : x = addN r a arm b (k + 1) k) : (addV r a arm b k).set k x = addV r a arm b (k + 1) := by
  apply List.ext_getElem
  · simp [addV]
  · intro j h1 h2
    rw [List.getElem_set]
    split
    · rename_i he
      subst he
      rw [hx]; simp [addV]
    · rename_i he
      simp only [addV, List.getElem_map, List.getElem_range, addN]
      have e : (j < k + 1) ↔ (j < k) := by omega
      simp only [e]
theorem addV_same {r : List Int} {a arm : Int} {b : List Int} {k : Nat} (hk : ¬ (0 < r.getD k 0 ∧ ¬ (k : Int) = arm)) : addV r a arm b (k + 1) = addV r a arm b k := by
  unfold addV
  apply List.map_congr_left
  intro j _
  simp only [addN]
  by_cases he : j = k
  · subst he
    rw [if_neg (fun h => hk h.2), if_neg (fun h => hk h.2)]
  · have e : (j < k + 1) ↔ (j < k) := by omega
    simp only [e]

theorem sum_take {l : List Int} {k : Nat} (h : k < l.length) : (l.take (k + 1)).sum = (l.take k).sum + l.getD k 0 := by
  rw [List.take_add_one, List.getElem?_eq_getElem h, List.sum_append]
  simp [List.getD, h]

/-- Partial sums of numbers between 0 and 2^20. -/
theorem sum_in {l : List Int} (h : inB 0 1048576 l = true) : ∀ k, k ≤ l.length → 0 ≤ (l.take k).sum ∧ (l.take k).sum ≤ 1048576 * (k : Int)
  | 0, _ => by simp
  | k + 1, hk => by
    have := sum_in h k (by omega)
    have := (inB_iff.1 h) k (by omega)
    rw [sum_take (by omega)]
    omega

/-- A design, and one in a box. -/
abbrev DV (kd : Int) (vr : Value) (a : Int) : Value := .agg #[.int .i64 kd, vr, .slice none 0 0, .int .i64 a, .int .i64 0, .int .i64 0]
abbrev DBox (W : World) (B : Nat) (kd : Int) (vr : Value) (a : Int) : Prop := W.heap[B]? = some (.cells #[.int .i64 kd, vr, .slice none 0 0, .int .i64 a, .int .i64 0, .int .i64 0] 27 (0, 0))
theorem DBox.below {W W' : World} {B : Nat} {kd : Int} {vr : Value} {a : Int} (h : DBox W B kd vr a) (hb : Below W.heap.size W W') : DBox W' B kd vr a := (hb.block B (Array.getElem?_eq_some_iff.1 h).1).trans h
theorem DBox.cells {W : World} {B : Nat} {kd : Int} {vr : Value} {a : Int} (h : DBox W B kd vr a) : W.cell? ⟨B, 0, none⟩ = some (.int .i64 kd) ∧ W.cell? ⟨B, 1, none⟩ = some vr ∧ W.cell? ⟨B, 2, none⟩ = some (.slice none 0 0) ∧ W.cell? ⟨B, 3, none⟩ = some (.int .i64 a) ∧ W.cell? ⟨B, 4, none⟩ = some (.int .i64 0) ∧ W.cell? ⟨B, 5, none⟩ = some (.int .i64 0) :=
  ⟨cell_of_row _ _ _ _ _ _ h, cell_of_row _ _ _ _ _ _ h, cell_of_row _ _ _ _ _ _ h, cell_of_row _ _ _ _ _ _ h, cell_of_row _ _ _ _ _ _ h, cell_of_row _ _ _ _ _ _ h⟩

/-- The world with one more design in a box. -/
abbrev dbox (W : World) (kd : Int) (vr : Value) (a : Int) : World := W.alloc (.cells #[.int .i64 kd, vr, .slice none 0 0, .int .i64 a, .int .i64 0, .int .i64 0] 27)
theorem dbox_is (W : World) (kd : Int) (vr : Value) (a : Int) : DBox (dbox W kd vr a) W.heap.size kd vr a := heap_alloc_new _ _
theorem dbox_below (W : World) (kd : Int) (vr : Value) (a : Int) : Below W.heap.size W (dbox W kd vr a) := (Below.refl _ _).alloc (Nat.le_refl _) _
theorem dbox_up {W W' : World} {kd : Int} {vr : Value} {a : Int} (h : Below (dbox W kd vr a).heap.size (dbox W kd vr a) W') : Below W.heap.size W W' := (dbox_below W kd vr a).trans (h.mono (by simp))
theorem dbox_size (W : World) (kd : Int) (vr : Value) (a : Int) : (dbox W kd vr a).heap.size = W.heap.size + 1 := World.size_alloc _ _
theorem dbox_up1 {W W' : World} {kd : Int} {vr : Value} {a : Int} (h : Below (W.heap.size + 1) (dbox W kd vr a) W') : Below W.heap.size W W' := dbox_up (by rw [dbox_size]; exact h)
theorem DBox.below1 {W W' : World} {kd : Int} {vr : Value} {a : Int} (h : Below (W.heap.size + 1) (dbox W kd vr a) W') : DBox W' W.heap.size kd vr a := DBox.below (dbox_is W kd vr a) (by rw [dbox_size]; exact h)

/-- A choice in a box. -/
abbrev CBox (W : World) (B : Nat) (c : Ch) : Prop := W.heap[B]? = some (.cells #[.int .i64 c.1, .int .i64 c.2.1, .int .i64 c.2.2] 29 (0, 0))
theorem CBox.below {W W' : World} {B : Nat} {c : Ch} (h : CBox W B c) (hb : Below W.heap.size W W') : CBox W' B c := (hb.block B (Array.getElem?_eq_some_iff.1 h).1).trans h
theorem CBox.cells {W : World} {B : Nat} {c : Ch} (h : CBox W B c) : W.cell? ⟨B, 0, none⟩ = some (.int .i64 c.1) ∧ W.cell? ⟨B, 1, none⟩ = some (.int .i64 c.2.1) ∧ W.cell? ⟨B, 2, none⟩ = some (.int .i64 c.2.2) :=
  ⟨cell_of_row _ _ _ _ _ _ h, cell_of_row _ _ _ _ _ _ h, cell_of_row _ _ _ _ _ _ h⟩

theorem owns_later {e : TypeId} {size : Nat} {W W' : World} {B n : Nat} {v : Value} {xs : List Value} (h : W.ownsRow B e size v n xs) (hb : Below W.heap.size W W') : W'.ownsRow B e size v n xs := by
  refine ⟨h.1, ?_⟩
  rcases h.2 with h | ⟨g, cap, cur, h1, h2, h3, h4⟩
  · exact .inl h
  · exact .inr ⟨g, cap, cur, h1, h2, (hb.block g (Array.getElem?_eq_some_iff.1 h3).1).trans h3, h4⟩

theorem slice_of_owns {W : World} {B : Nat} {e : TypeId} {size n : Nat} {v : Value} {xs : List Value} (h : W.ownsRow B e size v n xs) : ∃ ao cap, v = .slice ao n cap := by
  rcases h.2 with ⟨hv, hn⟩ | ⟨g, cap, cur, hv, _⟩
  · subst hn; exact ⟨_, _, hv⟩
  · exact ⟨_, _, hv⟩

theorem owns_mono {e : TypeId} {size : Nat} {W : World} {B B' n : Nat} {v : Value} {xs : List Value} (h : W.ownsRow B e size v n xs) (hb : B' ≤ B) : W.ownsRow B' e size v n xs := by
  refine ⟨h.1, ?_⟩
  rcases h.2 with h | ⟨g, cap, cur, h1, h2, h3, h4⟩
  · exact .inl h
  · exact .inr ⟨g, cap, cur, h1, by omega, h3, h4⟩

theorem add_none (b off j : Nat) : (Addr.mk b off none).add j = ⟨b, off + j, none⟩ := by
  unfold Addr.add
  by_cases hj0 : j = 0
  · subst hj0; rfl
  · rw [if_neg hj0]

theorem Try.info29 : (Try.prog.info? 29).map (fun i => (i.zero, i.size, i.bytes)) = some (some (.agg #[.int .i64 0, .int .i64 0, .int .i64 0]), 3, 24) := by kernel_rfl
theorem Try.info3 : (Try.prog.info? 3).map (fun i => (i.zero, i.size, i.bytes)) = some (some (.int .i64 0), 1, 8) := by kernel_rfl

/-- Choices as cells. -/
def chs (l : List Ch) : List Value := (l.map fun c => [Value.int .i64 c.1, Value.int .i64 c.2.1, Value.int .i64 c.2.2]).flatten
theorem chs_append (a b : List Ch) : chs (a ++ b) = chs a ++ chs b := by simp [chs]
theorem chs_len (l : List Ch) : (chs l).length = l.length * 3 := by
  induction l with
  | nil => rfl
  | cons c l ih => simp only [chs, List.map_cons, List.flatten_cons, List.length_append, List.length_cons, List.length_nil] at *; omega
theorem chs_get : ∀ (l : List Ch) (j : Nat), j < l.length → (chs l)[j * 3]? = some (.int .i64 (l.getD j (0, 0, 0)).1) ∧ (chs l)[j * 3 + 1]? = some (.int .i64 (l.getD j (0, 0, 0)).2.1) ∧ (chs l)[j * 3 + 2]? = some (.int .i64 (l.getD j (0, 0, 0)).2.2)
  | [], j, h => absurd h (by simp)
  | c :: l, 0, _ => ⟨rfl, rfl, rfl⟩
  | c :: l, j + 1, h => by
    have ih := chs_get l j (by simpa using h)
    have e : chs (c :: l) = [Value.int .i64 c.1, Value.int .i64 c.2.1, Value.int .i64 c.2.2] ++ chs l := rfl
    rw [e, List.getD_cons_succ]
    refine ⟨?_, ?_, ?_⟩
    · rw [List.getElem?_append_right (by simp; omega), show (j + 1) * 3 - [Value.int .i64 c.1, Value.int .i64 c.2.1, Value.int .i64 c.2.2].length = j * 3 by simp; omega]; exact ih.1
    · rw [List.getElem?_append_right (by simp; omega), show (j + 1) * 3 + 1 - [Value.int .i64 c.1, Value.int .i64 c.2.1, Value.int .i64 c.2.2].length = j * 3 + 1 by simp; omega]; exact ih.2.1
    · rw [List.getElem?_append_right (by simp; omega), show (j + 1) * 3 + 2 - [Value.int .i64 c.1, Value.int .i64 c.2.1, Value.int .i64 c.2.2].length = j * 3 + 2 by simp; omega]; exact ih.2.2

/-- A slice of choices, one of ints, of the call's own. -/
abbrev OwC (W : World) (B : Nat) (v : Value) (n : Nat) (l : List Ch) : Prop := W.ownsRow B 29 3 v n (chs l)
def ints (l : List Int) : List Value := l.map fun x => Value.int .i64 x
theorem ints_append (a b : List Int) : ints (a ++ b) = ints a ++ ints b := by simp [ints]
abbrev OwI (W : World) (B : Nat) (v : Value) (n : Nat) (l : List Int) : Prop := W.ownsRow B 3 1 v n (ints l)

theorem owC_len {W : World} {B n : Nat} {v : Value} {l : List Ch} (h : OwC W B v n l) : n = l.length := by
  have := h.1
  rw [chs_len] at this
  omega
theorem owI_len {W : World} {B n : Nat} {v : Value} {l : List Int} (h : OwI W B v n l) : n = l.length := by
  have := h.1
  simp [ints] at this
  omega

theorem OwC.cx {W : World} {B n : Nat} {v : Value} {l : List Ch} (h : OwC W B v n l) (hn : n ≤ 1000) (hf : ∀ k, I64 (l.getD k (0, 0, 0)).1 ∧ I64 (l.getD k (0, 0, 0)).2.1 ∧ I64 (l.getD k (0, 0, 0)).2.2) : Cx W v l := by
  have hl := owC_len h
  rcases h.2 with ⟨hv, h0⟩ | ⟨g, cap, cur, hv, hB, hg, hc, hm, hs, ht⟩
  · have e : l = [] := List.eq_nil_of_length_eq_zero (by omega)
    subst e h0
    exact ⟨by simp, hf, .inl ⟨rfl, _, _, hv⟩⟩
  · subst hl
    refine ⟨by unfold maxLen; omega, hf, .inr ⟨g, 0, cap, hv, hc, (Array.getElem?_eq_some_iff.1 hg).1, fun j hj => ?_⟩⟩
    have hcl : ∀ i, i < l.length * 3 → W.cell? ⟨g, 0 + i, none⟩ = (chs l)[i]? := fun i hi => by
      have e : (cur.toList.take (l.length * 3))[i]? = (chs l)[i]? := by rw [ht]
      rw [List.getElem?_take_of_lt hi] at e
      rw [cell_of_row _ _ _ _ _ _ hg, Nat.zero_add, ← Array.getElem?_toList, e]
    obtain ⟨g1, g2, g3⟩ := chs_get l j hj
    refine ⟨?_, ?_, ?_⟩
    · rw [hcl (j * 3) (by omega)]; exact g1
    · rw [show 0 + j * 3 + 1 = 0 + (j * 3 + 1) by omega, hcl (j * 3 + 1) (by omega)]; exact g2
    · rw [show 0 + j * 3 + 2 = 0 + (j * 3 + 2) by omega, hcl (j * 3 + 2) (by omega)]; exact g3

theorem OwI.ix {W : World} {B n : Nat} {v : Value} {l : List Int} (h : OwI W B v n l) (hn : n ≤ 1000) (hf : ∀ k, I64 (l.getD k 0)) : Ix W v l := by
  have hl := owI_len h
  rcases h.2 with ⟨hv, h0⟩ | ⟨g, cap, cur, hv, hB, hg, hc, hm, hs, ht⟩
  · have e : l = [] := List.eq_nil_of_length_eq_zero (by omega)
    subst e h0
    exact ⟨by simp, hf, .inl ⟨rfl, _, _, hv, fun _ => rfl⟩⟩
  · subst hl
    refine ⟨by unfold maxLen; omega, hf, .inr ⟨g, 0, cap, hv, hc, (Array.getElem?_eq_some_iff.1 hg).1, fun j hj => ?_⟩⟩
    have e : (cur.toList.take (l.length * 1))[j]? = (ints l)[j]? := by rw [ht]
    rw [List.getElem?_take_of_lt (by omega)] at e
    rw [cell_of_row _ _ _ _ _ _ hg, Nat.zero_add, ← Array.getElem?_toList, e]
    simp [ints, List.getD, hj]

def appC (ty : TypeId) (vs : Array Value) : Sem Value := Builtin.append_ #[38, 38] ty vs
theorem appC_rw (ty : TypeId) (vs : Array Value) : Builtin.append_ #[38, 38] ty vs = appC ty vs := rfl
def appI (ty : TypeId) (vs : Array Value) : Sem Value := Builtin.append_ #[23, 23] ty vs
theorem appI_rw (ty : TypeId) (vs : Array Value) : Builtin.append_ #[23, 23] ty vs = appI ty vs := rfl

/-- An append of one choice. -/
theorem push_choice {W : World} {B n : Nat} {v : Value} {l : List Ch} (h : OwC W B v n l) (hn : n ≤ 1000) (hB : B ≤ W.heap.size) (x y z : Int) :
    ∃ g cap2 w2, Sem.run Try.prog (appC 38 #[v, .slice (some ⟨W.heap.size, 0, none⟩) 1 1]) (W.alloc (.cells #[.int .i64 x, .int .i64 y, .int .i64 z] 29)) = .ok (.slice (some ⟨g, 0, none⟩) (n + 1) cap2) w2 ∧ OwC w2 B (.slice (some ⟨g, 0, none⟩) (n + 1) cap2) (n + 1) (l ++ [(x, y, z)]) ∧ Below B W w2 ∧ (W.alloc (.cells #[.int .i64 x, .int .i64 y, .int .i64 z] 29)).grownBy w2 v.ownBlock ∧ (v.ownBlock = some g ∨ g = W.heap.size + 1) ∧ g < w2.heap.size := by
  obtain ⟨i0, hii, hz0, hz1, hz2⟩ := info_parts Try.info29
  have hown3 : (W.alloc (.cells #[.int .i64 x, .int .i64 y, .int .i64 z] 29)).ownsRow B 29 3 v n (chs l) := owns_later h ((Below.refl _ _).alloc (Nat.le_refl _) _)
  obtain ⟨g, cap4, w4, hrun4, hown4, hgrow4, hg, hlt⟩ := run_append_lies (P := Try.prog) (w := W.alloc (.cells #[.int .i64 x, .int .i64 y, .int .i64 z] 29)) 38 38 B 29 i0 (.agg #[.int .i64 0, .int .i64 0, .int .i64 0]) 3 24 Try.underlying38 hii hz0 hz1 hz2 rfl (by decide) _ n _ hown3 ⟨W.heap.size, 0, none⟩ 1 1 [.int .i64 x, .int .i64 y, .int .i64 z] rfl
    (fun j u hu => by
      rw [add_none, Nat.zero_add, cell_of_row _ _ _ _ _ _ (heap_alloc_new _ _)]
      rw [← hu, ← Array.getElem?_toList])
    (fun u hu => by simp at hu; rcases hu with rfl | rfl | rfl <;> rfl) (by omega) (by unfold maxLen; omega) (by omega) (by simp; omega) _ (World.size_alloc _ _)
  rw [appC_rw] at hrun4
  exact ⟨g, cap4, w4, hrun4, by rw [OwC, chs_append]; exact hown4, (((Below.refl B W).alloc hB _)).grown hgrow4 (by simp; omega) (fun j hj => (hown3.lt j hj).1), hgrow4, hg, hlt⟩

/-- An append of one int. -/
theorem push_int {W : World} {B n : Nat} {v : Value} {l : List Int} (h : OwI W B v n l) (hn : n ≤ 1000) (hB : B ≤ W.heap.size) (x : Int) :
    ∃ g cap2 w2, Sem.run Try.prog (appI 23 #[v, .slice (some ⟨W.heap.size, 0, none⟩) 1 1]) (W.alloc (.cells #[.int .i64 x] 3)) = .ok (.slice (some ⟨g, 0, none⟩) (n + 1) cap2) w2 ∧ OwI w2 B (.slice (some ⟨g, 0, none⟩) (n + 1) cap2) (n + 1) (l ++ [x]) ∧ Below B W w2 ∧ (W.alloc (.cells #[.int .i64 x] 3)).grownBy w2 v.ownBlock ∧ (v.ownBlock = some g ∨ g = W.heap.size + 1) ∧ g < w2.heap.size := by
  obtain ⟨i0, hii, hz0, hz1, hz2⟩ := info_parts Try.info3
  have hown3 : (W.alloc (.cells #[.int .i64 x] 3)).ownsRow B 3 1 v n (ints l) := owns_later h ((Below.refl _ _).alloc (Nat.le_refl _) _)
  obtain ⟨g, cap4, w4, hrun4, hown4, hgrow4, hg, hlt⟩ := run_append_lies (P := Try.prog) (w := W.alloc (.cells #[.int .i64 x] 3)) 23 23 B 3 i0 (.int .i64 0) 1 8 Try.underlying23 hii hz0 hz1 hz2 rfl (by decide) _ n _ hown3 ⟨W.heap.size, 0, none⟩ 1 1 [.int .i64 x] rfl (cell_one_new W (.int .i64 x) 3) (fun u hu => by simp at hu; subst hu; rfl) (by omega) (by unfold maxLen; omega) (by omega) (by simp; omega) _ (World.size_alloc _ _)
  rw [appI_rw] at hrun4
  exact ⟨g, cap4, w4, hrun4, by rw [OwI, ints_append]; exact hown4, (((Below.refl B W).alloc hB _)).grown hgrow4 (by simp; omega) (fun j hj => (hown3.lt j hj).1), hgrow4, hg, hlt⟩

theorem fit_nil (k : Nat) : I64 (([] : List Int).getD k 0) := by simp; decide

end Go.Proofs.Ytmpopbkhmkkhgaa
