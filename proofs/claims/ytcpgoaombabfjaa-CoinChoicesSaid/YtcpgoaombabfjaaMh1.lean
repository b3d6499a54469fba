/- What is drawn, as plain lists; slices of ints and of choices, those of one's own; a design in a box. What the frames share: arguments that came in. No condition. What minimisation with a biased coin answers, as plain functions of lists of ints; facts of them. No condition beyond those that are stated. -/
import Derived.Test.YtcpgoaombabfjaaProg
import Derived.WalkKit
import Derived.WalkSpells
import Derived.Handy
import Derived.Lib.Hide
import Derived.Laws.AppendOwnNone
import Derived.OwnWalk
import Derived.Deep.AppendLies
import Derived.Test.YtcpgoaombabfjaaRows
import Derived.ProofKit
import Derived.OpenShut
import Derived.ChangeOld
import Derived.ChangeSame
import Derived.ShutString
import Derived.SliceStrings
namespace Go.Proofs.Ytcpgoaombabfjaa
open Go.RowKit

abbrev I64 (n : Int) : Prop := -9223372036854775808 ≤ n ∧ n ≤ 9223372036854775807

/-- A choice: weight, size, arm. -/
abbrev Ch := Int × Int × Int

/-- A slice that reads as ints. -/
structure Ix (w : World) (v : Value) (l : List Int) : Prop where
  len : l.length ≤ maxLen
  fit : ∀ k, I64 (l.getD k 0)
  is : (l = [] ∧ ∃ ao cap, v = .slice ao 0 cap ∧ (ao = none → cap = 0)) ∨ ∃ b off cap, v = .slice (some ⟨b, off, none⟩) l.length cap ∧ l.length ≤ cap ∧ b < w.heap.size ∧ ∀ j, j < l.length → w.cell? ⟨b, off + j, none⟩ = some (.int .i64 (l.getD j 0))

theorem Ix.below {w w' : World} {v : Value} {l : List Int} (h : Ix w v l) (hb : Below w.heap.size w w') : Ix w' v l := by
  obtain ⟨h1, h2, h3⟩ := h
  refine ⟨h1, h2, ?_⟩
  rcases h3 with h3 | ⟨b, off, cap, hv, hc, hlt, hl⟩
  · exact .inl h3
  · exact .inr ⟨b, off, cap, hv, hc, Nat.lt_of_lt_of_le hlt hb.size, fun j hj => cell_later hb (hl j hj)⟩

theorem Ix.mk' {w : World} {v : Value} {l : List Int} (h : Ix w v l) : ∃ ao cap, v = .slice ao l.length cap := by
  rcases h.is with ⟨rfl, ao, cap, rfl, _⟩ | ⟨b, off, cap, rfl, _⟩
  · exact ⟨_, _, rfl⟩
  · exact ⟨_, _, rfl⟩

theorem Ix.at {w : World} {ao : Option Addr} {n cap : Nat} {l : List Int} (h : Ix w (.slice ao n cap) l) (hn : n ≠ 0) : ∃ b off, ao = some ⟨b, off, none⟩ ∧ n = l.length ∧ n ≤ cap ∧ b < w.heap.size ∧ ∀ j, j < n → w.cell? ⟨b, off + j, none⟩ = some (.int .i64 (l.getD j 0)) := by
  rcases h.is with ⟨rfl, ao2, cap2, e, _⟩ | ⟨b, off, cap2, e, h1, h2, h3⟩
  · injection e with _ e2 _; exact absurd e2 hn
  · injection e with e1 e2 e3; subst e1 e2 e3; exact ⟨b, off, rfl, rfl, h1, h2, h3⟩

theorem Ix.size {w : World} {ao : Option Addr} {n cap : Nat} {l : List Int} (h : Ix w (.slice ao n cap) l) : n = l.length := by
  obtain ⟨_, _, e⟩ := h.mk'
  injection e

theorem Ix.nil (w : World) : Ix w (.slice none 0 0) [] := ⟨by simp, fun k => by simp; decide, .inl ⟨rfl, _, _, rfl, fun _ => rfl⟩⟩
theorem Ix.cap0 {w : World} {n cap : Nat} {l : List Int} (h : Ix w (.slice none n cap) l) : n = 0 ∧ cap = 0 := by
  rcases h.is with ⟨rfl, ao2, cap2, e, hc⟩ | ⟨b, off, cap2, e, _⟩
  · injection e with e1 e2 e3
    exact ⟨e2, by rw [e3]; exact hc e1.symm⟩
  · injection e with e1 _ _
    cases e1

/-- A slice that reads as choices. -/
structure Cx (w : World) (v : Value) (l : List Ch) : Prop where
  len : l.length ≤ maxLen
  fit : ∀ k, I64 (l.getD k (0, 0, 0)).1 ∧ I64 (l.getD k (0, 0, 0)).2.1 ∧ I64 (l.getD k (0, 0, 0)).2.2
  is : (l = [] ∧ ∃ ao cap, v = .slice ao 0 cap) ∨ ∃ b off cap, v = .slice (some ⟨b, off, none⟩) l.length cap ∧ l.length ≤ cap ∧ b < w.heap.size ∧ ∀ j, j < l.length → w.cell? ⟨b, off + j * 3, none⟩ = some (.int .i64 (l.getD j (0, 0, 0)).1) ∧ w.cell? ⟨b, off + j * 3 + 1, none⟩ = some (.int .i64 (l.getD j (0, 0, 0)).2.1) ∧ w.cell? ⟨b, off + j * 3 + 2, none⟩ = some (.int .i64 (l.getD j (0, 0, 0)).2.2)

theorem Cx.below {w w' : World} {v : Value} {l : List Ch} (h : Cx w v l) (hb : Below w.heap.size w w') : Cx w' v l := by
  obtain ⟨h1, h2, h3⟩ := h
  refine ⟨h1, h2, ?_⟩
  rcases h3 with h3 | ⟨b, off, cap, hv, hc, hlt, hl⟩
  · exact .inl h3
  · exact .inr ⟨b, off, cap, hv, hc, Nat.lt_of_lt_of_le hlt hb.size, fun j hj => ⟨cell_later hb (hl j hj).1, cell_later hb (hl j hj).2.1, cell_later hb (hl j hj).2.2⟩⟩

theorem Cx.mk' {w : World} {v : Value} {l : List Ch} (h : Cx w v l) : ∃ ao cap, v = .slice ao l.length cap := by
  rcases h.is with ⟨rfl, ao, cap, rfl⟩ | ⟨b, off, cap, rfl, _⟩
  · exact ⟨_, _, rfl⟩
  · exact ⟨_, _, rfl⟩

theorem Cx.at {w : World} {ao : Option Addr} {n cap : Nat} {l : List Ch} (h : Cx w (.slice ao n cap) l) (hn : n ≠ 0) : ∃ b off, ao = some ⟨b, off, none⟩ ∧ n ≤ cap ∧ b < w.heap.size ∧ ∀ j, j < n → w.cell? ⟨b, off + j * 3, none⟩ = some (.int .i64 (l.getD j (0, 0, 0)).1) ∧ w.cell? ⟨b, off + j * 3 + 1, none⟩ = some (.int .i64 (l.getD j (0, 0, 0)).2.1) ∧ w.cell? ⟨b, off + j * 3 + 2, none⟩ = some (.int .i64 (l.getD j (0, 0, 0)).2.2) := by
  rcases h.is with ⟨rfl, ao2, cap2, e⟩ | ⟨b, off, cap2, e, h1, h2, h3⟩
  · injection e with _ e2 _; exact absurd e2 hn
  · injection e with e1 e2 e3; subst e1 e2 e3; exact ⟨b, off, rfl, h1, h2, h3⟩

theorem Cx.size {w : World} {ao : Option Addr} {n cap : Nat} {l : List Ch} (h : Cx w (.slice ao n cap) l) : n = l.length := by
  obtain ⟨_, _, e⟩ := h.mk'
  injection e

/-- The numbers of a list lie between two. -/
def inB (lo hi : Int) (l : List Int) : Bool := l.all fun x => decide (lo ≤ x) && decide (x ≤ hi)
theorem inB_iff {lo hi : Int} {l : List Int} : inB lo hi l = true ↔ ∀ k, k < l.length → lo ≤ l.getD k 0 ∧ l.getD k 0 ≤ hi := by
  unfold inB
  rw [List.all_eq_true]
  constructor
  · intro h k hk
    have := h l[k] (List.getElem_mem hk)
    simpa [List.getD, hk] using this
  · intro h x hx
    obtain ⟨k, hk, rfl⟩ := List.getElem_of_mem hx
    have := h k hk
    simpa [List.getD, hk] using this

theorem sum_take {l : List Int} {k : Nat} (h : k < l.length) : (l.take (k + 1)).sum = (l.take k).sum + l.getD k 0 := by
  rw [List.take_add_one, List.getElem?_eq_getElem h, List.sum_append]
  simp [List.getD, h]

/-- A design, and one in a box. -/
abbrev DV (kd : Int) (vr : Value) (cn cd : Int) : Value := .agg #[.int .i64 kd, vr, .slice none 0 0, .int .i64 0, .int .i64 cn, .int .i64 cd]
abbrev DBox (W : World) (B : Nat) (kd : Int) (vr : Value) (cn cd : Int) : Prop := W.heap[B]? = some (.cells #[.int .i64 kd, vr, .slice none 0 0, .int .i64 0, .int .i64 cn, .int .i64 cd] 30 (0, 0))
theorem DBox.below {W W' : World} {B : Nat} {kd : Int} {vr : Value} {cn cd : Int} (h : DBox W B kd vr cn cd) (hb : Below W.heap.size W W') : DBox W' B kd vr cn cd := (hb.block B (Array.getElem?_eq_some_iff.1 h).1).trans h
theorem DBox.cells {W : World} {B : Nat} {kd : Int} {vr : Value} {cn cd : Int} (h : DBox W B kd vr cn cd) : W.cell? ⟨B, 0, none⟩ = some (.int .i64 kd) ∧ W.cell? ⟨B, 1, none⟩ = some vr ∧ W.cell? ⟨B, 2, none⟩ = some (.slice none 0 0) ∧ W.cell? ⟨B, 3, none⟩ = some (.int .i64 0) ∧ W.cell? ⟨B, 4, none⟩ = some (.int .i64 cn) ∧ W.cell? ⟨B, 5, none⟩ = some (.int .i64 cd) :=
  ⟨cell_of_row _ _ _ _ _ _ h, cell_of_row _ _ _ _ _ _ h, cell_of_row _ _ _ _ _ _ h, cell_of_row _ _ _ _ _ _ h, cell_of_row _ _ _ _ _ _ h, cell_of_row _ _ _ _ _ _ h⟩

/-- The world with one more design in a box. -/
abbrev dbox (W : World) (kd : Int) (vr : Value) (cn cd : Int) : World := W.alloc (.cells #[.int .i64 kd, vr, .slice none 0 0, .int .i64 0, .int .i64 cn, .int .i64 cd] 30)
theorem dbox_is (W : World) (kd : Int) (vr : Value) (cn cd : Int) : DBox (dbox W kd vr cn cd) W.heap.size kd vr cn cd := heap_alloc_new _ _
theorem dbox_below (W : World) (kd : Int) (vr : Value) (cn cd : Int) : Below W.heap.size W (dbox W kd vr cn cd) := (Below.refl _ _).alloc (Nat.le_refl _) _
theorem dbox_up {W W' : World} {kd : Int} {vr : Value} {cn cd : Int} (h : Below (dbox W kd vr cn cd).heap.size (dbox W kd vr cn cd) W') : Below W.heap.size W W' := (dbox_below W kd vr cn cd).trans (h.mono (by simp))
theorem dbox_size (W : World) (kd : Int) (vr : Value) (cn cd : Int) : (dbox W kd vr cn cd).heap.size = W.heap.size + 1 := World.size_alloc _ _
theorem dbox_up1 {W W' : World} {kd : Int} {vr : Value} {cn cd : Int} (h : Below (W.heap.size + 1) (dbox W kd vr cn cd) W') : Below W.heap.size W W' := dbox_up (by rw [dbox_size]; exact h)
theorem DBox.below1 {W W' : World} {kd : Int} {vr : Value} {cn cd : Int} (h : Below (W.heap.size + 1) (dbox W kd vr cn cd) W') : DBox W' W.heap.size kd vr cn cd := DBox.below (dbox_is W kd vr cn cd) (by rw [dbox_size]; exact h)

/-- A choice in a box. -/
abbrev CBox (W : World) (B : Nat) (c : Ch) : Prop := W.heap[B]? = some (.cells #[.int .i64 c.1, .int .i64 c.2.1, .int .i64 c.2.2] 51 (0, 0))
theorem CBox.below {W W' : World} {B : Nat} {c : Ch} (h : CBox W B c) (hb : Below W.heap.size W W') : CBox W' B c := (hb.block B (Array.getElem?_eq_some_iff.1 h).1).trans h
theorem CBox.cells {W : World} {B : Nat} {c : Ch} (h : CBox W B c) : W.cell? ⟨B, 0, none⟩ = some (.int .i64 c.1) ∧ W.cell? ⟨B, 1, none⟩ = some (.int .i64 c.2.1) ∧ W.cell? ⟨B, 2, none⟩ = some (.int .i64 c.2.2) :=
  ⟨cell_of_row _ _ _ _ _ _ h, cell_of_row _ _ _ _ _ _ h, cell_of_row _ _ _ _ _ _ h⟩

theorem owns_later {e : TypeId} {size : Nat} {W W' : World} {B n : Nat} {v : Value} {xs : List Value} (h : W.ownsRow B e size v n xs) (hb : Below W.heap.size W W') : W'.ownsRow B e size v n xs := by
  refine ⟨h.1, ?_⟩
  rcases h.2 with h | ⟨g, cap, cur, h1, h2, h3, h4⟩
  · exact .inl h
  · exact .inr ⟨g, cap, cur, h1, h2, (hb.block g (Array.getElem?_eq_some_iff.1 h3).1).trans h3, h4⟩

theorem slice_of_owns {W : World} {B : Nat} {e : TypeId} {size n : Nat} {v : Value} {xs : List Value} (h : W.ownsRow B e size v n xs) : ∃ ao cap, v = .slice ao n cap := by
  rcases h.2 with ⟨hv, hn⟩ | ⟨g, cap, cur, hv, _⟩
  · subst hn; exact ⟨_, _, hv⟩
  · exact ⟨_, _, hv⟩

theorem owns_mono {e : TypeId} {size : Nat} {W : World} {B B' n : Nat} {v : Value} {xs : List Value} (h : W.ownsRow B e size v n xs) (hb : B' ≤ B) : W.ownsRow B' e size v n xs := by
  refine ⟨h.1, ?_⟩
  rcases h.2 with h | ⟨g, cap, cur, h1, h2, h3, h4⟩
  · exact .inl h
  · exact .inr ⟨g, cap, cur, h1, by omega, h3, h4⟩

theorem add_none (b off j : Nat) : (Addr.mk b off none).add j = ⟨b, off + j, none⟩ := by
  unfold Addr.add
  by_cases hj0 : j = 0
  · subst hj0; rfl
  · rw [if_neg hj0]

theorem Try.info51 : (Try.prog.info? 51).map (fun i => (i.zero, i.size, i.bytes)) = some (some (.agg #[.int .i64 0, .int .i64 0, .int .i64 0]), 3, 24) := by kernel_rfl
theorem Try.info3 : (Try.prog.info? 3).map (fun i => (i.zero, i.size, i.bytes)) = some (some (.int .i64 0), 1, 8) := by kernel_rfl

/-- Choices as cells. -/
def chs (l : List Ch) : List Value := (l.map fun c => [Value.int .i64 c.1, Value.int .i64 c.2.1, Value.int .i64 c.2.2]).flatten
theorem chs_append (a b : List Ch) : chs (a ++ b) = chs a ++ chs b := by simp [chs]
theorem chs_len (l : List Ch) : (chs l).length = l.length * 3 := by
  induction l with
  | nil => rfl
  | cons c l ih => simp only [chs, List.map_cons, List.flatten_cons, List.length_append, List.length_cons, List.length_nil] at *; omega
theorem chs_get : ∀ (l : List Ch) (j : Nat), j < l.length → (chs l)[j * 3]? = some (.int .i64 (l.getD j (0, 0, 0)).1) ∧ (chs l)[j * 3 + 1]? = some (.int .i64 (l.getD j (0, 0, 0)).2.1) ∧ (chs l)[j * 3 + 2]? = some (.int .i64 (l.getD j (0, 0, 0)).2.2)
  | [], j, h => absurd h (by simp)
  | c :: l, 0, _ => ⟨rfl, rfl, rfl⟩
  | c :: l, j + 1, h => by
    have ih := chs_get l j (by simpa using h)
    have e : chs (c :: l) = [Value.int .i64 c.1, Value.int .i64 c.2.1, Value.int .i64 c.2.2] ++ chs l := rfl
    rw [e, List.getD_cons_succ]
    refine ⟨?_, ?_, ?_⟩
    · rw [List.getElem?_append_right (by simp; omega), show (j + 1) * 3 - [Value.int .i64 c.1, Value.int .i64 c.2.1, Value.int .i64 c.2.2].length = j * 3 by simp; omega]; exact ih.1
    · rw [List.getElem?_append_right (by simp; omega), show (j + 1) * 3 + 1 - [Value.int .i64 c.1, Value.int .i64 c.2.1, Value.int .i64 c.2.2].length = j * 3 + 1 by simp; omega]; exact ih.2.1
    · rw [List.getElem?_append_right (by simp; omega), show (j + 1) * 3 + 2 - [Value.int .i64 c.1, Value.int .i64 c.2.1, Value.int .i64 c.2.2].length = j * 3 + 2 by simp; omega]; exact ih.2.2

/-- A slice of choices, one of ints, of the call's own. -/
abbrev OwC (W : World) (B : Nat) (v : Value) (n : Nat) (l : List Ch) : Prop := W.ownsRow B 51 3 v n (chs l)
def ints (l : List Int) : List Value := l.map fun x => Value.int .i64 x
theorem ints_append (a b : List Int) : ints (a ++ b) = ints a ++ ints b := by simp [ints]
abbrev OwI (W : World) (B : Nat) (v : Value) (n : Nat) (l : List Int) : Prop := W.ownsRow B 3 1 v n (ints l)

theorem owC_len {W : World} {B n : Nat} {v : Value} {l : List Ch} (h : OwC W B v n l) : n = l.length := by
  have := h.1
  rw [chs_len] at this
  omega
theorem owI_len {W : World} {B n : Nat} {v : Value} {l : List Int} (h : OwI W B v n l) : n = l.length := by
  have := h.1
  simp [ints] at this
  omega

theorem OwC.cx {W : World} {B n : Nat} {v : Value} {l : List Ch} (h : OwC W B v n l) (hn : n ≤ 1000) (hf : ∀ k, I64 (l.getD k (0, 0, 0)).1 ∧ I64 (l.getD k (0, 0, 0)).2.1 ∧ I64 (l.getD k (0, 0, 0)).2.2) : Cx W v l := by
  have hl := owC_len h
  rcases h.2 with ⟨hv, h0⟩ | ⟨g, cap, cur, hv, hB, hg, hc, hm, hs, ht⟩
  · have e : l = [] := List.eq_nil_of_length_eq_zero (by omega)
    subst e h0
    exact ⟨by simp, hf, .inl ⟨rfl, _, _, hv⟩⟩
  · subst hl
    refine ⟨by unfold maxLen; omega, hf, .inr ⟨g, 0, cap, hv, hc, (Array.getElem?_eq_some_iff.1 hg).1, fun j hj => ?_⟩⟩
    have hcl : ∀ i, i < l.length * 3 → W.cell? ⟨g, 0 + i, none⟩ = (chs l)[i]? := fun i hi => by
      have e : (cur.toList.take (l.length * 3))[i]? = (chs l)[i]? := by rw [ht]
      rw [List.getElem?_take_of_lt hi] at e
      rw [cell_of_row _ _ _ _ _ _ hg, Nat.zero_add, ← Array.getElem?_toList, e]
    obtain ⟨g1, g2, g3⟩ := chs_get l j hj
    refine ⟨?_, ?_, ?_⟩
    · rw [hcl (j * 3) (by omega)]; exact g1
    · rw [show 0 + j * 3 + 1 = 0 + (j * 3 + 1) by omega, hcl (j * 3 + 1) (by omega)]; exact g2
    · rw [show 0 + j * 3 + 2 = 0 + (j * 3 + 2) by omega, hcl (j * 3 + 2) (by omega)]; exact g3

theorem OwI.ix {W : World} {B n : Nat} {v : Value} {l : List Int} (h : OwI W B v n l) (hn : n ≤ 1000) (hf : ∀ k, I64 (l.getD k 0)) : Ix W v l := by
  have hl := owI_len h
  rcases h.2 with ⟨hv, h0⟩ | ⟨g, cap, cur, hv, hB, hg, hc, hm, hs, ht⟩
  · have e : l = [] := List.eq_nil_of_length_eq_zero (by omega)
    subst e h0
    exact ⟨by simp, hf, .inl ⟨rfl, _, _, hv, fun _ => rfl⟩⟩
  · subst hl
    refine ⟨by unfold maxLen; omega, hf, .inr ⟨g, 0, cap, hv, hc, (Array.getElem?_eq_some_iff.1 hg).1, fun j hj => ?_⟩⟩
    have e : (cur.toList.take (l.length * 1))[j]? = (ints l)[j]? := by rw [ht]
    rw [List.getElem?_take_of_lt (by omega)] at e
    rw [cell_of_row _ _ _ _ _ _ hg, Nat.zero_add, ← Array.getElem?_toList, e]
    simp [ints, List.getD, hj]

def appC (ty : TypeId) (vs : Array Value) : Sem Value := Builtin.append_ #[46, 46] ty vs
theorem appC_rw (ty : TypeId) (vs : Array Value) : Builtin.append_ #[46, 46] ty vs = appC ty vs := rfl
def appI (ty : TypeId) (vs : Array Value) : Sem Value := Builtin.append_ #[22, 22] ty vs
theorem appI_rw (ty : TypeId) (vs : Array Value) : Builtin.append_ #[22, 22] ty vs = appI ty vs := rfl

/-- An append of one choice. -/
theorem push_choice {W : World} {B n : Nat} {v : Value} {l : List Ch} (h : OwC W B v n l) (hn : n ≤ 1000) (hB : B ≤ W.heap.size) (x y z : Int) :
    ∃ g cap2 w2, Sem.run Try.prog (appC 46 #[v, .slice (some ⟨W.heap.size, 0, none⟩) 1 1]) (W.alloc (.cells #[.int .i64 x, .int .i64 y, .int .i64 z] 51)) = .ok (.slice (some ⟨g, 0, none⟩) (n + 1) cap2) w2 ∧ OwC w2 B (.slice (some ⟨g, 0, none⟩) (n + 1) cap2) (n + 1) (l ++ [(x, y, z)]) ∧ Below B W w2 ∧ (W.alloc (.cells #[.int .i64 x, .int .i64 y, .int .i64 z] 51)).grownBy w2 v.ownBlock ∧ (v.ownBlock = some g ∨ g = W.heap.size + 1) ∧ g < w2.heap.size := by
  obtain ⟨i0, hii, hz0, hz1, hz2⟩ := info_parts Try.info51
  have hown3 : (W.alloc (.cells #[.int .i64 x, .int .i64 y, .int .i64 z] 51)).ownsRow B 51 3 v n (chs l) := owns_later h ((Below.refl _ _).alloc (Nat.le_refl _) _)
  obtain ⟨g, cap4, w4, hrun4, hown4, hgrow4, hg, hlt⟩ := run_append_lies (P := Try.prog) (w := W.alloc (.cells #[.int .i64 x, .int .i64 y, .int .i64 z] 51)) 46 46 B 51 i0 (.agg #[.int .i64 0, .int .i64 0, .int .i64 0]) 3 24 Try.underlying46 hii hz0 hz1 hz2 rfl (by decide) _ n _ hown3 ⟨W.heap.size, 0, none⟩ 1 1 [.int .i64 x, .int .i64 y, .int .i64 z] rfl
    (fun j u hu => by
      rw [add_none, Nat.zero_add, cell_of_row _ _ _ _ _ _ (heap_alloc_new _ _)]
      rw [← hu, ← Array.getElem?_toList])
    (fun u hu => by simp at hu; rcases hu with rfl | rfl | rfl <;> rfl) (by omega) (by unfold maxLen; omega) (by omega) (by simp; omega) _ (World.size_alloc _ _)
  rw [appC_rw] at hrun4
  exact ⟨g, cap4, w4, hrun4, by rw [OwC, chs_append]; exact hown4, (((Below.refl B W).alloc hB _)).grown hgrow4 (by simp; omega) (fun j hj => (hown3.lt j hj).1), hgrow4, hg, hlt⟩

/-- An append of one int. -/
theorem push_int {W : World} {B n : Nat} {v : Value} {l : List Int} (h : OwI W B v n l) (hn : n ≤ 1000) (hB : B ≤ W.heap.size) (x : Int) :
    ∃ g cap2 w2, Sem.run Try.prog (appI 22 #[v, .slice (some ⟨W.heap.size, 0, none⟩) 1 1]) (W.alloc (.cells #[.int .i64 x] 3)) = .ok (.slice (some ⟨g, 0, none⟩) (n + 1) cap2) w2 ∧ OwI w2 B (.slice (some ⟨g, 0, none⟩) (n + 1) cap2) (n + 1) (l ++ [x]) ∧ Below B W w2 ∧ (W.alloc (.cells #[.int .i64 x] 3)).grownBy w2 v.ownBlock ∧ (v.ownBlock = some g ∨ g = W.heap.size + 1) ∧ g < w2.heap.size := by
  obtain ⟨i0, hii, hz0, hz1, hz2⟩ := info_parts Try.info3
  have hown3 : (W.alloc (.cells #[.int .i64 x] 3)).ownsRow B 3 1 v n (ints l) := owns_later h ((Below.refl _ _).alloc (Nat.le_refl _) _)
  obtain ⟨g, cap4, w4, hrun4, hown4, hgrow4, hg, hlt⟩ := run_append_lies (P := Try.prog) (w := W.alloc (.cells #[.int .i64 x] 3)) 22 22 B 3 i0 (.int .i64 0) 1 8 Try.underlying22 hii hz0 hz1 hz2 rfl (by decide) _ n _ hown3 ⟨W.heap.size, 0, none⟩ 1 1 [.int .i64 x] rfl (cell_one_new W (.int .i64 x) 3) (fun u hu => by simp at hu; subst hu; rfl) (by omega) (by unfold maxLen; omega) (by omega) (by simp; omega) _ (World.size_alloc _ _)
  rw [appI_rw] at hrun4
  exact ⟨g, cap4, w4, hrun4, by rw [OwI, ints_append]; exact hown4, (((Below.refl B W).alloc hB _)).grown hgrow4 (by simp; omega) (fun j hj => (hown3.lt j hj).1), hgrow4, hg, hlt⟩

theorem fit_nil (k : Nat) : I64 (([] : List Int).getD k 0) := by simp; decide

end Go.Proofs.Ytcpgoaombabfjaa

namespace Go.Proofs.Ytcpgoaombabfjaa
open Go.ChangeShapes Go.WideShapes Go.ChangeAt Go.RowKit

theorem own : ownKnob Try.prog.godebug = none := by kernel_rfl
theorem laidOut : laidOutB Try.prog = true := by kernel_rfl

theorem u8_wf {a : Int} (h : (Lit.int .u8 a).wf = true) : 0 ≤ a ∧ a ≤ 255 := by
  simp only [Lit.wf, IntKind.min, IntKind.max, IntKind.signed, IntKind.bits, Bool.and_eq_true, decide_eq_true_eq] at h
  simpa using h
theorem i64_wf {a : Int} (h : (Lit.int .i64 a).wf = true) : I64 a := by
  simp only [Lit.wf, IntKind.min, IntKind.max, IntKind.signed, IntKind.bits, Bool.and_eq_true, decide_eq_true_eq] at h
  simpa using h

theorem cells5 : Try.prog.cellsOf 5 = 1 := by kernel_rfl
theorem cells3 : Try.prog.cellsOf 3 = 1 := by kernel_rfl
theorem cells22 : Try.prog.cellsOf 22 = 1 := by kernel_rfl
theorem cells24 : Try.prog.cellsOf 24 = 3 := by kernel_rfl
theorem cells25 : Try.prog.cellsOf 25 = 2 := by kernel_rfl
theorem cells53 : Try.prog.cellsOf 53 = 2 := by kernel_rfl

theorem spotless {W : World} {a : Addr} {v : Value} (h : W.cell? a = some v) : a.spot = none ∧ a.block < W.heap.size := by
  unfold World.cell? at h
  cases hb : W.heap[a.block]? with
  | none => rw [hb] at h; cases h
  | some o =>
    have hlt := (Array.getElem?_eq_some_iff.1 hb).1
    rw [hb] at h
    cases o <;> simp at h
    exact ⟨h.1, hlt⟩

/-- A slice of numbers of one kind that came in. -/
theorem open_kind {H : Type} {enc : TypeId × Value → H} {W : World} {fuel : Nat} {c : Value} {y : DataW H × List MemPlace} {t e : TypeId} {k : IntKind} (ht : Try.prog.underlying t = some (.slice e)) (he : Try.prog.underlying e = some (.int k)) (hce : Try.prog.cellsOf e = 1) (lo hi : Int) (h0lo : lo ≤ 0 ∧ 0 ≤ hi) (hwf : ∀ a : Int, (Lit.int k a).wf = true → lo ≤ a ∧ a ≤ hi)
    (h : DataW.trod enc Try.prog W 0 (fun _ => true) true fuel t [c] = some y) : ∃ ao n cap, ∃ l : List Int, c = .slice ao n cap ∧ n = l.length ∧ l.length ≤ maxLen ∧ (∀ k, lo ≤ l.getD k 0 ∧ l.getD k 0 ≤ hi) ∧ ((l = [] ∧ ∃ ao' cap', Value.slice ao n cap = .slice ao' 0 cap' ∧ (ao' = none → cap' = 0)) ∨ ∃ b off cap', Value.slice ao n cap = .slice (some ⟨b, off, none⟩) l.length cap' ∧ l.length ≤ cap' ∧ b < W.heap.size ∧ ∀ j, j < l.length → W.cell? ⟨b, off + j, none⟩ = some (.int k (l.getD j 0))) := by
  rcases open_ints ht he hce h with ⟨hcs, _⟩ | ⟨a, len, cap, zs, hcs, _, hl, hm, hz, _, hcell, hw⟩
  · simp only [List.cons.injEq, and_true] at hcs
    subst hcs
    exact ⟨none, 0, 0, [], rfl, rfl, by simp, fun k => by simpa using h0lo, .inl ⟨rfl, _, _, rfl, fun _ => rfl⟩⟩
  · simp only [List.cons.injEq, and_true] at hcs
    subst hcs
    simp only [if_true] at hz
    have hlen : (zs.take len).length = len := by rw [List.length_take]; omega
    have hfit : ∀ k, lo ≤ (zs.take len).getD k 0 ∧ (zs.take len).getD k 0 ≤ hi := fun k => by
      by_cases hk : k < (zs.take len).length
      · rw [List.getD_eq_getElem?_getD, List.getElem?_eq_getElem hk]
        exact hwf _ (hw _ (List.mem_of_mem_take (List.getElem_mem hk)))
      · rw [show (zs.take len).getD k 0 = 0 by simp [List.getD, List.getElem?_eq_none (Nat.le_of_not_lt hk)]]
        exact h0lo
    refine ⟨some a, len, cap, zs.take len, rfl, hlen.symm, by rw [hlen]; omega, hfit, ?_⟩
    by_cases h0 : len = 0
    · subst h0
      exact .inl ⟨by simp, _, _, rfl, fun h => by cases h⟩
    · obtain ⟨hs0, hb0⟩ := spotless (hcell 0 (by omega))
      obtain ⟨b, off, spot⟩ := a
      have hs1 : spot = none := hs0
      subst hs1
      refine .inr ⟨b, off, cap, by rw [hlen], by rw [hlen]; exact hl, hb0, fun j hj => ?_⟩
      rw [hlen] at hj
      have hc := hcell j (by omega)
      rw [add_none] at hc
      rw [hc]
      simp [List.getD, List.getElem?_take, hj]

theorem open_ix {H : Type} {enc : TypeId × Value → H} {W : World} {fuel : Nat} {c : Value} {y : DataW H × List MemPlace} (h : DataW.trod enc Try.prog W 0 (fun _ => true) true fuel 22 [c] = some y) : ∃ l, Ix W c l := by
  obtain ⟨ao, n, cap, l, rfl, _, h1, h2, h3⟩ := open_kind Try.underlying22 Try.underlying3 cells3 (-9223372036854775808) 9223372036854775807 (by decide) (fun a h => i64_wf h) h
  exact ⟨l, h1, h2, h3⟩

theorem okWide_arr {P : Program} {W : World} {r : Reach} {b0 : Nat} {t e : TypeId} {n : Nat} {v : Value} (ht : P.underlying t = some (.array n e)) (h : Value.okWide P W r b0 t v) : ∃ cs, v = .agg cs ∧ cs.size = P.cellsOf t := by
  simp only [Value.okWide, ht] at h
  cases v <;> simp_all [Cell.okWide, Cell.ok]
theorem array_two {cs : Array Value} (h : cs.size = 2) : ∃ c0 c1, cs = #[c0, c1] := by
  obtain ⟨l⟩ := cs
  match l, h with
  | [a, b], _ => exact ⟨a, b, rfl⟩
theorem array_three {cs : Array Value} (h : cs.size = 3) : ∃ c0 c1 c2, cs = #[c0, c1, c2] := by
  obtain ⟨l⟩ := cs
  match l, h with
  | [a, b, c], _ => exact ⟨a, b, c, rfl⟩

theorem trod_arr2 {H : Type} {enc : TypeId × Value → H} {P : Program} {w : World} {base : Nat} {spare : Nat → Bool} {held : Bool} {t e : TypeId} {fuel : Nat} {c0 c1 : Value} {x : DataW H × List MemPlace} (ht : P.underlying t = some (.array 2 e)) (hce : P.cellsOf e = 1)
    (h : DataW.trod enc P w base spare held fuel t [c0, c1] = some x) :
    ∃ y0 y1 n, DataW.trod enc P w base spare held n e [c0] = some y0 ∧ DataW.trod enc P w base spare held n e [c1] = some y1 := by
  cases fuel with
  | zero => simp [DataW.trod] at h
  | succ n =>
    unfold DataW.trod at h
    rw [ht] at h
    have r2 : List.range 2 = [0, 1] := rfl
    simp [r2, hce] at h
    obtain ⟨_, h⟩ := h
    cases h0 : DataW.trod enc P w base spare held n e [c0] with
    | none => simp [h0] at h
    | some y0 =>
      cases h1 : DataW.trod enc P w base spare held n e [c1] with
      | none => simp [h0, h1] at h
      | some y1 => exact ⟨y0, y1, n, h0, h1⟩

set_option maxRecDepth 100000 in
theorem open_i64s {H : Type} {enc : TypeId × Value → H} {W : World} {r : Reach} {b0 : Nat} {v : Value} {d : DataW H} {p : List MemPlace} (hv : Value.okWide Try.prog W r b0 22 v) (h : DataW.Trod enc Try.prog W 0 (fun _ => true) true 22 v d p) : ∃ ao n cap l, v = .slice ao n cap ∧ Ix W (.slice ao n cap) l := by
  obtain ⟨a, n, c, rfl⟩ := okWide_slice Try.underlying22 hv
  obtain ⟨fuel, hf⟩ := h
  obtain ⟨l, h⟩ := open_ix hf
  exact ⟨_, _, _, l, rfl, h⟩
set_option maxRecDepth 100000 in
theorem open_u8 {H : Type} {enc : TypeId × Value → H} {W : World} {r : Reach} {b0 : Nat} {v : Value} {d : DataW H} {p : List MemPlace} (hv : Value.okWide Try.prog W r b0 5 v) (h : DataW.Trod enc Try.prog W 0 (fun _ => true) true 5 v d p) : ∃ a : Nat, v = .int .u8 (a : Int) ∧ a ≤ 255 := by
  obtain ⟨n, rfl⟩ := okWide_int Try.underlying5 hv
  obtain ⟨fuel, hf⟩ := h
  obtain ⟨a, e, _, w⟩ := DataW.trod_int Try.underlying5 hf
  have e2 : [Value.int .u8 n] = [.int .u8 a] := e
  simp only [List.cons.injEq, Value.int.injEq, true_and, and_true] at e2
  subst e2
  have := u8_wf w
  exact ⟨n.toNat, by rw [Int.toNat_of_nonneg this.1], by omega⟩
set_option maxRecDepth 100000 in
theorem open_i2 {H : Type} {enc : TypeId × Value → H} {W : World} {r : Reach} {b0 : Nat} {v : Value} {d : DataW H} {p : List MemPlace} (hv : Value.okWide Try.prog W r b0 25 v) (h : DataW.Trod enc Try.prog W 0 (fun _ => true) true 25 v d p) : ∃ a b : Int, v = .agg #[.int .i64 a, .int .i64 b] ∧ I64 a ∧ I64 b := by
  obtain ⟨cs, rfl, hs⟩ := okWide_arr Try.underlying25 hv
  obtain ⟨v0, v1, rfl⟩ := array_two (hs.trans cells25)
  obtain ⟨fuel, hf⟩ := h
  obtain ⟨y0, y1, n, h0, h1⟩ := trod_arr2 Try.underlying25 cells3 hf
  obtain ⟨a, e0, _, w0⟩ := DataW.trod_int Try.underlying3 h0
  obtain ⟨b, e1, _, w1⟩ := DataW.trod_int Try.underlying3 h1
  simp at e0 e1
  exact ⟨a, b, by rw [e0, e1], i64_wf w0, i64_wf w1⟩

end Go.Proofs.Ytcpgoaombabfjaa

namespace Go.Proofs.Ytcpgoaombabfjaa
open Go.RowKit

/-- How many of the first arms are open. -/
def cnt (r : List Int) : Nat → Nat
  | 0 => 0
  | k + 1 => cnt r k + if 0 < r.getD k 0 then 1 else 0
/-- Is a ratio proper, is a row? -/
def prB (r : List Int) : Bool := decide (r.length ≤ 6) && inB 0 8 r && decide (2 ≤ cnt r r.length)
def fiB (r row : List Int) : Bool := decide (row.length = 0) || (decide (row.length = r.length) && inB 0 1048575 row)
def unV (r row : List Int) : List Int := if row.length = 0 then List.replicate r.length 0 else row
def mor (l : List Int) (k : Nat) : List Int := l.set k (l.getD k 0 + 1)
/-- The least common multiple of the first arms' ratio. -/
def mulN (r : List Int) : Nat → Nat
  | 0 => 1
  | k + 1 => if 0 < r.getD k 0 then Nat.lcm (mulN r k) (r.getD k 0).toNat else mulN r k
def load (r l : List Int) (m : Nat) (k : Nat) : Int := l.getD k 0 * ((m : Int) / r.getD k 0)
def ldN (r l : List Int) (m : Nat) : Nat → List Int
  | 0 => []
  | k + 1 => ldN r l m k ++ if 0 < r.getD k 0 then [load r l m k] else []
def maxL : List Int → Int
  | [] => 0
  | x :: l => l.foldl max x
def minL : List Int → Int
  | [] => 0
  | x :: l => l.foldl min x
def unev (r l : List Int) : Int := maxL (ldN r l (mulN r r.length) r.length) - minL (ldN r l (mulN r r.length) r.length)
/-- Uneven. -/
def uneV (r row : List Int) : Int := if (prB r && fiB r row) = true then unev r (unV r row) else 0
/-- Both together, with one unit more of an arm. -/
def tog (r s t : List Int) (k : Nat) : Int := unev r (mor s k) + unev r (mor t k)
/-- The best of the first arms, and how uneven they are. -/
def best (r s t : List Int) : Nat → List Int × Int
  | 0 => ([], 0)
  | k + 1 => if 0 < r.getD k 0 then
      (if (best r s t k).1 = [] ∨ tog r s t k < (best r s t k).2 then ([(k : Int)], tog r s t k)
       else if tog r s t k = (best r s t k).2 then ((best r s t k).1 ++ [(k : Int)], (best r s t k).2) else best r s t k)
    else best r s t k
def prfB (r s t : List Int) : Bool := prB r && fiB r s && fiB r t
def prfV (r s t : List Int) : List Int := if prfB r s t = true then (best r (unV r s) (unV r t) r.length).1 else []
/-- The ratio of those that are preferred, of the others, among the first arms. -/
def sumF (r p : List Int) : Nat → Int
  | 0 => 0
  | k + 1 => sumF r p k + if 0 < r.getD k 0 ∧ (k : Int) ∈ p then r.getD k 0 else 0
def sumG (r p : List Int) : Nat → Int
  | 0 => 0
  | k + 1 => sumG r p k + if 0 < r.getD k 0 ∧ ¬ (k : Int) ∈ p then r.getD k 0 else 0
def wgt (r p : List Int) (cn cd f g : Int) (k : Nat) : Int := if g = 0 then r.getD k 0 else if (k : Int) ∈ p then r.getD k 0 * (cn * g) else r.getD k 0 * ((cd - cn) * f)
def chN (r p : List Int) (cn cd f g : Int) : Nat → List Ch
  | 0 => []
  | k + 1 => chN r p cn cd f g k ++ if 0 < r.getD k 0 ∧ 0 < wgt r p cn cd f g k then [(wgt r p cn cd f g k, 0, (k : Int))] else []
/-- Does a small fraction fit, can it be tossed? -/
def fitF (cn cd : Int) : Bool := decide (1 ≤ cd) && decide (Nat.gcd cn.natAbs cd.natAbs = 1)
def tosB (cn cd : Int) : Bool := fitF cn cd && decide (cd ≤ 100) && decide (2 * cn ≥ cd) && decide (cn ≤ cd)
def chV (r s t : List Int) (cn cd : Int) : List Ch :=
  if prfV r s t ≠ [] ∧ tosB cn cd = true then chN r (prfV r s t) cn cd (sumF r (prfV r s t) r.length) (sumG r (prfV r s t) r.length) r.length else []
/-- Next. -/
def nxB (r row : List Int) (arm : Int) : Bool := prB r && fiB r row && (decide (0 ≤ arm) && decide (arm < r.length)) && decide (0 < r.getD arm.toNat 0) && decide ((unV r row).getD arm.toNat 0 ≠ 1048575)
def nxV (r row : List Int) (arm : Int) : List Int := if nxB r row arm = true then mor (unV r row) arm.toNat else []

theorem prB_iff {r : List Int} : prB r = true ↔ r.length ≤ 6 ∧ (∀ k, k < r.length → 0 ≤ r.getD k 0 ∧ r.getD k 0 ≤ 8) ∧ 2 ≤ cnt r r.length := by
  unfold prB
  rw [Bool.and_eq_true, Bool.and_eq_true, decide_eq_true_iff, decide_eq_true_iff, inB_iff, and_assoc]

theorem out_zero {l : List Int} {k : Nat} (h : l.length ≤ k) : l.getD k 0 = 0 := by simp [List.getD, List.getElem?_eq_none h]

theorem prB_all {r : List Int} (h : prB r = true) (k : Nat) : 0 ≤ r.getD k 0 ∧ r.getD k 0 ≤ 8 := by
  by_cases hk : k < r.length
  · exact (prB_iff.1 h).2.1 k hk
  · rw [out_zero (by omega)]; omega

theorem cnt_le (r : List Int) : ∀ k, cnt r k ≤ k
  | 0 => Nat.le_refl _
  | k + 1 => by have := cnt_le r k; rw [cnt]; split <;> omega

theorem mulN_pos {r : List Int} : ∀ k, 0 < mulN r k
  | 0 => by rw [mulN]; omega
  | k + 1 => by
    rw [mulN]
    split
    · exact Nat.lcm_pos (mulN_pos k) (by omega)
    · exact mulN_pos k

theorem small_dvd {n : Nat} (h1 : 0 < n) (h2 : n ≤ 8) : n ∣ 840 := by
  rcases (show n = 1 ∨ n = 2 ∨ n = 3 ∨ n = 4 ∨ n = 5 ∨ n = 6 ∨ n = 7 ∨ n = 8 by omega) with rfl | rfl | rfl | rfl | rfl | rfl | rfl | rfl <;> decide

theorem mulN_dvd {r : List Int} (h : ∀ k, r.getD k 0 ≤ 8) : ∀ k, mulN r k ∣ 840
  | 0 => by rw [mulN]; exact Nat.one_dvd _
  | k + 1 => by
    rw [mulN]
    split
    · have := h k
      exact Nat.lcm_dvd (mulN_dvd h k) (small_dvd (by omega) (by omega))
    · exact mulN_dvd h k
theorem mulN_le {r : List Int} (h : ∀ k, r.getD k 0 ≤ 8) (k : Nat) : mulN r k ≤ 840 := Nat.le_of_dvd (by decide) (mulN_dvd h k)

theorem mulN_step {r : List Int} {k : Nat} : mulN r k ∣ mulN r (k + 1) := by
  rw [mulN]
  split
  · exact Nat.dvd_lcm_left _ _
  · exact Nat.dvd_refl _
theorem mulN_div {r : List Int} {j : Nat} (hj : 0 < r.getD j 0) : ∀ {k}, j < k → (r.getD j 0).toNat ∣ mulN r k
  | k + 1, h => by
    by_cases he : j = k
    · subst he
      rw [mulN, if_pos hj]
      exact Nat.dvd_lcm_right _ _
    · exact Nat.dvd_trans (mulN_div hj (by omega)) mulN_step

theorem ldN_len (r l : List Int) (m : Nat) : ∀ k, (ldN r l m k).length = cnt r k
  | 0 => rfl
  | k + 1 => by
    rw [ldN, cnt, List.length_append, ldN_len r l m k]
    split <;> rfl
theorem mem_ldN {r l : List Int} {m : Nat} {x : Int} : ∀ {k}, x ∈ ldN r l m k ↔ ∃ j, j < k ∧ 0 < r.getD j 0 ∧ x = load r l m j
  | 0 => by simp [ldN]
  | k + 1 => by
    rw [ldN, List.mem_append, mem_ldN (k := k)]
    constructor
    · rintro (⟨j, h1, h2, h3⟩ | h)
      · exact ⟨j, by omega, h2, h3⟩
      · split at h
        · rename_i h0
          exact ⟨k, by omega, h0, by simpa using h⟩
        · simp at h
    · rintro ⟨j, h1, h2, h3⟩
      by_cases hj : j = k
      · subst hj
        right
        rw [if_pos h2, h3]; simp
      · exact .inl ⟨j, by omega, h2, h3⟩

theorem foldl_max : ∀ (l : List Int) (x : Int), (l.foldl max x = x ∨ l.foldl max x ∈ l) ∧ x ≤ l.foldl max x ∧ ∀ y ∈ l, y ≤ l.foldl max x
  | [], x => ⟨.inl rfl, Int.le_refl _, by simp⟩
  | y :: l, x => by
    obtain ⟨h1, h2, h3⟩ := foldl_max l (max x y)
    refine ⟨?_, by simp only [List.foldl_cons]; omega, fun z hz => ?_⟩
    · simp only [List.foldl_cons]
      rcases h1 with h1 | h1
      · rw [h1]
        by_cases h : x ≤ y
        · right; rw [show max x y = y by omega]; simp
        · left; omega
      · exact .inr (List.mem_cons_of_mem _ h1)
    · simp only [List.foldl_cons]
      rcases List.mem_cons.1 hz with rfl | hz
      · omega
      · exact h3 z hz
theorem foldl_min : ∀ (l : List Int) (x : Int), (l.foldl min x = x ∨ l.foldl min x ∈ l) ∧ l.foldl min x ≤ x ∧ ∀ y ∈ l, l.foldl min x ≤ y
  | [], x => ⟨.inl rfl, Int.le_refl _, by simp⟩
  | y :: l, x => by
    obtain ⟨h1, h2, h3⟩ := foldl_min l (min x y)
    refine ⟨?_, by simp only [List.foldl_cons]; omega, fun z hz => ?_⟩
    · simp only [List.foldl_cons]
      rcases h1 with h1 | h1
      · rw [h1]
        by_cases h : x ≤ y
        · left; omega
        · right; rw [show min x y = y by omega]; simp
      · exact .inr (List.mem_cons_of_mem _ h1)
    · simp only [List.foldl_cons]
      rcases List.mem_cons.1 hz with rfl | hz
      · omega
      · exact h3 z hz

theorem maxL_is {l : List Int} (h : l ≠ []) : maxL l ∈ l ∧ ∀ y ∈ l, y ≤ maxL l := by
  cases l with
  | nil => exact absurd rfl h
  | cons x l =>
    obtain ⟨h1, h2, h3⟩ := foldl_max l x
    refine ⟨?_, fun y hy => ?_⟩
    · rcases h1 with h1 | h1
      · simp only [maxL, h1]; simp
      · exact List.mem_cons_of_mem _ h1
    · rcases List.mem_cons.1 hy with rfl | hy
      · exact h2
      · exact h3 y hy
theorem minL_is {l : List Int} (h : l ≠ []) : minL l ∈ l ∧ ∀ y ∈ l, minL l ≤ y := by
  cases l with
  | nil => exact absurd rfl h
  | cons x l =>
    obtain ⟨h1, h2, h3⟩ := foldl_min l x
    refine ⟨?_, fun y hy => ?_⟩
    · rcases h1 with h1 | h1
      · simp only [minL, h1]; simp
      · exact List.mem_cons_of_mem _ h1
    · rcases List.mem_cons.1 hy with rfl | hy
      · exact h2
      · exact h3 y hy

/-- How loads are bounded. -/
theorem load_in {r l : List Int} {m k : Nat} (hr : 0 < r.getD k 0) (hm : m ≤ 840) (hl : 0 ≤ l.getD k 0 ∧ l.getD k 0 ≤ 1048576) : 0 ≤ load r l m k ∧ load r l m k ≤ 880803840 := by
  unfold load
  have h1 : 0 ≤ (m : Int) / r.getD k 0 := Int.ediv_nonneg (by omega) (by omega)
  have h2 : (m : Int) / r.getD k 0 ≤ 840 := Int.le_trans (Int.ediv_le_self _ (by omega)) (by omega)
  refine ⟨Int.mul_nonneg hl.1 h1, ?_⟩
  exact Int.le_trans (Int.mul_le_mul hl.2 h2 h1 (by omega)) (by omega)

theorem ld_ne {r l : List Int} {m : Nat} (h : prB r = true) : ldN r l m r.length ≠ [] := by
  intro e
  have := ldN_len r l m r.length
  rw [e] at this
  have := (prB_iff.1 h).2.2
  simp at *
  omega

/-- The unevenness lies between two loads. -/
theorem unev_is {r l : List Int} (h : prB r = true) : ∃ a b, (a < r.length ∧ 0 < r.getD a 0) ∧ (b < r.length ∧ 0 < r.getD b 0) ∧ unev r l = load r l (mulN r r.length) a - load r l (mulN r r.length) b ∧ ∀ c, c < r.length → 0 < r.getD c 0 → load r l (mulN r r.length) b ≤ load r l (mulN r r.length) c ∧ load r l (mulN r r.length) c ≤ load r l (mulN r r.length) a := by
  obtain ⟨h1, h2⟩ := maxL_is (ld_ne (l := l) (m := mulN r r.length) h)
  obtain ⟨h3, h4⟩ := minL_is (ld_ne (l := l) (m := mulN r r.length) h)
  obtain ⟨a, a1, a2, a3⟩ := mem_ldN.1 h1
  obtain ⟨b, b1, b2, b3⟩ := mem_ldN.1 h3
  refine ⟨a, b, ⟨a1, a2⟩, ⟨b1, b2⟩, by unfold unev; rw [a3, b3], fun c c1 c2 => ⟨?_, ?_⟩⟩
  · rw [← b3]; exact h4 _ (mem_ldN.2 ⟨c, c1, c2, rfl⟩)
  · rw [← a3]; exact h2 _ (mem_ldN.2 ⟨c, c1, c2, rfl⟩)

theorem unev_in {r l : List Int} (h : prB r = true) (hl : ∀ k, 0 ≤ l.getD k 0 ∧ l.getD k 0 ≤ 1048576) : 0 ≤ unev r l ∧ unev r l ≤ 880803840 := by
  obtain ⟨a, b, ⟨_, a2⟩, ⟨b1, b2⟩, e, hc⟩ := unev_is (l := l) h
  have hm := mulN_le (fun k => (prB_all h k).2) r.length
  have := load_in a2 hm (hl a)
  have := load_in b2 hm (hl b)
  have := (hc b b1 b2).2
  rw [e]; omega

theorem mor_len {l : List Int} {k : Nat} : (mor l k).length = l.length := by simp [mor]
theorem mor_get {l : List Int} {k j : Nat} (hk : k < l.length) : (mor l k).getD j 0 = if j = k then l.getD k 0 + 1 else l.getD j 0 := by
  unfold mor
  by_cases h : j = k
  · subst h
    rw [if_pos rfl]
    simp [List.getD, hk]
  · rw [if_neg h]
    simp only [List.getD]
    rw [List.getElem?_set_ne (by omega)]
theorem mor_out {l : List Int} {k j : Nat} (hk : ¬ k < l.length) : (mor l k).getD j 0 = l.getD j 0 := by
  unfold mor
  rw [List.set_eq_of_length_le (by omega)]

theorem unV_len {r row : List Int} (h : fiB r row = true) : (unV r row).length = r.length := by
  unfold unV
  unfold fiB at h
  split
  · simp
  · rename_i h0
    simp [h0] at h
    exact h.1
theorem unV_get0 {r row : List Int} (h : row.length = 0) (k : Nat) : (unV r row).getD k 0 = 0 := by
  unfold unV
  rw [if_pos h]
  simp [List.getD]
  by_cases hk : k < r.length
  · rw [List.getElem?_replicate, if_pos hk]; rfl
  · rw [List.getElem?_replicate, if_neg hk]; rfl
theorem unV_in {r row : List Int} (h : fiB r row = true) (k : Nat) : 0 ≤ (unV r row).getD k 0 ∧ (unV r row).getD k 0 ≤ 1048575 := by
  by_cases h0 : row.length = 0
  · rw [unV_get0 h0]; omega
  · unfold unV
    rw [if_neg h0]
    by_cases hk : k < row.length
    · unfold fiB at h
      simp [h0] at h
      exact (inB_iff.1 h.2) k hk
    · rw [out_zero (by omega)]; omega
theorem mor_in {l : List Int} (h : ∀ k, 0 ≤ l.getD k 0 ∧ l.getD k 0 ≤ 1048575) (k j : Nat) : 0 ≤ (mor l k).getD j 0 ∧ (mor l k).getD j 0 ≤ 1048576 := by
  by_cases hk : k < l.length
  · rw [mor_get hk]
    have := h k
    have := h j
    split <;> omega
  · rw [mor_out hk]
    have := h j
    omega
theorem tog_in {r s t : List Int} (h : prB r = true) (hs : ∀ k, 0 ≤ s.getD k 0 ∧ s.getD k 0 ≤ 1048575) (ht : ∀ k, 0 ≤ t.getD k 0 ∧ t.getD k 0 ≤ 1048575) (k : Nat) : 0 ≤ tog r s t k ∧ tog r s t k ≤ 1761607680 := by
  have := unev_in h (mor_in hs k)
  have := unev_in h (mor_in ht k)
  unfold tog
  omega

theorem best_in {r s t : List Int} (h : prB r = true) (hs : ∀ k, 0 ≤ s.getD k 0 ∧ s.getD k 0 ≤ 1048575) (ht : ∀ k, 0 ≤ t.getD k 0 ∧ t.getD k 0 ≤ 1048575) : ∀ k, 0 ≤ (best r s t k).2 ∧ (best r s t k).2 ≤ 1761607680
  | 0 => by simp [best]
  | k + 1 => by
    have := best_in h hs ht k
    have := tog_in h hs ht k
    rw [best]
    split
    · split
      · simpa using by assumption
      · split
        · simpa using by assumption
        · assumption
    · assumption
theorem best_len (r s t : List Int) : ∀ k, (best r s t k).1.length ≤ k
  | 0 => by simp [best]
  | k + 1 => by
    have := best_len r s t k
    rw [best]
    split
    · split
      · simp
      · split
        · simp; omega
        · omega
    · omega
theorem best_mem {r s t : List Int} : ∀ {k : Nat} {x : Int}, x ∈ (best r s t k).1 → ∃ j : Nat, j < k ∧ 0 < r.getD j 0 ∧ x = (j : Int)
  | 0, x, h => by simp [best] at h
  | k + 1, x, h => by
    rw [best] at h
    split at h
    · rename_i h0
      split at h
      · exact ⟨k, by omega, h0, by simpa using h⟩
      · split at h
        · rcases List.mem_append.1 h with h | h
          · obtain ⟨j, h1, h2, h3⟩ := best_mem h
            exact ⟨j, by omega, h2, h3⟩
          · exact ⟨k, by omega, h0, by simpa using h⟩
        · obtain ⟨j, h1, h2, h3⟩ := best_mem h
          exact ⟨j, by omega, h2, h3⟩
    · obtain ⟨j, h1, h2, h3⟩ := best_mem h
      exact ⟨j, by omega, h2, h3⟩

theorem sumF_in {r p : List Int} (h : ∀ k, 0 ≤ r.getD k 0 ∧ r.getD k 0 ≤ 8) : ∀ k : Nat, 0 ≤ sumF r p k ∧ sumF r p k ≤ 8 * (k : Int)
  | 0 => by simp [sumF]
  | k + 1 => by
    have := sumF_in (p := p) h k
    have := h k
    rw [sumF]
    split <;> omega
theorem sumG_in {r p : List Int} (h : ∀ k, 0 ≤ r.getD k 0 ∧ r.getD k 0 ≤ 8) : ∀ k : Nat, 0 ≤ sumG r p k ∧ sumG r p k ≤ 8 * (k : Int)
  | 0 => by simp [sumG]
  | k + 1 => by
    have := sumG_in (p := p) h k
    have := h k
    rw [sumG]
    split <;> omega
theorem chN_len (r p : List Int) (cn cd f g : Int) : ∀ k, (chN r p cn cd f g k).length ≤ k
  | 0 => by simp [chN]
  | k + 1 => by
    have := chN_len r p cn cd f g k
    rw [chN, List.length_append]
    split <;> simp <;> omega

end Go.Proofs.Ytcpgoaombabfjaa
