/- What the frames share: arguments that came in. Arithmetic for the law BlockFair: the factorials of a row, and what a draw makes of them. Digits to the base 2^32 and the natural numbers that they stand for. No condition. Contracts of the smallest functions of num: what digits a slice reads as. No condition but that the slices read as digits. Rows of digits in the call's own memory. No condition. Plain facts on bits of numbers of 32 and 64 binary digits. No condition. Contracts of num: words, sums. No condition but that the slices read as digits. Contracts of num: sums. No condition but that the slices read as digits. Contracts of num: differences. Condition: what is subtracted is not greater. -/
import Derived.Test.YtjlneggfkpjnpaaRows
import Derived.ProofKit
import Derived.OpenShut
import Derived.ChangeOld
import Derived.ChangeSame
import Derived.ShutString
import Derived.SliceStrings
import Derived.Test.YtjlneggfkpjnpaaMb5
import Derived.Below
import Derived.Test.YtjlneggfkpjnpaaProg
import Derived.WalkKit
import Derived.WalkSpells
import Derived.Handy
import Derived.Lib.Hide
set_option linter.unusedSimpArgs false
set_option linter.unusedVariables false
namespace Go.Proofs.Ytjlneggfkpjnpaa
open Go.ChangeShapes Go.WideShapes Go.ChangeAt Go.RowKit

theorem own : ownKnob Try.prog.godebug = none := by kernel_rfl
theorem laidOut : laidOutB Try.prog = true := by kernel_rfl

theorem u8_wf {a : Int} (h : (Lit.int .u8 a).wf = true) : 0 ≤ a ∧ a ≤ 255 := by
  simp only [Lit.wf, IntKind.min, IntKind.max, IntKind.signed, IntKind.bits, Bool.and_eq_true, decide_eq_true_eq] at h
  simpa using h
theorem u16_wf {a : Int} (h : (Lit.int .u16 a).wf = true) : 0 ≤ a ∧ a ≤ 65535 := by
  simp only [Lit.wf, IntKind.min, IntKind.max, IntKind.signed, IntKind.bits, Bool.and_eq_true, decide_eq_true_eq] at h
  simpa using h
theorem i64_wf {a : Int} (h : (Lit.int .i64 a).wf = true) : I64 a := by
  simp only [Lit.wf, IntKind.min, IntKind.max, IntKind.signed, IntKind.bits, Bool.and_eq_true, decide_eq_true_eq] at h
  simpa using h

theorem cells5 : Try.prog.cellsOf 5 = 1 := by kernel_rfl
theorem cells3 : Try.prog.cellsOf 3 = 1 := by kernel_rfl
theorem cells58 : Try.prog.cellsOf 58 = 1 := by kernel_rfl
theorem cells22 : Try.prog.cellsOf 22 = 1 := by kernel_rfl
theorem cells25 : Try.prog.cellsOf 25 = 1 := by kernel_rfl
theorem cells24 : Try.prog.cellsOf 24 = 2 := by kernel_rfl
theorem cells26 : Try.prog.cellsOf 26 = 2 := by kernel_rfl
theorem cells28 : Try.prog.cellsOf 28 = 3 := by kernel_rfl

theorem spotless {W : World} {a : Addr} {v : Value} (h : W.cell? a = some v) : a.spot = none ∧ a.block < W.heap.size := by
  unfold World.cell? at h
  cases hb : W.heap[a.block]? with
  | none => rw [hb] at h; cases h
  | some o =>
    have hlt := (Array.getElem?_eq_some_iff.1 hb).1
    rw [hb] at h
    cases o <;> simp at h
    exact ⟨h.1, hlt⟩

/-- A slice of numbers of one kind that came in. -/
theorem open_kind {H : Type} {enc : TypeId × Value → H} {W : World} {fuel : Nat} {c : Value} {y : DataW H × List MemPlace} {t e : TypeId} {k : IntKind} (ht : Try.prog.underlying t = some (.slice e)) (he : Try.prog.underlying e = some (.int k)) (hce : Try.prog.cellsOf e = 1) (lo hi : Int) (h0lo : lo ≤ 0 ∧ 0 ≤ hi) (hwf : ∀ a : Int, (Lit.int k a).wf = true → lo ≤ a ∧ a ≤ hi)
    (h : DataW.trod enc Try.prog W 0 (fun _ => true) true fuel t [c] = some y) : ∃ ao n cap, ∃ l : List Int, c = .slice ao n cap ∧ n = l.length ∧ l.length ≤ maxLen ∧ (∀ k, lo ≤ l.getD k 0 ∧ l.getD k 0 ≤ hi) ∧ ((l = [] ∧ ∃ ao' cap', Value.slice ao n cap = .slice ao' 0 cap') ∨ ∃ b off cap', Value.slice ao n cap = .slice (some ⟨b, off, none⟩) l.length cap' ∧ l.length ≤ cap' ∧ b < W.heap.size ∧ ∀ j, j < l.length → W.cell? ⟨b, off + j, none⟩ = some (.int k (l.getD j 0))) := by
  rcases open_ints ht he hce h with ⟨hcs, _⟩ | ⟨a, len, cap, zs, hcs, _, hl, hm, hz, _, hcell, hw⟩
  · simp only [List.cons.injEq, and_true] at hcs
    subst hcs
    exact ⟨none, 0, 0, [], rfl, rfl, by simp, fun k => by simpa using h0lo, .inl ⟨rfl, _, _, rfl⟩⟩
  · simp only [List.cons.injEq, and_true] at hcs
    subst hcs
    simp only [if_true] at hz
    have hlen : (zs.take len).length = len := by rw [List.length_take]; omega
    have hfit : ∀ k, lo ≤ (zs.take len).getD k 0 ∧ (zs.take len).getD k 0 ≤ hi := fun k => by
      by_cases hk : k < (zs.take len).length
      · rw [List.getD_eq_getElem?_getD, List.getElem?_eq_getElem hk]
        exact hwf _ (hw _ (List.mem_of_mem_take (List.getElem_mem hk)))
      · rw [show (zs.take len).getD k 0 = 0 by simp [List.getD, List.getElem?_eq_none (Nat.le_of_not_lt hk)]]
        exact h0lo
    refine ⟨some a, len, cap, zs.take len, rfl, hlen.symm, by rw [hlen]; omega, hfit, ?_⟩
    by_cases h0 : len = 0
    · subst h0
      exact .inl ⟨by simp, _, _, rfl⟩
    · obtain ⟨hs0, hb0⟩ := spotless (hcell 0 (by omega))
      obtain ⟨b, off, spot⟩ := a
      have hs1 : spot = none := hs0
      subst hs1
      refine .inr ⟨b, off, cap, by rw [hlen], by rw [hlen]; exact hl, hb0, fun j hj => ?_⟩
      rw [hlen] at hj
      have hc := hcell j (by omega)
      rw [add_none] at hc
      rw [hc]
      simp [List.getD, List.getElem?_take, hj]

theorem open_ux {H : Type} {enc : TypeId × Value → H} {W : World} {fuel : Nat} {c : Value} {y : DataW H × List MemPlace} (h : DataW.trod enc Try.prog W 0 (fun _ => true) true fuel 22 [c] = some y) : ∃ l, Ux W c l := by
  obtain ⟨ao, n, cap, l, rfl, _, h1, h2, h3⟩ := open_kind Try.underlying22 Try.underlying5 cells5 0 255 (by decide) (fun a h => u8_wf h) h
  exact ⟨l, h1, h2, h3⟩
theorem open_hx {H : Type} {enc : TypeId × Value → H} {W : World} {fuel : Nat} {c : Value} {y : DataW H × List MemPlace} (h : DataW.trod enc Try.prog W 0 (fun _ => true) true fuel 48 [c] = some y) : ∃ l, Hx W c l := by
  obtain ⟨ao, n, cap, l, rfl, _, h1, h2, h3⟩ := open_kind Try.underlying48 Try.underlying58 cells58 0 65535 (by decide) (fun a h => u16_wf h) h
  exact ⟨l, h1, h2, h3⟩
theorem open_ix {H : Type} {enc : TypeId × Value → H} {W : World} {fuel : Nat} {c : Value} {y : DataW H × List MemPlace} (h : DataW.trod enc Try.prog W 0 (fun _ => true) true fuel 25 [c] = some y) : ∃ l, Ix W c l := by
  obtain ⟨ao, n, cap, l, rfl, _, h1, h2, h3⟩ := open_kind Try.underlying25 Try.underlying3 cells3 (-9223372036854775808) 9223372036854775807 (by decide) (fun a h => i64_wf h) h
  exact ⟨l, h1, h2, h3⟩

theorem okWide_arr {P : Program} {W : World} {r : Reach} {b0 : Nat} {t e : TypeId} {n : Nat} {v : Value} (ht : P.underlying t = some (.array n e)) (h : Value.okWide P W r b0 t v) : ∃ cs, v = .agg cs ∧ cs.size = P.cellsOf t := by
  simp only [Value.okWide, ht] at h
  cases v <;> simp_all [Cell.okWide, Cell.ok]
theorem array_two {cs : Array Value} (h : cs.size = 2) : ∃ c0 c1, cs = #[c0, c1] := by
  obtain ⟨l⟩ := cs
  match l, h with
  | [a, b], _ => exact ⟨a, b, rfl⟩
theorem array_three {cs : Array Value} (h : cs.size = 3) : ∃ c0 c1 c2, cs = #[c0, c1, c2] := by
  obtain ⟨l⟩ := cs
  match l, h with
  | [a, b, c], _ => exact ⟨a, b, c, rfl⟩

theorem trod_arr2 {H : Type} {enc : TypeId × Value → H} {P : Program} {w : World} {base : Nat} {spare : Nat → Bool} {held : Bool} {t e : TypeId} {fuel : Nat} {c0 c1 : Value} {x : DataW H × List MemPlace} (ht : P.underlying t = some (.array 2 e)) (hce : P.cellsOf e = 1)
    (h : DataW.trod enc P w base spare held fuel t [c0, c1] = some x) :
    ∃ y0 y1 n, DataW.trod enc P w base spare held n e [c0] = some y0 ∧ DataW.trod enc P w base spare held n e [c1] = some y1 := by
  cases fuel with
  | zero => simp [DataW.trod] at h
  | succ n =>
    unfold DataW.trod at h
    rw [ht] at h
    have r2 : List.range 2 = [0, 1] := rfl
    simp [r2, hce] at h
    obtain ⟨_, h⟩ := h
    cases h0 : DataW.trod enc P w base spare held n e [c0] with
    | none => simp [h0] at h
    | some y0 =>
      cases h1 : DataW.trod enc P w base spare held n e [c1] with
      | none => simp [h0, h1] at h
      | some y1 => exact ⟨y0, y1, n, h0, h1⟩

/-- The numbers of a design that came in. -/
theorem open_blocks {H : Type} {enc : TypeId × Value → H} {W : World} {r : Reach} {b0 : Nat} {v : Value} {d : DataW H} {p : List MemPlace} (hv : Value.okWide Try.prog W r b0 24 v) (h : DataW.Trod enc Try.prog W 0 (fun _ => true) true 24 v d p) : ∃ va vb la lb, v = .agg #[va, vb] ∧ Ux W va la ∧ Ux W vb lb := by
  obtain ⟨cs, rfl, hs⟩ := okWide_struct Try.underlying24 hv
  obtain ⟨va, vb, rfl⟩ := array_two (hs.trans cells24)
  obtain ⟨fuel, hf⟩ := h
  obtain ⟨y0, y1, n, _, _, h0, h1⟩ := trod_struct2 Try.underlying24 hf
  have h0' : DataW.trod enc Try.prog W 0 (fun _ => true) true n 22 (([va, vb].drop 0).take (Try.prog.cellsOf 22)) = some y0 := h0
  have h1' : DataW.trod enc Try.prog W 0 (fun _ => true) true n 22 (([va, vb].drop 1).take (Try.prog.cellsOf 22)) = some y1 := h1
  rw [cells22] at h0' h1'
  obtain ⟨la, hA⟩ := open_ux h0'
  obtain ⟨lb, hB⟩ := open_ux h1'
  exact ⟨va, vb, la, lb, rfl, hA, hB⟩

/-- A choice that came in. -/
theorem open_ch {H : Type} {enc : TypeId × Value → H} {W : World} {r : Reach} {b0 : Nat} {v : Value} {d : DataW H} {p : List MemPlace} (hv : Value.okWide Try.prog W r b0 28 v) (h : DataW.Trod enc Try.prog W 0 (fun _ => true) true 28 v d p) : ∃ x y z : Int, v = .agg #[.int .i64 x, .int .i64 y, .int .i64 z] ∧ I64 x ∧ I64 y ∧ I64 z := by
  obtain ⟨cs, rfl, hs⟩ := okWide_struct Try.underlying28 hv
  obtain ⟨c0, c1, c2, rfl⟩ := array_three (hs.trans cells28)
  obtain ⟨fuel, hf⟩ := h
  obtain ⟨xs, n, _, _, hl, hlen, hf⟩ := DataW.trod_struct Try.underlying28 hf
  match xs, hlen with
  | [y0, y1, y2], _ =>
    have f0 : DataW.trod enc Try.prog W 0 (fun _ => true) true n 3 (([c0, c1, c2].drop 0).take (Try.prog.cellsOf 3)) = some y0 := hf 0 _ rfl
    have f1 : DataW.trod enc Try.prog W 0 (fun _ => true) true n 3 (([c0, c1, c2].drop 1).take (Try.prog.cellsOf 3)) = some y1 := hf 1 _ rfl
    have f2 : DataW.trod enc Try.prog W 0 (fun _ => true) true n 3 (([c0, c1, c2].drop 2).take (Try.prog.cellsOf 3)) = some y2 := hf 2 _ rfl
    rw [cells3] at f0 f1 f2
    obtain ⟨a, e0, _, w0⟩ := DataW.trod_int Try.underlying3 f0
    obtain ⟨b, e1, _, w1⟩ := DataW.trod_int Try.underlying3 f1
    obtain ⟨c, e2, _, w2⟩ := DataW.trod_int Try.underlying3 f2
    simp at e0 e1 e2
    exact ⟨a, b, c, by rw [e0, e1, e2], i64_wf w0, i64_wf w1, i64_wf w2⟩

/-- Two slices of ints that came in. -/
theorem open_raw {H : Type} {enc : TypeId × Value → H} {W : World} {r : Reach} {b0 : Nat} {v : Value} {d : DataW H} {p : List MemPlace} (hv : Value.okWide Try.prog W r b0 26 v) (h : DataW.Trod enc Try.prog W 0 (fun _ => true) true 26 v d p) : ∃ v0 v1 l0 l1, v = .agg #[v0, v1] ∧ Ix W v0 l0 ∧ Ix W v1 l1 := by
  obtain ⟨cs, rfl, hs⟩ := okWide_arr Try.underlying26 hv
  obtain ⟨v0, v1, rfl⟩ := array_two (hs.trans cells26)
  obtain ⟨fuel, hf⟩ := h
  obtain ⟨y0, y1, n, h0, h1⟩ := trod_arr2 Try.underlying26 cells25 hf
  obtain ⟨l0, hA⟩ := open_ix h0
  obtain ⟨l1, hB⟩ := open_ix h1
  exact ⟨v0, v1, l0, l1, rfl, hA, hB⟩

theorem open_u16s {H : Type} {enc : TypeId × Value → H} {W : World} {r : Reach} {b0 : Nat} {v : Value} {d : DataW H} {p : List MemPlace} (hv : Value.okWide Try.prog W r b0 48 v) (h : DataW.Trod enc Try.prog W 0 (fun _ => true) true 48 v d p) : ∃ l, Hx W v l := by
  obtain ⟨a, n, c, rfl⟩ := okWide_slice Try.underlying48 hv
  obtain ⟨fuel, hf⟩ := h
  exact open_hx hf
theorem open_u8s {H : Type} {enc : TypeId × Value → H} {W : World} {r : Reach} {b0 : Nat} {v : Value} {d : DataW H} {p : List MemPlace} (hv : Value.okWide Try.prog W r b0 22 v) (h : DataW.Trod enc Try.prog W 0 (fun _ => true) true 22 v d p) : ∃ l, Ux W v l := by
  obtain ⟨a, n, c, rfl⟩ := okWide_slice Try.underlying22 hv
  obtain ⟨fuel, hf⟩ := h
  exact open_ux hf
theorem open_i64s {H : Type} {enc : TypeId × Value → H} {W : World} {r : Reach} {b0 : Nat} {v : Value} {d : DataW H} {p : List MemPlace} (hv : Value.okWide Try.prog W r b0 25 v) (h : DataW.Trod enc Try.prog W 0 (fun _ => true) true 25 v d p) : ∃ l, Ix W v l := by
  obtain ⟨a, n, c, rfl⟩ := okWide_slice Try.underlying25 hv
  obtain ⟨fuel, hf⟩ := h
  exact open_ix hf

end Go.Proofs.Ytjlneggfkpjnpaa

namespace Go.Proofs.Ytjlneggfkpjnpaa
open Go.RowKit

def facN : Nat → Nat
  | 0 => 1
  | n + 1 => (n + 1) * facN n
/-- The product of the factorials. -/
def facP : List Int → Nat
  | [] => 1
  | x :: l => facN x.toNat * facP l
theorem facN_one {x : Int} (h : 1 ≤ x) : facN x.toNat = x.toNat * facN (x - 1).toNat := by
  obtain ⟨m, hm⟩ : ∃ m, x.toNat = m + 1 := ⟨x.toNat - 1, by omega⟩
  have e : (x - 1).toNat = m := by omega
  rw [hm, e, facN]
/-- A place less: the product of the factorials is the weight times what it is then. -/
theorem facP_set : ∀ (l : List Int) (k : Nat), k < l.length → 1 ≤ l.getD k 0 → facP l = (l.getD k 0).toNat * facP (l.set k (l.getD k 0 - 1))
  | [], k, hk, _ => absurd hk (by simp)
  | x :: l, 0, _, h => by
    have h : 1 ≤ x := h
    show facN x.toNat * facP l = x.toNat * (facN (x - 1).toNat * facP l)
    rw [facN_one h, Nat.mul_assoc]
  | x :: l, k + 1, hk, h => by
    have ih := facP_set l k (by simpa using hk) (by simpa using h)
    have e : (x :: l).getD (k + 1) 0 = l.getD k 0 := by simp
    rw [e]
    show facN x.toNat * facP l = (l.getD k 0).toNat * (facN x.toNat * facP (l.set k (l.getD k 0 - 1)))
    rw [ih, Nat.mul_left_comm]
theorem sum_set : ∀ (l : List Int) (k : Nat), k < l.length → (l.set k (l.getD k 0 - 1)).sum = l.sum - 1
  | [], k, hk => absurd hk (by simp)
  | x :: l, 0, _ => by
    show (x - 1) + l.sum = (x + l.sum) - 1
    omega
  | x :: l, k + 1, hk => by
    have ih := sum_set l k (by simpa using hk)
    have e : (x :: l).getD (k + 1) 0 = l.getD k 0 := by simp
    rw [e]
    show x + (l.set k (l.getD k 0 - 1)).sum = (x + l.sum) - 1
    omega
/-- The two products while a block is drawn: the weights against the factorials, the sums against the factorial of all. -/
theorem fair_step {l : List Int} {k : Nat} (hk : k < l.length) (h : 1 ≤ l.getD k 0) (h0 : 1 ≤ l.sum) {A B C D : Nat} (h1 : A * facP l = C) (h2 : B * facN l.sum.toNat = D) :
    (A * (l.getD k 0).toNat) * facP (l.set k (l.getD k 0 - 1)) = C ∧ (B * l.sum.toNat) * facN (l.set k (l.getD k 0 - 1)).sum.toNat = D := by
  rw [facP_set l k hk h] at h1
  rw [facN_one h0] at h2
  rw [sum_set l k hk, Nat.mul_assoc, Nat.mul_assoc]
  exact ⟨h1, h2⟩
theorem facP_zero : ∀ (l : List Int), (∀ k, k < l.length → l.getD k 0 = 0) → facP l = 1
  | [], _ => rfl
  | x :: l, h => by
    have hx : x = 0 := h 0 (by simp)
    have ih := facP_zero l fun k hk => by simpa using h (k + 1) (by simpa using hk)
    show facN x.toNat * facP l = 1
    rw [hx, ih]; rfl
end Go.Proofs.Ytjlneggfkpjnpaa

namespace Go.Proofs.Ytjlneggfkpjnpaa.Nums

/-- The number of some digits, the lowest one first. -/
def val : List Nat → Nat
  | [] => 0
  | d :: ds => d + 4294967296 * val ds

/-- The digits of a number, without zeros at the end. -/
def digs (n : Nat) : List Nat := if h : n = 0 then [] else n % 4294967296 :: digs (n / 4294967296)
termination_by n
decreasing_by omega

def Bd (ds : List Nat) : Prop := ∀ d ∈ ds, d < 4294967296

theorem digs_zero : digs 0 = [] := by rw [digs]; simp
theorem digs_pos {n : Nat} (h : n ≠ 0) : digs n = n % 4294967296 :: digs (n / 4294967296) := by rw [digs]; simp [h]

theorem val_digs (n : Nat) : val (digs n) = n := by
  induction n using digs.induct with
  | case1 => rw [digs_zero]; rfl
  | case2 n h ih => rw [digs_pos h, val, ih]; omega

theorem bd_digs (n : Nat) : Bd (digs n) := by
  induction n using digs.induct with
  | case1 => rw [digs_zero]; intro d hd; cases hd
  | case2 n h ih =>
    rw [digs_pos h]; intro d hd
    rcases List.mem_cons.1 hd with rfl | hd
    · omega
    · exact ih d hd

theorem Bd.cons {d : Nat} {ds : List Nat} (h : Bd (d :: ds)) : d < 4294967296 ∧ Bd ds := ⟨h d (by simp), fun x hx => h x (by simp [hx])⟩
theorem Bd.mk {d : Nat} {ds : List Nat} (h : d < 4294967296) (k : Bd ds) : Bd (d :: ds) := by
  intro x hx; rcases List.mem_cons.1 hx with rfl | hx
  · exact h
  · exact k x hx
theorem bd_nil : Bd [] := fun _ h => by cases h

/-- A digit is what division says. -/
theorem val_digit {ds : List Nat} (h : Bd ds) (k : Nat) : ds.getD k 0 = val ds / 4294967296 ^ k % 4294967296 := by
  induction ds generalizing k with
  | nil => simp [val]
  | cons d ds ih =>
    obtain ⟨hd, hb⟩ := h.cons
    cases k with
    | zero => simp [val]; omega
    | succ k =>
      have := ih hb k
      simp only [List.getD_cons_succ, this, val, Nat.pow_succ]
      rw [Nat.mul_comm (4294967296 ^ k), ← Nat.div_div_eq_div_mul]
      have e : (d + 4294967296 * val ds) / 4294967296 = val ds := by omega
      rw [e]

theorem val_lt {ds : List Nat} (h : Bd ds) : val ds < 4294967296 ^ ds.length := by
  induction ds with
  | nil => simp [val]
  | cons d ds ih =>
    obtain ⟨hd, hb⟩ := h.cons
    have := ih hb
    simp only [val, List.length_cons, Nat.pow_succ]
    omega

theorem val_append (a b : List Nat) : val (a ++ b) = val a + 4294967296 ^ a.length * val b := by
  induction a with
  | nil => simp [val]
  | cons d a ih =>
    simp only [List.cons_append, val, ih, List.length_cons, Nat.pow_succ]
    grind

theorem val_zeros (n : Nat) : val (List.replicate n 0) = 0 := by
  induction n with
  | zero => rfl
  | succ n ih => simp [List.replicate_succ, val, ih]

/-- Digits whose last one is not 0 are those of their number. -/
theorem digs_val {ds : List Nat} (h : Bd ds) (ht : ds = [] ∨ ds.getLast? ≠ some 0) : digs (val ds) = ds := by
  induction ds with
  | nil => exact digs_zero
  | cons d ds ih =>
    obtain ⟨hd, hb⟩ := h.cons
    have ht' : (d :: ds).getLast? ≠ some 0 := by rcases ht with h | h; cases h; exact h
    have hpos : val (d :: ds) ≠ 0 := by
      cases ds with
      | nil => simp [val] at *; omega
      | cons e es =>
        have e1 := ih hb (.inr (by simpa using ht'))
        intro h0
        simp only [val] at h0
        have : val (e :: es) = 0 := by simp only [val]; omega
        rw [this, digs_zero] at e1
        cases e1
    rw [digs_pos hpos]
    have e1 : val (d :: ds) % 4294967296 = d := by simp only [val]; omega
    have e2 : val (d :: ds) / 4294967296 = val ds := by simp only [val]; omega
    rw [e1, e2]
    congr 1
    cases ds with
    | nil => exact digs_zero
    | cons e es => exact ih hb (.inr (by simpa using ht'))

theorem digs_last (n : Nat) : (digs n).getLast? ≠ some 0 := by
  induction n using digs.induct with
  | case1 => rw [digs_zero]; simp
  | case2 n h ih =>
    rw [digs_pos h]
    by_cases h0 : n / 4294967296 = 0
    · rw [h0, digs_zero]; simp; omega
    · rw [digs_pos h0] at ih ⊢
      simpa using ih

theorem digs_inj {n m : Nat} (h : digs n = digs m) : n = m := by rw [← val_digs n, h, val_digs]

theorem digs_length_le {n k : Nat} : (digs n).length ≤ k ↔ n < 4294967296 ^ k := by
  induction k generalizing n with
  | zero =>
    by_cases h : n = 0
    · subst h; simp [digs_zero]
    · rw [digs_pos h]; simp; omega
  | succ k ih =>
    by_cases h : n = 0
    · subst h; simp [digs_zero]; exact Nat.pow_pos (by omega)
    · rw [digs_pos h]; simp only [List.length_cons, Nat.add_le_add_iff_right, ih, Nat.pow_succ]; omega

theorem digs_getD (n k : Nat) : (digs n).getD k 0 = n / 4294967296 ^ k % 4294967296 := by rw [val_digit (bd_digs n), val_digs]

theorem mod_step (v k : Nat) : v % 4294967296 ^ (k + 1) = v % 4294967296 ^ k + 4294967296 ^ k * (v / 4294967296 ^ k % 4294967296) := by
  rw [Nat.mod_pow_succ]

theorem val_take_set {xs : List Nat} {k : Nat} (hk : k < xs.length) (d : Nat) : val ((xs.set k d).take (k + 1)) = val (xs.take k) + 4294967296 ^ k * d := by
  rw [List.take_add_one, val_append]
  have h1 : (xs.set k d).take k = xs.take k := by rw [List.take_set, List.set_eq_of_length_le (by simp; omega)]
  have h2 : (xs.set k d)[k]?.toList = [d] := by simp [hk]
  rw [h1, h2, List.length_take, Nat.min_eq_left (by omega)]
  simp [val]

theorem Bd.set {xs : List Nat} (h : Bd xs) (k : Nat) {d : Nat} (hd : d < 4294967296) : Bd (xs.set k d) := by
  intro x hx
  rcases List.mem_or_eq_of_mem_set hx with h1 | rfl
  · exact h x h1
  · exact hd

theorem bd_zeros (n : Nat) : Bd (List.replicate n 0) := by
  intro x hx
  have := (List.mem_replicate.1 hx).2
  omega

theorem pow_pos' (k : Nat) : 0 < 4294967296 ^ k := Nat.pow_pos (by omega)

/-- A round of a sum. -/
theorem sum_step {x p c a b : Nat} (h : x + p * c = a + b) (da db : Nat) :
    x + p * ((c + (da + db)) % 4294967296) + p * 4294967296 * ((c + (da + db)) / 4294967296) = a + p * da + (b + p * db) := by
  have e := Nat.mod_add_div (c + (da + db)) 4294967296
  have : x + p * ((c + (da + db)) % 4294967296) + p * 4294967296 * ((c + (da + db)) / 4294967296) = x + p * ((c + (da + db)) % 4294967296 + 4294967296 * ((c + (da + db)) / 4294967296)) := by grind
  rw [this, e]
  grind

theorem val_set {xs : List Nat} {k : Nat} (hk : k < xs.length) (d : Nat) : val (xs.set k d) + 4294967296 ^ k * xs.getD k 0 = val xs + 4294967296 ^ k * d := by
  induction xs generalizing k with
  | nil => simp at hk
  | cons a xs ih =>
    cases k with
    | zero => simp [val]; omega
    | succ k =>
      have := ih (k := k) (by simpa using hk)
      simp only [List.set_cons_succ, val, List.getD_cons_succ, Nat.pow_succ]
      have h1 : 4294967296 ^ k * 4294967296 * xs.getD k 0 = 4294967296 * (4294967296 ^ k * xs.getD k 0) := by grind
      have h2 : 4294967296 ^ k * 4294967296 * d = 4294967296 * (4294967296 ^ k * d) := by grind
      rw [h1, h2]
      omega

theorem val_set_zero {xs : List Nat} {k : Nat} (hk : k < xs.length) (d : Nat) (h0 : xs.getD k 0 = 0) : val (xs.set k d) = val xs + 4294967296 ^ k * d := by
  have := val_set hk d
  rw [h0] at this
  simpa using this

end Go.Proofs.Ytjlneggfkpjnpaa.Nums

namespace Go.Proofs.Ytjlneggfkpjnpaa.Nums
open Go.RowKit

/-- The cells of a slice of digits. -/
def Cl (w : World) (b off : Nat) (ds : List Nat) : Prop := ∀ j, j < ds.length → w.cell? ⟨b, off + j, none⟩ = some (.int .u32 ((ds.getD j 0 : Nat) : Int))

/-- A slice that reads as digits. -/
structure Sl (w : World) (v : Value) (ds : List Nat) : Prop where
  bd : Bd ds
  len : ds.length ≤ maxLen
  is : (ds = [] ∧ ∃ ao cap, v = .slice ao 0 cap) ∨ ∃ b off cap, v = .slice (some ⟨b, off, none⟩) ds.length cap ∧ ds.length ≤ cap ∧ Cl w b off ds

theorem Sl.below {w w' : World} {v : Value} {ds : List Nat} (h : Sl w v ds) (hb : Below w.heap.size w w') : Sl w' v ds := by
  obtain ⟨h1, h2, h3⟩ := h
  refine ⟨h1, h2, ?_⟩
  rcases h3 with h3 | ⟨b, off, cap, hv, hc, hl⟩
  · exact .inl h3
  · refine .inr ⟨b, off, cap, hv, hc, fun j hj => ?_⟩
    exact cell_later hb (hl j hj)

theorem getD_big (ds : List Nat) (n : Nat) (h : ds.length ≤ n) : ds.getD n 0 = 0 := by simp [List.getD, List.getElem?_eq_none h]

/-- A digit by its place; 0 beyond. -/
def dg (ds : List Nat) (k : Int) : Nat := if k < 0 then 0 else ds.getD k.toNat 0

theorem dg_nat {ds : List Nat} (h : Bd ds) (n : Nat) : dg ds n = val ds / 4294967296 ^ n % 4294967296 := by
  unfold dg; rw [if_neg (by omega)]; exact val_digit h n
theorem dg_lt {ds : List Nat} (h : Bd ds) (k : Int) : dg ds k < 4294967296 := by
  unfold dg; split
  · omega
  · rw [val_digit h]; exact Nat.mod_lt _ (by omega)

/-- The digits without the zeros at their end. -/
theorem take_trim {ds : List Nat} (h : Bd ds) : digs (val ds) = ds.take (digs (val ds)).length ∧ (digs (val ds)).length ≤ ds.length := by
  induction ds with
  | nil => simp [val, digs_zero]
  | cons d ds ih =>
    obtain ⟨hd, hb⟩ := h.cons
    obtain ⟨i1, i2⟩ := ih hb
    by_cases h0 : val (d :: ds) = 0
    · rw [h0, digs_zero]; simp
    · have e1 : val (d :: ds) % 4294967296 = d := by simp only [val]; omega
      have e2 : val (d :: ds) / 4294967296 = val ds := by simp only [val]; omega
      rw [digs_pos h0, e1, e2]
      simp only [List.length_cons, List.take_succ_cons]
      exact ⟨by rw [← i1], by omega⟩

theorem trim_stop {ds : List Nat} (h : Bd ds) (k : Nat) (hk : k ≤ ds.length) (hv : val (ds.take k) = val ds) (hs : k = 0 ∨ ds.getD (k - 1) 0 ≠ 0) : k = (digs (val ds)).length := by
  have hb : Bd (ds.take k) := fun x hx => h x (List.mem_of_mem_take hx)
  have : digs (val (ds.take k)) = ds.take k := digs_val hb (by
    rcases hs with rfl | hs
    · exact .inl (by simp)
    · by_cases h0 : k = 0
      · subst h0; exact .inl (by simp)
      · refine .inr ?_
        rw [List.getLast?_eq_getElem?, List.getElem?_take]
        simp only [List.length_take]
        rw [Nat.min_eq_left hk, if_pos (by omega)]
        intro h; apply hs; simp [List.getD, h])
  rw [← hv, this]; simp; omega

theorem trim_step {ds : List Nat} (k : Nat) (hk : k + 1 ≤ ds.length) (hv : val (ds.take (k + 1)) = val ds) (hz : ds.getD k 0 = 0) : val (ds.take k) = val ds := by
  rw [← hv, List.take_add_one, val_append]
  have : ds[k]?.toList = [0] := by
    rw [List.getElem?_eq_getElem (by omega)]
    simp [List.getD, List.getElem?_eq_getElem (show k < ds.length by omega)] at hz
    simp [hz]
  rw [this]; simp [val]

set_option maxHeartbeats 400000 in
theorem trim_any {w : World} {ds : List Nat} (ao : Option Addr) (n cap : Nat) (h : Sl w (.slice ao n cap) ds) :
    Calls Try.prog 47 #[.slice ao n cap] w fun e w' => e = .returned (.slice ao (digs (val ds)).length cap) ∧ w' = w := by
  obtain ⟨hb, hl, h⟩ := h
  unfold maxLen at hl
  rcases h with ⟨rfl, ao', cap', hv⟩ | ⟨b, off, cap', hv, hc, hcl⟩
  · cases hv
    simp only [val, digs_zero, List.length_nil]
    go_enter Try.func47, Try.ntmps47
    go_wp2
    go_rounds 1
    go_ret
    exact ⟨rfl, rfl⟩
  · cases hv
    have hst := trim_stop hb
    have htk := @trim_step ds
    obtain ⟨m, hm⟩ : ∃ m, m = (digs (val ds)).length := ⟨_, rfl⟩
    rw [← hm] at hst ⊢
    have hml : m ≤ ds.length := by rw [hm]; exact (take_trim hb).2
    clear hb hm
    have HST := Lib.hid hst
    clear hst
    have HTK := Lib.hid htk
    clear htk
    have HCL := Lib.hid hcl
    clear hcl
    go_enter Try.func47, Try.ntmps47
    go_wp2
    go_loop [3] (fun n => ∃ k : Nat, k ≤ ds.length ∧ n = .int .i64 k ∧ Hid (val (ds.take k) = val ds)) (fun n => (intOf n).toNat)
    case atStart => exact ⟨ds.length, Nat.le_refl _, rfl, by simp [Hid]⟩
    case round =>
      obtain ⟨k, hk, rfl, hv⟩ := hrel
      cases k with
      | zero =>
        have e0 := HST.out 0 (by omega) hv.out (.inl rfl)
        subst e0
        go_wp2
        go_ret
        exact ⟨rfl, rfl⟩
      | succ k =>
        have hcc := HCL.out k (by omega)
        obtain ⟨x, hx⟩ : ∃ x, x = ds.getD k 0 := ⟨_, rfl⟩
        rw [← hx] at hcc
        by_cases h0 : x = 0
        · have hv' := HTK.out k hk hv.out (by omega)
          have HV' := Lib.hid hv'
          clear hv' hv hx
          subst h0
          go_wp2
          go_round
          case rel => exact ⟨k, by omega, by go_num, HV'⟩
          case measure => simp [intOf]
        · have e0 := HST.out (k + 1) hk hv.out (.inr (by rw [Nat.add_sub_cancel, ← hx]; exact h0))
          clear hx
          subst e0
          go_wp2
          go_ret
          exact ⟨rfl, rfl⟩

end Go.Proofs.Ytjlneggfkpjnpaa.Nums

namespace Go.Proofs.Ytjlneggfkpjnpaa.Nums
open Go.RowKit

def u32v (d : Nat) : Value := .int .u32 (d : Int)

/-- Block g is a row of these digits. -/
def Row (w : World) (g : Nat) (xs : List Nat) : Prop := w.heap[g]? = some (.cells (xs.map u32v).toArray 81 (0, 0))

theorem Row.lt {w : World} {g : Nat} {xs : List Nat} (h : Row w g xs) : g < w.heap.size := by
  unfold Row at h
  exact (Array.getElem?_eq_some_iff.1 h).1

theorem Row.cell {w : World} {g : Nat} {xs : List Nat} (h : Row w g xs) (j : Nat) (hj : j < xs.length) : w.cell? ⟨g, j, none⟩ = some (.int .u32 ((xs.getD j 0 : Nat) : Int)) := by
  rw [cell_of_row w g j _ 81 (0, 0) h]
  simp [hj, u32v, List.getD]

theorem Row.free {w : World} {g : Nat} {xs : List Nat} (h : Row w g xs) (j : Nat) : w.frozen? ⟨g, j, none⟩ = false := frozen_of_row w g j _ 81 h

theorem Row.set {w : World} {g : Nat} {xs : List Nat} (h : Row w g xs) (j d : Nat) : Row (w.setCell ⟨g, j, none⟩ (.int .u32 (d : Int))) g (xs.set j d) := by
  have := heap_setCell_same w g j _ 81 (.int .u32 (d : Int)) h
  unfold Row
  rw [this]
  congr 2
  apply Array.ext'
  simp [u32v, List.map_set]

theorem Row.set' {w : World} {g : Nat} {xs : List Nat} (h : Row w g xs) (j d : Nat) {x : Int} (hx : x = (d : Int)) : Row (w.setCell ⟨g, j, none⟩ (.int .u32 x)) g (xs.set j d) := hx ▸ h.set j d

theorem Row.other {w : World} {g k : Nat} {xs : List Nat} (h : Row w g xs) (hk : g ≠ k) (j : Nat) (u : Value) : Row (w.setCell ⟨k, j, none⟩ u) g xs := by
  unfold Row
  rw [heap_setCell_other w ⟨k, j, none⟩ g u (by simpa using hk)]
  exact h

theorem Row.below {w w' : World} {g : Nat} {xs : List Nat} (h : Row w g xs) (hb : Below w.heap.size w w') : Row w' g xs := (hb.block g h.lt).trans h

theorem Row.alloc {w : World} {g : Nat} {xs : List Nat} (h : Row w g xs) (o : Obj) : Row (w.alloc o) g xs := (Below.heap_alloc w o g h.lt).trans h

theorem row_new (w : World) (ds : List Nat) : Row (w.alloc (.cells (ds.map u32v).toArray 81)) w.heap.size ds := heap_alloc_new w _

/-- What is owned: a slice that is not empty begins in a block from B on, and may be written. -/
def Own (B : Nat) (w : World) (v : Value) : Prop :=
  ∀ ao n cap, v = .slice ao n cap → n ≠ 0 → ∃ b off, ao = some ⟨b, off, none⟩ ∧ B ≤ b ∧ ∀ j, j < n → w.frozen? ⟨b, off + j, none⟩ = false

/-- Digits in memory of the call's own. -/
structure Sw (B : Nat) (w : World) (v : Value) (ds : List Nat) : Prop where
  sl : Sl w v ds
  own : Own B w v

theorem Sl.mk' {w : World} {v : Value} {ds : List Nat} (h : Sl w v ds) : ∃ ao cap, v = .slice ao ds.length cap := by
  rcases h.is with ⟨rfl, ao, cap, rfl⟩ | ⟨b, off, cap, rfl, _⟩
  · exact ⟨_, _, rfl⟩
  · exact ⟨_, _, rfl⟩

theorem Sl.nil (w : World) (ao : Option Addr) (cap : Nat) : Sl w (.slice ao 0 cap) [] := ⟨bd_nil, by simp, .inl ⟨rfl, _, _, rfl⟩⟩

theorem Row.sw {w : World} {B g : Nat} {xs : List Nat} (h : Row w g xs) (hB : B ≤ g) (hb : Bd xs) (hl : xs.length ≤ maxLen) : Sw B w (.slice (some ⟨g, 0, none⟩) xs.length xs.length) xs := by
  refine ⟨⟨hb, hl, .inr ⟨g, 0, xs.length, rfl, Nat.le_refl _, fun j hj => by rw [Nat.zero_add]; exact h.cell j hj⟩⟩, ?_⟩
  intro ao n cap hv _
  cases hv
  exact ⟨g, 0, rfl, hB, fun j _ => h.free _⟩

theorem Own.below {B : Nat} {w w' : World} {v : Value} {ds : List Nat} (h : Own B w v) (hs : Sl w v ds) (hb : Below w.heap.size w w') : Own B w' v := by
  intro ao n cap hv hn
  obtain ⟨b, off, h1, h2, h3⟩ := h ao n cap hv hn
  refine ⟨b, off, h1, h2, fun j hj => ?_⟩
  have hlt : b < w.heap.size := by
    rcases hs.is with ⟨rfl, ao', cap', hv'⟩ | ⟨b', off', cap', hv', hc, hcl⟩
    · rw [hv] at hv'; cases hv'; exact absurd rfl hn
    · rw [hv, h1] at hv'; cases hv'
      exact block_lt_of_cell (hcl j hj)
  rw [hb.frozen (by exact hlt)]
  exact h3 j hj

theorem Sw.below {B : Nat} {w w' : World} {v : Value} {ds : List Nat} (h : Sw B w v ds) (hb : Below w.heap.size w w') : Sw B w' v ds := ⟨h.sl.below hb, h.own.below h.sl hb⟩
theorem Sw.mono {B B' : Nat} {w : World} {v : Value} {ds : List Nat} (h : Sw B w v ds) (hB : B' ≤ B) : Sw B' w v ds :=
  ⟨h.sl, fun ao n cap hv hn => let ⟨b, off, h1, h2, h3⟩ := h.own ao n cap hv hn; ⟨b, off, h1, Nat.le_trans hB h2, h3⟩⟩

theorem Sl.bytes {w : World} {v : Value} {ds : List Nat} (h : Sl w v ds) : Bd ds := h.bd

theorem getD_take (ds : List Nat) (m j : Nat) (h : j < m) : (ds.take m).getD j 0 = ds.getD j 0 := by
  simp [List.getD, List.getElem?_take, h]

/-- The digits without the zeros at their end, in the same memory. -/
theorem Sl.trim {w : World} {ao : Option Addr} {n cap : Nat} {ds : List Nat} (h : Sl w (.slice ao n cap) ds) : Sl w (.slice ao (digs (val ds)).length cap) (digs (val ds)) := by
  obtain ⟨hb, hl, h⟩ := h
  obtain ⟨t1, t2⟩ := take_trim hb
  refine ⟨bd_digs _, by omega, ?_⟩
  rcases h with ⟨rfl, ao', cap', hv⟩ | ⟨b, off, cap', hv, hc, hcl⟩
  · refine .inl ⟨by simp [val, digs_zero], ao, cap, by simp [val, digs_zero]⟩
  · cases hv
    refine .inr ⟨b, off, cap, rfl, by omega, fun j hj => ?_⟩
    rw [hcl j (by omega)]
    congr 3
    rw [t1, getD_take _ _ _ hj]

theorem Sw.trim {B : Nat} {w : World} {ao : Option Addr} {n cap : Nat} {ds : List Nat} (h : Sw B w (.slice ao n cap) ds) : Sw B w (.slice ao (digs (val ds)).length cap) (digs (val ds)) := by
  refine ⟨h.sl.trim, ?_⟩
  have hn : n = ds.length := by
    obtain ⟨ao', cap', hv⟩ := h.sl.mk'
    cases hv; rfl
  have t2 := (take_trim h.sl.bd).2
  intro ao' n' cap' hv hne
  cases hv
  obtain ⟨b, off, h1, h2, h3⟩ := h.own ao n cap rfl (by omega)
  exact ⟨b, off, h1, h2, fun j hj => h3 j (by omega)⟩

theorem Try.info81 : (Try.prog.info? 81).map (fun i => (i.zero, i.size, i.bytes)) = some (some (.int .u32 0), 1, 4) := by kernel_rfl

theorem zeros_cells (n : Nat) : madeCells (Value.int .u32 0).cells (n * 1) = ((List.replicate n 0).map u32v).toArray := by
  apply Array.ext'
  rw [show (Value.int .u32 0).cells = #[.int .u32 0] from rfl, toList_madeCells_one]
  simp [u32v]

/-- 'make([]uint32, n)': a row of zeros. -/
theorem wpList_make_row (w : World) {ops : Array Oper} {rest : List Oper} {o : Oper} {a : Act} {Q : Exit → Act → World → Prop}
    (hg : o.guard = none) (l c : Operand) (hop : o.op = Op.makeSlice 52 l c)
    (kl kc : IntKind) (L C : Int) (n : Nat) (hl : a.eval l = .int kl L) (hc : a.eval c = .int kc C) (hL : L = (n : Int)) (hC : C = (n : Int)) (b2 : 4 * n ≤ 281474976710656)
    (hK : ∀ w', Row w' w.heap.size (List.replicate n 0) → Below w.heap.size w w' → wpList Try.prog ops Q rest (a.put o.dst (.slice (some ⟨w.heap.size, 0, none⟩) n n)) w') :
    wpList Try.prog ops Q (o :: rest) a w := by
  obtain ⟨i, hi, hz0, hz1, hz2⟩ := info_parts Try.info81
  refine wpList_plain hg fun K hK' => ?_
  subst hL hC
  have hr := run_make (P := Try.prog) w 52 81 i _ Try.underlying52 hi hz0 kl kc n n (by omega) (Int.le_refl _) (by rw [hz2]; omega) (by omega)
  simp only [Int.toNat_natCast, hz1] at hr
  rw [zeros_cells] at hr
  unfold Oper.wp
  simp [execOp, hop, hl, hc, hr, Result.andThen]
  exact hK' _ _ (hK _ (by simpa using row_new w (List.replicate n 0)) ((Below.refl _ _).alloc (Nat.le_refl _) _))

theorem Row.sw' {w : World} {B g n : Nat} {xs : List Nat} (h : Row w g xs) (hB : B ≤ g) (hb : Bd xs) (hn : xs.length = n) (hl : n ≤ maxLen) : Sw B w (.slice (some ⟨g, 0, none⟩) n n) xs := by
  subst hn
  exact h.sw hB hb hl

theorem Sl.size {w : World} {ao : Option Addr} {n cap : Nat} {ds : List Nat} (h : Sl w (.slice ao n cap) ds) : n = ds.length := by
  obtain ⟨ao', cap', hv⟩ := h.mk'
  cases hv; rfl

/-- Where there is a digit, there is an address. -/
theorem Sl.at {w : World} {ao : Option Addr} {n cap : Nat} {ds : List Nat} (h : Sl w (.slice ao n cap) ds) (hn : n ≠ 0) :
    ∃ b off, ao = some ⟨b, off, none⟩ ∧ n ≤ cap ∧ b < w.heap.size ∧ Cl w b off ds := by
  have hs := h.size
  rcases h.is with ⟨rfl, ao', cap', hv⟩ | ⟨b, off, cap', hv, hc, hcl⟩
  · exact absurd hs hn
  · cases hv
    exact ⟨b, off, rfl, hc, block_lt_of_cell (hcl 0 (by omega)), hcl⟩

theorem Cl.at {w wr : World} {b off : Nat} {ds : List Nat} (h : Cl w b off ds) {g : Nat} (hb : Below g w wr) (hg : b < g) (k : Nat) (hk : k < ds.length) :
    wr.cell? ⟨b, off + k, none⟩ = some (.int .u32 ((ds.getD k 0 : Nat) : Int)) := (hb.cell (by exact hg)).trans (h k hk)

end Go.Proofs.Ytjlneggfkpjnpaa.Nums

namespace Go.Proofs.Ytjlneggfkpjnpaa.Nums

/-- What is left over by a subtraction, and what is borrowed. -/
def sbd (x y b : Nat) : Nat := (x + 4294967296 - y - b) % 4294967296
def sbb (x y b : Nat) : Nat := if x < y + b then 1 else 0

theorem sb_eq {x y b : Nat} (hx : x < 4294967296) (hy : y < 4294967296) (hb : b ≤ 1) : sbd x y b + y + b = x + 4294967296 * sbb x y b ∧ sbd x y b < 4294967296 ∧ sbb x y b ≤ 1 := by
  unfold sbd sbb; split <;> omega

theorem two_vals {n : Nat} (h : n < 2) : n = 0 ∨ n = 1 := by omega

theorem borrow_bit (x y b : Nat) (hx : x < 4294967296) (hy : y < 4294967296) (hb : b ≤ 1) :
    (((4294967295 - x) &&& y) ||| ((4294967295 - (x ^^^ y)) &&& sbd x y b)) / 2147483648 = sbb x y b := by
  have hxy : x ^^^ y < 2 ^ 32 := Nat.xor_lt_two_pow (by simpa using hx) (by simpa using hy)
  have ex : (x ^^^ y) / 2147483648 = (x / 2147483648) ^^^ (y / 2147483648) := Nat.xor_div_two_pow (n := 31)
  have e1 : ((((4294967295 - x) &&& y) ||| ((4294967295 - (x ^^^ y)) &&& sbd x y b))) / 2147483648 =
      (((4294967295 - x) / 2147483648 &&& y / 2147483648) ||| ((4294967295 - (x ^^^ y)) / 2147483648 &&& sbd x y b / 2147483648)) := by
    have a := Nat.or_div_two_pow (a := (4294967295 - x) &&& y) (b := (4294967295 - (x ^^^ y)) &&& sbd x y b) (n := 31)
    have b1 := Nat.and_div_two_pow (a := 4294967295 - x) (b := y) (n := 31)
    have c := Nat.and_div_two_pow (a := 4294967295 - (x ^^^ y)) (b := sbd x y b) (n := 31)
    simp only [show (2 : Nat) ^ 31 = 2147483648 from rfl] at a b1 c
    rw [a, b1, c]
  have g1 : (4294967295 - x) / 2147483648 = 1 - x / 2147483648 := by omega
  have g2 : (4294967295 - (x ^^^ y)) / 2147483648 = 1 - (x ^^^ y) / 2147483648 := by simp at hxy; omega
  rw [e1, g1, g2, ex]
  obtain ⟨s1, s2, s3⟩ := sb_eq hx hy hb
  rcases two_vals (show x / 2147483648 < 2 by omega) with h1 | h1 <;> rcases two_vals (show y / 2147483648 < 2 by omega) with h2 | h2 <;>
    rcases two_vals (show sbd x y b / 2147483648 < 2 by omega) with h3 | h3 <;> rw [h1, h2, h3] <;> simp <;> omega

theorem max_u32 : IntKind.max .u32 = 4294967295 := by decide
theorem max_u64 : IntKind.max .u64 = 18446744073709551615 := by decide

theorem not_u32 (x : Nat) (h : x < 4294967296) : bits .xor .u32 (IntKind.max .u32) (x : Int) = ((4294967295 - x : Nat) : Int) := by
  rw [max_u32, show (4294967295 : Int) = ((4294967295 : Nat) : Int) from rfl, u32_xor_nat _ _ (by omega) h]
  congr 1
  apply Nat.eq_of_testBit_eq
  intro i
  have h32 : x < 2 ^ 32 := h
  have a : Nat.testBit 4294967295 i = decide (i < 32) := Nat.testBit_two_pow_sub_one (n := 32) (i := i)
  have b := Nat.testBit_two_pow_sub_succ h32 i
  rw [Nat.testBit_xor, a, show 4294967295 - x = 2 ^ 32 - (x + 1) by omega, b]
  by_cases hi : i < 32
  · simp [hi]
  · simp [hi]
    exact Nat.testBit_lt_two_pow (Nat.lt_of_lt_of_le h32 (Nat.pow_le_pow_right (by omega) (by omega)))

/-- What Sub32's second result is reckoned from. -/
theorem borrow_int (x y b : Nat) (hx : x < 4294967296) (hy : y < 4294967296) (hb : b ≤ 1) (z : Int) (hz : z = ((sbd x y b : Nat) : Int)) :
    bits .or .u32 (bits .and .u32 (bits .xor .u32 (IntKind.max .u32) (x : Int)) (y : Int)) (bits .and .u32 (bits .xor .u32 (IntKind.max .u32) (bits .xor .u32 (x : Int) (y : Int))) z) / 2147483648 = ((sbb x y b : Nat) : Int) := by
  obtain ⟨s1, s2, s3⟩ := sb_eq hx hy hb
  have hxy : x ^^^ y < 4294967296 := by have : x ^^^ y < 2 ^ 32 := Nat.xor_lt_two_pow (by simpa using hx) (by simpa using hy); simpa using this
  have hA : (4294967295 - x) &&& y < 4294967296 := Nat.lt_of_le_of_lt Nat.and_le_right hy
  have hB : (4294967295 - (x ^^^ y)) &&& sbd x y b < 4294967296 := Nat.lt_of_le_of_lt Nat.and_le_right s2
  rw [hz, not_u32 x hx, u32_xor_nat x y hx hy, not_u32 _ hxy, u32_and_nat _ _ (by omega) hy, u32_and_nat _ _ (by omega) s2, u32_or_nat _ _ hA hB, ← borrow_bit x y b hx hy hb]
  rfl

theorem sbd_int (x y b : Nat) (hx : x < 4294967296) (hy : y < 4294967296) (hb : b ≤ 1) : ((x : Int) - y - b) % 4294967296 = ((sbd x y b : Nat) : Int) := by
  obtain ⟨s1, s2, s3⟩ := sb_eq hx hy hb
  rcases two_vals (show sbb x y b < 2 by omega) with h | h <;> rw [h] at s1 <;> omega

theorem or_join (x y : Nat) (hx : x < 4294967296) (hy : y < 4294967296) : bits .or .u64 ((x : Int) * 4294967296) (y : Int) = ((y + 4294967296 * x : Nat) : Int) := by
  have e : (x : Int) * 4294967296 = ((x * 4294967296 : Nat) : Int) := by omega
  rw [e, u64_or_nat _ _ (by omega) (by omega), nat_join 32 _ _ (by rw [show (2 : Nat) ^ 32 = 4294967296 from rfl]; omega) (by rw [show (2 : Nat) ^ 32 = 4294967296 from rfl]; exact hy)]
  congr 1; omega

end Go.Proofs.Ytjlneggfkpjnpaa.Nums

namespace Go.Proofs.Ytjlneggfkpjnpaa.Nums
open Go.RowKit

theorem sl_two (w : World) (a b : Nat) (ha : a < 4294967296) (hb : b < 4294967296) : Sw w.heap.size (w.alloc (.cells #[.int .u32 a, .int .u32 b] 81)) (.slice (some ⟨w.heap.size, 0, none⟩) 2 2) [a, b] :=
  (row_new w [a, b]).sw (Nat.le_refl _) (Bd.mk ha (Bd.mk hb bd_nil)) (by simp [maxLen])
theorem sl_one (w : World) (a : Nat) (ha : a < 4294967296) : Sw w.heap.size (w.alloc (.cells #[.int .u32 a] 81)) (.slice (some ⟨w.heap.size, 0, none⟩) 1 1) [a] :=
  (row_new w [a]).sw (Nat.le_refl _) (Bd.mk ha bd_nil) (by simp [maxLen])

/-- A digit slice in new memory, without zeros at the end. -/
def NewDigs (w : World) (n : Nat) (e : Ending) (w' : World) : Prop := ∃ v, e = .returned v ∧ Sw w.heap.size w' v (digs n) ∧ Below w.heap.size w w'

set_option maxHeartbeats 400000 in
theorem digitsOf_any (x : Nat) (w : World) (hx : x / 4294967296 < 4294967296) :
    Calls Try.prog 38 #[.int .u64 x] w (NewDigs w x) := by
  have hs := sl_two w (x % 4294967296) (x / 4294967296) (by omega) hx
  have ht := trim_any _ _ _ hs.sl
  have hu := hs.trim
  have ev : val [x % 4294967296, x / 4294967296] = x := by simp [val]; omega
  rw [ev] at ht hu
  have HU := Lib.hid hu
  clear hs ev hu
  go_enter Try.func38, Try.ntmps38
  go_wp2_with (go_at_call 47; refine ht.mono ?_; rintro e w' ⟨rfl, rfl⟩)
  go_ret
  exact ⟨_, rfl, HU.out, (Below.refl _ _).alloc (Nat.le_refl _) _⟩

end Go.Proofs.Ytjlneggfkpjnpaa.Nums

namespace Go.Proofs.Ytjlneggfkpjnpaa.Nums
open Go.RowKit

/-- What holds at the head of each round of plus. -/
def PlusRel (V U n g : Nat) (w : World) (c i : Value) (wr : World) : Prop :=
  ∃ k cv zs, k ≤ n ∧ i = .int .i64 (k : Nat) ∧ c = .int .u64 (cv : Nat) ∧ cv ≤ 1 ∧ zs.length = n ∧ Row wr g zs ∧ Below g w wr ∧ Bd zs ∧
    val (zs.take k) + 4294967296 ^ k * cv = V % 4294967296 ^ k + U % 4294967296 ^ k

theorem plus_start (V U n : Nat) (w w1 : World) (hr : Row w1 w.heap.size (List.replicate n 0)) (hb : Below w.heap.size w w1) : PlusRel V U n w.heap.size w (.int .u64 0) (.int .i64 0) w1 :=
  ⟨0, 0, _, Nat.zero_le _, rfl, rfl, by omega, by simp, hr, hb, bd_zeros n, by simp [val, Nat.mod_one]⟩

theorem plus_step {V U n g k cv x y : Nat} {zs : List Nat} {w wr : World} (hk : k < n) (hc : cv ≤ 1) (hz : zs.length = n) (hr : Row wr g zs) (hb : Below g w wr) (hd : Bd zs)
    (hv : val (zs.take k) + 4294967296 ^ k * cv = V % 4294967296 ^ k + U % 4294967296 ^ k) (hx : x = V / 4294967296 ^ k % 4294967296) (hy : y = U / 4294967296 ^ k % 4294967296) :
    PlusRel V U n g w (.int .u64 (((cv : Int) + (x + y)) / 4294967296)) (.int .i64 ((k : Int) + 1)) (wr.setCell ⟨g, k, none⟩ (.int .u32 (((cv : Int) + (x + y)) % 4294967296))) := by
  refine ⟨k + 1, (cv + (x + y)) / 4294967296, zs.set k ((cv + (x + y)) % 4294967296), hk, rfl, by congr 1, ?_, by simpa using hz, hr.set' _ _ (by omega), hb.setCell (by simp) _, hd.set _ (by omega), ?_⟩
  · have : x < 4294967296 := by rw [hx]; exact Nat.mod_lt _ (by omega)
    have : y < 4294967296 := by rw [hy]; exact Nat.mod_lt _ (by omega)
    omega
  · rw [val_take_set (by omega), mod_step V, mod_step U, ← hx, ← hy, Nat.pow_succ]
    exact sum_step hv x y

theorem plus_end_core {V U Z p q cv : Nat} (hq : q = p * 4294967296) (hV : V < p) (hU : U < p) (hv : Z + q * cv = V % q + U % q) : Z = V + U := by
  rw [Nat.mod_eq_of_lt (by omega), Nat.mod_eq_of_lt (by omega)] at hv
  cases cv with
  | zero => omega
  | succ c =>
    exfalso
    rw [Nat.mul_succ] at hv
    omega

theorem plus_end {V U n la lb : Nat} {zs : List Nat} (hz : zs.length = n + 1) {cv : Nat} (hV : V < 4294967296 ^ la) (hU : U < 4294967296 ^ lb) (h1 : la ≤ n) (h2 : lb ≤ n)
    (hv : val (zs.take (n + 1)) + 4294967296 ^ (n + 1) * cv = V % 4294967296 ^ (n + 1) + U % 4294967296 ^ (n + 1)) : val zs = V + U := by
  rw [List.take_of_length_le (Nat.le_of_eq hz)] at hv
  exact plus_end_core (Nat.pow_succ 4294967296 n) (Nat.lt_of_lt_of_le hV (Nat.pow_le_pow_right (by decide) h1)) (Nat.lt_of_lt_of_le hU (Nat.pow_le_pow_right (by decide) h2)) hv

end Go.Proofs.Ytjlneggfkpjnpaa.Nums

namespace Go.Proofs.Ytjlneggfkpjnpaa.Nums
open Go.RowKit

/-- What holds at the head of each round of minus. -/
def MinusRel (V U n g : Nat) (w : World) (c i : Value) (wr : World) : Prop :=
  ∃ k bo zs, k ≤ n ∧ i = .int .i64 (k : Nat) ∧ c = .int .u32 (bo : Nat) ∧ bo ≤ 1 ∧ zs.length = n ∧ Row wr g zs ∧ Below g w wr ∧ Bd zs ∧
    val (zs.take k) + U % 4294967296 ^ k = V % 4294967296 ^ k + 4294967296 ^ k * bo

theorem minus_start (V U n : Nat) (w w1 : World) (hr : Row w1 w.heap.size (List.replicate n 0)) (hb : Below w.heap.size w w1) : MinusRel V U n w.heap.size w (.int .u32 0) (.int .i64 0) w1 :=
  ⟨0, 0, _, Nat.zero_le _, rfl, rfl, by omega, by simp, hr, hb, bd_zeros n, by simp [val, Nat.mod_one]⟩

theorem minus_sum {Z u v p bo x y d bb : Nat} (h : Z + u = v + p * bo) (e : d + y + bo = x + 4294967296 * bb) : Z + p * d + (u + p * y) = v + p * x + p * 4294967296 * bb := by
  have h1 : p * (d + y + bo) = p * (x + 4294967296 * bb) := by rw [e]
  have h2 : p * (d + y + bo) = p * d + p * y + p * bo := by grind
  have h3 : p * (x + 4294967296 * bb) = p * x + p * 4294967296 * bb := by grind
  omega

theorem minus_step {V U n g k bo x y : Nat} {zs : List Nat} {w wr : World} (hk : k < n) (hc : bo ≤ 1) (hz : zs.length = n) (hr : Row wr g zs) (hb : Below g w wr) (hd : Bd zs)
    (hv : val (zs.take k) + U % 4294967296 ^ k = V % 4294967296 ^ k + 4294967296 ^ k * bo) (hx : x = V / 4294967296 ^ k % 4294967296) (hy : y = U / 4294967296 ^ k % 4294967296) :
    MinusRel V U n g w (.int .u32 (sbb x y bo : Nat)) (.int .i64 ((k : Int) + 1)) (wr.setCell ⟨g, k, none⟩ (.int .u32 (sbd x y bo : Nat))) := by
  have lx : x < 4294967296 := by rw [hx]; exact Nat.mod_lt _ (by omega)
  have ly : y < 4294967296 := by rw [hy]; exact Nat.mod_lt _ (by omega)
  obtain ⟨s1, s2, s3⟩ := sb_eq lx ly hc
  refine ⟨k + 1, sbb x y bo, zs.set k (sbd x y bo), hk, rfl, rfl, s3, by simpa using hz, hr.set _ _, hb.setCell (by simp) _, hd.set _ s2, ?_⟩
  rw [val_take_set (by omega), mod_step V, mod_step U, ← hx, ← hy, Nat.pow_succ]
  exact minus_sum hv s1

theorem minus_end_core {V U Z q bo : Nat} (hZ : Z < q) (hV : V < q) (hU : U ≤ V) (hv : Z + U % q = V % q + q * bo) : Z = V - U := by
  rw [Nat.mod_eq_of_lt (by omega), Nat.mod_eq_of_lt (by omega)] at hv
  cases bo with
  | zero => omega
  | succ c =>
    exfalso
    rw [Nat.mul_succ] at hv
    omega

theorem minus_end {V U n : Nat} {zs : List Nat} (hd : Bd zs) (hz : zs.length = n) {bo : Nat} (hV : V < 4294967296 ^ n) (hU : U ≤ V)
    (hv : val (zs.take n) + U % 4294967296 ^ n = V % 4294967296 ^ n + 4294967296 ^ n * bo) : val zs = V - U := by
  rw [List.take_of_length_le (Nat.le_of_eq hz)] at hv
  have := val_lt hd
  rw [hz] at this
  exact minus_end_core this hV hU hv

end Go.Proofs.Ytjlneggfkpjnpaa.Nums
