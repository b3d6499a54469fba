/- Contracts of num: Of, Int, Cmp. Contracts of num: Int. Contracts of Go's library, laid over this dump's numbers. No condition beyond those that each states. slices.Clone, Cmp, Bits. Contracts of num: Cmp, Bits. Contract of num: Pow. A range over a function whose rounds are counted: the body may write the very memory that the iterator reads. No condition beyond those that are stated. A region that draws its order, met by what holds behind each set of its operations: each operation is looked at once, whatever the order. No condition. -/
import Derived.Test.YtdgmjmckeeeljaaGreatDoorGi1
import Derived.Shelf.Strings.Builder1
import Derived.Shelf.Strings.Builder2
import Derived.Shelf.Small.Bits
import Derived.Shelf.Small.Wraps
import Derived.Shelf.Strings.BuilderF
import Derived.Shelf.Strings.BuilderK
import Derived.Shelf.Strings.Builder2Cap
import Derived.Shelf.Strconv.Itoa0
import Derived.Shelf.Strconv.Itoa1
import Derived.Shelf.LaysM
import Derived.Shelf.Strconv.Itoa2
import Derived.Shelf.Strconv.Itoa3
import Derived.Ground.MpProg
import Derived.Shelf.Pu.ParseUintPublic10
import Derived.Shelf.Strings.Prefix
import Derived.Shelf.Bits.Mul64
import Derived.Shelf.Strings.Repeat
import Derived.Shelf.Strings.BuilderCap
import Derived.Ground.SlgnProg
import Derived.Shelf.SlicesE.Clone
import Derived.Test.YtdgmjmckeeeljaaGreatDoorProg
import Derived.Lib.ItoaNum
import Derived.OrdersIn
import Derived.WalkKit
import Derived.OwnWalkIn
namespace Go.Proofs.YtdgmjmckeeeljaaGreatDoor
open Go.RowKit

/-- A Num of the integer z in new memory. -/
def NewNum (w : World) (z : Int) (e : Ending) (w' : World) : Prop :=
  ∃ neg ao n cap, e = .returned (.agg #[.bool neg, .slice ao n cap]) ∧ Below w.heap.size w w' ∧ neg = decide (z < 0) ∧ Sw w.heap.size w' (.slice ao n cap) (digs z.natAbs)

theorem digitsOf_at {x n : Nat} (w : World) (hx : x / 4294967296 < 4294967296) (hn : (digs x).length = n) :
    Calls Tryz.prog 67 #[.int .u64 x] w fun e w' => ∃ ao cap, e = .returned (.slice ao n cap) ∧ Sw w.heap.size w' (.slice ao n cap) (digs x) ∧ Below w.heap.size w w' := by
  refine (digitsOf_any x w hx).mono ?_
  rintro e w' ⟨v, rfl, hs, hbl⟩
  obtain ⟨ao, cap, rfl⟩ := hs.sl.mk'
  subst hn
  exact ⟨ao, cap, rfl, hs, hbl⟩

theorem digs_word {x : Nat} (hx : x / 4294967296 < 4294967296) : (digs x).length ≤ 2 := digs_length_le.2 (by rw [show (4294967296 : Nat) ^ 2 = 4294967296 * 4294967296 from rfl]; omega)

theorem mk_ok {B : Nat} {W : World} {z : Int} {neg : Bool} {ao : Option Addr} {n cap : Nat} (hn : n = (digs z.natAbs).length) (hle : n ≤ 256) (hneg : z ≠ 0 → neg = decide (z < 0)) (hs : n ≠ 0 → Sw B W (.slice ao n cap) (digs z.natAbs)) :
    mkN neg n = decide (z < 0) ∧ Sw B W (.slice (mkA ao n) (mkL n) (mkC n cap)) (digs z.natAbs) := by
  by_cases h0 : n = 0
  · have hz : z = 0 := by
      have : digs z.natAbs = [] := List.eq_nil_of_length_eq_zero (by omega)
      have : z.natAbs = 0 := digs_inj (by rw [this, digs_zero])
      omega
    subst hz
    have hn' : ¬ (n ≤ 256 ∧ n ≠ 0) := by omega
    unfold mkN mkA mkL mkC
    rw [if_neg hn', if_neg hn', if_neg hn', if_neg hn']
    exact ⟨rfl, by rw [show digs (Int.natAbs 0) = [] from digs_zero]; exact Sw.nil _ _ _ _⟩
  · have hn' : n ≤ 256 ∧ n ≠ 0 := ⟨hle, h0⟩
    unfold mkN mkA mkL mkC
    rw [if_pos hn', if_pos hn', if_pos hn', if_pos hn']
    refine ⟨hneg ?_, hs h0⟩
    intro hz
    subst hz
    apply h0
    rw [hn]
    show (digs 0).length = 0
    rw [digs_zero]; rfl

theorem resbox_new (w : World) : ResBox (w.alloc (.cells #[.bool false, .slice none 0 0] 27)) w.heap.size := heap_alloc_new w _

set_option maxRecDepth 10000 in
set_option maxHeartbeats 1000000 in
theorem of_nonneg (m : Nat) (w : World) (hm : m / 4294967296 < 2147483648) : Calls Tryz.prog 27 #[.int .i64 (m)] w (NewNum w (m)) := by
  have hl := digs_word (x := m) (by omega)
  have hd := fun W => digitsOf_at (x := m) W (by omega) rfl
  obtain ⟨n, hn⟩ : ∃ n, n = (digs m).length := ⟨_, rfl⟩
  rw [← hn] at hl hd
  have HD := Lib.hid hd
  have HN := Lib.hid hn
  clear hd hn
  go_enter Tryz.func27, Tryz.ntmps27
  go_wp2_with (first | (go_at_call 67; refine (HD.out _).mono ?_; rintro e w1 ⟨ao, cap, rfl, hs1, hb1⟩; have hr1 := (resbox_new w).below hb1; obtain ⟨r0, r1, f0, f1⟩ := hr1.cells; have hz := hr1.lt; have HHs := Lib.hid hs1; clear hs1) | (go_at_call 47; refine (made_any _ _ _ _ _).mono ?_; rintro e w2 ⟨rfl, rfl⟩))
  have hst : Below ((w1.setCell ⟨w.heap.size, 0, none⟩ (.bool (mkN (decide ((m : Int) < 0)) n))).setCell ⟨w.heap.size, 1, none⟩ (.slice (mkA ao n) (mkL n) (mkC n cap))).heap.size ((w1.setCell ⟨w.heap.size, 0, none⟩ (.bool (mkN (decide ((m : Int) < 0)) n))).setCell ⟨w.heap.size, 1, none⟩ (.slice (mkA ao n) (mkL n) (mkC n cap))) ((((w1.setCell ⟨w.heap.size, 0, none⟩ (.bool (mkN (decide ((m : Int) < 0)) n))).setCell ⟨w.heap.size, 1, none⟩ (.slice (mkA ao n) (mkL n) (mkC n cap))).alloc (.cells #[.bool (mkN (decide ((m : Int) < 0)) n), .slice (mkA ao n) (mkL n) (mkC n cap)] 27)).alloc (.cells #[.bool (mkN (decide ((m : Int) < 0)) n), .slice (mkA ao n) (mkL n) (mkC n cap)] 27)) := ((Below.refl _ _).alloc (Nat.le_refl _) _).alloc (by simp) _
  obtain ⟨q0, q1⟩ := hr1.stored (.bool (mkN (decide ((m : Int) < 0)) n)) (.slice (mkA ao n) (mkL n) (mkC n cap))
  replace q0 := cell_later hst q0
  replace q1 := cell_later hst q1
  have hb2 : Below w.heap.size w ((((w1.setCell ⟨w.heap.size, 0, none⟩ (.bool (mkN (decide ((m : Int) < 0)) n))).setCell ⟨w.heap.size, 1, none⟩ (.slice (mkA ao n) (mkL n) (mkC n cap))).alloc (.cells #[.bool (mkN (decide ((m : Int) < 0)) n), .slice (mkA ao n) (mkL n) (mkC n cap)] 27)).alloc (.cells #[.bool (mkN (decide ((m : Int) < 0)) n), .slice (mkA ao n) (mkL n) (mkC n cap)] 27)) := (((((Below.refl w.heap.size w).alloc (Nat.le_refl _) _).trans (hb1.mono (by simp))).setCell (by simp) _).setCell (by simp) _).trans (hst.mono (by simp; omega))
  have hsw : Sw w.heap.size ((((w1.setCell ⟨w.heap.size, 0, none⟩ (.bool (mkN (decide ((m : Int) < 0)) n))).setCell ⟨w.heap.size, 1, none⟩ (.slice (mkA ao n) (mkL n) (mkC n cap))).alloc (.cells #[.bool (mkN (decide ((m : Int) < 0)) n), .slice (mkA ao n) (mkL n) (mkC n cap)] 27)).alloc (.cells #[.bool (mkN (decide ((m : Int) < 0)) n), .slice (mkA ao n) (mkL n) (mkC n cap)] 27)) (.slice ao n cap) (digs m) := ((HHs.out.after2 (g := w.heap.size) (by simp) (.bool (mkN (decide ((m : Int) < 0)) n)) (.slice (mkA ao n) (mkL n) (mkC n cap))).below hst).mono (by simp)
  revert q0 q1 hb2 hsw
  clear hst
  generalize (((w1.setCell ⟨w.heap.size, 0, none⟩ (.bool (mkN (decide ((m : Int) < 0)) n))).setCell ⟨w.heap.size, 1, none⟩ (.slice (mkA ao n) (mkL n) (mkC n cap))).alloc (.cells #[.bool (mkN (decide ((m : Int) < 0)) n), .slice (mkA ao n) (mkL n) (mkC n cap)] 27)).alloc (.cells #[.bool (mkN (decide ((m : Int) < 0)) n), .slice (mkA ao n) (mkL n) (mkC n cap)] 27) = W3
  intro q0 q1 hb2 hsw
  have hmk := mk_ok (B := w.heap.size) (W := W3) (n := n) (ao := ao) (cap := cap) (z := m) (neg := (decide ((m : Int) < 0))) (by rw [Int.natAbs_natCast]; exact HN.out) (by omega) (by simp) (fun _ => by rw [Int.natAbs_natCast]; exact hsw)
  refine bodyPost_ret (v := .agg #[.bool (mkN (decide ((m : Int) < 0)) n), .slice (mkA ao n) (mkL n) (mkC n cap)]) (by simp [results, Tryz.results27, go_sem, q0, q1]) rfl ?_
  exact ⟨_, _, _, _, rfl, hb2, hmk.1, hmk.2⟩

set_option maxRecDepth 10000 in
set_option maxHeartbeats 1000000 in
theorem of_neg (m : Nat) (w : World) (hm : m / 4294967296 < 2147483648 ∨ m = 9223372036854775808) (h0 : m ≠ 0) : Calls Tryz.prog 27 #[.int .i64 (-(m : Int))] w (NewNum w (-(m : Int))) := by
  have hl := digs_word (x := m) (by omega)
  have hd := fun W => digitsOf_at (x := m) W (by omega) rfl
  obtain ⟨n, hn⟩ : ∃ n, n = (digs m).length := ⟨_, rfl⟩
  rw [← hn] at hl hd
  have HD := Lib.hid hd
  have HN := Lib.hid hn
  clear hd hn
  obtain ⟨U, hU⟩ : ∃ U, U = IntKind.u64.wrap (-(m : Int)) := ⟨_, rfl⟩
  have hU2 : IntKind.u64.wrap (-U) = m := by rw [hU]; simp only [IntKind.wrap_u64]; omega
  have hlt : -(m : Int) < 0 := by omega
  replace hU := hU.symm
  have HM := Lib.hid hm
  clear hm
  go_enter Tryz.func27, Tryz.ntmps27
  go_wp2_with (first | (go_at_call 67; refine (HD.out _).mono ?_; rintro e w1 ⟨ao, cap, rfl, hs1, hb1⟩; have hr1 := (resbox_new w).below hb1; obtain ⟨r0, r1, f0, f1⟩ := hr1.cells; have hz := hr1.lt; have HHs := Lib.hid hs1; clear hs1) | (go_at_call 47; refine (made_any _ _ _ _ _).mono ?_; rintro e w2 ⟨rfl, rfl⟩))
  have hst : Below ((w1.setCell ⟨w.heap.size, 0, none⟩ (.bool (mkN true n))).setCell ⟨w.heap.size, 1, none⟩ (.slice (mkA ao n) (mkL n) (mkC n cap))).heap.size ((w1.setCell ⟨w.heap.size, 0, none⟩ (.bool (mkN true n))).setCell ⟨w.heap.size, 1, none⟩ (.slice (mkA ao n) (mkL n) (mkC n cap))) ((((w1.setCell ⟨w.heap.size, 0, none⟩ (.bool (mkN true n))).setCell ⟨w.heap.size, 1, none⟩ (.slice (mkA ao n) (mkL n) (mkC n cap))).alloc (.cells #[.bool (mkN true n), .slice (mkA ao n) (mkL n) (mkC n cap)] 27)).alloc (.cells #[.bool (mkN true n), .slice (mkA ao n) (mkL n) (mkC n cap)] 27)) := ((Below.refl _ _).alloc (Nat.le_refl _) _).alloc (by simp) _
  obtain ⟨q0, q1⟩ := hr1.stored (.bool (mkN true n)) (.slice (mkA ao n) (mkL n) (mkC n cap))
  replace q0 := cell_later hst q0
  replace q1 := cell_later hst q1
  have hb2 : Below w.heap.size w ((((w1.setCell ⟨w.heap.size, 0, none⟩ (.bool (mkN true n))).setCell ⟨w.heap.size, 1, none⟩ (.slice (mkA ao n) (mkL n) (mkC n cap))).alloc (.cells #[.bool (mkN true n), .slice (mkA ao n) (mkL n) (mkC n cap)] 27)).alloc (.cells #[.bool (mkN true n), .slice (mkA ao n) (mkL n) (mkC n cap)] 27)) := (((((Below.refl w.heap.size w).alloc (Nat.le_refl _) _).trans (hb1.mono (by simp))).setCell (by simp) _).setCell (by simp) _).trans (hst.mono (by simp; omega))
  have hsw : Sw w.heap.size ((((w1.setCell ⟨w.heap.size, 0, none⟩ (.bool (mkN true n))).setCell ⟨w.heap.size, 1, none⟩ (.slice (mkA ao n) (mkL n) (mkC n cap))).alloc (.cells #[.bool (mkN true n), .slice (mkA ao n) (mkL n) (mkC n cap)] 27)).alloc (.cells #[.bool (mkN true n), .slice (mkA ao n) (mkL n) (mkC n cap)] 27)) (.slice ao n cap) (digs m) := ((HHs.out.after2 (g := w.heap.size) (by simp) (.bool (mkN true n)) (.slice (mkA ao n) (mkL n) (mkC n cap))).below hst).mono (by simp)
  revert q0 q1 hb2 hsw
  clear hst
  generalize (((w1.setCell ⟨w.heap.size, 0, none⟩ (.bool (mkN true n))).setCell ⟨w.heap.size, 1, none⟩ (.slice (mkA ao n) (mkL n) (mkC n cap))).alloc (.cells #[.bool (mkN true n), .slice (mkA ao n) (mkL n) (mkC n cap)] 27)).alloc (.cells #[.bool (mkN true n), .slice (mkA ao n) (mkL n) (mkC n cap)] 27) = W3
  intro q0 q1 hb2 hsw
  have hmk := mk_ok (B := w.heap.size) (W := W3) (n := n) (ao := ao) (cap := cap) (z := -(m : Int)) (neg := true) (by rw [Int.natAbs_neg, Int.natAbs_natCast]; exact HN.out) (by omega) (by intro _; simp; omega) (fun _ => by rw [Int.natAbs_neg, Int.natAbs_natCast]; exact hsw)
  refine bodyPost_ret (v := .agg #[.bool (mkN true n), .slice (mkA ao n) (mkL n) (mkC n cap)]) (by simp [results, Tryz.results27, go_sem, q0, q1]) rfl ?_
  exact ⟨_, _, _, _, rfl, hb2, hmk.1, hmk.2⟩

end Go.Proofs.YtdgmjmckeeeljaaGreatDoor

namespace Go.Proofs.YtdgmjmckeeeljaaGreatDoor
open Go.RowKit

theorem of_any (n : Int) (w : World) (h1 : -9223372036854775808 ≤ n) (h2 : n ≤ 9223372036854775807) : Calls Tryz.prog 27 #[.int .i64 n] w (NewNum w n) := by
  by_cases h : 0 ≤ n
  · obtain ⟨m, rfl⟩ : ∃ m : Nat, n = m := ⟨n.toNat, by omega⟩
    exact of_nonneg m w (by omega)
  · obtain ⟨m, rfl⟩ : ∃ m : Nat, n = -(m : Int) := ⟨(-n).toNat, by omega⟩
    exact of_neg m w (by omega) (by omega)

theorem NewNum.nu {w w' : World} {z : Int} {e : Ending} (h : NewNum w z e w') (hl : (digs z.natAbs).length ≤ 256) : ∃ x, e = .returned x ∧ Nu w' x z ∧ Below w.heap.size w w' := by
  obtain ⟨neg, ao, n, cap, rfl, hb, rfl, hs⟩ := h
  exact ⟨_, rfl, ⟨_, rfl, hs.sl, hl⟩, hb⟩

theorem rightB_of (neg : Bool) (x : Nat) (h : neg = true → x ≠ 0) (hl : (digs x).length ≤ 256) : rightB neg (digs x) = true := by
  cases neg with
  | false =>
    have := rightB_digs (x : Int) (by simpa using hl)
    have e : decide ((x : Int) < 0) = false := decide_eq_false (by omega)
    rw [e] at this
    simpa using this
  | true =>
    have := rightB_digs (-(x : Int)) (by simpa using hl)
    have e : decide (-(x : Int) < 0) = true := by have := h rfl; simp; omega
    rw [e] at this
    simpa using this

theorem lss_big (x : Nat) (h : x < 9223372036854775808) : binOp BinOp.lss 69 (.int .u64 (x : Int)) (.int .u64 9223372036854775808) = (pure (.bool true) : Sem Value) := by
  have h' : decide ((x : Int) < 9223372036854775808) = true := decide_eq_true (by omega)
  have e : binOp BinOp.lss 69 (.int .u64 (x : Int)) (.int .u64 9223372036854775808) = (pure (.bool (decide ((x : Int) < 9223372036854775808))) : Sem Value) := rfl
  rw [e, h']
theorem lss_big' (x : Nat) (h : 9223372036854775808 ≤ x) : binOp BinOp.lss 69 (.int .u64 (x : Int)) (.int .u64 9223372036854775808) = (pure (.bool false) : Sem Value) := by
  have h' : decide ((x : Int) < 9223372036854775808) = false := decide_eq_false (by omega)
  have e : binOp BinOp.lss 69 (.int .u64 (x : Int)) (.int .u64 9223372036854775808) = (pure (.bool (decide ((x : Int) < 9223372036854775808))) : Sem Value) := rfl
  rw [e, h']

def IntRes (w : World) (z : Int) (ok : Bool) (e : Ending) (w' : World) : Prop := e = .returned (.tuple #[.int .i64 z, .bool ok]) ∧ Below w.heap.size w w'

set_option maxRecDepth 10000 in
set_option maxHeartbeats 1000000 in
theorem int_pos {w : World} {sa : Value} (x : Nat) (ha : Sl w sa (digs x)) (la : (digs x).length ≤ 256) (h : x < 9223372036854775808) :
    Calls Tryz.prog 26 #[.agg #[.bool false, sa]] w (IntRes w (x) true) := by
  have ra : ∀ W, Sl W sa (digs x) → Calls Tryz.prog 32 #[.agg #[.bool false, sa]] W fun e w' => e = .returned (.bool true) ∧ w' = W.alloc (.cells #[.bool false, sa] 27) := fun W h => by
    have := right_any false h (by omega)
    have e : rightB false (digs x) = true := rightB_of _ _ (fun h => by cases h) la
    rwa [e] at this
  have HR := Lib.hid ra
  clear ra
  obtain ⟨aa, ca, rfl⟩ := ha.mk'
  obtain ⟨n, hn⟩ : ∃ n, n = (digs x).length := ⟨_, rfl⟩
  have hv := val_digs x
  rw [← hn] at ha ⊢
  rw [← hn] at HR
  have h2 : n ≤ 2 := by rw [hn]; exact digs_word (by omega)
  have WD : Hid (∀ W, Sl W (.slice aa n ca) (digs x) → Calls Tryz.prog 66 #[.slice aa n ca] W fun e w' => e = .returned (.int .u64 (x : Nat)) ∧ w' = W) := fun W h => by
    have := word_any h (by omega)
    rwa [hv] at this
  have HL := Lib.hid la
  have HN := Lib.hid hn
  have hb := lss_big x h
  have HW := Lib.hid (IntWalk.wrap64_in (x : Int) (by omega))
  clear hn la hv h
  go_enter Tryz.func26, Tryz.ntmps26
  go_wp2_with (first | (go_at_call 32; refine (HR.out _ (ha.below (by go_grown))).mono ?_; rintro e w' ⟨rfl, rfl⟩) | (go_at_call 66; refine (WD.out _ (ha.below (by go_grown))).mono ?_; rintro e w' ⟨rfl, rfl⟩))
  go_returns
  refine ⟨?_, by go_grown⟩
  show Ending.returned (.tuple #[.int .i64 (wrap64 (x : Int)), .bool true]) = _
  rw [HW.out]

set_option maxRecDepth 10000 in
set_option maxHeartbeats 1000000 in
theorem int_neg {w : World} {sa : Value} (x : Nat) (ha : Sl w sa (digs x)) (la : (digs x).length ≤ 256) (h : x ≤ 9223372036854775808) (h0 : x ≠ 0) :
    Calls Tryz.prog 26 #[.agg #[.bool true, sa]] w (IntRes w (-(x : Int)) true) := by
  have ra : ∀ W, Sl W sa (digs x) → Calls Tryz.prog 32 #[.agg #[.bool true, sa]] W fun e w' => e = .returned (.bool true) ∧ w' = W.alloc (.cells #[.bool true, sa] 27) := fun W h => by
    have := right_any true h (by omega)
    have e : rightB true (digs x) = true := rightB_of _ _ (fun _ => h0) la
    rwa [e] at this
  have HR := Lib.hid ra
  clear ra
  obtain ⟨aa, ca, rfl⟩ := ha.mk'
  obtain ⟨n, hn⟩ : ∃ n, n = (digs x).length := ⟨_, rfl⟩
  have hv := val_digs x
  rw [← hn] at ha ⊢
  rw [← hn] at HR
  have h2 : n ≤ 2 := by rw [hn]; exact digs_word (by omega)
  have WD : Hid (∀ W, Sl W (.slice aa n ca) (digs x) → Calls Tryz.prog 66 #[.slice aa n ca] W fun e w' => e = .returned (.int .u64 (x : Nat)) ∧ w' = W) := fun W h => by
    have := word_any h (by omega)
    rwa [hv] at this
  have HL := Lib.hid la
  have HN := Lib.hid hn
  obtain ⟨U, hU⟩ : ∃ U, U = IntKind.u64.wrap (-(x : Int)) := ⟨_, rfl⟩
  have hU2 : IntKind.i64.wrap U = -(x : Int) := by rw [hU]; simp only [IntKind.wrap_u64, IntKind.wrap_i64]; omega
  replace hU := hU.symm
  have hle : (x : Int) ≤ 9223372036854775808 := by omega
  clear hn la hv h h0
  go_enter Tryz.func26, Tryz.ntmps26
  go_wp2_with (first | (go_at_call 32; refine (HR.out _ (ha.below (by go_grown))).mono ?_; rintro e w' ⟨rfl, rfl⟩) | (go_at_call 66; refine (WD.out _ (ha.below (by go_grown))).mono ?_; rintro e w' ⟨rfl, rfl⟩))
  go_returns
  exact ⟨rfl, by go_grown⟩

set_option maxRecDepth 10000 in
set_option maxHeartbeats 1000000 in
theorem int_long {w : World} {sa : Value} (x : Nat) (ha : Sl w sa (digs x)) (la : (digs x).length ≤ 256) (neg : Bool) (h0 : neg = true → x ≠ 0) (h : 2 < (digs x).length) :
    Calls Tryz.prog 26 #[.agg #[.bool neg, sa]] w (IntRes w (0) false) := by
  have ra : ∀ W, Sl W sa (digs x) → Calls Tryz.prog 32 #[.agg #[.bool neg, sa]] W fun e w' => e = .returned (.bool true) ∧ w' = W.alloc (.cells #[.bool neg, sa] 27) := fun W h => by
    have := right_any neg h (by omega)
    have e : rightB neg (digs x) = true := rightB_of _ _ h0 la
    rwa [e] at this
  have HR := Lib.hid ra
  clear ra
  obtain ⟨aa, ca, rfl⟩ := ha.mk'
  obtain ⟨n, hn⟩ : ∃ n, n = (digs x).length := ⟨_, rfl⟩
  have hv := val_digs x
  rw [← hn] at ha ⊢
  rw [← hn] at HR
  have h2 : 2 < n := by rw [hn]; exact h
  clear hn la hv h
  go_enter Tryz.func26, Tryz.ntmps26
  go_wp2_with (first | (go_at_call 32; refine (HR.out _ (ha.below (by go_grown))).mono ?_; rintro e w' ⟨rfl, rfl⟩))
  go_returns
  exact ⟨rfl, by go_grown⟩

set_option maxRecDepth 10000 in
set_option maxHeartbeats 1000000 in
theorem int_over {w : World} {sa : Value} (x : Nat) (ha : Sl w sa (digs x)) (la : (digs x).length ≤ 256) (h : 9223372036854775808 ≤ x) (h2' : (digs x).length ≤ 2) :
    Calls Tryz.prog 26 #[.agg #[.bool false, sa]] w (IntRes w (0) false) := by
  have ra : ∀ W, Sl W sa (digs x) → Calls Tryz.prog 32 #[.agg #[.bool false, sa]] W fun e w' => e = .returned (.bool true) ∧ w' = W.alloc (.cells #[.bool false, sa] 27) := fun W h => by
    have := right_any false h (by omega)
    have e : rightB false (digs x) = true := rightB_of _ _ (fun h => by cases h) la
    rwa [e] at this
  have HR := Lib.hid ra
  clear ra
  obtain ⟨aa, ca, rfl⟩ := ha.mk'
  obtain ⟨n, hn⟩ : ∃ n, n = (digs x).length := ⟨_, rfl⟩
  have hv := val_digs x
  rw [← hn] at ha ⊢
  rw [← hn] at HR
  have h2 : n ≤ 2 := by rw [hn]; exact h2'
  have WD : Hid (∀ W, Sl W (.slice aa n ca) (digs x) → Calls Tryz.prog 66 #[.slice aa n ca] W fun e w' => e = .returned (.int .u64 (x : Nat)) ∧ w' = W) := fun W h => by
    have := word_any h (by omega)
    rwa [hv] at this
  have HL := Lib.hid la
  have HN := Lib.hid hn
  have hb := lss_big' x h
  clear hn la hv h h2'
  go_enter Tryz.func26, Tryz.ntmps26
  go_wp2_with (first | (go_at_call 32; refine (HR.out _ (ha.below (by go_grown))).mono ?_; rintro e w' ⟨rfl, rfl⟩) | (go_at_call 66; refine (WD.out _ (ha.below (by go_grown))).mono ?_; rintro e w' ⟨rfl, rfl⟩))
  go_returns
  exact ⟨rfl, by go_grown⟩

set_option maxRecDepth 10000 in
set_option maxHeartbeats 1000000 in
theorem int_under {w : World} {sa : Value} (x : Nat) (ha : Sl w sa (digs x)) (la : (digs x).length ≤ 256) (h : 9223372036854775808 < x) (h2' : (digs x).length ≤ 2) (h0 : x ≠ 0) :
    Calls Tryz.prog 26 #[.agg #[.bool true, sa]] w (IntRes w (0) false) := by
  have ra : ∀ W, Sl W sa (digs x) → Calls Tryz.prog 32 #[.agg #[.bool true, sa]] W fun e w' => e = .returned (.bool true) ∧ w' = W.alloc (.cells #[.bool true, sa] 27) := fun W h => by
    have := right_any true h (by omega)
    have e : rightB true (digs x) = true := rightB_of _ _ (fun _ => h0) la
    rwa [e] at this
  have HR := Lib.hid ra
  clear ra
  obtain ⟨aa, ca, rfl⟩ := ha.mk'
  obtain ⟨n, hn⟩ : ∃ n, n = (digs x).length := ⟨_, rfl⟩
  have hv := val_digs x
  rw [← hn] at ha ⊢
  rw [← hn] at HR
  have h2 : n ≤ 2 := by rw [hn]; exact h2'
  have WD : Hid (∀ W, Sl W (.slice aa n ca) (digs x) → Calls Tryz.prog 66 #[.slice aa n ca] W fun e w' => e = .returned (.int .u64 (x : Nat)) ∧ w' = W) := fun W h => by
    have := word_any h (by omega)
    rwa [hv] at this
  have HL := Lib.hid la
  have HN := Lib.hid hn
  have hle : ¬ (x : Int) ≤ 9223372036854775808 := by omega
  clear hn la hv h h2' h0
  go_enter Tryz.func26, Tryz.ntmps26
  go_wp2_with (first | (go_at_call 32; refine (HR.out _ (ha.below (by go_grown))).mono ?_; rintro e w' ⟨rfl, rfl⟩) | (go_at_call 66; refine (WD.out _ (ha.below (by go_grown))).mono ?_; rintro e w' ⟨rfl, rfl⟩))
  go_returns
  exact ⟨rfl, by go_grown⟩

/-- num.Int of a right number whose int there is. -/
theorem int_yes {w : World} {x : Value} {z : Int} (hx : Nu w x z) (h1 : -9223372036854775808 ≤ z) (h2 : z ≤ 9223372036854775807) : Calls Tryz.prog 26 #[x] w (IntRes w z true) := by
  obtain ⟨sa, rfl, ha, la⟩ := hx
  by_cases h : 0 ≤ z
  · have e1 : decide (z < 0) = false := decide_eq_false (by omega)
    have e2 : ((z.natAbs : Nat) : Int) = z := by omega
    have := int_pos z.natAbs ha la (by omega)
    rw [e2] at this
    rw [e1]
    exact this
  · have e1 : decide (z < 0) = true := decide_eq_true (by omega)
    have e2 : -((z.natAbs : Nat) : Int) = z := by omega
    have := int_neg z.natAbs ha la (by omega) (by omega)
    rw [e2] at this
    rw [e1]
    exact this

/-- num.Int of a right number whose int there is none. -/
theorem int_no {w : World} {x : Value} {z : Int} (hx : Nu w x z) (h : z < -9223372036854775808 ∨ 9223372036854775807 < z) : Calls Tryz.prog 26 #[x] w (IntRes w 0 false) := by
  obtain ⟨sa, rfl, ha, la⟩ := hx
  by_cases hl : 2 < (digs z.natAbs).length
  · exact int_long z.natAbs ha la _ (fun h => by have := of_decide_eq_true h; omega) hl
  · by_cases h0 : 0 ≤ z
    · have e1 : decide (z < 0) = false := decide_eq_false (by omega)
      rw [e1]
      exact int_over z.natAbs ha la (by omega) (by omega)
    · have e1 : decide (z < 0) = true := decide_eq_true (by omega)
      rw [e1]
      exact int_under z.natAbs ha la (by omega) (by omega) (by omega)

end Go.Proofs.YtdgmjmckeeeljaaGreatDoor

namespace Go.Proofs
open Go.Shelf
def Tryz.lays169_ren : Go.Shelf.Ren := ⟨fun | 169 => 62 | n => n, fun | 70 => 71 | 9 => 9 | 0 => 0 | 72 => 73 | 37 => 56 | 127 => 112 | 3 => 3 | 5 => 5 | n => n, fun | n => n⟩
theorem Tryz.lays169 : Go.Proofs.Lays.n169 Tryz.prog Tryz.lays169_ren := {
  mixed := by kernel_rfl
  f169 := Tryz.func62.trans (congrArg some (by kernel_rfl))
  t0 := Tryz.underlying0
  a0 := Tryz.isAgg0
  z0 := Tryz.sizeOf0
  v0 := Tryz.zeroValue0
  t3 := Tryz.underlying3
  a3 := Tryz.isAgg3
  z3 := Tryz.sizeOf3
  v3 := Tryz.zeroValue3
  t9 := Tryz.underlying9
  a9 := Tryz.isAgg9
  z9 := Tryz.sizeOf9
  v9 := Tryz.zeroValue9
  t37 := Tryz.underlying56
  a37 := Tryz.isAgg56
  z37 := Tryz.sizeOf56
  v37 := Tryz.zeroValue56
  t70 := Tryz.underlying71
  a70 := Tryz.isAgg71
  z70 := Tryz.sizeOf71
  v70 := Tryz.zeroValue71
  t72 := Tryz.underlying73
  a72 := Tryz.isAgg73
  z72 := Tryz.sizeOf73
  v72 := Tryz.zeroValue73
  t127 := Tryz.underlying112
  a127 := Tryz.isAgg112
  z127 := Tryz.sizeOf112
  v127 := Tryz.zeroValue112 }
theorem Tryz.Builder_Extra_169 : Builder.Extra Tryz.prog Tryz.lays169_ren := {
  sizeBuilder := by kernel_rfl
  liesBuilder := by kernel_rfl
  t5 := Tryz.underlying5
  a5 := Tryz.isAgg5
  z5 := Tryz.sizeOf5
  v5 := Tryz.zeroValue5
  infoByte := by kernel_rfl
  cellsByte := by kernel_rfl
  sizeByte := by kernel_rfl
  neB5 := by decide }
open Go.RowKit in
theorem Tryz.Builder_String_any (B b : Nat) (l : List UInt8) (w : World) (h : Lib.IsBuilder 73 5 B b (Lib.byteCells l) w) (hBw : B ≤ w.heap.size) :
    Calls Tryz.prog 62 #[.pointer (some ⟨b, 0, none⟩)] w fun e w' => e = .returned (.string ⟨l.toArray⟩) ∧ Below B w w' := Any.Builder_String_any Tryz.lays169 Tryz.Builder_Extra_169 B b l w h hBw
def Tryz.lays128_ren : Go.Shelf.Ren := ⟨fun | 128 => 70 | n => n, fun | 51 => 59 | 3 => 3 | 4 => 4 | 46 => 67 | 5 => 5 | 9 => 9 | n => n, fun | n => n⟩
theorem Tryz.lays128 : Go.Proofs.Lays.n128 Tryz.prog Tryz.lays128_ren := {
  mixed := by kernel_rfl
  f128 := Tryz.func70.trans (congrArg some (by kernel_rfl))
  t3 := Tryz.underlying3
  a3 := Tryz.isAgg3
  z3 := Tryz.sizeOf3
  v3 := Tryz.zeroValue3
  t4 := Tryz.underlying4
  a4 := Tryz.isAgg4
  z4 := Tryz.sizeOf4
  v4 := Tryz.zeroValue4
  t5 := Tryz.underlying5
  a5 := Tryz.isAgg5
  z5 := Tryz.sizeOf5
  v5 := Tryz.zeroValue5
  t9 := Tryz.underlying9
  a9 := Tryz.isAgg9
  z9 := Tryz.sizeOf9
  v9 := Tryz.zeroValue9
  t46 := Tryz.underlying67
  a46 := Tryz.isAgg67
  z46 := Tryz.sizeOf67
  v46 := Tryz.zeroValue67
  t51 := Tryz.underlying59
  a51 := Tryz.isAgg59
  z51 := Tryz.sizeOf59
  v51 := Tryz.zeroValue59 }
theorem Tryz.bits_Len32 (x : Int) (w : World) (h0 : 0 ≤ x) (h1 : x ≤ 4294967295) :
    Calls Tryz.prog 70 #[.int .u32 x] w fun e w' => e = .returned (.int .i64 (Lib.bitLen x.toNat)) ∧ w' = w := Any.bits_Len32 Tryz.lays128 x w h0 h1
def Tryz.lays125_ren : Go.Shelf.Ren := ⟨fun | 125 => 52 | 128 => 70 | 129 => 88 | n => n, fun | 46 => 67 | 3 => 3 | 51 => 59 | 53 => 69 | 4 => 4 | 5 => 5 | 9 => 9 | n => n, fun | n => n⟩
theorem Tryz.lays125 : Go.Proofs.Lays.n125 Tryz.prog Tryz.lays125_ren := {
  mixed := by kernel_rfl
  f125 := Tryz.func52.trans (congrArg some (by kernel_rfl))
  f128 := Tryz.func70.trans (congrArg some (by kernel_rfl))
  f129 := Tryz.func88.trans (congrArg some (by kernel_rfl))
  t3 := Tryz.underlying3
  a3 := Tryz.isAgg3
  z3 := Tryz.sizeOf3
  v3 := Tryz.zeroValue3
  t4 := Tryz.underlying4
  a4 := Tryz.isAgg4
  z4 := Tryz.sizeOf4
  v4 := Tryz.zeroValue4
  t5 := Tryz.underlying5
  a5 := Tryz.isAgg5
  z5 := Tryz.sizeOf5
  v5 := Tryz.zeroValue5
  t9 := Tryz.underlying9
  a9 := Tryz.isAgg9
  z9 := Tryz.sizeOf9
  v9 := Tryz.zeroValue9
  t46 := Tryz.underlying67
  a46 := Tryz.isAgg67
  z46 := Tryz.sizeOf67
  v46 := Tryz.zeroValue67
  t51 := Tryz.underlying59
  a51 := Tryz.isAgg59
  z51 := Tryz.sizeOf59
  v51 := Tryz.zeroValue59
  t53 := Tryz.underlying69
  a53 := Tryz.isAgg69
  z53 := Tryz.sizeOf69
  v53 := Tryz.zeroValue69 }
theorem Tryz.bits_Len (x : Int) (w : World) (h0 : 0 ≤ x) (h1 : x ≤ 18446744073709551615) :
    Calls Tryz.prog 52 #[.int .u64 x] w fun e w' => e = .returned (.int .i64 (Lib.bitLen x.toNat)) ∧ w' = w := Any.bits_Len Tryz.lays125 x w h0 h1
def Tryz.lays133_ren : Go.Shelf.Ren := ⟨fun | 133 => 101 | 128 => 70 | n => n, fun | 51 => 59 | 3 => 3 | 4 => 4 | 46 => 67 | 5 => 5 | 9 => 9 | n => n, fun | n => n⟩
theorem Tryz.lays133 : Go.Proofs.Lays.n133 Tryz.prog Tryz.lays133_ren := {
  mixed := by kernel_rfl
  f128 := Tryz.func70.trans (congrArg some (by kernel_rfl))
  f133 := Tryz.func101.trans (congrArg some (by kernel_rfl))
  t3 := Tryz.underlying3
  a3 := Tryz.isAgg3
  z3 := Tryz.sizeOf3
  v3 := Tryz.zeroValue3
  t4 := Tryz.underlying4
  a4 := Tryz.isAgg4
  z4 := Tryz.sizeOf4
  v4 := Tryz.zeroValue4
  t5 := Tryz.underlying5
  a5 := Tryz.isAgg5
  z5 := Tryz.sizeOf5
  v5 := Tryz.zeroValue5
  t9 := Tryz.underlying9
  a9 := Tryz.isAgg9
  z9 := Tryz.sizeOf9
  v9 := Tryz.zeroValue9
  t46 := Tryz.underlying67
  a46 := Tryz.isAgg67
  z46 := Tryz.sizeOf67
  v46 := Tryz.zeroValue67
  t51 := Tryz.underlying59
  a51 := Tryz.isAgg59
  z51 := Tryz.sizeOf59
  v51 := Tryz.zeroValue59 }
theorem Tryz.bits_LeadingZeros32 (x : Int) (w : World) (h0 : 0 ≤ x) (h1 : x ≤ 4294967295) :
    Calls Tryz.prog 101 #[.int .u32 x] w fun e w' => e = .returned (.int .i64 (32 - (Lib.bitLen x.toNat : Int))) ∧ w' = w := Any.bits_LeadingZeros32 Tryz.lays133 x w h0 h1
def Tryz.lays103_ren : Go.Shelf.Ren := ⟨fun | 103 => 63 | 210 => 96 | 206 => 116 | n => n, fun | 9 => 9 | 4 => 4 | 24 => 85 | 3 => 3 | n => n, fun | n => n⟩
theorem Tryz.lays103 : Go.Proofs.Lays.n103 Tryz.prog Tryz.lays103_ren := {
  mixed := by kernel_rfl
  f103 := Tryz.func63.trans (congrArg some (by kernel_rfl))
  f206 := Tryz.func116.trans (congrArg some (by kernel_rfl))
  f210 := Tryz.func96.trans (congrArg some (by kernel_rfl))
  t3 := Tryz.underlying3
  a3 := Tryz.isAgg3
  z3 := Tryz.sizeOf3
  v3 := Tryz.zeroValue3
  t4 := Tryz.underlying4
  a4 := Tryz.isAgg4
  z4 := Tryz.sizeOf4
  v4 := Tryz.zeroValue4
  t9 := Tryz.underlying9
  a9 := Tryz.isAgg9
  z9 := Tryz.sizeOf9
  v9 := Tryz.zeroValue9
  t24 := Tryz.underlying85
  a24 := Tryz.isAgg85
  z24 := Tryz.sizeOf85
  v24 := Tryz.zeroValue85 }
open Go.RowKit in
theorem Tryz.strings_CutPrefix (s p : ByteArray) (w : World) :
    Calls Tryz.prog 63 #[.string s, .string p] w fun e w' => e = .returned (.tuple #[.string ⟨(Lib.trimPrefix s.data.toList p.data.toList).toArray⟩, .bool (Lib.hasPrefix s.data.toList p.data.toList)]) ∧ w' = w := Any.strings_CutPrefix Tryz.lays103 s p w
def Tryz.lays283_ren : Go.Shelf.Ren := ⟨fun | 283 => 110 | n => n, fun | 3 => 3 | 9 => 9 | 4 => 4 | n => n, fun | n => n⟩
theorem Tryz.lays283 : Go.Proofs.Lays.n283 Tryz.prog Tryz.lays283_ren := {
  mixed := by kernel_rfl
  f283 := Tryz.func110.trans (congrArg some (by kernel_rfl))
  t3 := Tryz.underlying3
  a3 := Tryz.isAgg3
  z3 := Tryz.sizeOf3
  v3 := Tryz.zeroValue3
  t4 := Tryz.underlying4
  a4 := Tryz.isAgg4
  z4 := Tryz.sizeOf4
  v4 := Tryz.zeroValue4
  t9 := Tryz.underlying9
  a9 := Tryz.isAgg9
  z9 := Tryz.sizeOf9
  v9 := Tryz.zeroValue9 }
open Go.Lib in
theorem Tryz.internal_strconv_small (i : Nat) (h : i < 100) (w : World) :
    Calls Tryz.prog 110 #[.int .i64 i] w fun e w' => e = .returned (.string ⟨(Lib.decDigits i).toArray⟩) ∧ w' = w := Any.internal_strconv_small Tryz.lays283 i h w
def Tryz.laysM284_ren : Go.Shelf.Ren := ⟨fun | 284 => 111 | 129 => 88 | 317 => 123 | 318 => 124 | n => n, fun | 53 => 69 | 3 => 3 | 212 => 137 | 0 => 0 | 4 => 4 | 46 => 67 | 5 => 5 | 9 => 9 | n => n, fun | 17 => 1 | n => n⟩
theorem Tryz.laysM284 : Go.Proofs.LaysM.n284 Tryz.prog Tryz.laysM284_ren := {
  mixed := by kernel_rfl
  f129 := Tryz.func88.trans (congrArg some (by kernel_rfl))
  f284 := Tryz.func111.trans (congrArg some (by kernel_rfl))
  f317 := Tryz.func123.trans (congrArg some (by kernel_rfl))
  f318 := Tryz.func124.trans (congrArg some (by kernel_rfl))
  t0 := Tryz.underlying0
  a0 := Tryz.isAgg0
  z0 := Tryz.sizeOf0
  v0 := Tryz.zeroValue0
  t3 := Tryz.underlying3
  a3 := Tryz.isAgg3
  z3 := Tryz.sizeOf3
  v3 := Tryz.zeroValue3
  t4 := Tryz.underlying4
  a4 := Tryz.isAgg4
  z4 := Tryz.sizeOf4
  v4 := Tryz.zeroValue4
  t5 := Tryz.underlying5
  a5 := Tryz.isAgg5
  z5 := Tryz.sizeOf5
  v5 := Tryz.zeroValue5
  t9 := Tryz.underlying9
  a9 := Tryz.isAgg9
  z9 := Tryz.sizeOf9
  v9 := Tryz.zeroValue9
  t46 := Tryz.underlying67
  a46 := Tryz.isAgg67
  z46 := Tryz.sizeOf67
  v46 := Tryz.zeroValue67
  t53 := Tryz.underlying69
  a53 := Tryz.isAgg69
  z53 := Tryz.sizeOf69
  v53 := Tryz.zeroValue69
  t212 := Tryz.underlying137
  a212 := Tryz.isAgg137
  z212 := Tryz.sizeOf137
  v212 := Tryz.zeroValue137
  g17 := by kernel_rfl
  i0 := by kernel_rfl
  i3 := by kernel_rfl
  i4 := by kernel_rfl
  i5 := by kernel_rfl
  i9 := by kernel_rfl
  i46 := by kernel_rfl
  i53 := by kernel_rfl
  i212 := by kernel_rfl
  m17 := by kernel_rfl }
open Go.Lib in
theorem Tryz.internal_strconv_numDigits (u : Nat) (h1 : 1 ≤ u) (h2 : u < 18446744073709551616) (w : World) (htab : Lib.TabIs Tryz.prog w "internal/strconv.uint64pow10" .u64 Lib.pow10Tab) :
    Calls Tryz.prog 111 #[.int .u64 u] w fun e w' => e = .returned (.int .i64 (Lib.nDigits u)) ∧ w' = w := Any.internal_strconv_numDigits Tryz.laysM284 u h1 h2 w htab
def Tryz.lays285_ren : Go.Shelf.Ren := ⟨fun | 285 => 112 | n => n, fun | 37 => 56 | 53 => 69 | 3 => 3 | 4 => 4 | 51 => 59 | 9 => 9 | 5 => 5 | 0 => 0 | n => n, fun | n => n⟩
theorem Tryz.lays285 : Go.Proofs.Lays.n285 Tryz.prog Tryz.lays285_ren := {
  mixed := by kernel_rfl
  f285 := Tryz.func112.trans (congrArg some (by kernel_rfl))
  t0 := Tryz.underlying0
  a0 := Tryz.isAgg0
  z0 := Tryz.sizeOf0
  v0 := Tryz.zeroValue0
  t3 := Tryz.underlying3
  a3 := Tryz.isAgg3
  z3 := Tryz.sizeOf3
  v3 := Tryz.zeroValue3
  t4 := Tryz.underlying4
  a4 := Tryz.isAgg4
  z4 := Tryz.sizeOf4
  v4 := Tryz.zeroValue4
  t5 := Tryz.underlying5
  a5 := Tryz.isAgg5
  z5 := Tryz.sizeOf5
  v5 := Tryz.zeroValue5
  t9 := Tryz.underlying9
  a9 := Tryz.isAgg9
  z9 := Tryz.sizeOf9
  v9 := Tryz.zeroValue9
  t37 := Tryz.underlying56
  a37 := Tryz.isAgg56
  z37 := Tryz.sizeOf56
  v37 := Tryz.zeroValue56
  t51 := Tryz.underlying59
  a51 := Tryz.isAgg59
  z51 := Tryz.sizeOf59
  v51 := Tryz.zeroValue59
  t53 := Tryz.underlying69
  a53 := Tryz.isAgg69
  z53 := Tryz.sizeOf69
  v53 := Tryz.zeroValue69 }
open Go.RowKit Go.Sort Go.Lib in
theorem Tryz.internal_strconv_formatBase10 (blk off cap : Nat) (u : Nat) (d : Array UInt8) (w : World) (hH : Holds (fun (b : UInt8) => Value.int .u8 (b.toNat : Int)) w blk off d) (hu : u < 10 ^ d.size) (hu64 : u < 18446744073709551616) (hsz : d.size < 4611686018427387904) :
    Calls Tryz.prog 112 #[.slice (some ⟨blk, off, none⟩) d.size cap, .int .u64 u] w fun e w' =>
      e = .returned (.tuple #[]) ∧ ∃ (n v' : Nat) (dk : Array UInt8), w' = (putRow (fun (b : UInt8) => Value.int .u8 (b.toNat : Int)) w blk off dk).drewN n ∧ FmtInv d.size u 0 v' dk := Any.internal_strconv_formatBase10 Tryz.lays285 blk off cap u d w hH hu hu64 hsz
def Tryz.laysPu14_ren : Go.Shelf.Ren := ⟨fun | 14 => 97 | 16 => 118 | 17 => 119 | 19 => 128 | 20 => 129 | 21 => 130 | 22 => 131 | 23 => 132 | 24 => 133 | 25 => 136 | 27 => 138 | 26 => 137 | 28 => 139 | 29 => 140 | 30 => 110 | 31 => 111 | 32 => 112 | 33 => 113 | 35 => 88 | 34 => 123 | 36 => 124 | 37 => 125 | 38 => 126 | 39 => 134 | 40 => 135 | n => n, fun | 9 => 9 | 3 => 3 | 22 => 69 | 24 => 75 | 25 => 113 | 4 => 4 | 34 => 140 | 5 => 5 | 36 => 67 | 37 => 56 | 0 => 0 | 39 => 142 | 21 => 21 | 44 => 147 | 47 => 112 | 50 => 153 | 48 => 151 | 2 => 2 | 52 => 125 | 55 => 127 | 59 => 137 | 60 => 59 | 20 => 20 | 61 => 138 | 65 => 149 | 66 => 150 | 67 => 84 | n => n, fun | 0 => 3 | 1 => 4 | 2 => 1 | 3 => 5 | 4 => 6 | n => n⟩
theorem Tryz.laysPu14 : Go.Proofs.LaysPu.n14 Tryz.prog Tryz.laysPu14_ren := {
  mixed := by kernel_rfl
  f14 := Tryz.func97.trans (congrArg some (by kernel_rfl))
  f16 := Tryz.func118.trans (congrArg some (by kernel_rfl))
  f17 := Tryz.func119.trans (congrArg some (by kernel_rfl))
  f19 := Tryz.func128.trans (congrArg some (by kernel_rfl))
  f20 := Tryz.func129.trans (congrArg some (by kernel_rfl))
  f21 := Tryz.func130.trans (congrArg some (by kernel_rfl))
  f22 := Tryz.func131.trans (congrArg some (by kernel_rfl))
  f23 := Tryz.func132.trans (congrArg some (by kernel_rfl))
  f24 := Tryz.func133.trans (congrArg some (by kernel_rfl))
  f25 := Tryz.func136.trans (congrArg some (by kernel_rfl))
  f26 := Tryz.func137.trans (congrArg some (by kernel_rfl))
  f27 := Tryz.func138.trans (congrArg some (by kernel_rfl))
  f28 := Tryz.func139.trans (congrArg some (by kernel_rfl))
  f29 := Tryz.func140.trans (congrArg some (by kernel_rfl))
  f30 := Tryz.func110.trans (congrArg some (by kernel_rfl))
  f31 := Tryz.func111.trans (congrArg some (by kernel_rfl))
  f32 := Tryz.func112.trans (congrArg some (by kernel_rfl))
  f33 := Tryz.func113.trans (congrArg some (by kernel_rfl))
  f34 := Tryz.func123.trans (congrArg some (by kernel_rfl))
  f35 := Tryz.func88.trans (congrArg some (by kernel_rfl))
  f36 := Tryz.func124.trans (congrArg some (by kernel_rfl))
  f37 := Tryz.func125.trans (congrArg some (by kernel_rfl))
  f38 := Tryz.func126.trans (congrArg some (by kernel_rfl))
  f39 := Tryz.func134.trans (congrArg some (by kernel_rfl))
  f40 := Tryz.func135.trans (congrArg some (by kernel_rfl))
  t0 := Tryz.underlying0
  a0 := Tryz.isAgg0
  z0 := Tryz.sizeOf0
  v0 := Tryz.zeroValue0
  i0 := by kernel_rfl
  t2 := Tryz.underlying2
  a2 := Tryz.isAgg2
  z2 := Tryz.sizeOf2
  v2 := Tryz.zeroValue2
  i2 := by kernel_rfl
  t3 := Tryz.underlying3
  a3 := Tryz.isAgg3
  z3 := Tryz.sizeOf3
  v3 := Tryz.zeroValue3
  i3 := by kernel_rfl
  t4 := Tryz.underlying4
  a4 := Tryz.isAgg4
  z4 := Tryz.sizeOf4
  v4 := Tryz.zeroValue4
  i4 := by kernel_rfl
  t5 := Tryz.underlying5
  a5 := Tryz.isAgg5
  z5 := Tryz.sizeOf5
  v5 := Tryz.zeroValue5
  i5 := by kernel_rfl
  t9 := Tryz.underlying9
  a9 := Tryz.isAgg9
  z9 := Tryz.sizeOf9
  v9 := Tryz.zeroValue9
  i9 := by kernel_rfl
  t20 := Tryz.underlying20
  a20 := Tryz.isAgg20
  z20 := Tryz.sizeOf20
  v20 := Tryz.zeroValue20
  i20 := by kernel_rfl
  t21 := Tryz.underlying21
  a21 := Tryz.isAgg21
  z21 := Tryz.sizeOf21
  v21 := Tryz.zeroValue21
  i21 := by kernel_rfl
  t22 := Tryz.underlying69
  a22 := Tryz.isAgg69
  z22 := Tryz.sizeOf69
  v22 := Tryz.zeroValue69
  i22 := by kernel_rfl
  t24 := Tryz.underlying75
  a24 := Tryz.isAgg75
  z24 := Tryz.sizeOf75
  v24 := Tryz.zeroValue75
  i24 := by kernel_rfl
  t25 := Tryz.underlying113
  a25 := Tryz.isAgg113
  z25 := Tryz.sizeOf113
  v25 := Tryz.zeroValue113
  i25 := by kernel_rfl
  t34 := Tryz.underlying140
  a34 := Tryz.isAgg140
  z34 := Tryz.sizeOf140
  v34 := Tryz.zeroValue140
  i34 := by kernel_rfl
  c34 := by kernel_rfl
  t36 := Tryz.underlying67
  a36 := Tryz.isAgg67
  z36 := Tryz.sizeOf67
  v36 := Tryz.zeroValue67
  i36 := by kernel_rfl
  t37 := Tryz.underlying56
  a37 := Tryz.isAgg56
  z37 := Tryz.sizeOf56
  v37 := Tryz.zeroValue56
  i37 := by kernel_rfl
  t39 := Tryz.underlying142
  a39 := Tryz.isAgg142
  z39 := Tryz.sizeOf142
  v39 := Tryz.zeroValue142
  i39 := by kernel_rfl
  t44 := Tryz.underlying147
  a44 := Tryz.isAgg147
  z44 := Tryz.sizeOf147
  v44 := Tryz.zeroValue147
  i44 := by kernel_rfl
  t47 := Tryz.underlying112
  a47 := Tryz.isAgg112
  z47 := Tryz.sizeOf112
  v47 := Tryz.zeroValue112
  i47 := by kernel_rfl
  t48 := Tryz.underlying151
  a48 := Tryz.isAgg151
  z48 := Tryz.sizeOf151
  v48 := Tryz.zeroValue151
  i48 := by kernel_rfl
  t50 := Tryz.underlying153
  a50 := Tryz.isAgg153
  z50 := Tryz.sizeOf153
  v50 := Tryz.zeroValue153
  i50 := by kernel_rfl
  t52 := Tryz.underlying125
  a52 := Tryz.isAgg125
  z52 := Tryz.sizeOf125
  v52 := Tryz.zeroValue125
  i52 := by kernel_rfl
  t55 := Tryz.underlying127
  a55 := Tryz.isAgg127
  z55 := Tryz.sizeOf127
  v55 := Tryz.zeroValue127
  i55 := by kernel_rfl
  t59 := Tryz.underlying137
  a59 := Tryz.isAgg137
  z59 := Tryz.sizeOf137
  v59 := Tryz.zeroValue137
  i59 := by kernel_rfl
  t60 := Tryz.underlying59
  a60 := Tryz.isAgg59
  z60 := Tryz.sizeOf59
  v60 := Tryz.zeroValue59
  i60 := by kernel_rfl
  t61 := Tryz.underlying138
  a61 := Tryz.isAgg138
  z61 := Tryz.sizeOf138
  t65 := Tryz.underlying149
  a65 := Tryz.isAgg149
  z65 := Tryz.sizeOf149
  v65 := Tryz.zeroValue149
  i65 := by kernel_rfl
  t66 := Tryz.underlying150
  a66 := Tryz.isAgg150
  z66 := Tryz.sizeOf150
  v66 := Tryz.zeroValue150
  i66 := by kernel_rfl
  t67 := Tryz.underlying84
  a67 := Tryz.isAgg84
  z67 := Tryz.sizeOf84
  v67 := Tryz.zeroValue84
  i67 := by kernel_rfl
  g0 := by kernel_rfl
  m0 := by kernel_rfl
  g1 := by kernel_rfl
  m1 := by kernel_rfl
  g2 := by kernel_rfl
  m2 := by kernel_rfl
  g3 := by kernel_rfl
  m3 := by kernel_rfl
  g4 := by kernel_rfl
  m4 := by kernel_rfl }
open Go.RowKit in
theorem Tryz.strconv_ParseUint_10_at32_ok (s : ByteArray) (hmax : s.size ≤ 9223372036854775806) (u : Nat) (h : Lib.parseUintB 32 s.data.toList = .ok u) (w : World) :
    Calls Tryz.prog 97 #[.string s, .int .i64 10, .int .i64 32] w fun e w' => e = .returned (.tuple #[.int .u64 u, .nilIface]) ∧ (w' = w ∨ w' = Lib.bytesWorld w 5 s) := Any.strconv_ParseUint_10_at32_ok Tryz.laysPu14 s hmax u h w
def Tryz.lays105_ren : Go.Shelf.Ren := ⟨fun | 105 => 61 | 212 => 92 | 99 => 93 | 165 => 94 | 166 => 60 | 170 => 95 | 169 => 62 | 263 => 114 | 264 => 115 | 206 => 116 | 240 => 89 | 241 => 117 | 276 => 109 | 277 => 127 | n => n, fun | 9 => 9 | 3 => 3 | 4 => 4 | 20 => 20 | 0 => 0 | 46 => 67 | 109 => 107 | 5 => 5 | 72 => 73 | 76 => 81 | 51 => 59 | 146 => 96 | 53 => 69 | 148 => 130 | 70 => 71 | 37 => 56 | 75 => 75 | 127 => 112 | 164 => 122 | 80 => 84 | n => n, fun | n => n⟩
theorem Tryz.lays105 : Go.Proofs.Lays.n105 Tryz.prog Tryz.lays105_ren := {
  mixed := by kernel_rfl
  f99 := Tryz.func93.trans (congrArg some (by kernel_rfl))
  f105 := Tryz.func61.trans (congrArg some (by kernel_rfl))
  f165 := Tryz.func94.trans (congrArg some (by kernel_rfl))
  f166 := Tryz.func60.trans (congrArg some (by kernel_rfl))
  f169 := Tryz.func62.trans (congrArg some (by kernel_rfl))
  f170 := Tryz.func95.trans (congrArg some (by kernel_rfl))
  f206 := Tryz.func116.trans (congrArg some (by kernel_rfl))
  f212 := Tryz.func92.trans (congrArg some (by kernel_rfl))
  f240 := Tryz.func89.trans (congrArg some (by kernel_rfl))
  f241 := Tryz.func117.trans (congrArg some (by kernel_rfl))
  f263 := Tryz.func114.trans (congrArg some (by kernel_rfl))
  f264 := Tryz.func115.trans (congrArg some (by kernel_rfl))
  f276 := Tryz.func109.trans (congrArg some (by kernel_rfl))
  f277 := Tryz.func127.trans (congrArg some (by kernel_rfl))
  t0 := Tryz.underlying0
  a0 := Tryz.isAgg0
  z0 := Tryz.sizeOf0
  v0 := Tryz.zeroValue0
  t3 := Tryz.underlying3
  a3 := Tryz.isAgg3
  z3 := Tryz.sizeOf3
  v3 := Tryz.zeroValue3
  t4 := Tryz.underlying4
  a4 := Tryz.isAgg4
  z4 := Tryz.sizeOf4
  v4 := Tryz.zeroValue4
  t5 := Tryz.underlying5
  a5 := Tryz.isAgg5
  z5 := Tryz.sizeOf5
  v5 := Tryz.zeroValue5
  t9 := Tryz.underlying9
  a9 := Tryz.isAgg9
  z9 := Tryz.sizeOf9
  v9 := Tryz.zeroValue9
  t20 := Tryz.underlying20
  a20 := Tryz.isAgg20
  z20 := Tryz.sizeOf20
  v20 := Tryz.zeroValue20
  t37 := Tryz.underlying56
  a37 := Tryz.isAgg56
  z37 := Tryz.sizeOf56
  v37 := Tryz.zeroValue56
  t46 := Tryz.underlying67
  a46 := Tryz.isAgg67
  z46 := Tryz.sizeOf67
  v46 := Tryz.zeroValue67
  t51 := Tryz.underlying59
  a51 := Tryz.isAgg59
  z51 := Tryz.sizeOf59
  v51 := Tryz.zeroValue59
  t53 := Tryz.underlying69
  a53 := Tryz.isAgg69
  z53 := Tryz.sizeOf69
  v53 := Tryz.zeroValue69
  t70 := Tryz.underlying71
  a70 := Tryz.isAgg71
  z70 := Tryz.sizeOf71
  v70 := Tryz.zeroValue71
  t72 := Tryz.underlying73
  a72 := Tryz.isAgg73
  z72 := Tryz.sizeOf73
  v72 := Tryz.zeroValue73
  t75 := Tryz.underlying75
  a75 := Tryz.isAgg75
  z75 := Tryz.sizeOf75
  v75 := Tryz.zeroValue75
  t76 := Tryz.underlying81
  a76 := Tryz.isAgg81
  z76 := Tryz.sizeOf81
  v76 := Tryz.zeroValue81
  t109 := Tryz.underlying107
  a109 := Tryz.isAgg107
  z109 := Tryz.sizeOf107
  v109 := Tryz.zeroValue107
  t127 := Tryz.underlying112
  a127 := Tryz.isAgg112
  z127 := Tryz.sizeOf112
  v127 := Tryz.zeroValue112
  t146 := Tryz.underlying96
  a146 := Tryz.isAgg96
  z146 := Tryz.sizeOf96
  v146 := Tryz.zeroValue96
  t148 := Tryz.underlying130
  a148 := Tryz.isAgg130
  z148 := Tryz.sizeOf130
  v148 := Tryz.zeroValue130
  t164 := Tryz.underlying122
  a164 := Tryz.isAgg122
  z164 := Tryz.sizeOf122
  v164 := Tryz.zeroValue122 }
theorem Tryz.Builder_Extra_105 : Builder.Extra Tryz.prog Tryz.lays105_ren := {
  sizeBuilder := by kernel_rfl
  liesBuilder := by kernel_rfl
  t5 := Tryz.underlying5
  a5 := Tryz.isAgg5
  z5 := Tryz.sizeOf5
  v5 := Tryz.zeroValue5
  infoByte := by kernel_rfl
  cellsByte := by kernel_rfl
  sizeByte := by kernel_rfl
  neB5 := by decide }
open Go.RowKit Go.Lib in
theorem Tryz.strings_Repeat (s : ByteArray) (c : Nat) (w : World) (hc : c ≤ 9223372036854775807) (hlen : s.size * c ≤ 140737488355328) :
    Calls Tryz.prog 61 #[.string s, .int .i64 c] w fun e w' => e = .returned (.string ⟨(Lib.repeatL s.data.toList c).toArray⟩) ∧ Below w.heap.size w w' := Any.strings_Repeat Tryz.lays105 Tryz.Builder_Extra_105 s c w hc hlen
def Tryz.laysSlE041_f74_ren : Go.Shelf.Ren := ⟨fun | 41 => 74 | n => n, fun | 22 => 25 | 23 => 59 | 4 => 4 | n => n, fun | n => n⟩
theorem Tryz.laysSlE041_f74 : Go.Proofs.SlLaysE0.n41 Tryz.prog Tryz.laysSlE041_f74_ren := {
  mixed := by kernel_rfl
  f41 := ⟨Tryz.f74.name, by decide, Tryz.func74.trans (congrArg some (by kernel_rfl))⟩
  t4 := Tryz.underlying4
  a4 := Tryz.isAgg4
  z4 := Tryz.sizeOf4
  v4 := Tryz.zeroValue4
  t22 := Tryz.underlying25
  a22 := Tryz.isAgg25
  z22 := Tryz.sizeOf25
  v22 := Tryz.zeroValue25 }
open Go.RowKit Go.Lib in
theorem Tryz.slices_Clone (i0 : TypeInfo) (z : Value) (size bytes : Nat) (hi : Tryz.prog.info? 59 = some i0) (hz0 : i0.zero = some z) (hz1 : i0.size = size) (hz2 : i0.bytes = bytes) (hzs : z.cells.size = size) (hsz : 0 < size) (z23 : ∀ w, (Go.sizeOf 59).run Tryz.prog w = .ok size w) (b off n c : Nat) (news : List Value) (w : World) (hl : news.length = n * size) (hn : n ≤ maxLen) (hbig : n * bytes ≤ 140737488355328) (hc : ∀ j u, news[j]? = some u → w.cell? ⟨b, off + j, none⟩ = some u) (h1 : ∀ u ∈ news, u.oneCell' = true) :
    Calls Tryz.prog 74 #[.slice (some ⟨b, off, none⟩) n c] w fun e w' => ∃ v', e = .returned v' ∧ w'.ownsRow w.heap.size 59 size v' n news ∧ v' ≠ .slice none 0 0 ∧ Below w.heap.size w w' := AnyE.slices_Clone Tryz.laysSlE041_f74 i0 z size bytes hi hz0 hz1 hz2 hzs hsz z23 b off n c news w hl hn hbig hc h1
open Go.RowKit Go.Lib in
theorem Tryz.slices_Clone_nil (n c : Nat) (w : World) :
    Calls Tryz.prog 74 #[.slice none n c] w fun e w' => e = .returned (.slice none 0 0) ∧ w' = w := AnyE.slices_Clone_nil Tryz.laysSlE041_f74 n c w
end Go.Proofs

namespace Go.Proofs.YtdgmjmckeeeljaaGreatDoor
open Go.RowKit

/-- A slice of digits in new memory. -/
def NewSl (w : World) (ds : List Nat) (e : Ending) (w' : World) : Prop := ∃ ao cap, e = .returned (.slice ao ds.length cap) ∧ Sw w.heap.size w' (.slice ao ds.length cap) ds ∧ Below w.heap.size w w'

theorem sw_of_owns {w : World} {B : Nat} {v : Value} {ds : List Nat} (hb : Bd ds) (h : w.ownsRow B 59 1 v ds.length (ds.map u32v)) : ∃ ao cap, v = .slice ao ds.length cap ∧ Sw B w v ds := by
  obtain ⟨h1, h2⟩ := h
  rcases h2 with ⟨rfl, h3⟩ | ⟨g, cap, cur, rfl, hB, hg, hc, hm, hs, ht⟩
  · have : ds = [] := List.eq_nil_of_length_eq_zero h3
    subst this
    exact ⟨none, 0, rfl, Sw.nil _ _ _ _⟩
  · refine ⟨_, _, rfl, ⟨hb, by omega, .inr ⟨g, 0, cap, rfl, hc, fun j hj => ?_⟩⟩, ?_⟩
    · rw [cell_of_row w _ _ _ _ _ hg]
      have h4 : (cur.toList.take (ds.length * 1))[j]? = (ds.map u32v)[j]? := by rw [ht]
      rw [List.getElem?_take, if_pos (by omega)] at h4
      rw [Nat.zero_add]
      rw [← Array.getElem?_toList, h4]
      simp [hj, u32v, List.getD]
    · intro ao n cap' hv _
      cases hv
      exact ⟨g, 0, rfl, hB, fun j _ => frozen_of_row w _ _ _ _ hg⟩

set_option maxRecDepth 10000 in
set_option maxHeartbeats 1000000 in
theorem clone_empty (ao : Option Addr) (cap : Nat) (w : World) : Calls Tryz.prog 74 #[.slice ao 0 cap] w (NewSl w []) := by
  cases ao with
  | none =>
    refine (Tryz.slices_Clone_nil 0 cap w).mono ?_
    rintro e w' ⟨rfl, rfl⟩
    exact ⟨_, _, rfl, Sw.nil _ _ _ _, Below.refl _ _⟩
  | some a =>
    have hq := fun (w : World) => Lib.run_eql_slice_nil (P := Tryz.prog) w 25 59 (some a) 0 cap 0 0 Tryz.underlying25
    go_enter Tryz.func74, Tryz.ntmps74
    go_wp2
    go_ret
    exact ⟨_, _, rfl, Sw.nil _ _ _ _, (Below.refl _ _).alloc (Nat.le_refl _) _⟩

theorem clone_any {w : World} {v : Value} {ds : List Nat} (h : Sl w v ds) (hl : 4 * ds.length ≤ 140737488351232) : Calls Tryz.prog 74 #[v] w (NewSl w ds) := by
  rcases h.is with ⟨rfl, ao, cap, rfl⟩ | ⟨b, off, cap, rfl, hcap, hcl⟩
  · exact clone_empty ao cap w
  · obtain ⟨i0, hi, hz0, hz1, hz2⟩ := info_parts Tryz.info59
    refine (Tryz.slices_Clone i0 _ 1 4 hi hz0 hz1 hz2 rfl (by omega) Tryz.sizeOf59 b off ds.length cap (ds.map u32v) w (by simp) (by unfold maxLen; omega) (by omega) ?_ ?_).mono ?_
    · intro j u hu
      have hj : j < ds.length := by
        have := (List.getElem?_eq_some_iff.1 hu).1
        simpa using this
      rw [hcl j hj]
      simp [hj, u32v] at hu
      simp [hj, List.getD, hu]
    · intro u hu
      obtain ⟨d, _, rfl⟩ := List.mem_map.1 hu
      rfl
    · rintro e w' ⟨v', rfl, hown, _, hb⟩
      obtain ⟨ao', cap', rfl, hs⟩ := sw_of_owns h.bd hown
      exact ⟨_, _, rfl, hs, hb⟩

end Go.Proofs.YtdgmjmckeeeljaaGreatDoor

namespace Go.Proofs.YtdgmjmckeeeljaaGreatDoor
open Go.RowKit

/-- Less, equal, greater, of integers. -/
def cmpZ (a b : Int) : Int := if a < b then -1 else if a = b then 0 else 1

set_option maxRecDepth 10000 in
set_option maxHeartbeats 1000000 in
theorem cmp_pp {w : World} {x y : Value} {a b : Int} (hx : Nu w x a) (hy : Nu w y b) (h1 : 0 ≤ a) (h2 : 0 ≤ b) :
    Calls Tryz.prog 31 #[x, y] w fun e w' => e = .returned (.int .i64 (cmpZ a b)) ∧ Below w.heap.size w w' := by
  have hz : cmpZ a b = cmpN a.natAbs b.natAbs := by
    unfold cmpZ
    try unfold cmpN
    repeat' split
    all_goals omega
  rw [hz]
  have ea : decide (a < 0) = false := by simp; omega
  have eb : decide (b < 0) = false := by simp; omega
  clear hz
  obtain ⟨sa, rfl, ha, la⟩ := hx
  obtain ⟨sb, rfl, hb, lb⟩ := hy
  have ra := rightB_digs a la
  have rb := rightB_digs b lb
  obtain ⟨na, hna⟩ : ∃ na, na = decide (a < 0) := ⟨_, rfl⟩
  obtain ⟨nb, hnb⟩ : ∃ nb, nb = decide (b < 0) := ⟨_, rfl⟩
  rw [← hna] at ra ⊢
  rw [← hnb] at rb ⊢
  have HNA := Lib.hid hna
  have HNB := Lib.hid hnb
  clear hna hnb
  have R1 : ∀ W, Sl W sa (digs a.natAbs) → Calls Tryz.prog 32 #[.agg #[.bool na, sa]] W fun e w' => e = .returned (.bool true) ∧ w' = W.alloc (.cells #[.bool na, sa] 27) := fun W h => by have := right_any na h (by omega); rwa [ra] at this
  have R2 : ∀ W, Sl W sb (digs b.natAbs) → Calls Tryz.prog 32 #[.agg #[.bool nb, sb]] W fun e w' => e = .returned (.bool true) ∧ w' = W.alloc (.cells #[.bool nb, sb] 27) := fun W h => by have := right_any nb h (by omega); rwa [rb] at this
  have HR1 := Lib.hid R1
  have HR2 := Lib.hid R2
  clear R1 R2 ra rb
  obtain rfl : na = false := by rw [HNA.out, ea]
  obtain rfl : nb = false := by rw [HNB.out, eb]
  clear ea eb
  go_enter Tryz.func31, Tryz.ntmps31
  go_wp2_with (first | (go_at_call_of 32 (Value.agg #[.bool false, sa]); refine (HR1.out _ (ha.below (by go_grown))).mono ?_; rintro e w' ⟨rfl, rfl⟩) | (go_at_call_of 32 (Value.agg #[.bool false, sb]); refine (HR2.out _ (hb.below (by go_grown))).mono ?_; rintro e w' ⟨rfl, rfl⟩) | (go_at_call 68; refine (compare_any (ha.below (by go_grown)) (hb.below (by go_grown)) (by omega) (by omega)).mono ?_; rintro e W5 ⟨rfl, hbW⟩; have hbW' : Below w.heap.size w W5 := Below.trans (by go_grown) (hbW.mono (by simp; omega))))
  go_returns
  exact ⟨rfl, by go_grown⟩

set_option maxRecDepth 10000 in
set_option maxHeartbeats 1000000 in
theorem cmp_nn {w : World} {x y : Value} {a b : Int} (hx : Nu w x a) (hy : Nu w y b) (h1 : a < 0) (h2 : b < 0) :
    Calls Tryz.prog 31 #[x, y] w fun e w' => e = .returned (.int .i64 (cmpZ a b)) ∧ Below w.heap.size w w' := by
  have hz : cmpZ a b = cmpN b.natAbs a.natAbs := by
    unfold cmpZ
    try unfold cmpN
    repeat' split
    all_goals omega
  rw [hz]
  have ea : decide (a < 0) = true := by simp; omega
  have eb : decide (b < 0) = true := by simp; omega
  clear hz
  obtain ⟨sa, rfl, ha, la⟩ := hx
  obtain ⟨sb, rfl, hb, lb⟩ := hy
  have ra := rightB_digs a la
  have rb := rightB_digs b lb
  obtain ⟨na, hna⟩ : ∃ na, na = decide (a < 0) := ⟨_, rfl⟩
  obtain ⟨nb, hnb⟩ : ∃ nb, nb = decide (b < 0) := ⟨_, rfl⟩
  rw [← hna] at ra ⊢
  rw [← hnb] at rb ⊢
  have HNA := Lib.hid hna
  have HNB := Lib.hid hnb
  clear hna hnb
  have R1 : ∀ W, Sl W sa (digs a.natAbs) → Calls Tryz.prog 32 #[.agg #[.bool na, sa]] W fun e w' => e = .returned (.bool true) ∧ w' = W.alloc (.cells #[.bool na, sa] 27) := fun W h => by have := right_any na h (by omega); rwa [ra] at this
  have R2 : ∀ W, Sl W sb (digs b.natAbs) → Calls Tryz.prog 32 #[.agg #[.bool nb, sb]] W fun e w' => e = .returned (.bool true) ∧ w' = W.alloc (.cells #[.bool nb, sb] 27) := fun W h => by have := right_any nb h (by omega); rwa [rb] at this
  have HR1 := Lib.hid R1
  have HR2 := Lib.hid R2
  clear R1 R2 ra rb
  obtain rfl : na = true := by rw [HNA.out, ea]
  obtain rfl : nb = true := by rw [HNB.out, eb]
  clear ea eb
  go_enter Tryz.func31, Tryz.ntmps31
  go_wp2_with (first | (go_at_call_of 32 (Value.agg #[.bool true, sa]); refine (HR1.out _ (ha.below (by go_grown))).mono ?_; rintro e w' ⟨rfl, rfl⟩) | (go_at_call_of 32 (Value.agg #[.bool true, sb]); refine (HR2.out _ (hb.below (by go_grown))).mono ?_; rintro e w' ⟨rfl, rfl⟩) | (go_at_call 68; refine (compare_any (hb.below (by go_grown)) (ha.below (by go_grown)) (by omega) (by omega)).mono ?_; rintro e W5 ⟨rfl, hbW⟩; have hbW' : Below w.heap.size w W5 := Below.trans (by go_grown) (hbW.mono (by simp; omega))))
  go_returns
  exact ⟨rfl, by go_grown⟩

set_option maxRecDepth 10000 in
set_option maxHeartbeats 1000000 in
theorem cmp_np {w : World} {x y : Value} {a b : Int} (hx : Nu w x a) (hy : Nu w y b) (h1 : a < 0) (h2 : 0 ≤ b) :
    Calls Tryz.prog 31 #[x, y] w fun e w' => e = .returned (.int .i64 (cmpZ a b)) ∧ Below w.heap.size w w' := by
  have hz : cmpZ a b = -1 := by
    unfold cmpZ
    try unfold cmpN
    repeat' split
    all_goals omega
  rw [hz]
  have ea : decide (a < 0) = true := by simp; omega
  have eb : decide (b < 0) = false := by simp; omega
  clear hz
  obtain ⟨sa, rfl, ha, la⟩ := hx
  obtain ⟨sb, rfl, hb, lb⟩ := hy
  have ra := rightB_digs a la
  have rb := rightB_digs b lb
  obtain ⟨na, hna⟩ : ∃ na, na = decide (a < 0) := ⟨_, rfl⟩
  obtain ⟨nb, hnb⟩ : ∃ nb, nb = decide (b < 0) := ⟨_, rfl⟩
  rw [← hna] at ra ⊢
  rw [← hnb] at rb ⊢
  have HNA := Lib.hid hna
  have HNB := Lib.hid hnb
  clear hna hnb
  have R1 : ∀ W, Sl W sa (digs a.natAbs) → Calls Tryz.prog 32 #[.agg #[.bool na, sa]] W fun e w' => e = .returned (.bool true) ∧ w' = W.alloc (.cells #[.bool na, sa] 27) := fun W h => by have := right_any na h (by omega); rwa [ra] at this
  have R2 : ∀ W, Sl W sb (digs b.natAbs) → Calls Tryz.prog 32 #[.agg #[.bool nb, sb]] W fun e w' => e = .returned (.bool true) ∧ w' = W.alloc (.cells #[.bool nb, sb] 27) := fun W h => by have := right_any nb h (by omega); rwa [rb] at this
  have HR1 := Lib.hid R1
  have HR2 := Lib.hid R2
  clear R1 R2 ra rb
  obtain rfl : na = true := by rw [HNA.out, ea]
  obtain rfl : nb = false := by rw [HNB.out, eb]
  clear ea eb
  go_enter Tryz.func31, Tryz.ntmps31
  go_wp2_with (first | (go_at_call_of 32 (Value.agg #[.bool true, sa]); refine (HR1.out _ (ha.below (by go_grown))).mono ?_; rintro e w' ⟨rfl, rfl⟩) | (go_at_call_of 32 (Value.agg #[.bool false, sb]); refine (HR2.out _ (hb.below (by go_grown))).mono ?_; rintro e w' ⟨rfl, rfl⟩))
  go_returns
  exact ⟨rfl, by go_grown⟩

set_option maxRecDepth 10000 in
set_option maxHeartbeats 1000000 in
theorem cmp_pn {w : World} {x y : Value} {a b : Int} (hx : Nu w x a) (hy : Nu w y b) (h1 : 0 ≤ a) (h2 : b < 0) :
    Calls Tryz.prog 31 #[x, y] w fun e w' => e = .returned (.int .i64 (cmpZ a b)) ∧ Below w.heap.size w w' := by
  have hz : cmpZ a b = 1 := by
    unfold cmpZ
    try unfold cmpN
    repeat' split
    all_goals omega
  rw [hz]
  have ea : decide (a < 0) = false := by simp; omega
  have eb : decide (b < 0) = true := by simp; omega
  clear hz
  obtain ⟨sa, rfl, ha, la⟩ := hx
  obtain ⟨sb, rfl, hb, lb⟩ := hy
  have ra := rightB_digs a la
  have rb := rightB_digs b lb
  obtain ⟨na, hna⟩ : ∃ na, na = decide (a < 0) := ⟨_, rfl⟩
  obtain ⟨nb, hnb⟩ : ∃ nb, nb = decide (b < 0) := ⟨_, rfl⟩
  rw [← hna] at ra ⊢
  rw [← hnb] at rb ⊢
  have HNA := Lib.hid hna
  have HNB := Lib.hid hnb
  clear hna hnb
  have R1 : ∀ W, Sl W sa (digs a.natAbs) → Calls Tryz.prog 32 #[.agg #[.bool na, sa]] W fun e w' => e = .returned (.bool true) ∧ w' = W.alloc (.cells #[.bool na, sa] 27) := fun W h => by have := right_any na h (by omega); rwa [ra] at this
  have R2 : ∀ W, Sl W sb (digs b.natAbs) → Calls Tryz.prog 32 #[.agg #[.bool nb, sb]] W fun e w' => e = .returned (.bool true) ∧ w' = W.alloc (.cells #[.bool nb, sb] 27) := fun W h => by have := right_any nb h (by omega); rwa [rb] at this
  have HR1 := Lib.hid R1
  have HR2 := Lib.hid R2
  clear R1 R2 ra rb
  obtain rfl : na = false := by rw [HNA.out, ea]
  obtain rfl : nb = true := by rw [HNB.out, eb]
  clear ea eb
  go_enter Tryz.func31, Tryz.ntmps31
  go_wp2_with (first | (go_at_call_of 32 (Value.agg #[.bool false, sa]); refine (HR1.out _ (ha.below (by go_grown))).mono ?_; rintro e w' ⟨rfl, rfl⟩) | (go_at_call_of 32 (Value.agg #[.bool true, sb]); refine (HR2.out _ (hb.below (by go_grown))).mono ?_; rintro e w' ⟨rfl, rfl⟩))
  go_returns
  exact ⟨rfl, by go_grown⟩

/-- num.Cmp of right numbers. -/
theorem cmp_any {w : World} {x y : Value} {a b : Int} (hx : Nu w x a) (hy : Nu w y b) : Calls Tryz.prog 31 #[x, y] w fun e w' => e = .returned (.int .i64 (cmpZ a b)) ∧ Below w.heap.size w w' := by
  by_cases h1 : 0 ≤ a <;> by_cases h2 : 0 ≤ b
  · exact cmp_pp hx hy h1 h2
  · exact cmp_pn hx hy h1 (by omega)
  · exact cmp_np hx hy (by omega) h2
  · exact cmp_nn hx hy (by omega) (by omega)

end Go.Proofs.YtdgmjmckeeeljaaGreatDoor

namespace Go.Proofs.YtdgmjmckeeeljaaGreatDoor
open Go.RowKit

theorem shr_i64 (n k : Nat) (hk : k < 64) : binOp BinOp.shr 3 (.int .i64 (n : Int)) (.int .i64 (k : Int)) = (pure (.int .i64 ((n / 2 ^ k : Nat) : Int)) : Sem Value) := by
  have e : binOp BinOp.shr 3 (.int .i64 (n : Int)) (.int .i64 (k : Int)) = Op.shift .shr .i64 (n : Int) .i64 (k : Int) := rfl
  have h0 : ¬ ((k : Int) < 0) := by omega
  have hm : min ((k : Int)).toNat (IntKind.bits .i64) = k := by
    rw [show IntKind.bits .i64 = 64 from rfl, Int.toNat_natCast]; omega
  rw [e]
  unfold Op.shift
  rw [if_neg h0]
  simp only [hm]
  congr 2
  rw [Int.fdiv_eq_ediv_of_nonneg _ (by exact Int.pow_nonneg (by omega))]
  simp

theorem and_one (q : Nat) (hq : q < 9223372036854775808) : binOp BinOp.and 3 (.int .i64 (q : Int)) (.int .i64 1) = (pure (.int .i64 ((q % 2 : Nat) : Int)) : Sem Value) := by
  have e : binOp BinOp.and 3 (.int .i64 (q : Int)) (.int .i64 1) = (pure (.int .i64 (IntKind.i64.wrap ((BitVec.ofInt 64 (q : Int) &&& BitVec.ofInt 64 1).toNat : Int))) : Sem Value) := rfl
  rw [e]
  have h1 : (BitVec.ofInt 64 (q : Int) &&& BitVec.ofInt 64 1).toNat = q % 2 := by
    rw [BitVec.toNat_and, ofInt_u64 q (by omega)]
    have : (BitVec.ofInt 64 1).toNat = 1 := by decide
    rw [this, Nat.and_one_is_mod]
  rw [h1, IntWalk.i64_in _ (by omega)]

theorem len_any (n : Nat) (hn : n < 9223372036854775808) (w : World) :
    ∃ L : Nat, L ≤ 63 ∧ n / 2 ^ L = 0 ∧ ∀ w, Calls Tryz.prog 52 #[.int .u64 n] w fun e w' => e = .returned (.int .i64 (L : Nat)) ∧ w' = w := by
  refine ⟨Lib.bitLen n, Lib.bitLen_le n 63 (by omega) (by simpa using hn), ?_, fun w => ?_⟩
  · by_cases h0 : n = 0
    · rw [h0]; simp
    · have := (Lib.bitLenAux_bounds 64 n (by omega) h0).2.2
      exact Nat.div_eq_of_lt this
  · have := Tryz.bits_Len (n : Int) w (by omega) (by omega)
    rwa [Int.toNat_natCast] at this

theorem digs_mono {x y : Nat} (h : x ≤ y) : (digs x).length ≤ (digs y).length :=
  digs_length_le.2 (Nat.lt_of_le_of_lt h (digs_length_le.1 (Nat.le_refl _)))

theorem fitsB_false {x y : Nat} (h : x ≤ y) (hx : fitsB x = false) : fitsB y = false := by
  unfold fitsB at *
  have := digs_mono h
  simp at hx ⊢
  omega

/-- If a power on the way does not fit, neither does the last one. -/
theorem pow_over {a : Int} {m n : Nat} (h : m ≤ n) (hf : fitsB (a ^ m).natAbs = false) : fitsB (a ^ n).natAbs = false := by
  have e : ∀ k : Nat, (a ^ k).natAbs = a.natAbs ^ k := fun k => Int.natAbs_pow a k
  rw [e] at hf ⊢
  rcases Nat.lt_or_ge 1 a.natAbs with h1 | h1
  · exact fitsB_false (Nat.pow_le_pow_right (by omega) h) hf
  · exfalso
    have : a.natAbs ^ m ≤ 1 := by
      have := Nat.pow_le_pow_left h1 m
      simpa using this
    have h2 := digs_mono this
    have h3 : (digs 1).length = 1 := by rw [digs_pos (by omega), show 1 / 4294967296 = 0 from rfl, digs_zero]; rfl
    unfold fitsB at hf
    simp at hf
    omega

/-- The boxes of Pow: its argument, its result, the power so far. -/
structure PowI (W : World) (B g : Nat) (na : Bool) (sa : Value) (p : Int) : Prop where
  a0 : W.cell? ⟨B, 0, none⟩ = some (.bool na)
  a1 : W.cell? ⟨B, 1, none⟩ = some sa
  r : ResBox W (B + 1)
  p : ∃ neg ao n cap, W.heap[g]? = some (.cells #[.bool neg, .slice ao n cap] 27 (0, 0)) ∧ neg = decide (p < 0) ∧ Sw (B + 2) W (.slice ao n cap) (digs p.natAbs)
  lt : B + 1 < g

theorem cells_two {W : World} {g : Nat} {u v : Value} (h : W.heap[g]? = some (.cells #[u, v] 27 (0, 0))) :
    W.cell? ⟨g, 0, none⟩ = some u ∧ W.cell? ⟨g, 1, none⟩ = some v ∧ W.frozen? ⟨g, 0, none⟩ = false ∧ W.frozen? ⟨g, 1, none⟩ = false := by
  refine ⟨?_, ?_, frozen_of_row W _ _ _ _ h, frozen_of_row W _ _ _ _ h⟩ <;> rw [cell_of_row W _ _ _ _ _ h] <;> rfl

theorem stored_two {w1 : World} {g : Nat} {u v : Value} (h : w1.heap[g]? = some (.cells #[u, v] 27 (0, 0))) (u0 u1 : Value) :
    ((w1.setCell ⟨g, 0, none⟩ u0).setCell ⟨g, 1, none⟩ u1).heap[g]? = some (.cells #[u0, u1] 27 (0, 0)) := by
  have h1 := heap_setCell_same w1 g 0 _ 27 u0 h
  exact heap_setCell_same _ g 1 _ 27 u1 h1

theorem PowI.step {W W1 : World} {B g : Nat} {na : Bool} {sa : Value} {p p' : Int} (h : PowI W B g na sa p) (hb : Below W.heap.size W W1) {neg : Bool} {ao : Option Addr} {n cap : Nat}
    (hneg : neg = decide (p' < 0)) (hs : Sw W.heap.size W1 (.slice ao n cap) (digs p'.natAbs)) : PowI ((W1.setCell ⟨g, 0, none⟩ (.bool neg)).setCell ⟨g, 1, none⟩ (.slice ao n cap)) B g na sa p' := by
  obtain ⟨neg0, ao0, n0, cap0, hg, _, _⟩ := h.p
  have hlt : g < W.heap.size := (Array.getElem?_eq_some_iff.1 hg).1
  have hg1 := (hb.block g hlt).trans hg
  have hst : Below g W1 ((W1.setCell ⟨g, 0, none⟩ (.bool neg)).setCell ⟨g, 1, none⟩ (.slice ao n cap)) := ((Below.refl _ _).setCell (by simp) _).setCell (by simp) _
  have hall : Below g W ((W1.setCell ⟨g, 0, none⟩ (.bool neg)).setCell ⟨g, 1, none⟩ (.slice ao n cap)) := (hb.mono (Nat.le_of_lt hlt)).trans hst
  have hlB := h.lt
  refine ⟨(hall.cell (p := ⟨B, 0, none⟩) (by simp; omega)).trans h.a0, (hall.cell (p := ⟨B, 1, none⟩) (by simp; omega)).trans h.a1, (hall.block _ hlB).trans h.r, ⟨neg, ao, n, cap, ?_, hneg, (hs.after2 hlt _ _).mono (by omega)⟩, hlB⟩
  have h1 := heap_setCell_same W1 g 0 _ 27 (.bool neg) hg1
  have h2 := heap_setCell_same _ g 1 _ 27 (.slice ao n cap) h1
  exact h2

theorem PowI.below {W W1 : World} {B g : Nat} {na : Bool} {sa : Value} {p : Int} (h : PowI W B g na sa p) (hb : Below W.heap.size W W1) : PowI W1 B g na sa p := by
  obtain ⟨neg0, ao0, n0, cap0, hg, e1, e2⟩ := h.p
  have hlt : g < W.heap.size := (Array.getElem?_eq_some_iff.1 hg).1
  exact ⟨cell_later hb h.a0, cell_later hb h.a1, h.r.below hb, ⟨neg0, ao0, n0, cap0, (hb.block g hlt).trans hg, e1, e2.below hb⟩, h.lt⟩

/-- What a product, or nothing, does to the boxes when it is stored. -/
theorem PowI.stored {W W1 : World} {B g : Nat} {na : Bool} {sa : Value} {p p' : Int} (h : PowI W B g na sa p) (hb : Below W.heap.size W W1) {neg : Bool} {ao : Option Addr} {n cap : Nat}
    (h1 : fitsB p'.natAbs = true → neg = decide (p' < 0) ∧ Sw W.heap.size W1 (.slice ao n cap) (digs p'.natAbs)) (h2 : fitsB p'.natAbs = false → neg = false ∧ ao = none ∧ n = 0 ∧ cap = 0) :
    PowI ((W1.setCell ⟨g, 0, none⟩ (.bool neg)).setCell ⟨g, 1, none⟩ (.slice ao n cap)) B g na sa (if fitsB p'.natAbs = true then p' else 0) := by
  by_cases hf : fitsB p'.natAbs = true
  · rw [if_pos hf]
    exact h.step hb (h1 hf).1 (h1 hf).2
  · rw [if_neg hf]
    obtain ⟨rfl, rfl, rfl, rfl⟩ := h2 (by simpa using hf)
    exact h.step hb rfl (by rw [show digs (Int.natAbs 0) = [] from digs_zero]; exact Sw.nil _ _ _ _)

theorem numRes_no {w W : World} {z : Int} (hf : fitsB z.natAbs = false) (hb : Below w.heap.size w W) : NumRes w z (.returned (.tuple #[.agg #[.bool false, .slice none 0 0], .bool false])) W :=
  ⟨false, none, 0, 0, by rw [hf], hb, (fun h => by rw [hf] at h; cases h), fun _ => ⟨rfl, rfl, rfl, rfl⟩⟩

theorem numRes_yes {w W : World} {z : Int} {neg : Bool} {ao : Option Addr} {n cap : Nat} (hf : fitsB z.natAbs = true) (hb : Below w.heap.size w W) (hn : neg = decide (z < 0)) (hs : Sw w.heap.size W (.slice ao n cap) (digs z.natAbs)) :
    NumRes w z (.returned (.tuple #[.agg #[.bool neg, .slice ao n cap], .bool true])) W :=
  ⟨neg, ao, n, cap, by rw [hf], hb, fun _ => ⟨hn, hs⟩, (fun h => by rw [hf] at h; cases h)⟩

theorem fits_one : fitsB (Int.natAbs 1) = true := by
  have h3 : (digs 1).length = 1 := by rw [digs_pos (by omega), show 1 / 4294967296 = 0 from rfl, digs_zero]; rfl
  show decide ((digs 1).length ≤ 256) = true
  rw [h3]; rfl

theorem bits_one (n k : Nat) : n / 2 ^ k = 2 * (n / 2 ^ (k + 1)) + n / 2 ^ k % 2 := by
  rw [Nat.pow_succ, ← Nat.div_div_eq_div_mul]
  omega

set_option maxRecDepth 10000 in
set_option maxHeartbeats 1000000 in
theorem pow_neg {w : World} {x : Value} {a : Int} (hx : Nu w x a) (n : Int) (hn : n < 0) :
    Calls Tryz.prog 20 #[x, .int .i64 n] w fun e w' => e = .returned (.tuple #[.agg #[.bool false, .slice none 0 0], .bool false]) ∧ Below w.heap.size w w' := by
  obtain ⟨sa, rfl, ha, la⟩ := hx
  have ra := rightB_digs a la
  obtain ⟨na, hna⟩ : ∃ na, na = decide (a < 0) := ⟨_, rfl⟩
  rw [← hna] at ra ⊢
  have HR : Hid (∀ W, Sl W sa (digs a.natAbs) → Calls Tryz.prog 32 #[.agg #[.bool na, sa]] W fun e w' => e = .returned (.bool true) ∧ w' = W.alloc (.cells #[.bool na, sa] 27)) := fun W h => by have := right_any na h (by omega); rwa [ra] at this
  clear hna ra
  go_enter Tryz.func20, Tryz.ntmps20
  go_wp2_with (go_at_call 32; refine (HR.out _ (ha.below (by go_grown))).mono ?_; rintro e w' ⟨rfl, rfl⟩)
  go_returns
  exact ⟨rfl, by go_grown⟩

set_option maxRecDepth 10000 in
set_option maxHeartbeats 4000000 in
theorem pow_any {w : World} {x : Value} {a : Int} (hx : Nu w x a) (n : Nat) (hn : n < 9223372036854775808) :
    Calls Tryz.prog 20 #[x, .int .i64 n] w (NumRes w (a ^ n)) := by
  obtain ⟨sa, rfl, ha, la⟩ := hx
  have ra := rightB_digs a la
  obtain ⟨na, hna⟩ : ∃ na, na = decide (a < 0) := ⟨_, rfl⟩
  rw [← hna] at ra ⊢
  have HR : Hid (∀ W, Sl W sa (digs a.natAbs) → Calls Tryz.prog 32 #[.agg #[.bool na, sa]] W fun e w' => e = .returned (.bool true) ∧ w' = W.alloc (.cells #[.bool na, sa] 27)) := fun W h => by have := right_any na h (by omega); rwa [ra] at this
  obtain ⟨L, hL, hL0, hLen⟩ := len_any n hn w
  have HLEN := Lib.hid hLen
  have HL0 := Lib.hid hL0
  have HNA := Lib.hid hna
  clear hna ra hLen hL0
  have HO : Hid (∀ W, Calls Tryz.prog 27 #[.int .i64 1] W (NewNum W 1)) := fun W => of_any 1 W (by decide) (by decide)
  have hn' : 0 ≤ (n : Int) := by omega
  have hn2 : (n : Int) ≤ 9223372036854775807 := by omega
  have HN := Lib.hid hn
  clear hn
  go_enter Tryz.func20, Tryz.ntmps20
  go_wp2_with (first | (go_at_call 32; refine (HR.out _ (ha.below (by go_grown))).mono ?_; rintro e w' ⟨rfl, rfl⟩))
  obtain ⟨k1, k2, _⟩ := heap_three w (.cells #[.bool na, sa] 27) (.cells #[.bool false, .slice none 0 0] 27) (.cells #[.bool na, sa] 27)
  have hB : Below w.heap.size w (((w.alloc (.cells #[.bool na, sa] 27)).alloc (.cells #[.bool false, .slice none 0 0] 27)).alloc (.cells #[.bool na, sa] 27)) := by go_grown
  revert k1 k2 hB
  generalize ((w.alloc (.cells #[.bool na, sa] 27)).alloc (.cells #[.bool false, .slice none 0 0] 27)).alloc (.cells #[.bool na, sa] 27) = W
  intro k1 k2 hB
  refine (HO.out _).mono ?_
  rintro e W1 ⟨neg, ao, m, cap, rfl, hb1, hneg, hs⟩
  have hI0 : PowI (W1.alloc (.cells #[.bool neg, .slice ao m cap] 27)) w.heap.size W1.heap.size na sa (a ^ (n / 2 ^ L)) := by
    have hl2 : w.heap.size + 1 < W.heap.size := (Array.getElem?_eq_some_iff.1 k2).1
    have hk1 := ((Below.refl W1.heap.size W1).alloc (Nat.le_refl _) (.cells #[.bool neg, .slice ao m cap] 27))
    have e1 := ((hk1.block _ (Nat.lt_of_lt_of_le (by omega) hb1.size)).trans (hb1.block w.heap.size (by omega))).trans k1
    have e2 := ((hk1.block _ (Nat.lt_of_lt_of_le hl2 hb1.size)).trans (hb1.block (w.heap.size + 1) hl2)).trans k2
    obtain ⟨c1, c2, _⟩ := cells_two e1
    rw [HL0.out, Int.pow_zero]
    exact ⟨c1, c2, e2, ⟨neg, ao, m, cap, heap_alloc_new W1 _, hneg, (hs.below hk1).mono (by omega)⟩, Nat.lt_of_lt_of_le hl2 hb1.size⟩
  have hBW : Below w.heap.size w (W1.alloc (.cells #[.bool neg, .slice ao m cap] 27)) := (hB.trans (hb1.mono hB.size)).alloc (Nat.le_trans hB.size hb1.size) _
  have hgW : w.heap.size + 1 < W1.heap.size := hI0.lt
  have HI0 := Lib.hid hI0
  have HBW := Lib.hid hBW
  clear hI0 hBW hneg hs hb1 hB k1 k2 
  go_wp2_with (go_at_call 52; refine (HLEN.out _).mono ?_; rintro e w' ⟨rfl, rfl⟩)
  revert HI0 HBW
  generalize W1.alloc (.cells #[.bool neg, .slice ao m cap] 27) = W2
  intro HI0 HBW
  revert HI0 hgW
  generalize W1.heap.size = g
  intro hgW HI0
  go_loopw [7] (fun kv wr => ∃ k : Nat, k ≤ L ∧ kv = .int .i64 ((k : Int) - 1) ∧ Hid (PowI wr w.heap.size g na sa (a ^ (n / 2 ^ k))) ∧ Hid (Below w.heap.size w wr) ∧ Hid (fitsB (a ^ (n / 2 ^ k)).natAbs = true)) (fun kv _ => (intOf kv + 1).toNat)
  case atStart => exact ⟨L, Nat.le_refl _, rfl, HI0, HBW, by rw [HL0.out, Int.pow_zero]; exact fits_one⟩
  case round =>
    obtain ⟨k, hk, rfl, hI, hBw, hF⟩ := hrel
    obtain ⟨c0, c1, _⟩ : wr.cell? ⟨w.heap.size, 0, none⟩ = some (.bool na) ∧ wr.cell? ⟨w.heap.size, 1, none⟩ = some sa ∧ True := ⟨hI.out.a0, hI.out.a1, trivial⟩
    obtain ⟨r0, r1, rf0, rf1⟩ := hI.out.r.cells
    obtain ⟨neg1, ao1, m1, cap1, hg, hn1, hs1⟩ := hI.out.p
    obtain ⟨p0, p1, pf0, pf1⟩ := cells_two hg
    have hp : Nu wr (.agg #[.bool neg1, .slice ao1 m1 cap1]) (a ^ (n / 2 ^ k)) := ⟨_, by rw [hn1], hs1.sl, by have := hF.out; simpa [fitsB] using this⟩
    have HP := Lib.hid hp
    have hglt : g < wr.heap.size := (Array.getElem?_eq_some_iff.1 hg).1
    have HS1 := Lib.hid hs1
    have HN1 := Lib.hid hn1
    clear hp hn1 hs1 hg
    cases k with
    | zero =>
      have hfin : NumRes w (a ^ n) (.returned (.tuple #[.agg #[.bool neg1, .slice ao1 m1 cap1], .bool true])) ((wr.setCell ⟨w.heap.size + 1, 0, none⟩ (.bool neg1)).setCell ⟨w.heap.size + 1, 1, none⟩ (.slice ao1 m1 cap1)) := by
        have e0 : n / 2 ^ 0 = n := by simp
        have h1 := HS1.out
        have h2 := HN1.out
        have h3 := hF.out
        rw [e0] at h1 h2 h3
        exact numRes_yes h3 ((hBw.out.setCell (by simp) _).setCell (by simp) _) h2 ((h1.after2 (by omega) _ _).mono (by omega))
      have HF := Lib.hid hfin
      obtain ⟨q0, q1⟩ := hI.out.r.stored (.bool neg1) (.slice ao1 m1 cap1)
      clear hfin
      go_wp2
      refine bodyPost_ret (v := .tuple #[.agg #[.bool neg1, .slice ao1 m1 cap1], .bool true]) (by simp [results, Tryz.results20, go_sem, q0, q1]) rfl ?_
      exact HF.out
    | succ k =>
      have hq : n / 2 ^ k = 2 * (n / 2 ^ (k + 1)) + n / 2 ^ k % 2 := bits_one n k
      have hle : n / 2 ^ k ≤ n := Nat.div_le_self _ _
      have hsh := shr_i64 n k (by omega)
      have han := and_one (n / 2 ^ k) (by have := HN.out; omega)
      obtain ⟨q, hq0⟩ : ∃ q, q = n / 2 ^ (k + 1) := ⟨_, rfl⟩
      obtain ⟨u, hu⟩ : ∃ u, u = n / 2 ^ k := ⟨_, rfl⟩
      obtain ⟨b, hb⟩ : ∃ b, b = u % 2 := ⟨_, rfl⟩
      have hb2 : b = 0 ∨ b = 1 := by omega
      rw [← hq0] at HP hI hF hq
      rw [← hu] at hq hle hsh han
      rw [← hb] at hq han
      have HQ := Lib.hid hq
      have HLE := Lib.hid hle
      have HU := Lib.hid hu
      clear hq hle hq0 hu hb
      have hk1 : (((k + 1 : Nat) : Int) - 1) = k := by omega
      go_wp2_with fail
      refine (mul_any HP.out HP.out).mono ?_
      rintro e W3 ⟨neg2, ao2, n2, cap2, rfl, hb3, h1, h2⟩
      have hI4 := hI.out.stored hb3 h1 h2
      have hb3' : Below w.heap.size w W3 := hBw.out.trans (hb3.mono hBw.out.size)
      have hB4 : Below w.heap.size w ((W3.setCell ⟨g, 0, none⟩ (.bool neg2)).setCell ⟨g, 1, none⟩ (.slice ao2 n2 cap2)) := (hb3'.setCell (by simp; omega) _).setCell (by simp; omega) _
      have hI3 := hI.out.below hb3
      obtain ⟨_, _, _, _, hg3, _, _⟩ := hI3.p
      obtain ⟨p0', p1', pf0', pf1'⟩ := cells_two hg3
      have hpp : a ^ q * a ^ q = a ^ (2 * q) := by rw [Nat.two_mul, Int.pow_add]
      rw [hpp] at h1 h2 hI4 ⊢
      have HPP := Lib.hid hpp
      clear hpp
      by_cases hf : fitsB (a ^ (2 * q)).natAbs = true
      · obtain ⟨hn2, hs2⟩ := h1 hf
        rw [if_pos hf] at hI4
        rw [hf]
        obtain ⟨x0, x1, _⟩ : _ ∧ _ ∧ True := ⟨hI4.a0, hI4.a1, trivial⟩
        have hg4 := stored_two hg3 (.bool neg2) (.slice ao2 n2 cap2)
        obtain ⟨y0, y1, yf0, yf1⟩ := cells_two hg4
        have hp4 : Nu ((W3.setCell ⟨g, 0, none⟩ (.bool neg2)).setCell ⟨g, 1, none⟩ (.slice ao2 n2 cap2)) (.agg #[.bool neg2, .slice ao2 n2 cap2]) (a ^ (2 * q)) := ⟨_, by rw [hn2], (hs2.after2 hglt _ _).sl, by simpa [fitsB] using hf⟩
        have HP4 := Lib.hid hp4
        have HI4 := Lib.hid hI4
        have HB4 := Lib.hid hB4
        have HF := Lib.hid hf
        clear h1 h2 hI4 hB4 hf hn2 hs2 hg4 hg3 hI3 hb3 hb3' hp4
        rcases hb2 with rfl | rfl
        · have hu2 : u = 2 * q := by have := HQ.out; omega
          have HU2 := Lib.hid hu2
          clear hu2
          go_wp2
          go_roundw
          case rel => exact ⟨k, by omega, by go_num, by rw [← HU.out, HU2.out]; exact HI4, HB4, by rw [← HU.out, HU2.out]; exact HF⟩
          case measure => simp [intOf]
        · have hu2 : u = 2 * q + 1 := by have := HQ.out; omega
          have HU2 := Lib.hid hu2
          clear hu2
          have hx4 : Nu ((W3.setCell ⟨g, 0, none⟩ (.bool neg2)).setCell ⟨g, 1, none⟩ (.slice ao2 n2 cap2)) (.agg #[.bool na, sa]) a := ⟨_, by rw [HNA.out], ha.below HB4.out, la⟩
          have HX4 := Lib.hid hx4
          clear hx4
          go_wp2_with fail
          refine (mul_any HP4.out HX4.out).mono ?_
          rintro e W5 ⟨neg5, ao5, n5, cap5, rfl, hb5, h1, h2⟩
          have hI6 := HI4.out.stored hb5 h1 h2
          have hb5' : Below w.heap.size w W5 := HB4.out.trans (hb5.mono HB4.out.size)
          have hB6 : Below w.heap.size w ((W5.setCell ⟨g, 0, none⟩ (.bool neg5)).setCell ⟨g, 1, none⟩ (.slice ao5 n5 cap5)) := (hb5'.setCell (by simp; omega) _).setCell (by simp; omega) _
          have hI5 := HI4.out.below hb5
          obtain ⟨_, _, _, _, hg5, _, _⟩ := hI5.p
          obtain ⟨z0, z1, zf0, zf1⟩ := cells_two hg5
          have hpp : a ^ (2 * q) * a = a ^ (2 * q + 1) := by rw [Int.pow_succ]
          rw [hpp] at h1 h2 hI6 ⊢
          have HPP' := Lib.hid hpp
          clear hpp
          by_cases hf : fitsB (a ^ (2 * q + 1)).natAbs = true
          · obtain ⟨hn2, hs2⟩ := h1 hf
            rw [if_pos hf] at hI6
            rw [hf]
            have HI6 := Lib.hid hI6
            have HB6 := Lib.hid hB6
            have HF6 := Lib.hid hf
            clear h1 h2 hI6 hB6 hf hn2 hs2 hg5 hI5 hb5 hb5'
            go_wp2
            go_roundw
            case rel => exact ⟨k, by omega, by go_num, by rw [← HU.out, HU2.out]; exact HI6, HB6, by rw [← HU.out, HU2.out]; exact HF6⟩
            case measure => simp [intOf]
          · have hf0 : fitsB (a ^ (2 * q + 1)).natAbs = false := by simpa using hf
            obtain ⟨rfl, rfl, rfl, rfl⟩ := h2 hf0
            rw [if_neg hf] at hI6
            rw [hf0]
            have HB4' := Lib.hid hB6
            have HF0 := Lib.hid hf0
            clear h1 h2 hf hg5 hI5 hb5 hb5' hB6 hf0
            obtain ⟨r0', r1', rf0', rf1'⟩ := hI6.r.cells
            obtain ⟨q0, q1⟩ := hI6.r.stored (.bool false) (.slice none 0 0)
            have HNO := Lib.hid (numRes_no (w := w) (z := a ^ n) (pow_over (show 2 * q + 1 ≤ n by have := HU2.out; have := HLE.out; omega) HF0.out) ((HB4'.out.setCell (p := ⟨w.heap.size + 1, 0, none⟩) (by simp) (.bool false)).setCell (p := ⟨w.heap.size + 1, 1, none⟩) (by simp) (.slice none 0 0)))
            go_wp2
            refine bodyPost_ret (v := .tuple #[.agg #[.bool false, .slice none 0 0], .bool false]) (by simp [results, Tryz.results20, go_sem, q0, q1]) rfl ?_
            exact HNO.out
      · have hf0 : fitsB (a ^ (2 * q)).natAbs = false := by simpa using hf
        obtain ⟨rfl, rfl, rfl, rfl⟩ := h2 hf0
        have hf' := hf0
        rw [hf0]
        have HB4 := Lib.hid hB4
        clear h1 h2 hf hg3 hI3 hb3 hb3' hB4
        clear hf'
        have HF0 := Lib.hid hf0
        clear hf0
        obtain ⟨r0', r1', rf0', rf1'⟩ := hI4.r.cells
        obtain ⟨q0, q1⟩ := hI4.r.stored (.bool false) (.slice none 0 0)
        have HNO := Lib.hid (numRes_no (w := w) (z := a ^ n) (pow_over (show 2 * q ≤ n by have := HQ.out; have := HLE.out; omega) HF0.out) ((HB4.out.setCell (p := ⟨w.heap.size + 1, 0, none⟩) (by simp) (.bool false)).setCell (p := ⟨w.heap.size + 1, 1, none⟩) (by simp) (.slice none 0 0)))
        go_wp2
        refine bodyPost_ret (v := .tuple #[.agg #[.bool false, .slice none 0 0], .bool false]) (by simp [results, Tryz.results20, go_sem, q0, q1]) rfl ?_
        exact HNO.out

end Go.Proofs.YtdgmjmckeeeljaaGreatDoor

namespace Go.Proofs.YtdgmjmckeeeljaaGreatDoor
open Go.RowKit Go.Shelf
attribute [local go_sem] Oper.semAt_some

/-- How the body of a counted round is left: off its end, the next invariant holding. -/
def countPost (B : Nat) (I : World → Prop) (W : World) : Exit → Act → World → Prop
  | .normal, _, W' => KeepsFrom B W W' ∧ I W'
  | _, _, _ => False

/-- What an iterator that makes N rounds owes, round by round. -/
def Counts (F : Fence) (n : Nat) (P : Program) (g : Nat) (lb : Array Value) (args : Nat → Array Value) (N : Nat) (I : Nat → World → Prop) : Prop :=
  ∀ (l : Nat) (A : World → Prop) (W : World), (∀ k W1, k < N → I k W1 → A W1 → YieldAt F (n - 1) P l (args k) W1 fun e W' => e = .returned (.bool true) ∧ I (k + 1) W' ∧ A W') → I 0 W → A W →
    CallsIn F n P g (#[.func (.yield l) #[] #[]] ++ lb) W fun e W' => (∃ v, e = .returned v) ∧ I N W' ∧ A W'

theorem rangeFunc_counts {F : Fence} {n : Nat} {P : Program} {g : Operand} {ps : Array Tmp} {assign body : Code} {Q : Exit → Act → World → Prop} {a : Act} {w : World}
    (hro : F.round = none) (h1 : 1 ≤ n) {gf : Nat} {lb : Array Value} (hg : a.eval g = .func (.func gf) #[] lb) (hFg : F.fn gf) (eg : ∀ args w, (callFunc gf args).run P w = .ok (.enter gf args) w)
    {args : Nat → Array Value} {N : Nat} {I : Nat → World → Prop} (hseq : Counts F (n - 1) P gf lb args N I) (hps : ∀ k, (args k).size = ps.size)
    (hI : OwnFrom w.heap.size I) (h0 : I 0 w) (a₁ : Nat → Act)
    (hassign : ∀ (l k : Nat) (W : World) (K : Act → World → Prop), K (a₁ k) W →
      assign.wpIn (F.inRound l) (n - 1 - 1) P (Exit.then K (fun _ _ _ => False)) { tmps := (ps.zip (args k)).foldl (fun t (p, v) => t.setIfInBounds p v) a.tmps, defers := [] } W)
    (hbody : ∀ (l k : Nat) (W : World), k < N → I k W → body.wpIn (F.inRound l) (n - 1 - 1) P (countPost w.heap.size (I (k + 1)) W) (a₁ k) W)
    (hdone : ∀ (D : Nat) (W : World), w.heap.size ≤ D → I N W → W.heap[D]? = some (.deferred (some [])) → Q .normal { a with defers := { target := .collected D, args := #[] } :: a.defers } W) :
    (Code.rangeFunc g ps assign body).wpIn F n P Q a w := by
  refine wpIn_rangeFunc ?_
  intro fn hfn
  rw [hro]
  let rec0 : LoopState → Loop := fun st => { state := st, pending := none, fn, tmps := a.tmps, params := ps, assign, body, defers := w.heap.size }
  obtain ⟨W1, hW1⟩ : ∃ W1, (w.alloc (.deferred (some []))).alloc (.loop (rec0 .ready)) = W1 := ⟨_, rfl⟩
  have hL1 : W1.heap[w.heap.size + 1]? = some (.loop (rec0 .ready)) := by
    have := World.alloc_heap_new (w.alloc (.deferred (some []))) (.loop (rec0 .ready))
    rw [World.size_alloc] at this
    rw [← hW1]; exact this
  have hD1 : W1.heap[w.heap.size]? = some (.deferred (some [])) := by
    rw [← hW1, Below.heap_alloc _ _ _ (by simp)]
    exact World.alloc_heap_new w _
  have hI1 : I 0 W1 := by rw [← hW1]; exact hI.alloc _ (hI.alloc _ h0)
  refine ⟨w.heap.size + 1, [{ target := .collected w.heap.size, args := #[] }], W1, { target := .fn (.func gf) lb, args := #[.func (.yield (w.heap.size + 1)) #[] #[]] }, W1, gf,
    #[.func (.yield (w.heap.size + 1)) #[] #[]] ++ lb, W1, ?_, ?_, ?_, ?_, fun _ => h1, ?_⟩
  · rw [← hW1]; exact run_enterLoop_outer _ _ _ _ _
  · simp only [resolve, hg]
    simp [go_sem]
  · intro f' hf'; simp [Target.leads] at hf'; subst hf'; exact hFg
  · simp [invoke, go_sem, eg]
  refine (hseq (w.heap.size + 1) (fun W => W.heap[w.heap.size + 1]? = some (.loop (rec0 .ready)) ∧ W.heap[w.heap.size]? = some (.deferred (some []))) W1 ?_ hI1 ⟨hL1, hD1⟩).mono ?_
  · rintro k W hk hi ⟨hl, hd⟩
    have hlt : w.heap.size + 1 < W.heap.size := (Array.getElem?_eq_some_iff.1 hl).1
    refine ⟨fn, _, assign, body, run_yield hl (hps k), roundIn_of_wpIn hfn (hassign _ k W _ ⟨_, run_beginRound hl rfl, ?_⟩)⟩
    have hl2 : (W.putObj (w.heap.size + 1) (.loop (rec0 .busy))).heap[w.heap.size + 1]? = some (.loop (rec0 .busy)) := World.putObj_heap_same hlt
    have hd2 : (W.putObj (w.heap.size + 1) (.loop (rec0 .busy))).heap[w.heap.size]? = some (.deferred (some [])) := (World.putObj_heap_other (by omega)).trans hd
    refine wpIn_mono (hbody _ k _ hk (hI.putObj _ hi (by omega) hl rfl)) ?_
    rintro e a3 W3 hp
    cases e with
    | normal =>
      obtain ⟨hkf, hi3⟩ := hp
      have hl3 := hkf.same _ _ (by omega) hl2 rfl
      have hd3 := hkf.same _ _ (Nat.le_refl _) hd2 rfl
      refine ⟨_, _, run_endRound none hl3, rfl, hI.putObj _ hi3 (by omega) hl3 rfl, World.putObj_heap_same (Array.getElem?_eq_some_iff.1 hl3).1, (World.putObj_heap_other (by omega)).trans hd3⟩
    | ret => exact hp.elim
    | exit id => exact hp.elim
    | goto t => exact hp.elim
    | panic ch => exact hp.elim
    | outgrown => exact hp.elim
  · rintro e W2 ⟨⟨v, rfl⟩, hi, hl, hd⟩
    refine ⟨none, _, run_endLoop hl (by simp [rec0]), hdone _ _ (Nat.le_refl _) (hI.putObj _ hi (by omega) hl rfl) ((World.putObj_heap_other (by omega)).trans hd)⟩

/-- What a round of Backward is handed. -/
def backArgs (zs : List Nat) (k : Nat) : Array Value := #[.int .i64 ((zs.length - 1 - k : Nat) : Int), .int .u32 ((zs.getD (zs.length - 1 - k) 0 : Nat) : Int)]

set_option maxRecDepth 100000 in
set_option maxHeartbeats 2000000 in
/-- slices.Backward over digits: in each round the cells that are still to come are as they were. -/
theorem backward_counts (F : Fence) (n : Nat) (h90 : F.fn 90) (hro : F.round = none) (hn : 1 ≤ n) (B : Nat) (ao : Option Addr) (cap : Nat) (zs : List Nat) (hreach : zs.length ≤ 140737488351232) (I : Nat → World → Prop)
    (hB : ∀ k W, I k W → W.cell? ⟨B, 0, none⟩ = some (.slice ao zs.length cap)) (hc : ∀ k W, I k W → k < zs.length → ∃ b off, ao = some ⟨b, off, none⟩ ∧ W.cell? ⟨b, off + (zs.length - 1 - k), none⟩ = some (.int .u32 ((zs.getD (zs.length - 1 - k) 0 : Nat) : Int))) :
    Counts F n Tryz.prog 90 #[.pointer (some ⟨B, 0, none⟩)] (backArgs zs) zs.length I := by
  intro l A W hY h0 hA
  obtain ⟨len, hlen⟩ : ∃ len : Nat, len = zs.length := ⟨_, rfl⟩
  rw [← hlen] at hreach
  have HLEN := Lib.hid hlen
  have HBB := Lib.hid hB
  have HC := Lib.hid hc
  have HY := Lib.hid hY
  have hb0 := hB 0 W h0
  rw [← hlen] at hb0 ⊢
  clear hlen hB hc hY
  refine callsIn_of_wp Tryz.func90 rfl h90 ?_ hro
  simp only [Tryz.ntmps90, List.size_toArray, List.length_cons, List.length_nil, Nat.reduceAdd, Nat.reduceSub, Array.replicate_succ, Array.replicate_zero, List.push_toArray, List.append_toArray, List.nil_append, List.cons_append]
  have HI0 := Lib.hid h0
  have HA0 := Lib.hid hA
  clear h0 hA
  gi_wp2
  gi_loopw [3] (fun i wr => ∃ m : Nat, m ≤ len ∧ i = .int .i64 ((m : Int) - 1) ∧ Hid (I (len - m) wr) ∧ Hid (A wr))
    (fun i _ => (intOf i + 1).toNat)
  case atStart => exact ⟨len, Nat.le_refl _, by go_num, by rw [Nat.sub_self]; exact HI0, HA0⟩
  case round =>
    obtain ⟨m, hk, rfl, hJs, hJa⟩ := hrel
    have hb1 := HBB.out _ _ hJs.out
    rw [← HLEN.out] at hb1
    cases m with
    | succ m =>
      have e1 : zs.length - 1 - (len - (m + 1)) = m := by rw [← HLEN.out]; omega
      obtain ⟨b, off, rfl, hcx⟩ := HC.out _ _ hJs.out (by rw [← HLEN.out]; omega)
      obtain ⟨fn, tmps, assign, body, hy, hR⟩ := HY.out (len - (m + 1)) wr (by rw [← HLEN.out]; omega) hJs.out hJa.out
      unfold backArgs at hy
      rw [e1] at hy hcx
      obtain ⟨z, hz⟩ : ∃ z, z = zs.getD m 0 := ⟨_, rfl⟩
      rw [← hz] at hcx hy
      have e2 : len - (m + 1) + 1 = len - m := by omega
      rw [e2] at hR
      have HR := Lib.hid hR
      clear hz e1 e2 hR
      gi_wp2
      refine HR.out.mono ?_
      rintro e W3 ⟨rfl, hJ3, hA3⟩
      have HJ3 := Lib.hid hJ3
      have HA3 := Lib.hid hA3
      clear hJ3 hA3
      gi_wp2
      go_roundw
      case rel => exact ⟨m, by omega, by go_num, HJ3, HA3⟩
      case measure => simp [intOf]
    | zero =>
      gi_wp2
      go_end0
      exact ⟨⟨_, rfl⟩, hJs.out, hJa.out⟩

end Go.Proofs.YtdgmjmckeeeljaaGreatDoor

namespace Go.Proofs.YtdgmjmckeeeljaaGreatDoor
open Go

variable {F : Fence} {n : Nat} {P : Program} {ops : Array Oper} {Q : Exit → Act → World → Prop} {md : Region.Mode}

def left (l : Array Bool) : Nat := (l.toList.filter (!·)).length

theorem left_zero {l : Array Bool} (h : left l = 0) (j : Nat) : l.getD j true = true := by
  have h0 : l.toList.filter (!·) = [] := List.eq_nil_of_length_eq_zero h
  by_cases hj : j < l.size
  · have hm : l[j] ∈ l.toList := by simp
    have := List.filter_eq_nil_iff.1 h0 _ hm
    simpa [Array.getD, hj] using this
  · simp [Array.getD, hj]

theorem filter_set : ∀ (l : List Bool) (i : Nat), l[i]? = some false → ((l.set i true).filter (!·)).length + 1 = (l.filter (!·)).length := by
  intro l
  induction l with
  | nil => intro i h; simp at h
  | cons b l ih =>
    intro i h
    cases i with
    | zero => simp at h; subst h; simp
    | succ i =>
      have := ih i (by simpa using h)
      cases b <;> simp only [List.set_cons_succ, List.filter_cons] <;> simp <;> omega

theorem left_set {l : Array Bool} {i : Nat} (h : l.getD i true = false) : left (l.setIfInBounds i true) + 1 = left l := by
  unfold left
  have hi : i < l.size := by
    by_cases hi : i < l.size
    · exact hi
    · simp [Array.getD, hi] at h
  rw [Array.toList_setIfInBounds]
  apply filter_set
  simp [Array.getD, hi] at h
  simp [hi, h]

theorem any_inv (R : Array Bool → Act → World → Prop)
    (hstep : ∀ l a w i, R l a w → i ∈ Region.ready md ops l → wpOpIn F n P ops Q i (R (l.setIfInBounds i true)) a w)
    (hend : ∀ l a w, R l a w → Region.ready md ops l = [] → Q .normal a w) :
    ∀ (fuel : Nat) (l : Array Bool) (a : Act) (w : World), left l ≤ fuel → R l a w → wpAnyIn F n P md ops Q fuel l a w := by
  intro fuel
  induction fuel with
  | zero =>
    intro l a w hl hr
    have hz : Region.ready md ops l = [] := by
      apply List.eq_nil_iff_forall_not_mem.2
      intro j hj
      have := (mem_ready.1 hj).1
      rw [left_zero (by omega)] at this
      cases this
    exact ⟨hz, hend l a w hr hz⟩
  | succ fuel ih =>
    intro l a w hl hr
    refine ⟨fun hz => hend l a w hr hz, fun i hi => ?_⟩
    refine wpOpIn_mono (fun a' w' hr' => ih _ a' w' ?_ hr') (hstep l a w i hr hi)
    have := left_set (mem_ready.1 hi).1
    omega

/-- **A region that draws, by what holds behind each set of its operations.** -/
theorem region_inv {id : Nat} {a : Act} {w : World} (hm : P.follows .mixedOrders = true) (R : Array Bool → Act → World → Prop)
    (h0 : R (Array.replicate ops.size false) a w.drew)
    (hstep : ∀ l a w i, R l a w → i ∈ Region.ready .any ops l → wpOpIn F n P ops Q i (R (l.setIfInBounds i true)) a w)
    (hend : ∀ l a w, R l a w → Region.ready .any ops l = [] → Q .normal a w) : (Code.region id ops true).wpIn F n P Q a w := by
  refine wpIn_region_any hm (any_inv R hstep hend _ _ _ _ ?_ h0)
  unfold left
  rw [Array.toList_replicate]
  exact Nat.le_trans (List.length_filter_le _ _) (by simp)

/-- The frame when the operations of l are done: each one's slot holds its value, whatever else is as it was. -/
structure Fr (own : Nat → Option (Nat × Value)) (T : Array Value) (l : Array Bool) (a : Act) : Prop where
  defers : a.defers = []
  size : a.tmps.size = T.size
  slot : ∀ j, j < T.size → a.tmps.getD j undef = match own j with
    | some (i, v) => if l.getD i true = true then v else T.getD j undef
    | none => T.getD j undef

theorem Fr.start (own : Nat → Option (Nat × Value)) (T : Array Value) (l : Array Bool) (h : ∀ j i v, own j = some (i, v) → l.getD i true = false) : Fr own T l ⟨T, []⟩ :=
  ⟨rfl, rfl, fun j _ => by
    cases ho : own j with
    | none => rfl
    | some p => obtain ⟨i, v⟩ := p; simp only []; rw [h j i v ho]; rfl⟩

/-- An operation with a slot of its own. -/
theorem Fr.put {own : Nat → Option (Nat × Value)} {T : Array Value} {l : Array Bool} {a : Act} (h : Fr own T l a) {i d : Nat} {v : Value} (hd : own d = some (i, v)) (hi : i < l.size) (hu : ∀ j p, own j = some p → p.1 = i → j = d) : Fr own T (l.setIfInBounds i true) (a.put (some d) v) := by
  refine ⟨h.defers, by simp [Act.put, h.size], fun j hj => ?_⟩
  have hs := h.slot j hj
  by_cases hjd : j = d
  · subst hjd
    have hsz : j < a.tmps.size := by rw [h.size]; exact hj
    simp [Act.put, Array.getD, hsz, hd, hi]
  · have e1 : (a.put (some d) v).tmps.getD j undef = a.tmps.getD j undef := by
      simp only [Act.put, Array.getD_eq_getD_getElem?]
      rw [Array.getElem?_setIfInBounds_ne (by omega)]
    rw [e1, hs]
    cases ho : own j with
    | none => rfl
    | some p =>
      obtain ⟨k, u⟩ := p
      simp only []
      have hk : k ≠ i := fun e => hjd (hu j _ ho e)
      rw [getD_set_ne true (by omega)]

/-- An operation without one. -/
theorem Fr.bare {own : Nat → Option (Nat × Value)} {T : Array Value} {l : Array Bool} {a : Act} (h : Fr own T l a) {i : Nat} (v : Value) (hu : ∀ j p, own j = some p → p.1 ≠ i) : Fr own T (l.setIfInBounds i true) (a.put none v) := by
  refine ⟨h.defers, h.size, fun j hj => ?_⟩
  show a.tmps.getD j undef = _
  rw [h.slot j hj]
  cases ho : own j with
  | none => rfl
  | some p =>
    obtain ⟨k, u⟩ := p
    simp only []
    rw [getD_set_ne true (fun e => hu j _ ho e.symm)]

/-- What a slot holds whose operation is done. -/
theorem Fr.done {own : Nat → Option (Nat × Value)} {T : Array Value} {l : Array Bool} {a : Act} (h : Fr own T l a) {i j : Nat} {v : Value} (hd : own j = some (i, v)) (hl : l.getD i false = true) (hj : j < T.size) : a.tmps.getD j undef = v := by
  have hl' : l.getD i true = true := by
    have hi : i < l.size := by
      by_cases hi : i < l.size
      · exact hi
      · simp [Array.getD, hi] at hl
    simp [Array.getD, hi] at hl ⊢
    exact hl
  rw [h.slot j hj, hd]
  simp only []
  rw [if_pos hl']

/-- What a slot holds that is none of the region's. -/
theorem Fr.kept {own : Nat → Option (Nat × Value)} {T : Array Value} {l : Array Bool} {a : Act} (h : Fr own T l a) {j : Nat} (hd : own j = none) (hj : j < T.size) : a.tmps.getD j undef = T.getD j undef := by
  rw [h.slot j hj, hd]

/-- The frame when all is done. -/
theorem Fr.all {own : Nat → Option (Nat × Value)} {T T' : Array Value} {l : Array Bool} {a : Act} (h : Fr own T l a) (hl : ∀ j i v, own j = some (i, v) → l.getD i true = true) (hs : T'.size = T.size)
    (ht : ∀ j, j < T.size → T'.getD j undef = match own j with | some (_, v) => v | none => T.getD j undef) : a = ⟨T', []⟩ := by
  obtain ⟨tmps, defers⟩ := a
  obtain ⟨h1, h2, h3⟩ := h
  simp only at h1 h2 h3
  subst h1
  congr 1
  apply Array.ext
  · rw [h2, hs]
  · intro j hj1 hj2
    have e := h3 j (by omega)
    have e' := ht j (by omega)
    have x1 : tmps.getD j undef = tmps[j] := by simp [Array.getD, hj1]
    have x2 : T'.getD j undef = T'[j] := by simp [Array.getD, hj2]
    rw [← x1, ← x2, e, e']
    cases ho : own j with
    | none => rfl
    | some p => obtain ⟨i, v⟩ := p; simp only []; rw [hl j i v ho]; rfl

end Go.Proofs.YtdgmjmckeeeljaaGreatDoor
