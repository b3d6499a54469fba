/- Contracts of num: Of, Int, Cmp. Contracts of num: Int. slices.Clone, Cmp, Bits. Contracts of num: Cmp, Bits. A range over a function whose rounds are counted: the body may write the very memory that the iterator reads. No condition beyond those that are stated. A region that draws its order, met by what holds behind each set of its operations: each operation is looked at once, whatever the order. No condition. -/
import Derived.Test.YtcpgoaombabfjaaMh9
import Derived.Laws.AppendOwnNone
import Derived.OwnWalk
import Derived.WalkKit
import Derived.Handy
import Derived.OrdersIn
import Derived.OwnWalkIn
namespace Go.Proofs.Ytcpgoaombabfjaa.Nums
open Go.RowKit

/-- A Num of the integer z in new memory. -/
def NewNum (w : World) (z : Int) (e : Ending) (w' : World) : Prop :=
  ∃ neg ao n cap, e = .returned (.agg #[.bool neg, .slice ao n cap]) ∧ Below w.heap.size w w' ∧ neg = decide (z < 0) ∧ Sw w.heap.size w' (.slice ao n cap) (digs z.natAbs)

theorem digitsOf_at {x n : Nat} (w : World) (hx : x / 4294967296 < 4294967296) (hn : (digs x).length = n) :
    Calls Try.prog 70 #[.int .u64 x] w fun e w' => ∃ ao cap, e = .returned (.slice ao n cap) ∧ Sw w.heap.size w' (.slice ao n cap) (digs x) ∧ Below w.heap.size w w' := by
  refine (digitsOf_any x w hx).mono ?_
  rintro e w' ⟨v, rfl, hs, hbl⟩
  obtain ⟨ao, cap, rfl⟩ := hs.sl.mk'
  subst hn
  exact ⟨ao, cap, rfl, hs, hbl⟩

theorem digs_word {x : Nat} (hx : x / 4294967296 < 4294967296) : (digs x).length ≤ 2 := digs_length_le.2 (by rw [show (4294967296 : Nat) ^ 2 = 4294967296 * 4294967296 from rfl]; omega)

theorem mk_ok {B : Nat} {W : World} {z : Int} {neg : Bool} {ao : Option Addr} {n cap : Nat} (hn : n = (digs z.natAbs).length) (hle : n ≤ 256) (hneg : z ≠ 0 → neg = decide (z < 0)) (hs : n ≠ 0 → Sw B W (.slice ao n cap) (digs z.natAbs)) :
    mkN neg n = decide (z < 0) ∧ Sw B W (.slice (mkA ao n) (mkL n) (mkC n cap)) (digs z.natAbs) := by
  by_cases h0 : n = 0
  · have hz : z = 0 := by
      have : digs z.natAbs = [] := List.eq_nil_of_length_eq_zero (by omega)
      have : z.natAbs = 0 := digs_inj (by rw [this, digs_zero])
      omega
    subst hz
    have hn' : ¬ (n ≤ 256 ∧ n ≠ 0) := by omega
    unfold mkN mkA mkL mkC
    rw [if_neg hn', if_neg hn', if_neg hn', if_neg hn']
    exact ⟨rfl, by rw [show digs (Int.natAbs 0) = [] from digs_zero]; exact Sw.nil _ _ _ _⟩
  · have hn' : n ≤ 256 ∧ n ≠ 0 := ⟨hle, h0⟩
    unfold mkN mkA mkL mkC
    rw [if_pos hn', if_pos hn', if_pos hn', if_pos hn']
    refine ⟨hneg ?_, hs h0⟩
    intro hz
    subst hz
    apply h0
    rw [hn]
    show (digs 0).length = 0
    rw [digs_zero]; rfl

theorem resbox_new (w : World) : ResBox (w.alloc (.cells #[.bool false, .slice none 0 0] 88)) w.heap.size := heap_alloc_new w _

set_option maxRecDepth 10000 in
set_option maxHeartbeats 1000000 in
theorem of_nonneg (m : Nat) (w : World) (hm : m / 4294967296 < 2147483648) : Calls Try.prog 65 #[.int .i64 (m)] w (NewNum w (m)) := by
  have hl := digs_word (x := m) (by omega)
  have hd := fun W => digitsOf_at (x := m) W (by omega) rfl
  obtain ⟨n, hn⟩ : ∃ n, n = (digs m).length := ⟨_, rfl⟩
  rw [← hn] at hl hd
  have HD := Lib.hid hd
  have HN := Lib.hid hn
  clear hd hn
  go_enter Try.func65, Try.ntmps65
  go_wp2_with (first | (go_at_call 70; refine (HD.out _).mono ?_; rintro e w1 ⟨ao, cap, rfl, hs1, hb1⟩; have hr1 := (resbox_new w).below hb1; obtain ⟨r0, r1, f0, f1⟩ := hr1.cells; have hz := hr1.lt; have HHs := Lib.hid hs1; clear hs1) | (go_at_call 69; refine (made_any _ _ _ _ _).mono ?_; rintro e w2 ⟨rfl, rfl⟩))
  have hst : Below ((w1.setCell ⟨w.heap.size, 0, none⟩ (.bool (mkN (decide ((m : Int) < 0)) n))).setCell ⟨w.heap.size, 1, none⟩ (.slice (mkA ao n) (mkL n) (mkC n cap))).heap.size ((w1.setCell ⟨w.heap.size, 0, none⟩ (.bool (mkN (decide ((m : Int) < 0)) n))).setCell ⟨w.heap.size, 1, none⟩ (.slice (mkA ao n) (mkL n) (mkC n cap))) ((((w1.setCell ⟨w.heap.size, 0, none⟩ (.bool (mkN (decide ((m : Int) < 0)) n))).setCell ⟨w.heap.size, 1, none⟩ (.slice (mkA ao n) (mkL n) (mkC n cap))).alloc (.cells #[.bool (mkN (decide ((m : Int) < 0)) n), .slice (mkA ao n) (mkL n) (mkC n cap)] 88)).alloc (.cells #[.bool (mkN (decide ((m : Int) < 0)) n), .slice (mkA ao n) (mkL n) (mkC n cap)] 88)) := ((Below.refl _ _).alloc (Nat.le_refl _) _).alloc (by simp) _
  obtain ⟨q0, q1⟩ := hr1.stored (.bool (mkN (decide ((m : Int) < 0)) n)) (.slice (mkA ao n) (mkL n) (mkC n cap))
  replace q0 := cell_later hst q0
  replace q1 := cell_later hst q1
  have hb2 : Below w.heap.size w ((((w1.setCell ⟨w.heap.size, 0, none⟩ (.bool (mkN (decide ((m : Int) < 0)) n))).setCell ⟨w.heap.size, 1, none⟩ (.slice (mkA ao n) (mkL n) (mkC n cap))).alloc (.cells #[.bool (mkN (decide ((m : Int) < 0)) n), .slice (mkA ao n) (mkL n) (mkC n cap)] 88)).alloc (.cells #[.bool (mkN (decide ((m : Int) < 0)) n), .slice (mkA ao n) (mkL n) (mkC n cap)] 88)) := (((((Below.refl w.heap.size w).alloc (Nat.le_refl _) _).trans (hb1.mono (by simp))).setCell (by simp) _).setCell (by simp) _).trans (hst.mono (by simp; omega))
  have hsw : Sw w.heap.size ((((w1.setCell ⟨w.heap.size, 0, none⟩ (.bool (mkN (decide ((m : Int) < 0)) n))).setCell ⟨w.heap.size, 1, none⟩ (.slice (mkA ao n) (mkL n) (mkC n cap))).alloc (.cells #[.bool (mkN (decide ((m : Int) < 0)) n), .slice (mkA ao n) (mkL n) (mkC n cap)] 88)).alloc (.cells #[.bool (mkN (decide ((m : Int) < 0)) n), .slice (mkA ao n) (mkL n) (mkC n cap)] 88)) (.slice ao n cap) (digs m) := ((HHs.out.after2 (g := w.heap.size) (by simp) (.bool (mkN (decide ((m : Int) < 0)) n)) (.slice (mkA ao n) (mkL n) (mkC n cap))).below hst).mono (by simp)
  revert q0 q1 hb2 hsw
  clear hst
  generalize (((w1.setCell ⟨w.heap.size, 0, none⟩ (.bool (mkN (decide ((m : Int) < 0)) n))).setCell ⟨w.heap.size, 1, none⟩ (.slice (mkA ao n) (mkL n) (mkC n cap))).alloc (.cells #[.bool (mkN (decide ((m : Int) < 0)) n), .slice (mkA ao n) (mkL n) (mkC n cap)] 88)).alloc (.cells #[.bool (mkN (decide ((m : Int) < 0)) n), .slice (mkA ao n) (mkL n) (mkC n cap)] 88) = W3
  intro q0 q1 hb2 hsw
  have hmk := mk_ok (B := w.heap.size) (W := W3) (n := n) (ao := ao) (cap := cap) (z := m) (neg := (decide ((m : Int) < 0))) (by rw [Int.natAbs_natCast]; exact HN.out) (by omega) (by simp) (fun _ => by rw [Int.natAbs_natCast]; exact hsw)
  refine bodyPost_ret (v := .agg #[.bool (mkN (decide ((m : Int) < 0)) n), .slice (mkA ao n) (mkL n) (mkC n cap)]) (by simp [results, Try.results65, go_sem, q0, q1]) rfl ?_
  exact ⟨_, _, _, _, rfl, hb2, hmk.1, hmk.2⟩

set_option maxRecDepth 10000 in
set_option maxHeartbeats 1000000 in
theorem of_neg (m : Nat) (w : World) (hm : m / 4294967296 < 2147483648 ∨ m = 9223372036854775808) (h0 : m ≠ 0) : Calls Try.prog 65 #[.int .i64 (-(m : Int))] w (NewNum w (-(m : Int))) := by
  have hl := digs_word (x := m) (by omega)
  have hd := fun W => digitsOf_at (x := m) W (by omega) rfl
  obtain ⟨n, hn⟩ : ∃ n, n = (digs m).length := ⟨_, rfl⟩
  rw [← hn] at hl hd
  have HD := Lib.hid hd
  have HN := Lib.hid hn
  clear hd hn
  obtain ⟨U, hU⟩ : ∃ U, U = IntKind.u64.wrap (-(m : Int)) := ⟨_, rfl⟩
  have hU2 : IntKind.u64.wrap (-U) = m := by rw [hU]; simp only [IntKind.wrap_u64]; omega
  have hlt : -(m : Int) < 0 := by omega
  replace hU := hU.symm
  have HM := Lib.hid hm
  clear hm
  go_enter Try.func65, Try.ntmps65
  go_wp2_with (first | (go_at_call 70; refine (HD.out _).mono ?_; rintro e w1 ⟨ao, cap, rfl, hs1, hb1⟩; have hr1 := (resbox_new w).below hb1; obtain ⟨r0, r1, f0, f1⟩ := hr1.cells; have hz := hr1.lt; have HHs := Lib.hid hs1; clear hs1) | (go_at_call 69; refine (made_any _ _ _ _ _).mono ?_; rintro e w2 ⟨rfl, rfl⟩))
  have hst : Below ((w1.setCell ⟨w.heap.size, 0, none⟩ (.bool (mkN true n))).setCell ⟨w.heap.size, 1, none⟩ (.slice (mkA ao n) (mkL n) (mkC n cap))).heap.size ((w1.setCell ⟨w.heap.size, 0, none⟩ (.bool (mkN true n))).setCell ⟨w.heap.size, 1, none⟩ (.slice (mkA ao n) (mkL n) (mkC n cap))) ((((w1.setCell ⟨w.heap.size, 0, none⟩ (.bool (mkN true n))).setCell ⟨w.heap.size, 1, none⟩ (.slice (mkA ao n) (mkL n) (mkC n cap))).alloc (.cells #[.bool (mkN true n), .slice (mkA ao n) (mkL n) (mkC n cap)] 88)).alloc (.cells #[.bool (mkN true n), .slice (mkA ao n) (mkL n) (mkC n cap)] 88)) := ((Below.refl _ _).alloc (Nat.le_refl _) _).alloc (by simp) _
  obtain ⟨q0, q1⟩ := hr1.stored (.bool (mkN true n)) (.slice (mkA ao n) (mkL n) (mkC n cap))
  replace q0 := cell_later hst q0
  replace q1 := cell_later hst q1
  have hb2 : Below w.heap.size w ((((w1.setCell ⟨w.heap.size, 0, none⟩ (.bool (mkN true n))).setCell ⟨w.heap.size, 1, none⟩ (.slice (mkA ao n) (mkL n) (mkC n cap))).alloc (.cells #[.bool (mkN true n), .slice (mkA ao n) (mkL n) (mkC n cap)] 88)).alloc (.cells #[.bool (mkN true n), .slice (mkA ao n) (mkL n) (mkC n cap)] 88)) := (((((Below.refl w.heap.size w).alloc (Nat.le_refl _) _).trans (hb1.mono (by simp))).setCell (by simp) _).setCell (by simp) _).trans (hst.mono (by simp; omega))
  have hsw : Sw w.heap.size ((((w1.setCell ⟨w.heap.size, 0, none⟩ (.bool (mkN true n))).setCell ⟨w.heap.size, 1, none⟩ (.slice (mkA ao n) (mkL n) (mkC n cap))).alloc (.cells #[.bool (mkN true n), .slice (mkA ao n) (mkL n) (mkC n cap)] 88)).alloc (.cells #[.bool (mkN true n), .slice (mkA ao n) (mkL n) (mkC n cap)] 88)) (.slice ao n cap) (digs m) := ((HHs.out.after2 (g := w.heap.size) (by simp) (.bool (mkN true n)) (.slice (mkA ao n) (mkL n) (mkC n cap))).below hst).mono (by simp)
  revert q0 q1 hb2 hsw
  clear hst
  generalize (((w1.setCell ⟨w.heap.size, 0, none⟩ (.bool (mkN true n))).setCell ⟨w.heap.size, 1, none⟩ (.slice (mkA ao n) (mkL n) (mkC n cap))).alloc (.cells #[.bool (mkN true n), .slice (mkA ao n) (mkL n) (mkC n cap)] 88)).alloc (.cells #[.bool (mkN true n), .slice (mkA ao n) (mkL n) (mkC n cap)] 88) = W3
  intro q0 q1 hb2 hsw
  have hmk := mk_ok (B := w.heap.size) (W := W3) (n := n) (ao := ao) (cap := cap) (z := -(m : Int)) (neg := true) (by rw [Int.natAbs_neg, Int.natAbs_natCast]; exact HN.out) (by omega) (by intro _; simp; omega) (fun _ => by rw [Int.natAbs_neg, Int.natAbs_natCast]; exact hsw)
  refine bodyPost_ret (v := .agg #[.bool (mkN true n), .slice (mkA ao n) (mkL n) (mkC n cap)]) (by simp [results, Try.results65, go_sem, q0, q1]) rfl ?_
  exact ⟨_, _, _, _, rfl, hb2, hmk.1, hmk.2⟩

end Go.Proofs.Ytcpgoaombabfjaa.Nums

namespace Go.Proofs.Ytcpgoaombabfjaa.Nums
open Go.RowKit

theorem of_any (n : Int) (w : World) (h1 : -9223372036854775808 ≤ n) (h2 : n ≤ 9223372036854775807) : Calls Try.prog 65 #[.int .i64 n] w (NewNum w n) := by
  by_cases h : 0 ≤ n
  · obtain ⟨m, rfl⟩ : ∃ m : Nat, n = m := ⟨n.toNat, by omega⟩
    exact of_nonneg m w (by omega)
  · obtain ⟨m, rfl⟩ : ∃ m : Nat, n = -(m : Int) := ⟨(-n).toNat, by omega⟩
    exact of_neg m w (by omega) (by omega)

theorem NewNum.nu {w w' : World} {z : Int} {e : Ending} (h : NewNum w z e w') (hl : (digs z.natAbs).length ≤ 256) : ∃ x, e = .returned x ∧ Nu w' x z ∧ Below w.heap.size w w' := by
  obtain ⟨neg, ao, n, cap, rfl, hb, rfl, hs⟩ := h
  exact ⟨_, rfl, ⟨_, rfl, hs.sl, hl⟩, hb⟩

theorem rightB_of (neg : Bool) (x : Nat) (h : neg = true → x ≠ 0) (hl : (digs x).length ≤ 256) : rightB neg (digs x) = true := by
  cases neg with
  | false =>
    have := rightB_digs (x : Int) (by simpa using hl)
    have e : decide ((x : Int) < 0) = false := decide_eq_false (by omega)
    rw [e] at this
    simpa using this
  | true =>
    have := rightB_digs (-(x : Int)) (by simpa using hl)
    have e : decide (-(x : Int) < 0) = true := by have := h rfl; simp; omega
    rw [e] at this
    simpa using this

theorem lss_big (x : Nat) (h : x < 9223372036854775808) : binOp BinOp.lss 102 (.int .u64 (x : Int)) (.int .u64 9223372036854775808) = (pure (.bool true) : Sem Value) := by
  have h' : decide ((x : Int) < 9223372036854775808) = true := decide_eq_true (by omega)
  have e : binOp BinOp.lss 102 (.int .u64 (x : Int)) (.int .u64 9223372036854775808) = (pure (.bool (decide ((x : Int) < 9223372036854775808))) : Sem Value) := rfl
  rw [e, h']
theorem lss_big' (x : Nat) (h : 9223372036854775808 ≤ x) : binOp BinOp.lss 102 (.int .u64 (x : Int)) (.int .u64 9223372036854775808) = (pure (.bool false) : Sem Value) := by
  have h' : decide ((x : Int) < 9223372036854775808) = false := decide_eq_false (by omega)
  have e : binOp BinOp.lss 102 (.int .u64 (x : Int)) (.int .u64 9223372036854775808) = (pure (.bool (decide ((x : Int) < 9223372036854775808))) : Sem Value) := rfl
  rw [e, h']

def IntRes (w : World) (z : Int) (ok : Bool) (e : Ending) (w' : World) : Prop := e = .returned (.tuple #[.int .i64 z, .bool ok]) ∧ Below w.heap.size w w'

end Go.Proofs.Ytcpgoaombabfjaa.Nums

namespace Go.Proofs.Ytcpgoaombabfjaa.Nums
open Go.RowKit

/-- A slice of digits in new memory. -/
def NewSl (w : World) (ds : List Nat) (e : Ending) (w' : World) : Prop := ∃ ao cap, e = .returned (.slice ao ds.length cap) ∧ Sw w.heap.size w' (.slice ao ds.length cap) ds ∧ Below w.heap.size w w'

theorem sw_of_owns {w : World} {B : Nat} {v : Value} {ds : List Nat} (hb : Bd ds) (h : w.ownsRow B 105 1 v ds.length (ds.map u32v)) : ∃ ao cap, v = .slice ao ds.length cap ∧ Sw B w v ds := by
  obtain ⟨h1, h2⟩ := h
  rcases h2 with ⟨rfl, h3⟩ | ⟨g, cap, cur, rfl, hB, hg, hc, hm, hs, ht⟩
  · have : ds = [] := List.eq_nil_of_length_eq_zero h3
    subst this
    exact ⟨none, 0, rfl, Sw.nil _ _ _ _⟩
  · refine ⟨_, _, rfl, ⟨hb, by omega, .inr ⟨g, 0, cap, rfl, hc, fun j hj => ?_⟩⟩, ?_⟩
    · rw [cell_of_row w _ _ _ _ _ hg]
      have h4 : (cur.toList.take (ds.length * 1))[j]? = (ds.map u32v)[j]? := by rw [ht]
      rw [List.getElem?_take, if_pos (by omega)] at h4
      rw [Nat.zero_add]
      rw [← Array.getElem?_toList, h4]
      simp [hj, u32v, List.getD]
    · intro ao n cap' hv _
      cases hv
      exact ⟨g, 0, rfl, hB, fun j _ => frozen_of_row w _ _ _ _ hg⟩

def app32 (ty : TypeId) (vs : Array Value) : Sem Value := Builtin.append_ #[86, 86] ty vs
theorem app32_rw (ty : TypeId) (vs : Array Value) : Builtin.append_ #[86, 86] ty vs = app32 ty vs := rfl

theorem own_new32 (W : World) : (W.alloc (.cells #[] 105)).ownsRow W.heap.size 105 1 (.slice (some ⟨W.heap.size, 0, none⟩) 0 0) 0 [] := ⟨rfl, .inr ⟨W.heap.size, 0, #[], rfl, Nat.le_refl _, heap_alloc_new _ _, Nat.le_refl _, Nat.zero_le _, rfl, rfl⟩⟩

theorem clone_run {W : World} {b off cap : Nat} {ds : List Nat} (h : Sl W (.slice (some ⟨b, off, none⟩) ds.length cap) ds) (hcl : ∀ j, j < ds.length → W.cell? ⟨b, off + j, none⟩ = some (.int .u32 (ds.getD j 0))) (hl : ds.length ≤ 1000) :
    ∃ ao cap2 w2, Sem.run Try.prog (app32 86 #[.slice (some ⟨W.heap.size, 0, none⟩) 0 0, .slice (some ⟨b, off, none⟩) ds.length cap]) (W.alloc (.cells #[] 105)) = .ok (.slice ao ds.length cap2) w2 ∧ Sw W.heap.size w2 (.slice ao ds.length cap2) ds ∧ Below W.heap.size W w2 := by
  obtain ⟨i0, hii, hz0, hz1, hz2⟩ := info_parts Try.info105
  have hbA : Below W.heap.size W (W.alloc (.cells #[] 105)) := (Below.refl _ _).alloc (Nat.le_refl _) _
  obtain ⟨v2, w2, hrun, hown2, hgrow2, _⟩ := run_append_own (P := Try.prog) (w := W.alloc (.cells #[] 105)) W.heap.size 86 86 105 i0 (.int .u32 0) 1 4 Try.underlying86 hii hz0 hz1 hz2 rfl (by decide) _ 0 _ (own_new32 W) ⟨b, off, none⟩ ds.length cap (ds.map u32v) (by simp)
    (fun j u hu => by
      have hj : j < ds.length := by have := (List.getElem?_eq_some_iff.1 hu).1; simpa using this
      rw [show (Addr.mk b off none).add j = ⟨b, off + j, none⟩ by simp [Addr.add], cell_later hbA (hcl j hj), ← hu]
      simp [hj, u32v, List.getD])
    (fun u hu => by obtain ⟨d, _, rfl⟩ := List.mem_map.1 hu; rfl) (by unfold maxLen; omega) (by omega) (by simp)
  rw [app32_rw] at hrun
  rw [Nat.zero_add, List.nil_append] at hown2
  obtain ⟨ao2, cap2, rfl, hs⟩ := sw_of_owns h.bd hown2
  exact ⟨ao2, cap2, w2, hrun, hs, hbA.trans ((Below.refl _ _).grown hgrow2 (by simp) (fun j hj => ((own_new32 W).lt j hj).1))⟩

set_option maxRecDepth 10000 in
set_option maxHeartbeats 1000000 in
theorem clone_empty (ao : Option Addr) (cap : Nat) (w : World) : Calls Try.prog 80 #[.slice ao 0 cap] w (NewSl w []) := by
  have hq := fun (w : World) => Lib.run_eql_slice_nil (P := Try.prog) w 86 105 ao 0 cap 0 0 Try.underlying86
  cases ao with
  | none =>
    go_enter Try.func80, Try.ntmps80
    go_wp2
    go_ret
    exact ⟨_, _, rfl, Sw.nil _ _ _ _, Below.refl _ _⟩
  | some a =>
    go_enter Try.func80, Try.ntmps80
    go_wp2
    go_ret
    exact ⟨_, _, rfl, Sw.nil _ _ _ _, (Below.refl _ _).alloc (Nat.le_refl _) _⟩

attribute [local go_sem ↓] app32_rw

set_option maxRecDepth 10000 in
set_option maxHeartbeats 1000000 in
theorem clone_any {w : World} {v : Value} {ds : List Nat} (h : Sl w v ds) (hl : ds.length ≤ 1000) : Calls Try.prog 80 #[v] w (NewSl w ds) := by
  rcases h.is with ⟨rfl, ao, cap, rfl⟩ | ⟨b, off, cap, rfl, hcap, hcl⟩
  · exact clone_empty ao cap w
  · obtain ⟨ao2, cap2, w2, hrun, hs, hb⟩ := clone_run h hcl hl
    have HS := Lib.hid hs
    have HB := Lib.hid hb
    have hqn := fun (w : World) => Lib.run_eql_slice_nil (P := Try.prog) w 86 105 (some ⟨b, off, none⟩) ds.length cap 0 0 Try.underlying86
    unfold NewSl
    obtain ⟨n, hn⟩ : ∃ n, n = ds.length := ⟨_, rfl⟩
    rw [← hn] at hrun HS hqn ⊢
    clear hn hs hb h hcl hcap hl
    go_enter Try.func80, Try.ntmps80
    go_wp2
    go_ret
    exact ⟨_, _, rfl, HS.out, HB.out⟩

end Go.Proofs.Ytcpgoaombabfjaa.Nums

namespace Go.Proofs.Ytcpgoaombabfjaa.Nums
open Go.RowKit

/-- Less, equal, greater, of integers. -/
def cmpZ (a b : Int) : Int := if a < b then -1 else if a = b then 0 else 1

set_option maxRecDepth 10000 in
set_option maxHeartbeats 1000000 in
theorem cmp_pp {w : World} {x y : Value} {a b : Int} (hx : Nu w x a) (hy : Nu w y b) (h1 : 0 ≤ a) (h2 : 0 ≤ b) :
    Calls Try.prog 67 #[x, y] w fun e w' => e = .returned (.int .i64 (cmpZ a b)) ∧ Below w.heap.size w w' := by
  have hz : cmpZ a b = cmpN a.natAbs b.natAbs := by
    unfold cmpZ
    try unfold cmpN
    repeat' split
    all_goals omega
  rw [hz]
  have ea : decide (a < 0) = false := by simp; omega
  have eb : decide (b < 0) = false := by simp; omega
  clear hz
  obtain ⟨sa, rfl, ha, la⟩ := hx
  obtain ⟨sb, rfl, hb, lb⟩ := hy
  have ra := rightB_digs a la
  have rb := rightB_digs b lb
  obtain ⟨na, hna⟩ : ∃ na, na = decide (a < 0) := ⟨_, rfl⟩
  obtain ⟨nb, hnb⟩ : ∃ nb, nb = decide (b < 0) := ⟨_, rfl⟩
  rw [← hna] at ra ⊢
  rw [← hnb] at rb ⊢
  have HNA := Lib.hid hna
  have HNB := Lib.hid hnb
  clear hna hnb
  have R1 : ∀ W, Sl W sa (digs a.natAbs) → Calls Try.prog 66 #[.agg #[.bool na, sa]] W fun e w' => e = .returned (.bool true) ∧ w' = W.alloc (.cells #[.bool na, sa] 88) := fun W h => by have := right_any na h (by omega); rwa [ra] at this
  have R2 : ∀ W, Sl W sb (digs b.natAbs) → Calls Try.prog 66 #[.agg #[.bool nb, sb]] W fun e w' => e = .returned (.bool true) ∧ w' = W.alloc (.cells #[.bool nb, sb] 88) := fun W h => by have := right_any nb h (by omega); rwa [rb] at this
  have HR1 := Lib.hid R1
  have HR2 := Lib.hid R2
  clear R1 R2 ra rb
  obtain rfl : na = false := by rw [HNA.out, ea]
  obtain rfl : nb = false := by rw [HNB.out, eb]
  clear ea eb
  go_enter Try.func67, Try.ntmps67
  go_wp2_with (first | (go_at_call_of 66 (Value.agg #[.bool false, sa]); refine (HR1.out _ (ha.below (by go_grown))).mono ?_; rintro e w' ⟨rfl, rfl⟩) | (go_at_call_of 66 (Value.agg #[.bool false, sb]); refine (HR2.out _ (hb.below (by go_grown))).mono ?_; rintro e w' ⟨rfl, rfl⟩) | (go_at_call 71; refine (compare_any (ha.below (by go_grown)) (hb.below (by go_grown)) (by omega) (by omega)).mono ?_; rintro e W5 ⟨rfl, hbW⟩; have hbW' : Below w.heap.size w W5 := Below.trans (by go_grown) (hbW.mono (by simp; omega))))
  go_returns
  exact ⟨rfl, by go_grown⟩

set_option maxRecDepth 10000 in
set_option maxHeartbeats 1000000 in
theorem cmp_nn {w : World} {x y : Value} {a b : Int} (hx : Nu w x a) (hy : Nu w y b) (h1 : a < 0) (h2 : b < 0) :
    Calls Try.prog 67 #[x, y] w fun e w' => e = .returned (.int .i64 (cmpZ a b)) ∧ Below w.heap.size w w' := by
  have hz : cmpZ a b = cmpN b.natAbs a.natAbs := by
    unfold cmpZ
    try unfold cmpN
    repeat' split
    all_goals omega
  rw [hz]
  have ea : decide (a < 0) = true := by simp; omega
  have eb : decide (b < 0) = true := by simp; omega
  clear hz
  obtain ⟨sa, rfl, ha, la⟩ := hx
  obtain ⟨sb, rfl, hb, lb⟩ := hy
  have ra := rightB_digs a la
  have rb := rightB_digs b lb
  obtain ⟨na, hna⟩ : ∃ na, na = decide (a < 0) := ⟨_, rfl⟩
  obtain ⟨nb, hnb⟩ : ∃ nb, nb = decide (b < 0) := ⟨_, rfl⟩
  rw [← hna] at ra ⊢
  rw [← hnb] at rb ⊢
  have HNA := Lib.hid hna
  have HNB := Lib.hid hnb
  clear hna hnb
  have R1 : ∀ W, Sl W sa (digs a.natAbs) → Calls Try.prog 66 #[.agg #[.bool na, sa]] W fun e w' => e = .returned (.bool true) ∧ w' = W.alloc (.cells #[.bool na, sa] 88) := fun W h => by have := right_any na h (by omega); rwa [ra] at this
  have R2 : ∀ W, Sl W sb (digs b.natAbs) → Calls Try.prog 66 #[.agg #[.bool nb, sb]] W fun e w' => e = .returned (.bool true) ∧ w' = W.alloc (.cells #[.bool nb, sb] 88) := fun W h => by have := right_any nb h (by omega); rwa [rb] at this
  have HR1 := Lib.hid R1
  have HR2 := Lib.hid R2
  clear R1 R2 ra rb
  obtain rfl : na = true := by rw [HNA.out, ea]
  obtain rfl : nb = true := by rw [HNB.out, eb]
  clear ea eb
  go_enter Try.func67, Try.ntmps67
  go_wp2_with (first | (go_at_call_of 66 (Value.agg #[.bool true, sa]); refine (HR1.out _ (ha.below (by go_grown))).mono ?_; rintro e w' ⟨rfl, rfl⟩) | (go_at_call_of 66 (Value.agg #[.bool true, sb]); refine (HR2.out _ (hb.below (by go_grown))).mono ?_; rintro e w' ⟨rfl, rfl⟩) | (go_at_call 71; refine (compare_any (hb.below (by go_grown)) (ha.below (by go_grown)) (by omega) (by omega)).mono ?_; rintro e W5 ⟨rfl, hbW⟩; have hbW' : Below w.heap.size w W5 := Below.trans (by go_grown) (hbW.mono (by simp; omega))))
  go_returns
  exact ⟨rfl, by go_grown⟩

set_option maxRecDepth 10000 in
set_option maxHeartbeats 1000000 in
theorem cmp_np {w : World} {x y : Value} {a b : Int} (hx : Nu w x a) (hy : Nu w y b) (h1 : a < 0) (h2 : 0 ≤ b) :
    Calls Try.prog 67 #[x, y] w fun e w' => e = .returned (.int .i64 (cmpZ a b)) ∧ Below w.heap.size w w' := by
  have hz : cmpZ a b = -1 := by
    unfold cmpZ
    try unfold cmpN
    repeat' split
    all_goals omega
  rw [hz]
  have ea : decide (a < 0) = true := by simp; omega
  have eb : decide (b < 0) = false := by simp; omega
  clear hz
  obtain ⟨sa, rfl, ha, la⟩ := hx
  obtain ⟨sb, rfl, hb, lb⟩ := hy
  have ra := rightB_digs a la
  have rb := rightB_digs b lb
  obtain ⟨na, hna⟩ : ∃ na, na = decide (a < 0) := ⟨_, rfl⟩
  obtain ⟨nb, hnb⟩ : ∃ nb, nb = decide (b < 0) := ⟨_, rfl⟩
  rw [← hna] at ra ⊢
  rw [← hnb] at rb ⊢
  have HNA := Lib.hid hna
  have HNB := Lib.hid hnb
  clear hna hnb
  have R1 : ∀ W, Sl W sa (digs a.natAbs) → Calls Try.prog 66 #[.agg #[.bool na, sa]] W fun e w' => e = .returned (.bool true) ∧ w' = W.alloc (.cells #[.bool na, sa] 88) := fun W h => by have := right_any na h (by omega); rwa [ra] at this
  have R2 : ∀ W, Sl W sb (digs b.natAbs) → Calls Try.prog 66 #[.agg #[.bool nb, sb]] W fun e w' => e = .returned (.bool true) ∧ w' = W.alloc (.cells #[.bool nb, sb] 88) := fun W h => by have := right_any nb h (by omega); rwa [rb] at this
  have HR1 := Lib.hid R1
  have HR2 := Lib.hid R2
  clear R1 R2 ra rb
  obtain rfl : na = true := by rw [HNA.out, ea]
  obtain rfl : nb = false := by rw [HNB.out, eb]
  clear ea eb
  go_enter Try.func67, Try.ntmps67
  go_wp2_with (first | (go_at_call_of 66 (Value.agg #[.bool true, sa]); refine (HR1.out _ (ha.below (by go_grown))).mono ?_; rintro e w' ⟨rfl, rfl⟩) | (go_at_call_of 66 (Value.agg #[.bool false, sb]); refine (HR2.out _ (hb.below (by go_grown))).mono ?_; rintro e w' ⟨rfl, rfl⟩))
  go_returns
  exact ⟨rfl, by go_grown⟩

set_option maxRecDepth 10000 in
set_option maxHeartbeats 1000000 in
theorem cmp_pn {w : World} {x y : Value} {a b : Int} (hx : Nu w x a) (hy : Nu w y b) (h1 : 0 ≤ a) (h2 : b < 0) :
    Calls Try.prog 67 #[x, y] w fun e w' => e = .returned (.int .i64 (cmpZ a b)) ∧ Below w.heap.size w w' := by
  have hz : cmpZ a b = 1 := by
    unfold cmpZ
    try unfold cmpN
    repeat' split
    all_goals omega
  rw [hz]
  have ea : decide (a < 0) = false := by simp; omega
  have eb : decide (b < 0) = true := by simp; omega
  clear hz
  obtain ⟨sa, rfl, ha, la⟩ := hx
  obtain ⟨sb, rfl, hb, lb⟩ := hy
  have ra := rightB_digs a la
  have rb := rightB_digs b lb
  obtain ⟨na, hna⟩ : ∃ na, na = decide (a < 0) := ⟨_, rfl⟩
  obtain ⟨nb, hnb⟩ : ∃ nb, nb = decide (b < 0) := ⟨_, rfl⟩
  rw [← hna] at ra ⊢
  rw [← hnb] at rb ⊢
  have HNA := Lib.hid hna
  have HNB := Lib.hid hnb
  clear hna hnb
  have R1 : ∀ W, Sl W sa (digs a.natAbs) → Calls Try.prog 66 #[.agg #[.bool na, sa]] W fun e w' => e = .returned (.bool true) ∧ w' = W.alloc (.cells #[.bool na, sa] 88) := fun W h => by have := right_any na h (by omega); rwa [ra] at this
  have R2 : ∀ W, Sl W sb (digs b.natAbs) → Calls Try.prog 66 #[.agg #[.bool nb, sb]] W fun e w' => e = .returned (.bool true) ∧ w' = W.alloc (.cells #[.bool nb, sb] 88) := fun W h => by have := right_any nb h (by omega); rwa [rb] at this
  have HR1 := Lib.hid R1
  have HR2 := Lib.hid R2
  clear R1 R2 ra rb
  obtain rfl : na = false := by rw [HNA.out, ea]
  obtain rfl : nb = true := by rw [HNB.out, eb]
  clear ea eb
  go_enter Try.func67, Try.ntmps67
  go_wp2_with (first | (go_at_call_of 66 (Value.agg #[.bool false, sa]); refine (HR1.out _ (ha.below (by go_grown))).mono ?_; rintro e w' ⟨rfl, rfl⟩) | (go_at_call_of 66 (Value.agg #[.bool true, sb]); refine (HR2.out _ (hb.below (by go_grown))).mono ?_; rintro e w' ⟨rfl, rfl⟩))
  go_returns
  exact ⟨rfl, by go_grown⟩

/-- num.Cmp of right numbers. -/
theorem cmp_any {w : World} {x y : Value} {a b : Int} (hx : Nu w x a) (hy : Nu w y b) : Calls Try.prog 67 #[x, y] w fun e w' => e = .returned (.int .i64 (cmpZ a b)) ∧ Below w.heap.size w w' := by
  by_cases h1 : 0 ≤ a <;> by_cases h2 : 0 ≤ b
  · exact cmp_pp hx hy h1 h2
  · exact cmp_pn hx hy h1 (by omega)
  · exact cmp_np hx hy (by omega) h2
  · exact cmp_nn hx hy (by omega) (by omega)

end Go.Proofs.Ytcpgoaombabfjaa.Nums

namespace Go.Proofs.Ytcpgoaombabfjaa.Nums
open Go.RowKit Go.Shelf
attribute [local go_sem] Oper.semAt_some

/-- How the body of a counted round is left: off its end, the next invariant holding. -/
def countPost (B : Nat) (I : World → Prop) (W : World) : Exit → Act → World → Prop
  | .normal, _, W' => KeepsFrom B W W' ∧ I W'
  | _, _, _ => False

/-- What an iterator that makes N rounds owes, round by round. -/
def Counts (F : Fence) (n : Nat) (P : Program) (g : Nat) (lb : Array Value) (args : Nat → Array Value) (N : Nat) (I : Nat → World → Prop) : Prop :=
  ∀ (l : Nat) (A : World → Prop) (W : World), (∀ k W1, k < N → I k W1 → A W1 → YieldAt F (n - 1) P l (args k) W1 fun e W' => e = .returned (.bool true) ∧ I (k + 1) W' ∧ A W') → I 0 W → A W →
    CallsIn F n P g (#[.func (.yield l) #[] #[]] ++ lb) W fun e W' => (∃ v, e = .returned v) ∧ I N W' ∧ A W'

theorem rangeFunc_counts {F : Fence} {n : Nat} {P : Program} {g : Operand} {ps : Array Tmp} {assign body : Code} {Q : Exit → Act → World → Prop} {a : Act} {w : World}
    (hro : F.round = none) (h1 : 1 ≤ n) {gf : Nat} {lb : Array Value} (hg : a.eval g = .func (.func gf) #[] lb) (hFg : F.fn gf) (eg : ∀ args w, (callFunc gf args).run P w = .ok (.enter gf args) w)
    {args : Nat → Array Value} {N : Nat} {I : Nat → World → Prop} (hseq : Counts F (n - 1) P gf lb args N I) (hps : ∀ k, (args k).size = ps.size)
    (hI : OwnFrom w.heap.size I) (h0 : I 0 w) (a₁ : Nat → Act)
    (hassign : ∀ (l k : Nat) (W : World) (K : Act → World → Prop), K (a₁ k) W →
      assign.wpIn (F.inRound l) (n - 1 - 1) P (Exit.then K (fun _ _ _ => False)) { tmps := (ps.zip (args k)).foldl (fun t (p, v) => t.setIfInBounds p v) a.tmps, defers := [] } W)
    (hbody : ∀ (l k : Nat) (W : World), k < N → I k W → body.wpIn (F.inRound l) (n - 1 - 1) P (countPost w.heap.size (I (k + 1)) W) (a₁ k) W)
    (hdone : ∀ (D : Nat) (W : World), w.heap.size ≤ D → I N W → W.heap[D]? = some (.deferred (some [])) → Q .normal { a with defers := { target := .collected D, args := #[] } :: a.defers } W) :
    (Code.rangeFunc g ps assign body).wpIn F n P Q a w := by
  refine wpIn_rangeFunc ?_
  intro fn hfn
  rw [hro]
  let rec0 : LoopState → Loop := fun st => { state := st, pending := none, fn, tmps := a.tmps, params := ps, assign, body, defers := w.heap.size }
  obtain ⟨W1, hW1⟩ : ∃ W1, (w.alloc (.deferred (some []))).alloc (.loop (rec0 .ready)) = W1 := ⟨_, rfl⟩
  have hL1 : W1.heap[w.heap.size + 1]? = some (.loop (rec0 .ready)) := by
    have := World.alloc_heap_new (w.alloc (.deferred (some []))) (.loop (rec0 .ready))
    rw [World.size_alloc] at this
    rw [← hW1]; exact this
  have hD1 : W1.heap[w.heap.size]? = some (.deferred (some [])) := by
    rw [← hW1, Below.heap_alloc _ _ _ (by simp)]
    exact World.alloc_heap_new w _
  have hI1 : I 0 W1 := by rw [← hW1]; exact hI.alloc _ (hI.alloc _ h0)
  refine ⟨w.heap.size + 1, [{ target := .collected w.heap.size, args := #[] }], W1, { target := .fn (.func gf) lb, args := #[.func (.yield (w.heap.size + 1)) #[] #[]] }, W1, gf,
    #[.func (.yield (w.heap.size + 1)) #[] #[]] ++ lb, W1, ?_, ?_, ?_, ?_, fun _ => h1, ?_⟩
  · rw [← hW1]; exact run_enterLoop_outer _ _ _ _ _
  · simp only [resolve, hg]
    simp [go_sem]
  · intro f' hf'; simp [Target.leads] at hf'; subst hf'; exact hFg
  · simp [invoke, go_sem, eg]
  refine (hseq (w.heap.size + 1) (fun W => W.heap[w.heap.size + 1]? = some (.loop (rec0 .ready)) ∧ W.heap[w.heap.size]? = some (.deferred (some []))) W1 ?_ hI1 ⟨hL1, hD1⟩).mono ?_
  · rintro k W hk hi ⟨hl, hd⟩
    have hlt : w.heap.size + 1 < W.heap.size := (Array.getElem?_eq_some_iff.1 hl).1
    refine ⟨fn, _, assign, body, run_yield hl (hps k), roundIn_of_wpIn hfn (hassign _ k W _ ⟨_, run_beginRound hl rfl, ?_⟩)⟩
    have hl2 : (W.putObj (w.heap.size + 1) (.loop (rec0 .busy))).heap[w.heap.size + 1]? = some (.loop (rec0 .busy)) := World.putObj_heap_same hlt
    have hd2 : (W.putObj (w.heap.size + 1) (.loop (rec0 .busy))).heap[w.heap.size]? = some (.deferred (some [])) := (World.putObj_heap_other (by omega)).trans hd
    refine wpIn_mono (hbody _ k _ hk (hI.putObj _ hi (by omega) hl rfl)) ?_
    rintro e a3 W3 hp
    cases e with
    | normal =>
      obtain ⟨hkf, hi3⟩ := hp
      have hl3 := hkf.same _ _ (by omega) hl2 rfl
      have hd3 := hkf.same _ _ (Nat.le_refl _) hd2 rfl
      refine ⟨_, _, run_endRound none hl3, rfl, hI.putObj _ hi3 (by omega) hl3 rfl, World.putObj_heap_same (Array.getElem?_eq_some_iff.1 hl3).1, (World.putObj_heap_other (by omega)).trans hd3⟩
    | ret => exact hp.elim
    | exit id => exact hp.elim
    | goto t => exact hp.elim
    | panic ch => exact hp.elim
    | outgrown => exact hp.elim
  · rintro e W2 ⟨⟨v, rfl⟩, hi, hl, hd⟩
    refine ⟨none, _, run_endLoop hl (by simp [rec0]), hdone _ _ (Nat.le_refl _) (hI.putObj _ hi (by omega) hl rfl) ((World.putObj_heap_other (by omega)).trans hd)⟩

/-- What a round of Backward is handed. -/
def backArgs (zs : List Nat) (k : Nat) : Array Value := #[.int .i64 ((zs.length - 1 - k : Nat) : Int), .int .u32 ((zs.getD (zs.length - 1 - k) 0 : Nat) : Int)]

set_option maxRecDepth 100000 in
set_option maxHeartbeats 2000000 in
/-- slices.Backward over digits: in each round the cells that are still to come are as they were. -/
theorem backward_counts (F : Fence) (n : Nat) (h90 : F.fn 84) (hro : F.round = none) (hn : 1 ≤ n) (B : Nat) (ao : Option Addr) (cap : Nat) (zs : List Nat) (hreach : zs.length ≤ 140737488351232) (I : Nat → World → Prop)
    (hB : ∀ k W, I k W → W.cell? ⟨B, 0, none⟩ = some (.slice ao zs.length cap)) (hc : ∀ k W, I k W → k < zs.length → ∃ b off, ao = some ⟨b, off, none⟩ ∧ W.cell? ⟨b, off + (zs.length - 1 - k), none⟩ = some (.int .u32 ((zs.getD (zs.length - 1 - k) 0 : Nat) : Int))) :
    Counts F n Try.prog 84 #[.pointer (some ⟨B, 0, none⟩)] (backArgs zs) zs.length I := by
  intro l A W hY h0 hA
  obtain ⟨len, hlen⟩ : ∃ len : Nat, len = zs.length := ⟨_, rfl⟩
  rw [← hlen] at hreach
  have HLEN := Lib.hid hlen
  have HBB := Lib.hid hB
  have HC := Lib.hid hc
  have HY := Lib.hid hY
  have hb0 := hB 0 W h0
  rw [← hlen] at hb0 ⊢
  clear hlen hB hc hY
  refine callsIn_of_wp Try.func84 rfl h90 ?_ hro
  simp only [Try.ntmps84, List.size_toArray, List.length_cons, List.length_nil, Nat.reduceAdd, Nat.reduceSub, Array.replicate_succ, Array.replicate_zero, List.push_toArray, List.append_toArray, List.nil_append, List.cons_append]
  have HI0 := Lib.hid h0
  have HA0 := Lib.hid hA
  clear h0 hA
  gi_wp2
  gi_loopw [3] (fun i wr => ∃ m : Nat, m ≤ len ∧ i = .int .i64 ((m : Int) - 1) ∧ Hid (I (len - m) wr) ∧ Hid (A wr))
    (fun i _ => (intOf i + 1).toNat)
  case atStart => exact ⟨len, Nat.le_refl _, by go_num, by rw [Nat.sub_self]; exact HI0, HA0⟩
  case round =>
    obtain ⟨m, hk, rfl, hJs, hJa⟩ := hrel
    have hb1 := HBB.out _ _ hJs.out
    rw [← HLEN.out] at hb1
    cases m with
    | succ m =>
      have e1 : zs.length - 1 - (len - (m + 1)) = m := by rw [← HLEN.out]; omega
      obtain ⟨b, off, rfl, hcx⟩ := HC.out _ _ hJs.out (by rw [← HLEN.out]; omega)
      obtain ⟨fn, tmps, assign, body, hy, hR⟩ := HY.out (len - (m + 1)) wr (by rw [← HLEN.out]; omega) hJs.out hJa.out
      unfold backArgs at hy
      rw [e1] at hy hcx
      obtain ⟨z, hz⟩ : ∃ z, z = zs.getD m 0 := ⟨_, rfl⟩
      rw [← hz] at hcx hy
      have e2 : len - (m + 1) + 1 = len - m := by omega
      rw [e2] at hR
      have HR := Lib.hid hR
      clear hz e1 e2 hR
      gi_wp2
      refine HR.out.mono ?_
      rintro e W3 ⟨rfl, hJ3, hA3⟩
      have HJ3 := Lib.hid hJ3
      have HA3 := Lib.hid hA3
      clear hJ3 hA3
      gi_wp2
      go_roundw
      case rel => exact ⟨m, by omega, by go_num, HJ3, HA3⟩
      case measure => simp [intOf]
    | zero =>
      gi_wp2
      go_end0
      exact ⟨⟨_, rfl⟩, hJs.out, hJa.out⟩

end Go.Proofs.Ytcpgoaombabfjaa.Nums

namespace Go.Proofs.Ytcpgoaombabfjaa.Nums
open Go

variable {F : Fence} {n : Nat} {P : Program} {ops : Array Oper} {Q : Exit → Act → World → Prop} {md : Region.Mode}

def left (l : Array Bool) : Nat := (l.toList.filter (!·)).length

theorem left_zero {l : Array Bool} (h : left l = 0) (j : Nat) : l.getD j true = true := by
  have h0 : l.toList.filter (!·) = [] := List.eq_nil_of_length_eq_zero h
  by_cases hj : j < l.size
  · have hm : l[j] ∈ l.toList := by simp
    have := List.filter_eq_nil_iff.1 h0 _ hm
    simpa [Array.getD, hj] using this
  · simp [Array.getD, hj]

theorem filter_set : ∀ (l : List Bool) (i : Nat), l[i]? = some false → ((l.set i true).filter (!·)).length + 1 = (l.filter (!·)).length := by
  intro l
  induction l with
  | nil => intro i h; simp at h
  | cons b l ih =>
    intro i h
    cases i with
    | zero => simp at h; subst h; simp
    | succ i =>
      have := ih i (by simpa using h)
      cases b <;> simp only [List.set_cons_succ, List.filter_cons] <;> simp <;> omega

theorem left_set {l : Array Bool} {i : Nat} (h : l.getD i true = false) : left (l.setIfInBounds i true) + 1 = left l := by
  unfold left
  have hi : i < l.size := by
    by_cases hi : i < l.size
    · exact hi
    · simp [Array.getD, hi] at h
  rw [Array.toList_setIfInBounds]
  apply filter_set
  simp [Array.getD, hi] at h
  simp [hi, h]

theorem any_inv (R : Array Bool → Act → World → Prop)
    (hstep : ∀ l a w i, R l a w → i ∈ Region.ready md ops l → wpOpIn F n P ops Q i (R (l.setIfInBounds i true)) a w)
    (hend : ∀ l a w, R l a w → Region.ready md ops l = [] → Q .normal a w) :
    ∀ (fuel : Nat) (l : Array Bool) (a : Act) (w : World), left l ≤ fuel → R l a w → wpAnyIn F n P md ops Q fuel l a w := by
  intro fuel
  induction fuel with
  | zero =>
    intro l a w hl hr
    have hz : Region.ready md ops l = [] := by
      apply List.eq_nil_iff_forall_not_mem.2
      intro j hj
      have := (mem_ready.1 hj).1
      rw [left_zero (by omega)] at this
      cases this
    exact ⟨hz, hend l a w hr hz⟩
  | succ fuel ih =>
    intro l a w hl hr
    refine ⟨fun hz => hend l a w hr hz, fun i hi => ?_⟩
    refine wpOpIn_mono (fun a' w' hr' => ih _ a' w' ?_ hr') (hstep l a w i hr hi)
    have := left_set (mem_ready.1 hi).1
    omega

/-- **A region that draws, by what holds behind each set of its operations.** -/
theorem region_inv {id : Nat} {a : Act} {w : World} (hm : P.follows .mixedOrders = true) (R : Array Bool → Act → World → Prop)
    (h0 : R (Array.replicate ops.size false) a w.drew)
    (hstep : ∀ l a w i, R l a w → i ∈ Region.ready .any ops l → wpOpIn F n P ops Q i (R (l.setIfInBounds i true)) a w)
    (hend : ∀ l a w, R l a w → Region.ready .any ops l = [] → Q .normal a w) : (Code.region id ops true).wpIn F n P Q a w := by
  refine wpIn_region_any hm (any_inv R hstep hend _ _ _ _ ?_ h0)
  unfold left
  rw [Array.toList_replicate]
  exact Nat.le_trans (List.length_filter_le _ _) (by simp)

/-- The frame when the operations of l are done: each one's slot holds its value, whatever else is as it was. -/
structure Fr (own : Nat → Option (Nat × Value)) (T : Array Value) (l : Array Bool) (a : Act) : Prop where
  defers : a.defers = []
  size : a.tmps.size = T.size
  slot : ∀ j, j < T.size → a.tmps.getD j undef = match own j with
    | some (i, v) => if l.getD i true = true then v else T.getD j undef
    | none => T.getD j undef

theorem Fr.start (own : Nat → Option (Nat × Value)) (T : Array Value) (l : Array Bool) (h : ∀ j i v, own j = some (i, v) → l.getD i true = false) : Fr own T l ⟨T, []⟩ :=
  ⟨rfl, rfl, fun j _ => by
    cases ho : own j with
    | none => rfl
    | some p => obtain ⟨i, v⟩ := p; simp only []; rw [h j i v ho]; rfl⟩

/-- An operation with a slot of its own. -/
theorem Fr.put {own : Nat → Option (Nat × Value)} {T : Array Value} {l : Array Bool} {a : Act} (h : Fr own T l a) {i d : Nat} {v : Value} (hd : own d = some (i, v)) (hi : i < l.size) (hu : ∀ j p, own j = some p → p.1 = i → j = d) : Fr own T (l.setIfInBounds i true) (a.put (some d) v) := by
  refine ⟨h.defers, by simp [Act.put, h.size], fun j hj => ?_⟩
  have hs := h.slot j hj
  by_cases hjd : j = d
  · subst hjd
    have hsz : j < a.tmps.size := by rw [h.size]; exact hj
    simp [Act.put, Array.getD, hsz, hd, hi]
  · have e1 : (a.put (some d) v).tmps.getD j undef = a.tmps.getD j undef := by
      simp only [Act.put, Array.getD_eq_getD_getElem?]
      rw [Array.getElem?_setIfInBounds_ne (by omega)]
    rw [e1, hs]
    cases ho : own j with
    | none => rfl
    | some p =>
      obtain ⟨k, u⟩ := p
      simp only []
      have hk : k ≠ i := fun e => hjd (hu j _ ho e)
      rw [getD_set_ne true (by omega)]

/-- An operation without one. -/
theorem Fr.bare {own : Nat → Option (Nat × Value)} {T : Array Value} {l : Array Bool} {a : Act} (h : Fr own T l a) {i : Nat} (v : Value) (hu : ∀ j p, own j = some p → p.1 ≠ i) : Fr own T (l.setIfInBounds i true) (a.put none v) := by
  refine ⟨h.defers, h.size, fun j hj => ?_⟩
  show a.tmps.getD j undef = _
  rw [h.slot j hj]
  cases ho : own j with
  | none => rfl
  | some p =>
    obtain ⟨k, u⟩ := p
    simp only []
    rw [getD_set_ne true (fun e => hu j _ ho e.symm)]

/-- What a slot holds whose operation is done. -/
theorem Fr.done {own : Nat → Option (Nat × Value)} {T : Array Value} {l : Array Bool} {a : Act} (h : Fr own T l a) {i j : Nat} {v : Value} (hd : own j = some (i, v)) (hl : l.getD i false = true) (hj : j < T.size) : a.tmps.getD j undef = v := by
  have hl' : l.getD i true = true := by
    have hi : i < l.size := by
      by_cases hi : i < l.size
      · exact hi
      · simp [Array.getD, hi] at hl
    simp [Array.getD, hi] at hl ⊢
    exact hl
  rw [h.slot j hj, hd]
  simp only []
  rw [if_pos hl']

/-- What a slot holds that is none of the region's. -/
theorem Fr.kept {own : Nat → Option (Nat × Value)} {T : Array Value} {l : Array Bool} {a : Act} (h : Fr own T l a) {j : Nat} (hd : own j = none) (hj : j < T.size) : a.tmps.getD j undef = T.getD j undef := by
  rw [h.slot j hj, hd]

/-- The frame when all is done. -/
theorem Fr.all {own : Nat → Option (Nat × Value)} {T T' : Array Value} {l : Array Bool} {a : Act} (h : Fr own T l a) (hl : ∀ j i v, own j = some (i, v) → l.getD i true = true) (hs : T'.size = T.size)
    (ht : ∀ j, j < T.size → T'.getD j undef = match own j with | some (_, v) => v | none => T.getD j undef) : a = ⟨T', []⟩ := by
  obtain ⟨tmps, defers⟩ := a
  obtain ⟨h1, h2, h3⟩ := h
  simp only at h1 h2 h3
  subst h1
  congr 1
  apply Array.ext
  · rw [h2, hs]
  · intro j hj1 hj2
    have e := h3 j (by omega)
    have e' := ht j (by omega)
    have x1 : tmps.getD j undef = tmps[j] := by simp [Array.getD, hj1]
    have x2 : T'.getD j undef = T'[j] := by simp [Array.getD, hj2]
    rw [← x1, ← x2, e, e']
    cases ho : own j with
    | none => rfl
    | some p => obtain ⟨i, v⟩ := p; simp only []; rw [hl j i v ho]; rfl

end Go.Proofs.Ytcpgoaombabfjaa.Nums
