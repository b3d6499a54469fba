/- Contracts of num: Of, Int, Cmp. -/
import Derived.Test.YtdgmjmckeeeljaaGreatDoorK
namespace Go.Proofs.YtdgmjmckeeeljaaGreatDoor
open Go.RowKit

/-- A Num of the integer z in new memory. -/
def NewNum (w : World) (z : Int) (e : Ending) (w' : World) : Prop :=
  ∃ neg ao n cap, e = .returned (.agg #[.bool neg, .slice ao n cap]) ∧ Below w.heap.size w w' ∧ neg = decide (z < 0) ∧ Sw w.heap.size w' (.slice ao n cap) (digs z.natAbs)

theorem digitsOf_at {x n : Nat} (w : World) (hx : x / 4294967296 < 4294967296) (hn : (digs x).length = n) :
    Calls Tryz.prog 67 #[.int .u64 x] w fun e w' => ∃ ao cap, e = .returned (.slice ao n cap) ∧ Sw w.heap.size w' (.slice ao n cap) (digs x) ∧ Below w.heap.size w w' := by
  refine (digitsOf_any x w hx).mono ?_
  rintro e w' ⟨v, rfl, hs, hbl⟩
  obtain ⟨ao, cap, rfl⟩ := hs.sl.mk'
  subst hn
  exact ⟨ao, cap, rfl, hs, hbl⟩

theorem digs_word {x : Nat} (hx : x / 4294967296 < 4294967296) : (digs x).length ≤ 2 := digs_length_le.2 (by rw [show (4294967296 : Nat) ^ 2 = 4294967296 * 4294967296 from rfl]; omega)

theorem mk_ok {B : Nat} {W : World} {z : Int} {neg : Bool} {ao : Option Addr} {n cap : Nat} (hn : n = (digs z.natAbs).length) (hle : n ≤ 256) (hneg : z ≠ 0 → neg = decide (z < 0)) (hs : n ≠ 0 → Sw B W (.slice ao n cap) (digs z.natAbs)) :
    mkN neg n = decide (z < 0) ∧ Sw B W (.slice (mkA ao n) (mkL n) (mkC n cap)) (digs z.natAbs) := by
  by_cases h0 : n = 0
  · have hz : z = 0 := by
      have : digs z.natAbs = [] := List.eq_nil_of_length_eq_zero (by omega)
      have : z.natAbs = 0 := digs_inj (by rw [this, digs_zero])
      omega
    subst hz
    have hn' : ¬ (n ≤ 256 ∧ n ≠ 0) := by omega
    unfold mkN mkA mkL mkC
    rw [if_neg hn', if_neg hn', if_neg hn', if_neg hn']
    exact ⟨rfl, by rw [show digs (Int.natAbs 0) = [] from digs_zero]; exact Sw.nil _ _ _ _⟩
  · have hn' : n ≤ 256 ∧ n ≠ 0 := ⟨hle, h0⟩
    unfold mkN mkA mkL mkC
    rw [if_pos hn', if_pos hn', if_pos hn', if_pos hn']
    refine ⟨hneg ?_, hs h0⟩
    intro hz
    subst hz
    apply h0
    rw [hn]
    show (digs 0).length = 0
    rw [digs_zero]; rfl

theorem resbox_new (w : World) : ResBox (w.alloc (.cells #[.bool false, .slice none 0 0] 27)) w.heap.size := heap_alloc_new w _

set_option maxRecDepth 10000 in
set_option maxHeartbeats 1000000 in
theorem of_nonneg (m : Nat) (w : World) (hm : m / 4294967296 < 2147483648) : Calls Tryz.prog 27 #[.int .i64 (m)] w (NewNum w (m)) := by
  have hl := digs_word (x := m) (by omega)
  have hd := fun W => digitsOf_at (x := m) W (by omega) rfl
  obtain ⟨n, hn⟩ : ∃ n, n = (digs m).length := ⟨_, rfl⟩
  rw [← hn] at hl hd
  have HD := Lib.hid hd
  have HN := Lib.hid hn
  clear hd hn
  go_enter Tryz.func27, Tryz.ntmps27
  go_wp2_with (first | (go_at_call 67; refine (HD.out _).mono ?_; rintro e w1 ⟨ao, cap, rfl, hs1, hb1⟩; have hr1 := (resbox_new w).below hb1; obtain ⟨r0, r1, f0, f1⟩ := hr1.cells; have hz := hr1.lt; have HHs := Lib.hid hs1; clear hs1) | (go_at_call 47; refine (made_any _ _ _ _ _).mono ?_; rintro e w2 ⟨rfl, rfl⟩))
  have hst : Below ((w1.setCell ⟨w.heap.size, 0, none⟩ (.bool (mkN (decide ((m : Int) < 0)) n))).setCell ⟨w.heap.size, 1, none⟩ (.slice (mkA ao n) (mkL n) (mkC n cap))).heap.size ((w1.setCell ⟨w.heap.size, 0, none⟩ (.bool (mkN (decide ((m : Int) < 0)) n))).setCell ⟨w.heap.size, 1, none⟩ (.slice (mkA ao n) (mkL n) (mkC n cap))) ((((w1.setCell ⟨w.heap.size, 0, none⟩ (.bool (mkN (decide ((m : Int) < 0)) n))).setCell ⟨w.heap.size, 1, none⟩ (.slice (mkA ao n) (mkL n) (mkC n cap))).alloc (.cells #[.bool (mkN (decide ((m : Int) < 0)) n), .slice (mkA ao n) (mkL n) (mkC n cap)] 27)).alloc (.cells #[.bool (mkN (decide ((m : Int) < 0)) n), .slice (mkA ao n) (mkL n) (mkC n cap)] 27)) := ((Below.refl _ _).alloc (Nat.le_refl _) _).alloc (by simp) _
  obtain ⟨q0, q1⟩ := hr1.stored (.bool (mkN (decide ((m : Int) < 0)) n)) (.slice (mkA ao n) (mkL n) (mkC n cap))
  replace q0 := cell_later hst q0
  replace q1 := cell_later hst q1
  have hb2 : Below w.heap.size w ((((w1.setCell ⟨w.heap.size, 0, none⟩ (.bool (mkN (decide ((m : Int) < 0)) n))).setCell ⟨w.heap.size, 1, none⟩ (.slice (mkA ao n) (mkL n) (mkC n cap))).alloc (.cells #[.bool (mkN (decide ((m : Int) < 0)) n), .slice (mkA ao n) (mkL n) (mkC n cap)] 27)).alloc (.cells #[.bool (mkN (decide ((m : Int) < 0)) n), .slice (mkA ao n) (mkL n) (mkC n cap)] 27)) := (((((Below.refl w.heap.size w).alloc (Nat.le_refl _) _).trans (hb1.mono (by simp))).setCell (by simp) _).setCell (by simp) _).trans (hst.mono (by simp; omega))
  have hsw : Sw w.heap.size ((((w1.setCell ⟨w.heap.size, 0, none⟩ (.bool (mkN (decide ((m : Int) < 0)) n))).setCell ⟨w.heap.size, 1, none⟩ (.slice (mkA ao n) (mkL n) (mkC n cap))).alloc (.cells #[.bool (mkN (decide ((m : Int) < 0)) n), .slice (mkA ao n) (mkL n) (mkC n cap)] 27)).alloc (.cells #[.bool (mkN (decide ((m : Int) < 0)) n), .slice (mkA ao n) (mkL n) (mkC n cap)] 27)) (.slice ao n cap) (digs m) := ((HHs.out.after2 (g := w.heap.size) (by simp) (.bool (mkN (decide ((m : Int) < 0)) n)) (.slice (mkA ao n) (mkL n) (mkC n cap))).below hst).mono (by simp)
  revert q0 q1 hb2 hsw
  clear hst
  generalize (((w1.setCell ⟨w.heap.size, 0, none⟩ (.bool (mkN (decide ((m : Int) < 0)) n))).setCell ⟨w.heap.size, 1, none⟩ (.slice (mkA ao n) (mkL n) (mkC n cap))).alloc (.cells #[.bool (mkN (decide ((m : Int) < 0)) n), .slice (mkA ao n) (mkL n) (mkC n cap)] 27)).alloc (.cells #[.bool (mkN (decide ((m : Int) < 0)) n), .slice (mkA ao n) (mkL n) (mkC n cap)] 27) = W3
  intro q0 q1 hb2 hsw
  have hmk := mk_ok (B := w.heap.size) (W := W3) (n := n) (ao := ao) (cap := cap) (z := m) (neg := (decide ((m : Int) < 0))) (by rw [Int.natAbs_natCast]; exact HN.out) (by omega) (by simp) (fun _ => by rw [Int.natAbs_natCast]; exact hsw)
  refine bodyPost_ret (v := .agg #[.bool (mkN (decide ((m : Int) < 0)) n), .slice (mkA ao n) (mkL n) (mkC n cap)]) (by simp [results, Tryz.results27, go_sem, q0, q1]) rfl ?_
  exact ⟨_, _, _, _, rfl, hb2, hmk.1, hmk.2⟩

set_option maxRecDepth 10000 in
set_option maxHeartbeats 1000000 in
theorem of_neg (m : Nat) (w : World) (hm : m / 4294967296 < 2147483648 ∨ m = 9223372036854775808) (h0 : m ≠ 0) : Calls Tryz.prog 27 #[.int .i64 (-(m : Int))] w (NewNum w (-(m : Int))) := by
  have hl := digs_word (x := m) (by omega)
  have hd := fun W => digitsOf_at (x := m) W (by omega) rfl
  obtain ⟨n, hn⟩ : ∃ n, n = (digs m).length := ⟨_, rfl⟩
  rw [← hn] at hl hd
  have HD := Lib.hid hd
  have HN := Lib.hid hn
  clear hd hn
  obtain ⟨U, hU⟩ : ∃ U, U = IntKind.u64.wrap (-(m : Int)) := ⟨_, rfl⟩
  have hU2 : IntKind.u64.wrap (-U) = m := by rw [hU]; simp only [IntKind.wrap_u64]; omega
  have hlt : -(m : Int) < 0 := by omega
  replace hU := hU.symm
  have HM := Lib.hid hm
  clear hm
  go_enter Tryz.func27, Tryz.ntmps27
  go_wp2_with (first | (go_at_call 67; refine (HD.out _).mono ?_; rintro e w1 ⟨ao, cap, rfl, hs1, hb1⟩; have hr1 := (resbox_new w).below hb1; obtain ⟨r0, r1, f0, f1⟩ := hr1.cells; have hz := hr1.lt; have HHs := Lib.hid hs1; clear hs1) | (go_at_call 47; refine (made_any _ _ _ _ _).mono ?_; rintro e w2 ⟨rfl, rfl⟩))
  have hst : Below ((w1.setCell ⟨w.heap.size, 0, none⟩ (.bool (mkN true n))).setCell ⟨w.heap.size, 1, none⟩ (.slice (mkA ao n) (mkL n) (mkC n cap))).heap.size ((w1.setCell ⟨w.heap.size, 0, none⟩ (.bool (mkN true n))).setCell ⟨w.heap.size, 1, none⟩ (.slice (mkA ao n) (mkL n) (mkC n cap))) ((((w1.setCell ⟨w.heap.size, 0, none⟩ (.bool (mkN true n))).setCell ⟨w.heap.size, 1, none⟩ (.slice (mkA ao n) (mkL n) (mkC n cap))).alloc (.cells #[.bool (mkN true n), .slice (mkA ao n) (mkL n) (mkC n cap)] 27)).alloc (.cells #[.bool (mkN true n), .slice (mkA ao n) (mkL n) (mkC n cap)] 27)) := ((Below.refl _ _).alloc (Nat.le_refl _) _).alloc (by simp) _
  obtain ⟨q0, q1⟩ := hr1.stored (.bool (mkN true n)) (.slice (mkA ao n) (mkL n) (mkC n cap))
  replace q0 := cell_later hst q0
  replace q1 := cell_later hst q1
  have hb2 : Below w.heap.size w ((((w1.setCell ⟨w.heap.size, 0, none⟩ (.bool (mkN true n))).setCell ⟨w.heap.size, 1, none⟩ (.slice (mkA ao n) (mkL n) (mkC n cap))).alloc (.cells #[.bool (mkN true n), .slice (mkA ao n) (mkL n) (mkC n cap)] 27)).alloc (.cells #[.bool (mkN true n), .slice (mkA ao n) (mkL n) (mkC n cap)] 27)) := (((((Below.refl w.heap.size w).alloc (Nat.le_refl _) _).trans (hb1.mono (by simp))).setCell (by simp) _).setCell (by simp) _).trans (hst.mono (by simp; omega))
  have hsw : Sw w.heap.size ((((w1.setCell ⟨w.heap.size, 0, none⟩ (.bool (mkN true n))).setCell ⟨w.heap.size, 1, none⟩ (.slice (mkA ao n) (mkL n) (mkC n cap))).alloc (.cells #[.bool (mkN true n), .slice (mkA ao n) (mkL n) (mkC n cap)] 27)).alloc (.cells #[.bool (mkN true n), .slice (mkA ao n) (mkL n) (mkC n cap)] 27)) (.slice ao n cap) (digs m) := ((HHs.out.after2 (g := w.heap.size) (by simp) (.bool (mkN true n)) (.slice (mkA ao n) (mkL n) (mkC n cap))).below hst).mono (by simp)
  revert q0 q1 hb2 hsw
  clear hst
  generalize (((w1.setCell ⟨w.heap.size, 0, none⟩ (.bool (mkN true n))).setCell ⟨w.heap.size, 1, none⟩ (.slice (mkA ao n) (mkL n) (mkC n cap))).alloc (.cells #[.bool (mkN true n), .slice (mkA ao n) (mkL n) (mkC n cap)] 27)).alloc (.cells #[.bool (mkN true n), .slice (mkA ao n) (mkL n) (mkC n cap)] 27) = W3
  intro q0 q1 hb2 hsw
  have hmk := mk_ok (B := w.heap.size) (W := W3) (n := n) (ao := ao) (cap := cap) (z := -(m : Int)) (neg := true) (by rw [Int.natAbs_neg, Int.natAbs_natCast]; exact HN.out) (by omega) (by intro _; simp; omega) (fun _ => by rw [Int.natAbs_neg, Int.natAbs_natCast]; exact hsw)
  refine bodyPost_ret (v := .agg #[.bool (mkN true n), .slice (mkA ao n) (mkL n) (mkC n cap)]) (by simp [results, Tryz.results27, go_sem, q0, q1]) rfl ?_
  exact ⟨_, _, _, _, rfl, hb2, hmk.1, hmk.2⟩

end Go.Proofs.YtdgmjmckeeeljaaGreatDoor
