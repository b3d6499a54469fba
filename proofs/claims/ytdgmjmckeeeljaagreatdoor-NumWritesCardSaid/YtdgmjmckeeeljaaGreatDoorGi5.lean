/- Calls with numbers that are given: what the statements' examples need. No condition beyond those that each states. Contract of the statements' sanity. Condition: the table of powers of ten is laid. The law NumInts, walked. Condition: the table of powers of ten is laid. A region that draws its order, outside fences, met by what holds behind each set of its operations; and three numbers made, each in a box of its own. No condition. Three numbers made, each in a box of its own: what each operation does to what holds. No condition. Three numbers made, each in a box of its own: the stores, the end. No condition. The law NumRing, walked. Condition: the table of powers of ten is laid. -/
import Derived.Test.YtdgmjmckeeeljaaGreatDoorGi3
import Derived.Test.YtdgmjmckeeeljaaGreatDoorGi4
import Derived.Orders
import Derived.BigRegion
import Derived.Deep.RegionHeld3
namespace Go.Proofs.YtdgmjmckeeeljaaGreatDoor
open Go.RowKit

theorem fits_w {n : Nat} (h : n < 18446744073709551616) : fitsB n = true := decide_eq_true (Nat.le_trans (digs_word (by omega)) (by omega))

/-- A number, and true. -/
def YesN (w : World) (z : Int) (e : Ending) (w' : World) : Prop :=
  ∃ neg ao n cap, e = .returned (.tuple #[.agg #[.bool neg, .slice ao n cap], .bool true]) ∧ Nu w' (.agg #[.bool neg, .slice ao n cap]) z ∧ Below w.heap.size w w'

theorem NumRes.yes {w w' : World} {z : Int} {e : Ending} (h : NumRes w z e w') (hf : fitsB z.natAbs = true) : YesN w z e w' := by
  obtain ⟨neg, ao, n, cap, he, hb, h1, _⟩ := h
  obtain ⟨hn, hs⟩ := h1 hf
  exact ⟨neg, ao, n, cap, by rw [he, hf], ⟨_, by rw [hn], hs.sl, by simpa [fitsB] using hf⟩, hb⟩

theorem of_X (a : Int) (W : World) (h1 : -9223372036854775808 ≤ a) (h2 : a ≤ 9223372036854775807) : Calls Tryz.prog 27 #[.int .i64 a] W fun e w' => ∃ x, e = .returned x ∧ Nu w' x a ∧ Below W.heap.size W w' :=
  (of_any a W h1 h2).mono fun _ _ h => h.nu (fit_i64 h1 h2)

theorem nu_row {W : World} {p n : Nat} {ys : List Nat} {z : Int} {nb : Bool} (hr : Row W p ys) (hb : Bd ys) (ht : ys = [] ∨ ys.getLast? ≠ some 0) (hv : val ys = z.natAbs) (hn : n = ys.length) (hnb : nb = decide (z < 0)) (hl : ys.length ≤ 256) :
    Nu W (.agg #[.bool nb, .slice (some ⟨p, 0, none⟩) n n]) z := by
  have e : digs z.natAbs = ys := by rw [← hv]; exact digs_val hb ht
  subst hn
  exact ⟨_, by rw [hnb], by rw [e]; exact (hr.sw (Nat.zero_le _) hb (by unfold maxLen; omega)).sl, by rw [e]; exact hl⟩

theorem is_yes {W : World} {x : Value} {z : Int} {p n : Nat} {ys : List Nat} {nb : Bool} (hx : Nu W x z) (hr : Row W p ys) (hb : Bd ys) (ht : ys = [] ∨ ys.getLast? ≠ some 0) (hv : val ys = z.natAbs) (hn : n = ys.length) (hnb : nb = decide (z < 0)) :
    Calls Tryz.prog 34 #[x, .bool true, .bool nb, .slice (some ⟨p, 0, none⟩) n n] W (SameRes W true) := by
  obtain ⟨s, rfl, hs, hl⟩ := hx
  have e : digs z.natAbs = ys := by rw [← hv]; exact digs_val hb ht
  rw [e] at hs hl
  subst hn
  exact is_any _ _ true (by rw [hnb]; simp) hs (hr.sw (Nat.zero_le _) hb (by unfold maxLen; omega)).sl

theorem is_zero {W : World} {x : Value} (hx : Nu W x 0) : Calls Tryz.prog 34 #[x, .bool true, .bool false, .slice none 0 0] W (SameRes W true) := by
  obtain ⟨s, rfl, hs, hl⟩ := hx
  have e : digs (Int.natAbs 0) = [] := digs_zero
  rw [e] at hs
  exact is_any _ _ true (by simp) hs (Sl.nil _ _ _)

theorem bits_nu {W : World} {x : Value} {z : Int} (hx : Nu W x z) (k : Nat) (hk : bitsB (decide (z < 0)) (digs z.natAbs) = k) : Calls Tryz.prog 33 #[x] W fun e w' => e = .returned (.int .i64 (k : Nat)) ∧ Below W.heap.size W w' := by
  obtain ⟨s, rfl, hs, hl⟩ := hx
  have := bits_any (decide (z < 0)) hs (by omega)
  rwa [hk] at this

set_option maxRecDepth 10000 in
set_option maxHeartbeats 1000000 in
theorem div_zero {w : World} {x y : Value} {a : Int} (hx : Nu w x a) (hy : Nu w y 0) :
    Calls Tryz.prog 15 #[x, y] w fun e w' => e = .returned (.tuple #[.agg #[.bool false, .slice none 0 0], .agg #[.bool false, .slice none 0 0], .bool false]) ∧ Below w.heap.size w w' := by
  obtain ⟨sa, rfl, ha, la⟩ := hx
  obtain ⟨sb, rfl, hb, lb⟩ := hy
  have ra := rightB_digs a la
  have rb := rightB_digs 0 lb
  rw [show digs (Int.natAbs 0) = [] from digs_zero] at hb rb
  rw [show decide ((0 : Int) < 0) = false from rfl] at rb ⊢
  obtain ⟨ab, cb, rfl⟩ := hb.mk'
  obtain ⟨na, hna⟩ : ∃ na, na = decide (a < 0) := ⟨_, rfl⟩
  rw [← hna] at ra ⊢
  rw [List.length_nil] at hb ⊢
  have HR1 : Hid (∀ W, Sl W sa (digs a.natAbs) → Calls Tryz.prog 32 #[.agg #[.bool na, sa]] W fun e w' => e = .returned (.bool true) ∧ w' = W.alloc (.cells #[.bool na, sa] 27)) := fun W h => by have := right_any na h (by omega); rwa [ra] at this
  have HR2 : Hid (∀ W, Sl W (.slice ab 0 cb) [] → Calls Tryz.prog 32 #[.agg #[.bool false, .slice ab 0 cb]] W fun e w' => e = .returned (.bool true) ∧ w' = W.alloc (.cells #[.bool false, .slice ab 0 cb] 27)) := fun W h => by have := right_any false h (by simp); rwa [rb] at this
  clear hna ra rb lb
  by_cases hs : (Value.agg #[.bool na, sa]) = .agg #[.bool false, .slice ab 0 cb]
  · injection hs with hs
    have h1 : na = false ∧ sa = .slice ab 0 cb := by
      simp only [Array.mk.injEq, List.cons.injEq, Value.bool.injEq, and_true] at hs
      exact hs
    obtain ⟨rfl, rfl⟩ := h1
    clear hs HR1
    go_enter Tryz.func15, Tryz.ntmps15
    go_wp2_with (go_at_call 32; refine (HR2.out _ (hb.below (by go_grown))).mono ?_; rintro e w' ⟨rfl, rfl⟩)
    go_returns
    exact ⟨rfl, by go_grown⟩
  · clear hs
    go_enter Tryz.func15, Tryz.ntmps15
    go_wp2_with (first | (go_at_call_of 32 (Value.bool na); refine (HR1.out _ (ha.below (by go_grown))).mono ?_; rintro e w' ⟨rfl, rfl⟩) | (go_at_call 32; refine (HR2.out _ (hb.below (by go_grown))).mono ?_; rintro e w' ⟨rfl, rfl⟩))
    go_returns
    exact ⟨rfl, by go_grown⟩

theorem bd1 {a : Nat} (h : a < 4294967296) : Bd [a] := Bd.mk h bd_nil
theorem bd2 {a b : Nat} (h : a < 4294967296) (k : b < 4294967296) : Bd [a, b] := Bd.mk h (bd1 k)
theorem bd3 {a b c : Nat} (h : a < 4294967296) (k : b < 4294967296) (l : c < 4294967296) : Bd [a, b, c] := Bd.mk h (bd2 k l)

theorem bits_0 : bitsB (decide ((0 : Int) < 0)) (digs (Int.natAbs 0)) = 0 := by
  rw [show digs (Int.natAbs 0) = [] from digs_zero]
  rfl
theorem bits_256 : bitsB (decide ((-256 : Int) < 0)) (digs (Int.natAbs (-256))) = 9 := by
  rw [show Int.natAbs (-256) = 256 from rfl, digs_small (by decide) (by decide)]
  decide

theorem parse_12 : parseZ ⟨#[45, 49, 50]⟩ = some (-12) := by kernel_rfl
theorem parse_007 : parseZ ⟨#[48, 48, 55]⟩ = none := by kernel_rfl
theorem parse_m0 : parseZ ⟨#[45, 48]⟩ = none := by kernel_rfl
theorem txt_64 : txt (-18446744073709551616) = [45, 49, 56, 52, 52, 54, 55, 52, 52, 48, 55, 51, 55, 48, 57, 53, 53, 49, 54, 49, 54] := by kernel_rfl

end Go.Proofs.YtdgmjmckeeeljaaGreatDoor

namespace Go.Proofs.YtdgmjmckeeeljaaGreatDoor
open Go.RowKit

/-- A number in a box. -/
structure Bx (W : World) (g : Nat) (neg : Bool) (ao : Option Addr) (n cap : Nat) (z : Int) : Prop where
  row : W.heap[g]? = some (.cells #[.bool neg, .slice ao n cap] 27 (0, 0))
  nu : Nu W (.agg #[.bool neg, .slice ao n cap]) z

theorem Bx.below {W W' : World} {g : Nat} {neg : Bool} {ao : Option Addr} {n cap : Nat} {z : Int} (h : Bx W g neg ao n cap z) (hb : Below W.heap.size W W') : Bx W' g neg ao n cap z :=
  ⟨(hb.block _ (Array.getElem?_eq_some_iff.1 h.row).1).trans h.row, h.nu.below hb⟩
theorem Bx.c0 {W : World} {g : Nat} {neg : Bool} {ao : Option Addr} {n cap : Nat} {z : Int} (h : Bx W g neg ao n cap z) : W.cell? ⟨g, 0, none⟩ = some (.bool neg) := by
  rw [cell_of_row _ _ _ _ _ _ h.row]; rfl
theorem Bx.c1 {W : World} {g : Nat} {neg : Bool} {ao : Option Addr} {n cap : Nat} {z : Int} (h : Bx W g neg ao n cap z) : W.cell? ⟨g, 1, none⟩ = some (.slice ao n cap) := by
  rw [cell_of_row _ _ _ _ _ _ h.row]; rfl
theorem alloc_b (W : World) (o : Obj) : Below W.heap.size W (W.alloc o) := (Below.refl _ _).alloc (Nat.le_refl _) _
theorem bx_new {wa : World} {neg : Bool} {ao : Option Addr} {n cap : Nat} {z : Int} (h : Nu wa (.agg #[.bool neg, .slice ao n cap]) z) : Bx (wa.alloc (.cells #[.bool neg, .slice ao n cap] 27)) wa.heap.size neg ao n cap z :=
  ⟨heap_alloc_new _ _, h.below (alloc_b _ _)⟩
theorem nu_as {W : World} {v : Value} {z z' : Int} (h : Nu W v z) (e : z = z') : Nu W v z' := e ▸ h
theorem step1 {B : Nat} {w W W' : World} (h : Hid (Below B w W)) (hB : Hid (B ≤ W.heap.size)) (hb : Below W.heap.size W W') : Hid (Below B w W') ∧ Hid (B ≤ W'.heap.size) :=
  ⟨Lib.hid (h.out.trans (hb.mono hB.out)), Lib.hid (Nat.le_trans hB.out hb.size)⟩
theorem later {W W' : World} {o : Obj} (hb : Below (W.alloc o).heap.size (W.alloc o) W') : Below W.heap.size W W' := (alloc_b W o).trans (hb.mono (alloc_b W o).size)

theorem mul_yes {w : World} {x y : Value} {a b : Int} (z : Int) (hx : Nu w x a) (hy : Nu w y b) (hz : a * b = z) (hf : z.natAbs < 18446744073709551616) : Calls Tryz.prog 30 #[x, y] w (YesN w z) := by
  subst hz; exact (mul_any hx hy).mono fun _ _ h => h.yes (fits_w hf)
theorem sub_yes {w : World} {x y : Value} {a b : Int} (z : Int) (hx : Nu w x a) (hy : Nu w y b) (hz : a - b = z) (hf : z.natAbs < 18446744073709551616) : Calls Tryz.prog 29 #[x, y] w (YesN w z) := by
  subst hz; exact (sub_any hx hy).mono fun _ _ h => h.yes (fits_w hf)
theorem gcd_yes {w : World} {x y : Value} {a b : Int} (z : Int) (hx : Nu w x a) (hy : Nu w y b) (ha : a.natAbs < 4294967296) (hb : b.natAbs < 4294967296) (hz : ((Nat.gcd a.natAbs b.natAbs : Nat) : Int) = z) (hf : z.natAbs < 18446744073709551616) : Calls Tryz.prog 17 #[x, y] w (YesN w z) := by
  subst hz; exact (gcd_small hx hy ha hb).mono fun _ _ h => h.yes (fits_w hf)
theorem pow_yes {w : World} {x : Value} {a : Int} (z : Int) (n : Nat) (hx : Nu w x a) (hn : n < 9223372036854775808) (hz : a ^ n = z) (hf : z.natAbs < 18446744073709551616) : Calls Tryz.prog 20 #[x, .int .i64 n] w (YesN w z) := by
  subst hz; exact (pow_any hx n hn).mono fun _ _ h => h.yes (fits_w hf)
theorem parse_yes {s : ByteArray} {w : World} (z : Int) (h : parseZ s = some z) (hf : z.natAbs < 18446744073709551616) : Calls Tryz.prog 24 #[.string s] w (YesN w z) := by
  have := parse_any s w
  rw [h] at this
  exact this.mono fun _ _ h => NumRes.yes h (fits_w hf)
theorem parse_no {s : ByteArray} {w : World} (h : parseZ s = none) : Calls Tryz.prog 24 #[.string s] w fun e w' => e = .returned (.tuple #[.agg #[.bool false, .slice none 0 0], .bool false]) ∧ Below w.heap.size w w' := by
  have := parse_any s w
  rw [h] at this
  exact this
theorem divides_X (a b q r : Int) (w : World) (hb0 : b ≠ 0) (hb : b.natAbs < 4294967296) (ha1 : -2147483648 ≤ a) (ha2 : a ≤ 2147483647) (hq : a / b = q) (hr : a % b = r) : Calls Tryz.prog 35 #[.int .i64 a, .int .i64 b, .int .i64 q, .int .i64 r] w (SameRes w true) := by
  subst hq hr; exact divides_yes a b hb0 hb ha1 ha2

set_option maxRecDepth 10000 in
set_option maxHeartbeats 4000000 in
theorem sanity_any (w : World) (htab : ∀ W, Below w.heap.size w W → Tab W) : Calls Tryz.prog 10 #[] w fun e w' => e = .returned (.bool true) ∧ Below w.heap.size w w' := by
  have HT := Lib.hid htab
  have HW : Hid (Below w.heap.size w w) := Lib.hid (Below.refl _ _)
  have HZ : Hid (w.heap.size ≤ w.heap.size) := Lib.hid (Nat.le_refl _)
  clear htab
  go_enter Tryz.func10, Tryz.ntmps10
  go_upto_region 2 with fail
  obtain ⟨W, hW⟩ : ∃ W, W = (w.alloc (.cells #[.int .u32 4294967295] 59)).alloc (.cells #[.bool false, .slice (some ⟨w.heap.size, 0, none⟩) 1 1] 27) := ⟨_, rfl⟩
  have hb : Below w.heap.size w W := by rw [hW]; exact (alloc_b _ _).trans ((alloc_b _ _).mono (alloc_b _ _).size)
  have B1 : Hid (Bx W (w.heap.size + 1) false (some ⟨w.heap.size, 0, none⟩) 1 1 4294967295) := Lib.hid (by
    rw [hW]
    have := bx_new (nu_row (z := 4294967295) (nb := false) (row_new w [4294967295]) (bd1 (by decide)) (.inr (by decide)) (by kernel_rfl) rfl rfl (by decide))
    rw [World.size_alloc] at this
    exact this)
  have HWW := step1 HW HZ hb
  have HW := HWW.1
  have HZ := HWW.2
  rw [← hW]
  clear hW hb HWW
  have c0 := B1.out.c0
  have c1 := B1.out.c1
  go_upto_region 3 with (first | (go_at_call 30; refine (mul_yes 18446744065119617025 B1.out.nu B1.out.nu (by decide) (by decide)).mono ?_; rintro e wz ⟨n2, a2, l2, c2, rfl, hn, hb⟩; have HWW := step1 HW HZ hb; have HW := HWW.1; have HZ := HWW.2; clear HWW; have NB := Lib.hid hn; clear hn; clear hb))
  obtain ⟨W, hW⟩ : ∃ W, W = wz.alloc (.cells #[.bool n2, .slice a2 l2 c2] 27) := ⟨_, rfl⟩
  obtain ⟨g2, hg⟩ : ∃ g, g = wz.heap.size := ⟨_, rfl⟩
  have hb : Below wz.heap.size wz W := by rw [hW]; exact alloc_b _ _
  have B2 : Hid (Bx W g2 n2 a2 l2 c2 18446744065119617025) := Lib.hid (by rw [hW, hg]; exact bx_new NB.out)
  rw [← hW]
  rw [← hg]
  clear hW hg NB
  have HWW := step1 HW HZ hb
  have HW := HWW.1
  have HZ := HWW.2
  clear HWW hb c0 c1 B1
  go_upto_region 4 with (first | (go_at_call_of 27 (Value.int .i64 4294967296); refine (of_X 4294967296 _ (by decide) (by decide)).mono ?_; rintro e wz ⟨x1, rfl, hn, hb⟩; (try have B2 := Lib.hid (B2.out.below hb)); have HWW := step1 HW HZ hb; have HW := HWW.1; have HZ := HWW.2; clear HWW; have Nx1 := Lib.hid hn; clear hn; clear hb) | (go_at_call_of 27 (Value.int .i64 1); refine (of_X 1 _ (by decide) (by decide)).mono ?_; rintro e wz ⟨x2, rfl, hn, hb⟩; (try have B2 := Lib.hid (B2.out.below hb)); (try have Nx1 := Lib.hid (Nx1.out.below hb)); have HWW := step1 HW HZ hb; have HW := HWW.1; have HZ := HWW.2; clear HWW; have Nx2 := Lib.hid hn; clear hn; clear hb) | (go_at_call 29; refine (sub_yes 4294967295 Nx1.out Nx2.out (by decide) (by decide)).mono ?_; rintro e wz ⟨n4, a4, l4, c4, rfl, hn, hb⟩; (try have B2 := Lib.hid (B2.out.below hb)); have HWW := step1 HW HZ hb; have HW := HWW.1; have HZ := HWW.2; clear HWW; have NB := Lib.hid hn; clear hn; clear hb))
  obtain ⟨W, hW⟩ : ∃ W, W = wz.alloc (.cells #[.bool n4, .slice a4 l4 c4] 27) := ⟨_, rfl⟩
  obtain ⟨g4, hg⟩ : ∃ g, g = wz.heap.size := ⟨_, rfl⟩
  have hb : Below wz.heap.size wz W := by rw [hW]; exact alloc_b _ _
  have B4 : Hid (Bx W g4 n4 a4 l4 c4 4294967295) := Lib.hid (by rw [hW, hg]; exact bx_new NB.out)
  rw [← hW]
  rw [← hg]
  clear hW hg NB
  have B2 := Lib.hid (B2.out.below hb)
  have HWW := step1 HW HZ hb
  have HW := HWW.1
  have HZ := HWW.2
  clear HWW hb Nx1 Nx2
  go_upto_region 5 with (first | (go_at_call_of 27 (Value.int .i64 4294967296); refine (of_X 4294967296 _ (by decide) (by decide)).mono ?_; rintro e wz ⟨x1, rfl, hn, hb⟩; (try have B2 := Lib.hid (B2.out.below hb)); (try have B4 := Lib.hid (B4.out.below hb)); have HWW := step1 HW HZ hb; have HW := HWW.1; have HZ := HWW.2; clear HWW; have Nx1 := Lib.hid hn; clear hn; clear hb) | (go_at_call 27; refine (of_X (-1) _ (by decide) (by decide)).mono ?_; rintro e wz ⟨x3, rfl, hn, hb⟩; (try have B2 := Lib.hid (B2.out.below hb)); (try have B4 := Lib.hid (B4.out.below hb)); have HWW := step1 HW HZ hb; have HW := HWW.1; have HZ := HWW.2; clear HWW; have Nx3 := Lib.hid hn; clear hn; clear hb) | (go_at_call_of 34 x1; refine (is_yes (z := 4294967296) (ys := [0, 1]) (Nx1.out.below (alloc_b _ _)) (row_new _ [0, 1]) (bd2 (by decide) (by decide)) (.inr (by decide)) (by kernel_rfl) rfl rfl).mono ?_; rintro e wz ⟨rfl, hb⟩; have hb := later hb; (try have B2 := Lib.hid (B2.out.below hb)); (try have B4 := Lib.hid (B4.out.below hb)); have HWW := step1 HW HZ hb; have HW := HWW.1; have HZ := HWW.2; clear HWW; clear hb) | (go_at_call_of 34 x3; refine (is_yes (z := (-1)) (ys := [1]) (Nx3.out.below (alloc_b _ _)) (row_new _ [1]) (bd1 (by decide)) (.inr (by decide)) (by kernel_rfl) rfl rfl).mono ?_; rintro e wz ⟨rfl, hb⟩; have hb := later hb; (try have B2 := Lib.hid (B2.out.below hb)); (try have B4 := Lib.hid (B4.out.below hb)); have HWW := step1 HW HZ hb; have HW := HWW.1; have HZ := HWW.2; clear HWW; have p0 := B2.out.c0; have p1 := B2.out.c1; have q0 := B4.out.c0; have q1 := B4.out.c1; clear hb) | (go_at_call_of 34 (Value.slice a2 l2 c2); refine (is_yes (z := 18446744065119617025) (ys := [1, 4294967294]) (B2.out.nu.below (alloc_b _ _)) (row_new _ [1, 4294967294]) (bd2 (by decide) (by decide)) (.inr (by decide)) (by kernel_rfl) rfl rfl).mono ?_; rintro e wz ⟨rfl, hb⟩; have hb := later hb; (try have B2 := Lib.hid (B2.out.below hb)); (try have B4 := Lib.hid (B4.out.below hb)); have HWW := step1 HW HZ hb; have HW := HWW.1; have HZ := HWW.2; clear HWW; have p0 := B2.out.c0; have p1 := B2.out.c1; have q0 := B4.out.c0; have q1 := B4.out.c1; clear hb) | (go_at_call_of 34 (Value.slice a4 l4 c4); refine (is_yes (z := 4294967295) (ys := [4294967295]) (B4.out.nu.below (alloc_b _ _)) (row_new _ [4294967295]) (bd1 (by decide)) (.inr (by decide)) (by kernel_rfl) rfl rfl).mono ?_; rintro e wz ⟨rfl, hb⟩; have hb := later hb; (try have B2 := Lib.hid (B2.out.below hb)); (try have B4 := Lib.hid (B4.out.below hb)); have HWW := step1 HW HZ hb; have HW := HWW.1; have HZ := HWW.2; clear HWW; clear hb))
  clear B2 B4 Nx1 Nx3 p0 p1 q0 q1
  go_upto_region 6 with (first | (go_at_call_of 27 (Value.int .i64 7); refine (of_X 7 _ (by decide) (by decide)).mono ?_; rintro e wz ⟨x5, rfl, hn, hb⟩; have HWW := step1 HW HZ hb; have HW := HWW.1; have HZ := HWW.2; clear HWW; have Nx5 := Lib.hid hn; clear hn; clear hb) | (go_at_call_of 27 (Value.int .i64 0); refine (of_X 0 _ (by decide) (by decide)).mono ?_; rintro e wz ⟨x6, rfl, hn, hb⟩; (try have Nx5 := Lib.hid (Nx5.out.below hb)); have HWW := step1 HW HZ hb; have HW := HWW.1; have HZ := HWW.2; clear HWW; have Nx6 := Lib.hid hn; clear hn; clear hb) | (go_at_call 15; refine (div_zero Nx5.out Nx6.out).mono ?_; rintro e wz ⟨rfl, hb⟩; have HWW := step1 HW HZ hb; have HW := HWW.1; have HZ := HWW.2; clear HWW; clear hb))
  obtain ⟨W, hW⟩ : ∃ W, W = (wz.alloc (.cells #[.bool false, .slice none 0 0] 27)).alloc (.cells #[.bool false, .slice none 0 0] 27) := ⟨_, rfl⟩
  have hb : Below wz.heap.size wz W := by rw [hW]; exact (alloc_b _ _).trans ((alloc_b _ _).mono (alloc_b _ _).size)
  rw [← hW]
  clear hW
  have HWW := step1 HW HZ hb
  have HW := HWW.1
  have HZ := HWW.2
  clear HWW hb Nx5 Nx6
  go_upto_region 7 with (first | (go_at_call_of 35 (Value.int .i64 2); refine (divides_X (-7) 2 (-4) 1 _ (by decide) (by decide) (by decide) (by decide) (by decide) (by decide)).mono ?_; rintro e wz ⟨rfl, hb⟩; have HWW := step1 HW HZ hb; have HW := HWW.1; have HZ := HWW.2; clear HWW; clear hb) | (go_at_call_of 35 (Value.int .i64 7); refine (divides_X 7 (-2) (-3) 1 _ (by decide) (by decide) (by decide) (by decide) (by decide) (by decide)).mono ?_; rintro e wz ⟨rfl, hb⟩; have HWW := step1 HW HZ hb; have HW := HWW.1; have HZ := HWW.2; clear HWW; clear hb) | (go_at_call_of 35 (Value.int .i64 4); refine (divides_X (-7) (-2) 4 1 _ (by decide) (by decide) (by decide) (by decide) (by decide) (by decide)).mono ?_; rintro e wz ⟨rfl, hb⟩; have HWW := step1 HW HZ hb; have HW := HWW.1; have HZ := HWW.2; clear HWW; clear hb))
  go_upto_region 8 with (first | (go_at_call_of 27 (Value.int .i64 18); refine (of_X 18 _ (by decide) (by decide)).mono ?_; rintro e wz ⟨x2, rfl, hn, hb⟩; (try have Nx1 := Lib.hid (Nx1.out.below hb)); have HWW := step1 HW HZ hb; have HW := HWW.1; have HZ := HWW.2; clear HWW; have Nx2 := Lib.hid hn; clear hn; clear hb) | (go_at_call 27; refine (of_X (-12) _ (by decide) (by decide)).mono ?_; rintro e wz ⟨x1, rfl, hn, hb⟩; have HWW := step1 HW HZ hb; have HW := HWW.1; have HZ := HWW.2; clear HWW; have Nx1 := Lib.hid hn; clear hn; clear hb) | (go_at_call 17; refine (gcd_yes 6 Nx1.out Nx2.out (by decide) (by decide) (by decide) (by decide)).mono ?_; rintro e wz ⟨n11, a11, l11, c11, rfl, hn, hb⟩; have HWW := step1 HW HZ hb; have HW := HWW.1; have HZ := HWW.2; clear HWW; have NB := Lib.hid hn; clear hn; clear hb))
  obtain ⟨W, hW⟩ : ∃ W, W = wz.alloc (.cells #[.bool n11, .slice a11 l11 c11] 27) := ⟨_, rfl⟩
  obtain ⟨g11, hg⟩ : ∃ g, g = wz.heap.size := ⟨_, rfl⟩
  have hb : Below wz.heap.size wz W := by rw [hW]; exact alloc_b _ _
  have B11 : Hid (Bx W g11 n11 a11 l11 c11 6) := Lib.hid (by rw [hW, hg]; exact bx_new NB.out)
  rw [← hW]
  rw [← hg]
  clear hW hg NB
  have HWW := step1 HW HZ hb
  have HW := HWW.1
  have HZ := HWW.2
  clear HWW hb Nx1 Nx2
  go_upto_region 9 with (first | (go_at_call 27; refine (of_X 0 _ (by decide) (by decide)).mono ?_; rintro e wz ⟨x8, rfl, hn, hb⟩; (try have N7 := Lib.hid (N8.out.below hb)); have N8 := Lib.hid hn; clear hn; (try have B11 := Lib.hid (B11.out.below hb)); have HWW := step1 HW HZ hb; have HW := HWW.1; have HZ := HWW.2; clear HWW hb) | (go_at_call 17; refine (gcd_yes 0 N7.out N8.out (by decide) (by decide) (by decide) (by decide)).mono ?_; rintro e wz ⟨n13, a13, l13, c13, rfl, hn, hb⟩; (try have B11 := Lib.hid (B11.out.below hb)); have HWW := step1 HW HZ hb; have HW := HWW.1; have HZ := HWW.2; clear HWW; have NB := Lib.hid hn; clear hn; clear hb))
  obtain ⟨W, hW⟩ : ∃ W, W = wz.alloc (.cells #[.bool n13, .slice a13 l13 c13] 27) := ⟨_, rfl⟩
  obtain ⟨g13, hg⟩ : ∃ g, g = wz.heap.size := ⟨_, rfl⟩
  have hb : Below wz.heap.size wz W := by rw [hW]; exact alloc_b _ _
  have B13 : Hid (Bx W g13 n13 a13 l13 c13 0) := Lib.hid (by rw [hW, hg]; exact bx_new NB.out)
  rw [← hW]
  rw [← hg]
  clear hW hg NB
  have B11 := Lib.hid (B11.out.below hb)
  have HWW := step1 HW HZ hb
  have HW := HWW.1
  have HZ := HWW.2
  clear HWW hb N7 N8
  go_upto_region 10 with (first | (go_at_call 27; refine (of_X (-2) _ (by decide) (by decide)).mono ?_; rintro e wz ⟨x1, rfl, hn, hb⟩; (try have B11 := Lib.hid (B11.out.below hb)); (try have B13 := Lib.hid (B13.out.below hb)); have HWW := step1 HW HZ hb; have HW := HWW.1; have HZ := HWW.2; clear HWW; have Nx1 := Lib.hid hn; clear hn; clear hb) | (go_at_call 20; refine (pow_yes (-32) 5 Nx1.out (by decide) (by decide) (by decide)).mono ?_; rintro e wz ⟨n15, a15, l15, c15, rfl, hn, hb⟩; (try have B11 := Lib.hid (B11.out.below hb)); (try have B13 := Lib.hid (B13.out.below hb)); have HWW := step1 HW HZ hb; have HW := HWW.1; have HZ := HWW.2; clear HWW; have NB := Lib.hid hn; clear hn; clear hb))
  obtain ⟨W, hW⟩ : ∃ W, W = wz.alloc (.cells #[.bool n15, .slice a15 l15 c15] 27) := ⟨_, rfl⟩
  obtain ⟨g15, hg⟩ : ∃ g, g = wz.heap.size := ⟨_, rfl⟩
  have hb : Below wz.heap.size wz W := by rw [hW]; exact alloc_b _ _
  have B15 : Hid (Bx W g15 n15 a15 l15 c15 (-32)) := Lib.hid (by rw [hW, hg]; exact bx_new NB.out)
  rw [← hW]
  rw [← hg]
  clear hW hg NB
  have B11 := Lib.hid (B11.out.below hb)
  have B13 := Lib.hid (B13.out.below hb)
  have HWW := step1 HW HZ hb
  have HW := HWW.1
  have HZ := HWW.2
  clear HWW hb Nx1
  go_upto_region 11 with (first | (go_at_call_of 27 (Value.int .i64 0); refine (of_X 0 _ (by decide) (by decide)).mono ?_; rintro e wz ⟨x1, rfl, hn, hb⟩; (try have B11 := Lib.hid (B11.out.below hb)); (try have B13 := Lib.hid (B13.out.below hb)); (try have B15 := Lib.hid (B15.out.below hb)); have HWW := step1 HW HZ hb; have HW := HWW.1; have HZ := HWW.2; clear HWW; have Nx1 := Lib.hid hn; clear hn; clear hb) | (go_at_call 20; refine (pow_yes 1 0 Nx1.out (by decide) (by decide) (by decide)).mono ?_; rintro e wz ⟨n17, a17, l17, c17, rfl, hn, hb⟩; (try have B11 := Lib.hid (B11.out.below hb)); (try have B13 := Lib.hid (B13.out.below hb)); (try have B15 := Lib.hid (B15.out.below hb)); have HWW := step1 HW HZ hb; have HW := HWW.1; have HZ := HWW.2; clear HWW; have NB := Lib.hid hn; clear hn; clear hb))
  obtain ⟨W, hW⟩ : ∃ W, W = wz.alloc (.cells #[.bool n17, .slice a17 l17 c17] 27) := ⟨_, rfl⟩
  obtain ⟨g17, hg⟩ : ∃ g, g = wz.heap.size := ⟨_, rfl⟩
  have hb : Below wz.heap.size wz W := by rw [hW]; exact alloc_b _ _
  have B17 : Hid (Bx W g17 n17 a17 l17 c17 1) := Lib.hid (by rw [hW, hg]; exact bx_new NB.out)
  rw [← hW]
  rw [← hg]
  clear hW hg NB
  have B11 := Lib.hid (B11.out.below hb)
  have B13 := Lib.hid (B13.out.below hb)
  have B15 := Lib.hid (B15.out.below hb)
  have HWW := step1 HW HZ hb
  have HW := HWW.1
  have HZ := HWW.2
  clear HWW hb Nx1
  go_upto_region 12 with (first | (go_at_call_of 27 (Value.int .i64 2); refine (of_X 2 _ (by decide) (by decide)).mono ?_; rintro e wz ⟨x1, rfl, hn, hb⟩; (try have B11 := Lib.hid (B11.out.below hb)); (try have B13 := Lib.hid (B13.out.below hb)); (try have B15 := Lib.hid (B15.out.below hb)); (try have B17 := Lib.hid (B17.out.below hb)); have HWW := step1 HW HZ hb; have HW := HWW.1; have HZ := HWW.2; clear HWW; have Nx1 := Lib.hid hn; clear hn; clear hb) | (go_at_call 20; refine (pow_neg Nx1.out (-1) (by decide)).mono ?_; rintro e wz ⟨rfl, hb⟩; (try have B11 := Lib.hid (B11.out.below hb)); (try have B13 := Lib.hid (B13.out.below hb)); (try have B15 := Lib.hid (B15.out.below hb)); (try have B17 := Lib.hid (B17.out.below hb)); have HWW := step1 HW HZ hb; have HW := HWW.1; have HZ := HWW.2; clear HWW; clear hb))
  obtain ⟨W, hW⟩ : ∃ W, W = wz.alloc (.cells #[.bool false, .slice none 0 0] 27) := ⟨_, rfl⟩
  have hb : Below wz.heap.size wz W := by rw [hW]; exact alloc_b _ _
  rw [← hW]
  clear hW
  have B11 := Lib.hid (B11.out.below hb)
  have B13 := Lib.hid (B13.out.below hb)
  have B15 := Lib.hid (B15.out.below hb)
  have B17 := Lib.hid (B17.out.below hb)
  have HWW := step1 HW HZ hb
  have HW := HWW.1
  have HZ := HWW.2
  clear HWW hb Nx1
  have p11 := B11.out.c0
  have q11 := B11.out.c1
  have p13 := B13.out.c0
  have q13 := B13.out.c1
  have p15 := B15.out.c0
  have q15 := B15.out.c1
  have p17 := B17.out.c0
  have q17 := B17.out.c1
  go_upto_region 13 with (first | (go_at_call_of 34 (Value.slice a11 l11 c11); refine (is_yes (z := 6) (ys := [6]) (B11.out.nu.below (alloc_b _ _)) (row_new _ [6]) (bd1 (by decide)) (.inr (by decide)) (by kernel_rfl) rfl rfl).mono ?_; rintro e wz ⟨rfl, hb⟩; have hb := later hb; (try have B11 := Lib.hid (B11.out.below hb)); (try have B13 := Lib.hid (B13.out.below hb)); (try have B15 := Lib.hid (B15.out.below hb)); (try have B17 := Lib.hid (B17.out.below hb)); have HWW := step1 HW HZ hb; have HW := HWW.1; have HZ := HWW.2; clear HWW; have p11 := B11.out.c0; have q11 := B11.out.c1; have p13 := B13.out.c0; have q13 := B13.out.c1; have p15 := B15.out.c0; have q15 := B15.out.c1; have p17 := B17.out.c0; have q17 := B17.out.c1; clear hb) | (go_at_call_of 34 (Value.slice a13 l13 c13); refine (is_zero B13.out.nu).mono ?_; rintro e wz ⟨rfl, hb⟩; (try have B11 := Lib.hid (B11.out.below hb)); (try have B13 := Lib.hid (B13.out.below hb)); (try have B15 := Lib.hid (B15.out.below hb)); (try have B17 := Lib.hid (B17.out.below hb)); have HWW := step1 HW HZ hb; have HW := HWW.1; have HZ := HWW.2; clear HWW; have p11 := B11.out.c0; have q11 := B11.out.c1; have p13 := B13.out.c0; have q13 := B13.out.c1; have p15 := B15.out.c0; have q15 := B15.out.c1; have p17 := B17.out.c0; have q17 := B17.out.c1; clear hb) | (go_at_call_of 34 (Value.slice a15 l15 c15); refine (is_yes (z := (-32)) (ys := [32]) (B15.out.nu.below (alloc_b _ _)) (row_new _ [32]) (bd1 (by decide)) (.inr (by decide)) (by kernel_rfl) rfl rfl).mono ?_; rintro e wz ⟨rfl, hb⟩; have hb := later hb; (try have B11 := Lib.hid (B11.out.below hb)); (try have B13 := Lib.hid (B13.out.below hb)); (try have B15 := Lib.hid (B15.out.below hb)); (try have B17 := Lib.hid (B17.out.below hb)); have HWW := step1 HW HZ hb; have HW := HWW.1; have HZ := HWW.2; clear HWW; have p11 := B11.out.c0; have q11 := B11.out.c1; have p13 := B13.out.c0; have q13 := B13.out.c1; have p15 := B15.out.c0; have q15 := B15.out.c1; have p17 := B17.out.c0; have q17 := B17.out.c1; clear hb) | (go_at_call_of 34 (Value.slice a17 l17 c17); refine (is_yes (z := 1) (ys := [1]) (B17.out.nu.below (alloc_b _ _)) (row_new _ [1]) (bd1 (by decide)) (.inr (by decide)) (by kernel_rfl) rfl rfl).mono ?_; rintro e wz ⟨rfl, hb⟩; have hb := later hb; (try have B11 := Lib.hid (B11.out.below hb)); (try have B13 := Lib.hid (B13.out.below hb)); (try have B15 := Lib.hid (B15.out.below hb)); (try have B17 := Lib.hid (B17.out.below hb)); have HWW := step1 HW HZ hb; have HW := HWW.1; have HZ := HWW.2; clear HWW; have p11 := B11.out.c0; have q11 := B11.out.c1; have p13 := B13.out.c0; have q13 := B13.out.c1; have p15 := B15.out.c0; have q15 := B15.out.c1; have p17 := B17.out.c0; have q17 := B17.out.c1; clear hb) | (go_at_call_of 27 (Value.int .i64 0); refine (of_X 0 _ (by decide) (by decide)).mono ?_; rintro e wz ⟨x1, rfl, hn, hb⟩; have HWW := step1 HW HZ hb; have HW := HWW.1; have HZ := HWW.2; clear HWW; have Nx1 := Lib.hid hn; clear hn; clear hb) | (go_at_call_of 33 x1; refine (bits_nu Nx1.out 0 bits_0).mono ?_; rintro e wz ⟨rfl, hb⟩; have HWW := step1 HW HZ hb; have HW := HWW.1; have HZ := HWW.2; clear HWW; clear hb) | (go_at_call 27; refine (of_X (-256) _ (by decide) (by decide)).mono ?_; rintro e wz ⟨x2, rfl, hn, hb⟩; have HWW := step1 HW HZ hb; have HW := HWW.1; have HZ := HWW.2; clear HWW; have Nx2 := Lib.hid hn; clear hn; clear hb) | (go_at_call_of 33 x2; refine (bits_nu Nx2.out 9 bits_256).mono ?_; rintro e wz ⟨rfl, hb⟩; have HWW := step1 HW HZ hb; have HW := HWW.1; have HZ := HWW.2; clear HWW; clear hb))
  clear B11 B13 B15 B17 p11 q11 p13 q13 p15 q15 p17 q17 Nx1 Nx2
  go_upto_region 14 with (first | (go_at_call 24; refine (parse_yes (-12) parse_12 (by decide)).mono ?_; rintro e wz ⟨n22, a22, l22, c22, rfl, hn, hb⟩; have HWW := step1 HW HZ hb; have HW := HWW.1; have HZ := HWW.2; clear HWW; have NB := Lib.hid hn; clear hn; clear hb))
  obtain ⟨W, hW⟩ : ∃ W, W = wz.alloc (.cells #[.bool n22, .slice a22 l22 c22] 27) := ⟨_, rfl⟩
  obtain ⟨g22, hg⟩ : ∃ g, g = wz.heap.size := ⟨_, rfl⟩
  have hb : Below wz.heap.size wz W := by rw [hW]; exact alloc_b _ _
  have B22 : Hid (Bx W g22 n22 a22 l22 c22 (-12)) := Lib.hid (by rw [hW, hg]; exact bx_new NB.out)
  rw [← hW]
  rw [← hg]
  clear hW hg NB
  have HWW := step1 HW HZ hb
  have HW := HWW.1
  have HZ := HWW.2
  clear HWW hb
  go_upto_region 15 with (first | (go_at_call 24; refine (parse_no parse_007).mono ?_; rintro e wz ⟨rfl, hb⟩; (try have B22 := Lib.hid (B22.out.below hb)); have HWW := step1 HW HZ hb; have HW := HWW.1; have HZ := HWW.2; clear HWW; clear hb))
  obtain ⟨W, hW⟩ : ∃ W, W = wz.alloc (.cells #[.bool false, .slice none 0 0] 27) := ⟨_, rfl⟩
  have hb : Below wz.heap.size wz W := by rw [hW]; exact alloc_b _ _
  rw [← hW]
  clear hW
  have B22 := Lib.hid (B22.out.below hb)
  have HWW := step1 HW HZ hb
  have HW := HWW.1
  have HZ := HWW.2
  clear HWW hb
  go_upto_region 16 with (first | (go_at_call 24; refine (parse_no parse_m0).mono ?_; rintro e wz ⟨rfl, hb⟩; (try have B22 := Lib.hid (B22.out.below hb)); have HWW := step1 HW HZ hb; have HW := HWW.1; have HZ := HWW.2; clear HWW; clear hb))
  obtain ⟨W, hW⟩ : ∃ W, W = wz.alloc (.cells #[.bool false, .slice none 0 0] 27) := ⟨_, rfl⟩
  have hb : Below wz.heap.size wz W := by rw [hW]; exact alloc_b _ _
  rw [← hW]
  clear hW
  have B22 := Lib.hid (B22.out.below hb)
  have HWW := step1 HW HZ hb
  have HW := HWW.1
  have HZ := HWW.2
  clear HWW hb
  go_upto_region 17 with (first | (go_at_call 26; refine (int_no (nu_row (z := 9223372036854775808) (nb := false) (row_new _ [0, 2147483648]) (bd2 (by decide) (by decide)) (.inr (by decide)) (by kernel_rfl) rfl rfl (by decide)) (.inr (by decide))).mono ?_; rintro e wz ⟨rfl, hb⟩; have hb := later hb; (try have B22 := Lib.hid (B22.out.below hb)); have HWW := step1 HW HZ hb; have HW := HWW.1; have HZ := HWW.2; clear HWW hb))
  go_upto_region 18 with (first | (go_at_call 26; refine (int_yes (nu_row (z := -9223372036854775808) (nb := true) (row_new _ [0, 2147483648]) (bd2 (by decide) (by decide)) (.inr (by decide)) (by kernel_rfl) rfl rfl (by decide)) (by decide) (by decide)).mono ?_; rintro e wz ⟨rfl, hb⟩; have hb := later hb; (try have B22 := Lib.hid (B22.out.below hb)); have HWW := step1 HW HZ hb; have HW := HWW.1; have HZ := HWW.2; clear HWW hb))
  have p22 := B22.out.c0
  have q22 := B22.out.c1
  go_wp2_with (first | (go_at_call_of 34 (Value.slice a22 l22 c22); refine (is_yes (z := (-12)) (ys := [12]) (B22.out.nu.below (alloc_b _ _)) (row_new _ [12]) (bd1 (by decide)) (.inr (by decide)) (by kernel_rfl) rfl rfl).mono ?_; rintro e wz ⟨rfl, hb⟩; have hb := later hb; have HWW := step1 HW HZ hb; have HW := HWW.1; have HZ := HWW.2; clear HWW; clear hb) | (go_at_call 23; refine (text_any (nu_row (z := -18446744073709551616) (nb := true) (row_new _ [0, 0, 1]) (bd3 (by decide) (by decide) (by decide)) (.inr (by decide)) (by kernel_rfl) rfl rfl (by decide)) (HT.out _ (HW.out.trans ((alloc_b _ _).mono HZ.out)))).mono ?_; rintro e wz ⟨rfl, hb⟩; have hb := later hb; have HWW := step1 HW HZ hb; have HW := HWW.1; have HZ := HWW.2; clear HWW hb; rw [txt_64]))
  go_ret
  exact ⟨rfl, HW.out⟩

end Go.Proofs.YtdgmjmckeeeljaaGreatDoor

namespace Go.Proofs.YtdgmjmckeeeljaaGreatDoor
open Go.RowKit

theorem tmod_lt (n k : Int) (hk : 0 < k) : -k < n.tmod k ∧ n.tmod k < k := by
  have h1 := Int.lt_tmod_of_pos n hk
  have h2 := Int.tmod_lt_of_pos n hk
  omega

theorem mul_bound {a b k : Int} (ha : -k < a ∧ a < k) (hb : -k < b ∧ b < k) : -(k * k) ≤ a * b ∧ a * b ≤ k * k := by
  have h : (a * b).natAbs ≤ (k * k).natAbs := by
    rw [Int.natAbs_mul, Int.natAbs_mul]
    exact Nat.mul_le_mul (by omega) (by omega)
  have h2 : 0 ≤ k * k := Int.mul_nonneg (by omega) (by omega)
  omega

theorem pow_bound {s : Int} (hs : -200 < s ∧ s < 200) (k : Nat) : (s ^ k).natAbs ≤ 200 ^ k := by
  rw [Int.natAbs_pow]
  exact Nat.pow_le_pow_left (by omega) k

theorem pow_small {s : Int} (hs : -200 < s ∧ s < 200) (k : Nat) (hk : k ≤ 7) : (s ^ k).natAbs ≤ 12800000000000000 :=
  Nat.le_trans (pow_bound hs k) (Nat.le_trans (Nat.pow_le_pow_right (by decide) hk) (by decide))

theorem add_yes {w : World} {x y : Value} {a b : Int} (z : Int) (hx : Nu w x a) (hy : Nu w y b) (hz : a + b = z) (hf : z.natAbs < 18446744073709551616) : Calls Tryz.prog 28 #[x, y] w (YesN w z) := by
  subst hz; exact (add_any hx hy).mono fun _ _ h => h.yes (fits_w hf)

theorem right_nu {W : World} {x : Value} {z : Int} (hx : Nu W x z) : Calls Tryz.prog 32 #[x] W fun e w' => e = .returned (.bool true) ∧ Below W.heap.size W w' := by
  obtain ⟨s, rfl, hs, hl⟩ := hx
  have := right_any (decide (z < 0)) hs (by omega)
  rw [rightB_digs z hl] at this
  exact this.mono fun _ _ ⟨h1, h2⟩ => ⟨h1, by rw [h2]; exact alloc_b _ _⟩

set_option maxRecDepth 10000 in
set_option maxHeartbeats 4000000 in
theorem ints_any (n m : Int) (e8 : UInt8) (w : World) (htab : ∀ W, Below w.heap.size w W → Tab W) (hn1 : -9223372036854775808 ≤ n) (hn2 : n ≤ 9223372036854775807) (hm1 : -9223372036854775808 ≤ m) (hm2 : m ≤ 9223372036854775807) :
    Calls Tryz.prog 6 #[.int .i64 n, .int .i64 m, .int .u8 e8.toNat] w fun e w' => e = .returned (.bool true) ∧ Below w.heap.size w w' := by
  have HS : Hid (Calls Tryz.prog 10 #[] w fun e w' => e = .returned (.bool true) ∧ Below w.heap.size w w') := Lib.hid (sanity_any w htab)
  have HW : Hid (Below w.heap.size w w) := Lib.hid (Below.refl _ _)
  have HZ : Hid (w.heap.size ≤ w.heap.size) := Lib.hid (Nat.le_refl _)
  have he := e8.toNat_lt
  obtain ⟨E8, hE8⟩ : ∃ E8 : Nat, E8 = e8.toNat := ⟨_, rfl⟩
  rw [← hE8] at he ⊢
  obtain ⟨a, hra⟩ : ∃ a, n.tmod 2147483648 = a := ⟨_, rfl⟩
  obtain ⟨b, hrb⟩ : ∃ b, m.tmod 2147483648 = b := ⟨_, rfl⟩
  have ha := tmod_lt n 2147483648 (by decide)
  have hb := tmod_lt m 2147483648 (by decide)
  rw [hra] at ha
  rw [hrb] at hb
  have hp := mul_bound ha hb
  obtain ⟨P, hP⟩ : ∃ P, P = a * b := ⟨_, rfl⟩
  rw [← hP] at hp
  have HP := Lib.hid hP
  obtain ⟨ha1, ha2⟩ := ha
  obtain ⟨hb1, hb2⟩ := hb
  obtain ⟨hp1, hp2⟩ := hp
  obtain ⟨s, hs⟩ : ∃ s, a.tmod 200 = s := ⟨_, rfl⟩
  have hs2 := tmod_lt a 200 (by decide)
  rw [hs] at hs2
  have HS2 := Lib.hid hs2
  obtain ⟨hs3, hs4⟩ := hs2
  have hPw : IntKind.i64.wrap P = P := by rw [IntKind.wrap_i64]; omega
  have hPn : (P != wrap64 (a * b)) = false := by
    rw [← hP]
    have h : wrap64 P = P := by unfold wrap64; omega
    rw [h]
    simp
  obtain ⟨E, hE⟩ : ∃ E, E = E8 % 8 := ⟨_, rfl⟩
  have hE7 : E ≤ 7 := by omega
  have hEE : ((E8 : Int) % 8) = (E : Nat) := by omega
  clear htab hE8 hP hE
  go_enter Tryz.func6, Tryz.ntmps6
  go_upto_region 2 with (first | (go_at_call 10; refine HS.out.mono ?_; rintro e wz ⟨rfl, hb⟩; have HWW := step1 HW HZ hb; have HW := HWW.1; have HZ := HWW.2; clear HWW hb))
  go_upto_region 3 with (first | (go_at_call_of 27 (Value.int .i64 n); refine (of_X n _ (by omega) (by omega)).mono ?_; rintro e wz ⟨x1, rfl, hn, hb⟩; have HWW := step1 HW HZ hb; have HW := HWW.1; have HZ := HWW.2; clear HWW; have Nx1 := Lib.hid hn; clear hn; clear hb) | (go_at_call 26; refine (int_yes Nx1.out hn1 hn2).mono ?_; rintro e wz ⟨rfl, hb⟩; have HWW := step1 HW HZ hb; have HW := HWW.1; have HZ := HWW.2; clear HWW; clear hb))
  clear Nx1 HS
  go_upto_region 4 with fail

  go_upto_region 5 with (first | (go_at_call_of 27 (Value.int .i64 a); refine (of_X a _ (by omega) (by omega)).mono ?_; rintro e wz ⟨x1, rfl, hn, hb⟩; have HWW := step1 HW HZ hb; have HW := HWW.1; have HZ := HWW.2; clear HWW; have Nx1 := Lib.hid hn; clear hn; clear hb) | (go_at_call_of 27 (Value.int .i64 b); refine (of_X b _ (by omega) (by omega)).mono ?_; rintro e wz ⟨x2, rfl, hn, hb⟩; (try have Nx1 := Lib.hid (Nx1.out.below hb)); have HWW := step1 HW HZ hb; have HW := HWW.1; have HZ := HWW.2; clear HWW; have Nx2 := Lib.hid hn; clear hn; clear hb) | (go_at_call 28; refine (add_yes (a + b) Nx1.out Nx2.out (rfl) (by omega)).mono ?_; rintro e wz ⟨n12, a12, l12, c12, rfl, hn, hb⟩; have HWW := step1 HW HZ hb; have HW := HWW.1; have HZ := HWW.2; clear HWW; have NB := Lib.hid hn; clear hn; clear hb))
  obtain ⟨W, hW⟩ : ∃ W, W = wz.alloc (.cells #[.bool n12, .slice a12 l12 c12] 27) := ⟨_, rfl⟩
  obtain ⟨g12, hg⟩ : ∃ g, g = wz.heap.size := ⟨_, rfl⟩
  have hb : Below wz.heap.size wz W := by rw [hW]; exact alloc_b _ _
  have B12 : Hid (Bx W g12 n12 a12 l12 c12 (a + b)) := Lib.hid (by rw [hW, hg]; exact bx_new NB.out)
  rw [← hW]
  rw [← hg]
  clear hW hg NB
  have HWW := step1 HW HZ hb
  have HW := HWW.1
  have HZ := HWW.2
  clear HWW hb Nx1 Nx2
  go_upto_region 6 with (first | (go_at_call_of 27 (Value.int .i64 a); refine (of_X a _ (by omega) (by omega)).mono ?_; rintro e wz ⟨x1, rfl, hn, hb⟩; (try have B12 := Lib.hid (B12.out.below hb)); have HWW := step1 HW HZ hb; have HW := HWW.1; have HZ := HWW.2; clear HWW; have Nx1 := Lib.hid hn; clear hn; clear hb) | (go_at_call_of 27 (Value.int .i64 b); refine (of_X b _ (by omega) (by omega)).mono ?_; rintro e wz ⟨x2, rfl, hn, hb⟩; (try have B12 := Lib.hid (B12.out.below hb)); (try have Nx1 := Lib.hid (Nx1.out.below hb)); have HWW := step1 HW HZ hb; have HW := HWW.1; have HZ := HWW.2; clear HWW; have Nx2 := Lib.hid hn; clear hn; clear hb) | (go_at_call 29; refine (sub_yes (a - b) Nx1.out Nx2.out (rfl) (by omega)).mono ?_; rintro e wz ⟨n14, a14, l14, c14, rfl, hn, hb⟩; (try have B12 := Lib.hid (B12.out.below hb)); have HWW := step1 HW HZ hb; have HW := HWW.1; have HZ := HWW.2; clear HWW; have NB := Lib.hid hn; clear hn; clear hb))
  obtain ⟨W, hW⟩ : ∃ W, W = wz.alloc (.cells #[.bool n14, .slice a14 l14 c14] 27) := ⟨_, rfl⟩
  obtain ⟨g14, hg⟩ : ∃ g, g = wz.heap.size := ⟨_, rfl⟩
  have hb : Below wz.heap.size wz W := by rw [hW]; exact alloc_b _ _
  have B14 : Hid (Bx W g14 n14 a14 l14 c14 (a - b)) := Lib.hid (by rw [hW, hg]; exact bx_new NB.out)
  rw [← hW]
  rw [← hg]
  clear hW hg NB
  have B12 := Lib.hid (B12.out.below hb)
  have HWW := step1 HW HZ hb
  have HW := HWW.1
  have HZ := HWW.2
  clear HWW hb Nx1 Nx2
  go_upto_region 7 with (first | (go_at_call_of 27 (Value.int .i64 a); refine (of_X a _ (by omega) (by omega)).mono ?_; rintro e wz ⟨x1, rfl, hn, hb⟩; (try have B12 := Lib.hid (B12.out.below hb)); (try have B14 := Lib.hid (B14.out.below hb)); have HWW := step1 HW HZ hb; have HW := HWW.1; have HZ := HWW.2; clear HWW; have Nx1 := Lib.hid hn; clear hn; clear hb) | (go_at_call_of 27 (Value.int .i64 b); refine (of_X b _ (by omega) (by omega)).mono ?_; rintro e wz ⟨x2, rfl, hn, hb⟩; (try have B12 := Lib.hid (B12.out.below hb)); (try have B14 := Lib.hid (B14.out.below hb)); (try have Nx1 := Lib.hid (Nx1.out.below hb)); have HWW := step1 HW HZ hb; have HW := HWW.1; have HZ := HWW.2; clear HWW; have Nx2 := Lib.hid hn; clear hn; clear hb) | (go_at_call 30; refine (mul_yes P Nx1.out Nx2.out (HP.out.symm) (by omega)).mono ?_; rintro e wz ⟨n16, a16, l16, c16, rfl, hn, hb⟩; (try have B12 := Lib.hid (B12.out.below hb)); (try have B14 := Lib.hid (B14.out.below hb)); have HWW := step1 HW HZ hb; have HW := HWW.1; have HZ := HWW.2; clear HWW; have NB := Lib.hid hn; clear hn; clear hb))
  obtain ⟨W, hW⟩ : ∃ W, W = wz.alloc (.cells #[.bool n16, .slice a16 l16 c16] 27) := ⟨_, rfl⟩
  obtain ⟨g16, hg⟩ : ∃ g, g = wz.heap.size := ⟨_, rfl⟩
  have hb : Below wz.heap.size wz W := by rw [hW]; exact alloc_b _ _
  have B16 : Hid (Bx W g16 n16 a16 l16 c16 P) := Lib.hid (by rw [hW, hg]; exact bx_new NB.out)
  rw [← hW]
  rw [← hg]
  clear hW hg NB
  have B12 := Lib.hid (B12.out.below hb)
  have B14 := Lib.hid (B14.out.below hb)
  have HWW := step1 HW HZ hb
  have HW := HWW.1
  have HZ := HWW.2
  clear HWW hb Nx1 Nx2
  have p0 := B12.out.c0
  have p1 := B12.out.c1
  go_upto_region 8 with (first | (go_at_call 26; refine (int_yes B12.out.nu (by omega) (by omega)).mono ?_; rintro e wz ⟨rfl, hb⟩; (try have B14 := Lib.hid (B14.out.below hb)); (try have B16 := Lib.hid (B16.out.below hb)); have HWW := step1 HW HZ hb; have HW := HWW.1; have HZ := HWW.2; clear HWW; clear hb))
  clear p0 p1 B12
  have p0 := B14.out.c0
  have p1 := B14.out.c1
  go_upto_region 9 with (first | (go_at_call 26; refine (int_yes B14.out.nu (by omega) (by omega)).mono ?_; rintro e wz ⟨rfl, hb⟩; (try have B16 := Lib.hid (B16.out.below hb)); have HWW := step1 HW HZ hb; have HW := HWW.1; have HZ := HWW.2; clear HWW; clear hb))
  clear p0 p1 B14
  have p0 := B16.out.c0
  have p1 := B16.out.c1
  go_upto_region 10 with (first | (go_at_call 26; refine (int_yes B16.out.nu (by omega) (by omega)).mono ?_; rintro e wz ⟨rfl, hb⟩; have HWW := step1 HW HZ hb; have HW := HWW.1; have HZ := HWW.2; clear HWW; clear hb))
  clear p0 p1 B16
  go_upto_region 12 with fail
  go_wp2_with fail
  go_loopw [24, 26] (fun v kv wr => ∃ j : Nat, j ≤ E ∧ kv = .int .i64 (j : Nat) ∧ v = .int .i64 (s ^ j) ∧ Hid (Below w.heap.size w wr)) (fun _ kv _ => E - (intOf kv).toNat)
  case atStart => exact ⟨0, by omega, rfl, by rw [Int.pow_zero], HW⟩
  case round =>
    obtain ⟨j, hj, rfl, rfl, hwr⟩ := hrel
    have hq7 := pow_small HS2.out j (by omega)
    by_cases hjE : j < E
    · have hq8 := pow_small HS2.out (j + 1) (by omega)
      obtain ⟨q, hq⟩ : ∃ q, q = s ^ j := ⟨_, rfl⟩
      obtain ⟨q2, hq2⟩ : ∃ q2, q2 = s ^ (j + 1) := ⟨_, rfl⟩
      rw [← hq] at hq7 ⊢
      rw [← hq2] at hq8
      have hqq : wrap64 (q * s) = q2 := by
        rw [hq, ← Int.pow_succ, ← hq2]
        unfold wrap64
        omega
      have HQ2 := Lib.hid hq2
      clear hq hq2 HW
      go_wp2_with fail
      exact ⟨⟨j + 1, by omega, by go_num, by rw [hqq, HQ2.out], hwr⟩, by simp [intOf]; omega⟩
    · have hj2 : j = E := by omega
      subst hj2
      have HW := hwr
      have HZ := Lib.hid hwr.out.size
      obtain ⟨q, hq⟩ : ∃ q, q = s ^ j := ⟨_, rfl⟩
      rw [← hq] at hq7 ⊢
      have HQ := Lib.hid hq
      clear hq
      go_upto_region 18 with (first | (go_at_call_of 27 (Value.int .i64 s); refine (of_X s _ (by omega) (by omega)).mono ?_; rintro e wz ⟨x1, rfl, hn, hb⟩; have HWW := step1 HW HZ hb; have HW := HWW.1; have HZ := HWW.2; clear HWW; have Nx1 := Lib.hid hn; clear hn; clear hb) | (go_at_call 20; refine (pow_yes q j Nx1.out (by omega) HQ.out.symm (by omega)).mono ?_; rintro e wz ⟨n27, a27, l27, c27, rfl, hn, hb⟩; have HWW := step1 HW HZ hb; have HW := HWW.1; have HZ := HWW.2; clear HWW; have NB := Lib.hid hn; clear hn; clear hb))
      obtain ⟨W, hW⟩ : ∃ W, W = wz.alloc (.cells #[.bool n27, .slice a27 l27 c27] 27) := ⟨_, rfl⟩
      obtain ⟨g27, hg⟩ : ∃ g, g = wz.heap.size := ⟨_, rfl⟩
      have hb : Below wz.heap.size wz W := by rw [hW]; exact alloc_b _ _
      have B27 : Hid (Bx W g27 n27 a27 l27 c27 q) := Lib.hid (by rw [hW, hg]; exact bx_new NB.out)
      rw [← hW]
      rw [← hg]
      clear hW hg NB
      have HWW := step1 HW HZ hb
      have HW := HWW.1
      have HZ := HWW.2
      clear HWW hb Nx1
      have p0 := B27.out.c0
      have p1 := B27.out.c1
      go_upto_region 19 with (first | (go_at_call 26; refine (int_yes B27.out.nu (by omega) (by omega)).mono ?_; rintro e wz ⟨rfl, hb⟩; have HWW := step1 HW HZ hb; have HW := HWW.1; have HZ := HWW.2; clear HWW; clear hb))
      clear p0 p1 B27
      have HCM : Hid (∀ W x y, Nu W x n → Nu W y m → Calls Tryz.prog 31 #[x, y] W fun e w' => e = .returned (.int .i64 (cmpZ n m)) ∧ Below W.heap.size W w') := Lib.hid (fun W x y h1 h2 => cmp_any h1 h2)
      rcases Int.lt_trichotomy n m with h | h | h
      case' inl =>
        rw [show cmpZ n m = -1 by unfold cmpZ; rw [if_pos h]] at HCM
        have h2 : ¬ n > m := by omega
      case' inr.inl =>
        rw [show cmpZ n m = 0 by unfold cmpZ; rw [if_neg (by omega), if_pos h]] at HCM
        have h1 : ¬ n < m := by omega
        have h2 : ¬ n > m := by omega
        clear h
      case' inr.inr =>
        rw [show cmpZ n m = 1 by unfold cmpZ; rw [if_neg (by omega), if_neg (by omega)]] at HCM
        have h1 : ¬ n < m := by omega
      all_goals
        go_wp2_with (first | (go_at_call_of 27 (Value.int .i64 n); refine (of_X n _ (by omega) (by omega)).mono ?_; rintro e wz ⟨x1, rfl, hn, hb⟩; have HWW := step1 HW HZ hb; have HW := HWW.1; have HZ := HWW.2; clear HWW; have Nx1 := Lib.hid hn; clear hn; clear hb) | (go_at_call_of 27 (Value.int .i64 m); refine (of_X m _ (by omega) (by omega)).mono ?_; rintro e wz ⟨x2, rfl, hn, hb⟩; (try have Nx1 := Lib.hid (Nx1.out.below hb)); have HWW := step1 HW HZ hb; have HW := HWW.1; have HZ := HWW.2; clear HWW; have Nx2 := Lib.hid hn; clear hn; clear hb) | (go_at_call 31; refine (HCM.out _ _ _ Nx1.out Nx2.out).mono ?_; rintro e wz ⟨rfl, hb⟩; have HWW := step1 HW HZ hb; have HW := HWW.1; have HZ := HWW.2; clear HWW; clear hb) | (go_at_call 32; refine (right_nu Nx1.out).mono ?_; rintro e wz ⟨rfl, hb⟩; have HWW := step1 HW HZ hb; have HW := HWW.1; have HZ := HWW.2; clear HWW; clear hb))
        go_ret
        exact ⟨rfl, HW.out⟩

end Go.Proofs.YtdgmjmckeeeljaaGreatDoor

namespace Go.Proofs.YtdgmjmckeeeljaaGreatDoor
open Go Go.RowKit

section
variable {P : Program} {ops : Array Oper} {Q : Exit → Act → World → Prop} {md : Region.Mode}

theorem anyP_inv (R : Array Bool → Act → World → Prop)
    (hstep : ∀ l a w i, R l a w → i ∈ Region.ready md ops l → wpOp P ops Q i (R (l.setIfInBounds i true)) a w)
    (hend : ∀ l a w, R l a w → Region.ready md ops l = [] → Q .normal a w) :
    ∀ (fuel : Nat) (l : Array Bool) (a : Act) (w : World), left l ≤ fuel → R l a w → wpAny P md ops Q fuel l a w := by
  intro fuel
  induction fuel with
  | zero =>
    intro l a w hl hr
    have hz : Region.ready md ops l = [] := by
      apply List.eq_nil_iff_forall_not_mem.2
      intro j hj
      have := (mem_ready.1 hj).1
      rw [left_zero (by omega)] at this
      cases this
    exact ⟨hz, hend l a w hr hz⟩
  | succ fuel ih =>
    intro l a w hl hr
    refine ⟨fun hz => hend l a w hr hz, fun i hi => ?_⟩
    refine wpOp_mono (fun a' w' hr' => ih _ a' w' ?_ hr') (hstep l a w i hr hi)
    have := left_set (mem_ready.1 hi).1
    omega

theorem regionP_inv {id : Nat} {a : Act} {w : World} (hm : P.follows .mixedOrders = true) (R : Array Bool → Act → World → Prop)
    (h0 : R (Array.replicate ops.size false) a w.drew)
    (hstep : ∀ l a w i, R l a w → i ∈ Region.ready .any ops l → wpOp P ops Q i (R (l.setIfInBounds i true)) a w)
    (hend : ∀ l a w, R l a w → Region.ready .any ops l = [] → Q .normal a w) : (Code.region id ops true).wp P Q a w := by
  refine wp_region_any hm (anyP_inv R hstep hend _ _ _ _ ?_ h0)
  unfold left
  rw [Array.toList_replicate]
  exact Nat.le_trans (List.length_filter_le _ _) (by simp)
end

theorem Fr.swap {own own' : Nat → Option (Nat × Value)} {T : Array Value} {l : Array Bool} {a : Act} (h : Fr own T l a)
    (h1 : ∀ j p, own' j = some p → l.getD p.1 true = true → own j = some p) (h2 : ∀ j p, own j = some p → l.getD p.1 true = true → own' j = some p) : Fr own' T l a := by
  refine ⟨h.defers, h.size, fun j hj => ?_⟩
  have hs := h.slot j hj
  cases ho' : own' j with
  | none =>
    cases ho : own j with
    | none => rw [ho] at hs; exact hs
    | some p =>
      rw [ho] at hs
      obtain ⟨i, v⟩ := p
      simp only [] at hs ⊢
      by_cases hd : l.getD i true = true
      · have := h2 j _ ho hd
        rw [ho'] at this
        cases this
      · rw [if_neg hd] at hs; exact hs
  | some p =>
    obtain ⟨i, v⟩ := p
    simp only []
    by_cases hd : l.getD i true = true
    · have := h1 j _ ho' hd
      rw [this] at hs
      simp only [] at hs
      exact hs
    · rw [if_neg hd]
      cases ho : own j with
      | none => rw [ho] at hs; exact hs
      | some q =>
        obtain ⟨i2, v2⟩ := q
        rw [ho] at hs
        simp only [] at hs
        by_cases hd2 : l.getD i2 true = true
        · have := h2 j _ ho hd2
          rw [ho'] at this
          cases this
          exact absurd hd2 hd
        · rw [if_neg hd2] at hs; exact hs

/-- What the slots hold: s0 the first scratch slot, b0 the first box's; k numbers. -/
def mOwn (k s0 b0 lb : Nat) (sl vs : Nat → Value) (gs : Nat → Nat) (j : Nat) : Option (Nat × Value) :=
  if s0 ≤ j ∧ j < s0 + 3 * k then
    (if (j - s0) % 3 = 0 then some (j - s0, .pointer (some ⟨lb, (j - s0) / 3, none⟩)) else if (j - s0) % 3 = 1 then some (j - s0, sl ((j - s0) / 3)) else some (j - s0, vs ((j - s0) / 3)))
  else if b0 ≤ j ∧ j < b0 + k then some (3 * k + (j - b0), .pointer (some ⟨gs (j - b0), 0, none⟩)) else none

/-- A number as Made makes it. -/
def Md (W : World) (v : Value) : Prop := ∃ neg ao n cap z, v = .agg #[.bool neg, .slice ao n cap] ∧ Nu W v z ∧ z.natAbs < 4294967296 ^ 6
/-- A box that holds a value. -/
def Bf (W : World) (g : Nat) (v : Value) : Prop := ∃ neg ao n cap, v = .agg #[.bool neg, .slice ao n cap] ∧ W.heap[g]? = some (.cells #[.bool neg, .slice ao n cap] 27 (0, 0))

theorem Md.below {W W' : World} {v : Value} (h : Md W v) (hb : Below W.heap.size W W') : Md W' v := by
  obtain ⟨neg, ao, n, cap, z, h1, h2, h3⟩ := h
  exact ⟨neg, ao, n, cap, z, h1, h2.below hb, h3⟩
theorem Bf.block {W W' : World} {g : Nat} {v : Value} (h : Bf W g v) (hb : W'.heap[g]? = W.heap[g]?) : Bf W' g v := by
  obtain ⟨neg, ao, n, cap, h1, h2⟩ := h
  exact ⟨neg, ao, n, cap, h1, hb.trans h2⟩
theorem Bf.lt {W : World} {g : Nat} {v : Value} (h : Bf W g v) : g < W.heap.size := by
  obtain ⟨neg, ao, n, cap, h1, h2⟩ := h
  exact (Array.getElem?_eq_some_iff.1 h2).1

structure RM (W0 : World) (T : Array Value) (k s0 b0 lb : Nat) (sl : Nat → Value) (vs : Nat → Value) (gs : Nat → Nat) (l : Array Bool) (a : Act) (w : World) : Prop where
  size : l.size = 5 * k
  fr : Fr (mOwn k s0 b0 lb sl vs gs) T l a
  bl : Below W0.heap.size W0 w
  val : ∀ t, t < k → l.getD (3 * t + 2) true = true → Md w (vs t)
  box : ∀ t, t < k → l.getD (3 * k + t) true = true → l.getD (4 * k + t) true = false → w.heap[gs t]? = some (.cells #[.bool false, .slice none 0 0] 27 (0, 0))
  big : ∀ t, t < k → l.getD (3 * k + t) true = true → W0.heap.size ≤ gs t ∧ gs t < w.heap.size
  full : ∀ t, t < k → l.getD (4 * k + t) true = true → Bf w (gs t) (vs t)
  dep : ∀ t, t < k → l.getD (4 * k + t) true = true → l.getD (3 * k + t) true = true ∧ l.getD (3 * t + 2) true = true
  ne : ∀ t u, t < k → u < k → t ≠ u → l.getD (3 * k + t) true = true → l.getD (3 * k + u) true = true → gs t ≠ gs u

end Go.Proofs.YtdgmjmckeeeljaaGreatDoor

namespace Go.Proofs.YtdgmjmckeeeljaaGreatDoor
open Go Go.RowKit

theorem gset_true {l : Array Bool} {i j : Nat} (h : (l.setIfInBounds i true).getD j true = true) : j = i ∨ l.getD j true = true := by
  by_cases e : j = i
  · exact .inl e
  · rw [getD_set_ne true (fun h => e h.symm)] at h
    exact .inr h
theorem gset_false {l : Array Bool} {i j : Nat} (h : (l.setIfInBounds i true).getD j true = false) : j ≠ i ∧ l.getD j true = false := by
  by_cases e : j = i
  · subst e
    simp [Array.getD] at h
  · rw [getD_set_ne true (fun h => e h.symm)] at h
    exact ⟨e, h⟩
theorem gset_old {l : Array Bool} {i j : Nat} (h : l.getD j true = true) : (l.setIfInBounds i true).getD j true = true := by
  by_cases e : j = i
  · subst e
    simp [Array.getD]
  · rw [getD_set_ne true (fun h => e h.symm)]; exact h

theorem mOwn_scratch {k s0 b0 lb : Nat} {sl vs : Nat → Value} {gs : Nat → Nat} {j : Nat} {p : Nat × Value} (h : mOwn k s0 b0 lb sl vs gs j = some p) (hp : p.1 < 3 * k) : j = s0 + p.1 := by
  unfold mOwn at h
  split at h
  · rename_i hj
    split at h
    · cases h; simp only [] at *; omega
    · split at h <;> (cases h; simp only [] at *; omega)
  · split at h
    · cases h; simp only [] at hp; omega
    · cases h
theorem mOwn_box {k s0 b0 lb : Nat} {sl vs : Nat → Value} {gs : Nat → Nat} {j : Nat} {p : Nat × Value} (h : mOwn k s0 b0 lb sl vs gs j = some p) (hp : 3 * k ≤ p.1) : 3 * k + j = b0 + p.1 ∧ p.1 < 4 * k := by
  unfold mOwn at h
  split at h
  · rename_i hj
    split at h
    · cases h; simp only [] at *; omega
    · split at h <;> (cases h; simp only [] at *; omega)
  · split at h
    · rename_i hj; cases h; simp only [] at *; omega
    · cases h
theorem mOwn_lt {k s0 b0 lb : Nat} {sl vs : Nat → Value} {gs : Nat → Nat} {j : Nat} {p : Nat × Value} (h : mOwn k s0 b0 lb sl vs gs j = some p) : p.1 < 4 * k := by
  rcases Nat.lt_or_ge p.1 (3 * k) with h1 | h1
  · omega
  · exact (mOwn_box h h1).2

section
variable {W0 : World} {T : Array Value} {k s0 b0 lb : Nat} {sl vs : Nat → Value} {gs : Nat → Nat} {l : Array Bool} {a : Act} {w : World}

/-- An address, a load. -/
theorem RM.plain (h : RM W0 T k s0 b0 lb sl vs gs l a w) {i d : Nat} (hi : i < 3 * k) (hm : i % 3 ≠ 2) {v : Value} (hd : d = s0 + i) (hv : mOwn k s0 b0 lb sl vs gs d = some (i, v)) : RM W0 T k s0 b0 lb sl vs gs (l.setIfInBounds i true) (a.put (some d) v) w := by
  refine ⟨by rw [Array.size_setIfInBounds]; exact h.size, h.fr.put hv (by rw [h.size]; omega) (fun j p hp e => by rw [mOwn_scratch hp (by omega), e, hd]), h.bl, fun t ht hl => ?_, fun t ht h1 h2 => ?_, fun t ht h1 => ?_, fun t ht h1 => ?_, fun t ht h1 => ?_, fun t u ht hu hne h1 h2 => ?_⟩
  · rcases gset_true hl with e | hl
    · omega
    · exact h.val t ht hl
  · rcases gset_true h1 with e | h1
    · omega
    · exact h.box t ht h1 (gset_false h2).2
  · rcases gset_true h1 with e | h1
    · omega
    · exact h.big t ht h1
  · rcases gset_true h1 with e | h1
    · omega
    · exact h.full t ht h1
  · rcases gset_true h1 with e | h1
    · omega
    · exact ⟨gset_old (h.dep t ht h1).1, gset_old (h.dep t ht h1).2⟩
  · rcases gset_true h1 with e | h1
    · omega
    · rcases gset_true h2 with e | h2
      · omega
      · exact h.ne t u ht hu hne h1 h2

/-- A call. -/
theorem RM.call (h : RM W0 T k s0 b0 lb sl vs gs l a w) {t d : Nat} (ht : t < k) (hl : l.getD (3 * t + 2) true = false) {v : Value} {w' : World} (hd : d = s0 + (3 * t + 2)) (hs : s0 + 3 * k ≤ b0 ∨ b0 + k ≤ s0) (hv : Md w' v) (hb : Below w.heap.size w w') :
    RM W0 T k s0 b0 lb sl (fun u => if u = t then v else vs u) gs (l.setIfInBounds (3 * t + 2) true) (a.put (some d) v) w' := by
  have e0 : mOwn k s0 b0 lb sl (fun u => if u = t then v else vs u) gs d = some (3 * t + 2, v) := by
    unfold mOwn
    rw [if_pos (by omega), if_neg (by omega), if_neg (by omega)]
    rw [show (d - s0) / 3 = t by omega]
    dsimp only
    rw [if_pos rfl, show d - s0 = 3 * t + 2 by omega]
  have ex : ∀ j, j ≠ d → mOwn k s0 b0 lb sl (fun u => if u = t then v else vs u) gs j = mOwn k s0 b0 lb sl vs gs j := fun j hj => by
    unfold mOwn
    split
    · split
      · rfl
      · split
        · rfl
        · dsimp only
          rw [if_neg (by omega)]
    · rfl
  have e1 : ∃ v0, mOwn k s0 b0 lb sl vs gs d = some (3 * t + 2, v0) := by
    unfold mOwn
    rw [if_pos (by omega), if_neg (by omega), if_neg (by omega)]
    exact ⟨_, by rw [show d - s0 = 3 * t + 2 by omega]⟩
  have hf : Fr (mOwn k s0 b0 lb sl (fun u => if u = t then v else vs u) gs) T l a := h.fr.swap
    (fun j p hp hq => by
      by_cases e : j = d
      · subst e
        rw [e0] at hp
        cases hp
        rw [hl] at hq; cases hq
      · rw [ex j e] at hp; exact hp)
    (fun j p hp hq => by
      by_cases e : j = d
      · subst e
        obtain ⟨v0, e1⟩ := e1
        rw [e1] at hp
        cases hp
        rw [hl] at hq; cases hq
      · rw [ex j e]; exact hp)
  have hn : ∀ u, u < k → l.getD (3 * u + 2) true = true → u ≠ t := fun u hu h1 e => by subst e; rw [hl] at h1; cases h1
  refine ⟨by rw [Array.size_setIfInBounds]; exact h.size, hf.put e0 (by rw [h.size]; omega) (fun j p hp e => by rw [mOwn_scratch hp (by omega), e, hd]), h.bl.trans (hb.mono h.bl.size), fun u hu h1 => ?_, fun u hu h1 h2 => ?_, fun u hu h1 => ?_, fun u hu h1 => ?_, fun u hu h1 => ?_, fun u z hu hz hne h1 h2 => ?_⟩
  · by_cases e : u = t
    · simp only [e, if_true]; exact hv
    · simp only [e, if_false]
      rcases gset_true h1 with e2 | h1
      · omega
      · exact (h.val u hu h1).below hb
  · rcases gset_true h1 with e | h1
    · omega
    · exact (hb.block _ (h.big u hu h1).2).trans (h.box u hu h1 (gset_false h2).2)
  · rcases gset_true h1 with e | h1
    · omega
    · have := h.big u hu h1
      exact ⟨this.1, Nat.lt_of_lt_of_le this.2 hb.size⟩
  · rcases gset_true h1 with e | h1
    · omega
    · simp only [hn u hu (h.dep u hu h1).2, if_false]
      exact (h.full u hu h1).block (hb.block _ (h.full u hu h1).lt)
  · rcases gset_true h1 with e | h1
    · omega
    · exact ⟨gset_old (h.dep u hu h1).1, gset_old (h.dep u hu h1).2⟩
  · rcases gset_true h1 with e | h1
    · omega
    · rcases gset_true h2 with e | h2
      · omega
      · exact h.ne u z hu hz hne h1 h2

/-- A box made. -/
theorem RM.alloc (h : RM W0 T k s0 b0 lb sl vs gs l a w) {t d : Nat} (ht : t < k) (hl : l.getD (3 * k + t) true = false) (hd : d = b0 + t) (hs : s0 + 3 * k ≤ b0 ∨ b0 + k ≤ s0) :
    RM W0 T k s0 b0 lb sl vs (fun u => if u = t then w.heap.size else gs u) (l.setIfInBounds (3 * k + t) true) (a.put (some d) (.pointer (some ⟨w.heap.size, 0, none⟩))) (w.alloc (.cells #[.bool false, .slice none 0 0] 27)) := by
  have hb := alloc_b w (.cells #[.bool false, .slice none 0 0] 27)
  have e0 : mOwn k s0 b0 lb sl vs (fun u => if u = t then w.heap.size else gs u) d = some (3 * k + t, .pointer (some ⟨w.heap.size, 0, none⟩)) := by
    unfold mOwn
    rw [if_neg (by omega), if_pos (by omega)]
    rw [show d - b0 = t by omega]
    dsimp only
    rw [if_pos rfl]
  have ex : ∀ j, j ≠ d → mOwn k s0 b0 lb sl vs (fun u => if u = t then w.heap.size else gs u) j = mOwn k s0 b0 lb sl vs gs j := fun j hj => by
    unfold mOwn
    split
    · rfl
    · split
      · dsimp only
        rw [if_neg (by omega)]
      · rfl
  have e1 : ∃ v0, mOwn k s0 b0 lb sl vs gs d = some (3 * k + t, v0) := by
    unfold mOwn
    rw [if_neg (by omega), if_pos (by omega)]
    exact ⟨_, by rw [show d - b0 = t by omega]⟩
  have hf : Fr (mOwn k s0 b0 lb sl vs (fun u => if u = t then w.heap.size else gs u)) T l a := h.fr.swap
    (fun j p hp hq => by
      by_cases e : j = d
      · subst e
        rw [e0] at hp
        cases hp
        rw [hl] at hq; cases hq
      · rw [ex j e] at hp; exact hp)
    (fun j p hp hq => by
      by_cases e : j = d
      · subst e
        obtain ⟨v0, e1⟩ := e1
        rw [e1] at hp
        cases hp
        rw [hl] at hq; cases hq
      · rw [ex j e]; exact hp)
  have hn : ∀ u, u < k → l.getD (3 * k + u) true = true → u ≠ t := fun u hu h1 e => by subst e; rw [hl] at h1; cases h1
  refine ⟨by rw [Array.size_setIfInBounds]; exact h.size, hf.put e0 (by rw [h.size]; omega) (fun j p hp e => by have := mOwn_box hp (by omega); omega), h.bl.trans (hb.mono h.bl.size), fun u hu h1 => ?_, fun u hu h1 h2 => ?_, fun u hu h1 => ?_, fun u hu h1 => ?_, fun u hu h1 => ?_, fun u z hu hz hne h1 h2 => ?_⟩
  · rcases gset_true h1 with e | h1
    · omega
    · exact (h.val u hu h1).below hb
  · by_cases e : u = t
    · simp only [e, if_true]; exact heap_alloc_new _ _
    · simp only [e, if_false]
      rcases gset_true h1 with e2 | h1
      · omega
      · exact (hb.block _ (h.big u hu h1).2).trans (h.box u hu h1 (gset_false h2).2)
  · by_cases e : u = t
    · simp only [e, if_true]
      exact ⟨h.bl.size, by simp⟩
    · simp only [e, if_false]
      rcases gset_true h1 with e2 | h1
      · omega
      · have := h.big u hu h1
        exact ⟨this.1, Nat.lt_of_lt_of_le this.2 hb.size⟩
  · rcases gset_true h1 with e | h1
    · omega
    · simp only [hn u hu (h.dep u hu h1).1, if_false]
      exact (h.full u hu h1).block (hb.block _ (h.full u hu h1).lt)
  · rcases gset_true h1 with e | h1
    · omega
    · exact ⟨gset_old (h.dep u hu h1).1, gset_old (h.dep u hu h1).2⟩
  · by_cases e : u = t
    · have e2 : z ≠ t := fun h => hne (by rw [e, h])
      simp only [e, if_true, e2, if_false]
      rcases gset_true h2 with e3 | h2
      · omega
      · have := (h.big z hz h2).2
        omega
    · simp only [e, if_false]
      rcases gset_true h1 with e3 | h1
      · omega
      · by_cases e2 : z = t
        · simp only [e2, if_true]
          have := (h.big u hu h1).2
          omega
        · simp only [e2, if_false]
          rcases gset_true h2 with e3 | h2
          · omega
          · exact h.ne u z hu hz hne h1 h2
end

end Go.Proofs.YtdgmjmckeeeljaaGreatDoor

namespace Go.Proofs.YtdgmjmckeeeljaaGreatDoor
open Go Go.RowKit

theorem nu_setBox {W : World} {g m c : Nat} {b : Bool} {so : Option Addr} {v : Value} {z : Int} (h : Nu W v z) (hg : W.heap[g]? = some (.cells #[.bool b, .slice so m c] 27 (0, 0))) (o : Nat) (u : Value) : Nu (W.setCell ⟨g, o, none⟩ u) v z := by
  obtain ⟨s, rfl, hs, hl⟩ := h
  refine ⟨s, rfl, ⟨hs.bd, hs.len, ?_⟩, hl⟩
  rcases hs.is with h1 | ⟨b', off, cap, hv, hc, hcl⟩
  · exact .inl h1
  · refine .inr ⟨b', off, cap, hv, hc, fun j hj => ?_⟩
    have hcj := hcl j hj
    have hne : g ≠ b' := fun e => by
      subst e
      rw [cell_of_row _ _ _ _ _ _ hg] at hcj
      rcases Nat.lt_or_ge (off + j) 2 with h2 | h2
      · rcases (show off + j = 0 ∨ off + j = 1 by omega) with e | e
        · rw [e] at hcj; simp at hcj
        · rw [e] at hcj; simp at hcj
      · rw [Array.getElem?_eq_none (by simpa using h2)] at hcj
        cases hcj
    rw [cell_other (by simp [hne])]
    exact hcj

section
variable {W0 : World} {T : Array Value} {k s0 b0 lb : Nat} {sl vs : Nat → Value} {gs : Nat → Nat} {l : Array Bool} {a : Act} {w : World}

/-- A store. -/
theorem RM.store (h : RM W0 T k s0 b0 lb sl vs gs l a w) {t : Nat} (ht : t < k) (hl : l.getD (4 * k + t) true = false) (h1 : l.getD (3 * k + t) true = true) (h2 : l.getD (3 * t + 2) true = true) {neg : Bool} {ao : Option Addr} {n cap : Nat} (hv : vs t = .agg #[.bool neg, .slice ao n cap]) (u : Value) :
    RM W0 T k s0 b0 lb sl vs gs (l.setIfInBounds (4 * k + t) true) (a.put none u) ((w.setCell ⟨gs t, 0, none⟩ (.bool neg)).setCell ⟨gs t, 1, none⟩ (.slice ao n cap)) := by
  have hz := h.box t ht h1 hl
  have hg := h.big t ht h1
  have hr1 : (w.setCell ⟨gs t, 0, none⟩ (.bool neg)).heap[gs t]? = some (.cells #[.bool neg, .slice none 0 0] 27 (0, 0)) := by
    have := heap_setCell_same w (gs t) 0 _ 27 (.bool neg) hz
    simpa using this
  have hr2 : ((w.setCell ⟨gs t, 0, none⟩ (.bool neg)).setCell ⟨gs t, 1, none⟩ (.slice ao n cap)).heap[gs t]? = some (.cells #[.bool neg, .slice ao n cap] 27 (0, 0)) := by
    have := heap_setCell_same _ (gs t) 1 _ 27 (.slice ao n cap) hr1
    simpa using this
  have ho : ∀ g, g ≠ gs t → ((w.setCell ⟨gs t, 0, none⟩ (.bool neg)).setCell ⟨gs t, 1, none⟩ (.slice ao n cap)).heap[g]? = w.heap[g]? := fun g hne => by
    rw [heap_setCell_other _ _ _ _ hne, heap_setCell_other _ _ _ _ hne]
  have hb : Below W0.heap.size W0 ((w.setCell ⟨gs t, 0, none⟩ (.bool neg)).setCell ⟨gs t, 1, none⟩ (.slice ao n cap)) := (h.bl.setCell hg.1 _).setCell hg.1 _
  refine ⟨by rw [Array.size_setIfInBounds]; exact h.size, h.fr.bare u (fun j p hp e => by have := mOwn_lt hp; omega), hb, fun u hu h3 => ?_, fun u hu h3 h4 => ?_, fun u hu h3 => ?_, fun u hu h3 => ?_, fun u hu h3 => ?_, fun u z hu hz hne h3 h4 => ?_⟩
  · rcases gset_true h3 with e | h3
    · omega
    · obtain ⟨neg', ao', n', cap', z, q1, q2, q3⟩ := h.val u hu h3
      exact ⟨neg', ao', n', cap', z, q1, nu_setBox (nu_setBox q2 hz 0 _) hr1 1 _, q3⟩
  · obtain ⟨h5, h6⟩ := gset_false h4
    rcases gset_true h3 with e | h3
    · omega
    · have hut : u ≠ t := fun e => h5 (by rw [e])
      rw [ho _ (h.ne u t hu ht hut h3 h1)]
      exact h.box u hu h3 h6
  · rcases gset_true h3 with e | h3
    · omega
    · have := h.big u hu h3
      exact ⟨this.1, by simpa using this.2⟩
  · by_cases hut : u = t
    · subst hut
      exact ⟨neg, ao, n, cap, hv, hr2⟩
    · rcases gset_true h3 with e | h3
      · omega
      · exact (h.full u hu h3).block (ho _ (h.ne u t hu ht hut (h.dep u hu h3).1 h1))
  · by_cases hut : u = t
    · subst hut
      exact ⟨gset_old h1, gset_old h2⟩
    · rcases gset_true h3 with e | h3
      · omega
      · exact ⟨gset_old (h.dep u hu h3).1, gset_old (h.dep u hu h3).2⟩
  · rcases gset_true h3 with e | h3
    · omega
    · rcases gset_true h4 with e | h4
      · omega
      · exact h.ne u z hu hz hne h3 h4

/-- What a store needs. -/
theorem RM.ready (h : RM W0 T k s0 b0 lb sl vs gs l a w) {t : Nat} (ht : t < k) (hl : l.getD (4 * k + t) true = false) (h1 : l.getD (3 * k + t) true = true) :
    w.cell? ⟨gs t, 0, none⟩ = some (.bool false) ∧ w.cell? ⟨gs t, 1, none⟩ = some (.slice none 0 0) ∧ w.frozen? ⟨gs t, 0, none⟩ = false ∧ w.frozen? ⟨gs t, 1, none⟩ = false ∧ gs t < w.heap.size := by
  have hz := h.box t ht h1 hl
  refine ⟨?_, ?_, frozen_of_row _ _ _ _ _ hz, frozen_of_row _ _ _ _ _ hz, (h.big t ht h1).2⟩
  · rw [cell_of_row _ _ _ _ _ _ hz]; rfl
  · rw [cell_of_row _ _ _ _ _ _ hz]; rfl

/-- The beginning. -/
theorem RM.start (hT : l = Array.replicate (5 * k) false) (hb : Below W0.heap.size W0 w) : RM W0 T k s0 b0 lb sl vs gs l ⟨T, []⟩ w := by
  have hf : ∀ j, j < 5 * k → l.getD j true = false := fun j hj => by rw [hT]; simp [Array.getD, hj]
  refine ⟨by rw [hT]; simp, Fr.start _ _ _ (fun j i v h => hf i (by have := mOwn_lt h; simp only [] at this; omega)), hb, fun t ht h => ?_, fun t ht h => ?_, fun t ht h => ?_, fun t ht h => ?_, fun t ht h => ?_, fun t u ht hu hne h => ?_⟩
  · rw [hf _ (by omega)] at h; cases h
  · rw [hf _ (by omega)] at h; cases h
  · rw [hf _ (by omega)] at h; cases h
  · rw [hf _ (by omega)] at h; cases h
  · rw [hf _ (by omega)] at h; cases h
  · rw [hf _ (by omega)] at h; cases h

/-- The end: a box with its number. -/
theorem RM.bx (h : RM W0 T k s0 b0 lb sl vs gs l a w) {t : Nat} (ht : t < k) (h1 : l.getD (4 * k + t) true = true) : ∃ neg ao n cap z, vs t = .agg #[.bool neg, .slice ao n cap] ∧ Bx w (gs t) neg ao n cap z ∧ z.natAbs < 4294967296 ^ 6 := by
  obtain ⟨neg, ao, n, cap, e1, e2⟩ := h.full t ht h1
  obtain ⟨neg', ao', n', cap', z, q1, q2, q3⟩ := h.val t ht (h.dep t ht h1).2
  rw [e1] at q2
  exact ⟨neg, ao, n, cap, z, e1, ⟨e2, q2⟩, q3⟩
end

end Go.Proofs.YtdgmjmckeeeljaaGreatDoor

namespace Go.Proofs.YtdgmjmckeeeljaaGreatDoor
open Go.RowKit

theorem step2 {B : Nat} {w W W' : World} {o : Obj} (h : Hid (Below B w W)) (hB : Hid (B ≤ W.heap.size)) (hb : Below (W.alloc o).heap.size (W.alloc o) W') : Hid (Below B w W') ∧ Hid (B ≤ W'.heap.size) := step1 h hB (later hb)
theorem stepD {B : Nat} {w W W' : World} (h : Hid (Below B w W)) (hB : Hid (B ≤ W.heap.size)) (hb : Below W.drew.heap.size W.drew W') : Hid (Below B w W') ∧ Hid (B ≤ W'.heap.size) :=
  step1 h hB ((show Below W.heap.size W W.drew from ⟨rfl, rfl, rfl, Nat.le_refl _, fun _ _ => rfl⟩).trans hb)
theorem sets_getD (T : Array Value) (i j : Nat) (v : Value) : (T.setIfInBounds i v).getD j undef = if i = j ∧ i < T.size then v else T.getD j undef := by
  by_cases h : i = j
  · subst h
    by_cases h2 : i < T.size
    · simp [Array.getD, h2]
    · simp [Array.getD, h2]
  · rw [if_neg (fun e => h e.1)]
    simp only [Array.getD_eq_getD_getElem?]
    rw [Array.getElem?_setIfInBounds_ne h]

theorem fits_pow {z : Int} (k : Nat) (h : z.natAbs < 4294967296 ^ k) (hk : k ≤ 256) : fitsB z.natAbs = true :=
  decide_eq_true (Nat.le_trans (digs_length_le.2 h) hk)
theorem lt_mul {a b : Int} {i j : Nat} (ha : a.natAbs < 4294967296 ^ i) (hb : b.natAbs < 4294967296 ^ j) : (a * b).natAbs < 4294967296 ^ (i + j) := by
  rw [Int.natAbs_mul, Nat.pow_add]
  exact Nat.mul_lt_mul'' ha hb
theorem lt_add {a b : Int} {i : Nat} (ha : a.natAbs < 4294967296 ^ i) (hb : b.natAbs < 4294967296 ^ i) : (a + b).natAbs < 4294967296 ^ (i + 1) := by
  rw [Nat.pow_succ]
  omega
theorem lt_more {a : Int} {i j : Nat} (ha : a.natAbs < 4294967296 ^ i) (h : i ≤ j) : a.natAbs < 4294967296 ^ j := Nat.lt_of_lt_of_le ha (Nat.pow_le_pow_right (by decide) h)
theorem lt_pow {a : Int} (n : Nat) (hn : n ≤ 16) (ha : a.natAbs < 4294967296 ^ 6) : (a ^ n).natAbs < 4294967296 ^ 97 := by
  rw [Int.natAbs_pow]
  have h1 : a.natAbs ^ n ≤ (4294967296 ^ 6) ^ n := Nat.pow_le_pow_left (Nat.le_of_lt ha) n
  rw [← Nat.pow_mul] at h1
  have h2 : 4294967296 ^ (6 * n) < 4294967296 ^ 97 := Nat.pow_lt_pow_right (by decide) (by omega)
  omega

theorem add_fit {w : World} {x y : Value} {a b : Int} (z : Int) (hx : Nu w x a) (hy : Nu w y b) (hz : a + b = z) (hf : fitsB z.natAbs = true) : Calls Tryz.prog 28 #[x, y] w (YesN w z) := by
  subst hz; exact (add_any hx hy).mono fun _ _ h => h.yes hf
theorem sub_fit {w : World} {x y : Value} {a b : Int} (z : Int) (hx : Nu w x a) (hy : Nu w y b) (hz : a - b = z) (hf : fitsB z.natAbs = true) : Calls Tryz.prog 29 #[x, y] w (YesN w z) := by
  subst hz; exact (sub_any hx hy).mono fun _ _ h => h.yes hf
theorem mul_fit {w : World} {x y : Value} {a b : Int} (z : Int) (hx : Nu w x a) (hy : Nu w y b) (hz : a * b = z) (hf : fitsB z.natAbs = true) : Calls Tryz.prog 30 #[x, y] w (YesN w z) := by
  subst hz; exact (mul_any hx hy).mono fun _ _ h => h.yes hf
theorem pow_fit {w : World} {x : Value} {a : Int} (z : Int) (n : Nat) (hx : Nu w x a) (hn : n < 9223372036854775808) (hz : a ^ n = z) (hf : fitsB z.natAbs = true) : Calls Tryz.prog 20 #[x, .int .i64 n] w (YesN w z) := by
  subst hz; exact (pow_any hx n hn).mono fun _ _ h => h.yes hf
theorem same_yes {w : World} {x y : Value} {a b : Int} (hx : Nu w x a) (hy : Nu w y b) (h : a = b) : Calls Tryz.prog 19 #[x, y] w (SameRes w true) := by
  have := same_nu hx hy
  rwa [decide_eq_true h] at this

/-- A box that holds 0. -/
theorem Bx.zero {W : World} {g : Nat} {neg : Bool} {ao : Option Addr} {n cap : Nat} (h : Bx W g neg ao n cap 0) : neg = false ∧ n = 0 := by
  obtain ⟨s, e, hs, _⟩ := h.nu
  injection e with e
  simp only [Array.mk.injEq, List.cons.injEq, Value.bool.injEq, and_true] at e
  obtain ⟨rfl, rfl⟩ := e
  have := hs.size
  rw [show digs (Int.natAbs 0) = [] from digs_zero] at this
  exact ⟨rfl, by simpa using this⟩

theorem Li.below {w w' : World} {v : Value} {zs : List Int} (h : Li w v zs) (hb : Below w.heap.size w w') : Li w' v zs := by
  obtain ⟨ao, cap, h1, h2, h3, h4⟩ := h
  refine ⟨ao, cap, h1, h2, h3, fun hn => ?_⟩
  obtain ⟨b, off, e, hc⟩ := h4 hn
  exact ⟨b, off, e, fun j hj => cell_later hb (hc j hj)⟩

/-- What Made returns, its parts named. -/
theorem made_parts {w : World} {v : Value} {zs : List Int} (h : Li w v zs) :
    Calls Tryz.prog 11 #[v] w fun e w' => ∃ neg ao n cap z, e = .returned (.agg #[.bool neg, .slice ao n cap]) ∧ Nu w' (.agg #[.bool neg, .slice ao n cap]) z ∧ z.natAbs < 4294967296 ^ 6 ∧ Below w.heap.size w w' :=
  (made11_any h).mono fun _ _ ⟨x, z, he, hn, hl, hb⟩ => by
    obtain ⟨s, rfl, hs, hl2⟩ := hn
    obtain ⟨ao, cap, rfl⟩ := hs.mk'
    exact ⟨_, ao, _, cap, z, he, ⟨_, rfl, hs, hl2⟩, digs_length_le.1 hl, hb⟩

set_option maxRecDepth 10000 in
set_option maxHeartbeats 8000000 in
theorem ring_any {w : World} {s0 s1 s2 : Option Addr} {n0 n1 n2 c0 c1 c2 : Nat} {z0 z1 z2 : List Int} (h0 : Li w (.slice s0 n0 c0) z0) (h1 : Li w (.slice s1 n1 c1) z1) (h2 : Li w (.slice s2 n2 c2) z2) (e0 e1 : UInt8) (htab : ∀ W, Below w.heap.size w W → Tab W) :
    Calls Tryz.prog 7 #[.agg #[.slice s0 n0 c0, .slice s1 n1 c1, .slice s2 n2 c2], .agg #[.int .u8 e0.toNat, .int .u8 e1.toNat]] w fun e w' => e = .returned (.bool true) ∧ Below w.heap.size w w' := by
  have he0 := e0.toNat_lt
  have he1 := e1.toNat_lt
  obtain ⟨E0, hE0⟩ : ∃ E0 : Nat, E0 = e0.toNat := ⟨_, rfl⟩
  obtain ⟨E1, hE1⟩ : ∃ E1 : Nat, E1 = e1.toNat := ⟨_, rfl⟩
  rw [← hE0] at he0 ⊢
  rw [← hE1] at he1 ⊢
  have HM0 := Lib.hid (fun W (hb : Below w.heap.size w W) => made_parts (h0.below hb))
  have HM1 := Lib.hid (fun W (hb : Below w.heap.size w W) => made_parts (h1.below hb))
  have HM2 := Lib.hid (fun W (hb : Below w.heap.size w W) => made_parts (h2.below hb))
  have HSA : Hid (∀ W, Below w.heap.size w W → Calls Tryz.prog 10 #[] W fun e w' => e = .returned (.bool true) ∧ Below W.heap.size W w') := Lib.hid (fun W hb => sanity_any W (fun W' hb' => htab W' (hb.trans (hb'.mono hb.size))))
  have HW : Hid (Below w.heap.size w w) := Lib.hid (Below.refl _ _)
  have HZ : Hid (w.heap.size ≤ w.heap.size) := Lib.hid (Nat.le_refl _)
  clear hE0 hE1 h0 h1 h2 htab
  go_enter Tryz.func7, Tryz.ntmps7
  go_upto_region 1 with fail
  obtain ⟨W, hW⟩ : ∃ W, W = (w.alloc (.cells #[.slice s0 n0 c0, .slice s1 n1 c1, .slice s2 n2 c2] 52)).alloc (.cells #[.int .u8 E0, .int .u8 E1] 53) := ⟨_, rfl⟩
  have hb : Below w.heap.size w W := by rw [hW]; exact (alloc_b _ _).trans ((alloc_b _ _).mono (alloc_b _ _).size)
  have r0 : W.heap[w.heap.size]? = some (.cells #[.slice s0 n0 c0, .slice s1 n1 c1, .slice s2 n2 c2] 52 (0, 0)) := by
    rw [hW, Below.heap_alloc _ _ _ (by simp)]; exact heap_alloc_new _ _
  have r1 : W.heap[w.heap.size + 1]? = some (.cells #[.int .u8 E0, .int .u8 E1] 53 (0, 0)) := by
    rw [hW]
    have := heap_alloc_new (w.alloc (.cells #[.slice s0 n0 c0, .slice s1 n1 c1, .slice s2 n2 c2] 52)) (.cells #[.int .u8 E0, .int .u8 E1] 53)
    rw [World.size_alloc] at this
    exact this
  have HBL : Hid (∀ W', Below W.heap.size W W' → (W'.cell? ⟨w.heap.size, 0, none⟩ = some (.slice s0 n0 c0) ∧ W'.cell? ⟨w.heap.size, 1, none⟩ = some (.slice s1 n1 c1) ∧ W'.cell? ⟨w.heap.size, 2, none⟩ = some (.slice s2 n2 c2)) ∧ W'.cell? ⟨w.heap.size + 1, 0, none⟩ = some (.int .u8 E0) ∧ W'.cell? ⟨w.heap.size + 1, 1, none⟩ = some (.int .u8 E1)) := Lib.hid (fun W' h => by
    have q0 := (h.block _ (Array.getElem?_eq_some_iff.1 r0).1).trans r0
    have q1 := (h.block _ (Array.getElem?_eq_some_iff.1 r1).1).trans r1
    exact ⟨⟨by rw [cell_of_row _ _ _ _ _ _ q0]; rfl, by rw [cell_of_row _ _ _ _ _ _ q0]; rfl, by rw [cell_of_row _ _ _ _ _ _ q0]; rfl⟩, by rw [cell_of_row _ _ _ _ _ _ q1]; rfl, by rw [cell_of_row _ _ _ _ _ _ q1]; rfl⟩)
  have HWW := step1 HW HZ hb
  have HW := HWW.1
  have HZ := HWW.2
  have HD : Hid (Below W.heap.size W W) := Lib.hid (Below.refl _ _)
  have HE : Hid (W.heap.size ≤ W.heap.size) := Lib.hid (Nat.le_refl _)
  rw [← hW]
  clear hW hb HWW r0 r1
  go_upto_region 2 with (go_at_call 10; refine (HSA.out _ HW.out).mono ?_; rintro e wz ⟨rfl, hb⟩; have HWW := step1 HW HZ hb; have HW := HWW.1; have HZ := HWW.2; have HDD := step1 HD HE hb; have HD := HDD.1; have HE := HDD.2; clear HWW HDD hb)
  obtain ⟨k0, k1, k2⟩ := (HBL.out _ HD.out).1
  obtain ⟨W1, hW1⟩ : ∃ W1, W1 = wz := ⟨_, rfl⟩
  obtain ⟨T, hT⟩ : ∃ T : Array Value, T = #[.agg #[.slice s0 n0 c0, .slice s1 n1 c1, .slice s2 n2 c2], .agg #[.int .u8 (E0 : Nat), .int .u8 (E1 : Nat)], .pointer (some ⟨w.heap.size, 0, none⟩), .pointer (some ⟨w.heap.size + 1, 0, none⟩), .bool false, .bool true, undef, undef, undef, undef, undef, undef, undef, undef, undef, undef, undef, undef, undef, undef, undef, undef, undef, undef, undef, undef, undef, undef, undef, undef, undef, undef, undef, undef, undef, .bool true, undef, undef, undef, undef, undef, undef, undef, undef, undef, undef, undef, undef, undef, undef, undef, undef, undef, undef, undef, undef, undef, undef, undef, undef, undef, undef, undef, undef, undef, undef, undef, undef, undef, undef, undef, undef, undef, undef, undef, undef, undef, undef, undef, undef, undef, undef, undef, undef, undef, undef, undef, undef, undef, undef, undef, undef, undef, undef, undef, undef, undef, undef, undef, undef, undef, undef, undef, undef, undef, undef, undef, undef, undef, undef, undef, undef, undef, undef, undef, undef, undef, undef, undef, undef, undef, undef, undef, undef, undef, undef, undef, undef, undef, undef, undef, undef, undef, undef, undef, undef, undef, undef, undef, undef, undef, undef, undef, undef, undef, undef, undef, undef, undef, undef, undef, undef, undef, undef, undef, undef, undef, undef, undef, undef, undef, undef, undef, undef, undef, undef, undef, undef, undef, undef, undef, undef, undef, undef, undef, undef, undef, undef, undef, undef, undef, undef, undef, undef, undef, undef, undef, undef, undef, undef, undef, undef, undef, undef, undef, undef, undef, undef, undef, undef, undef, undef, undef] := ⟨_, rfl⟩
  rw [← hT]
  refine regionP_inv (by kernel_rfl) (fun l a w' => ∃ vs gs, RM wz T 3 36 6 w.heap.size (fun t => if t = 0 then .slice s0 n0 c0 else if t = 1 then .slice s1 n1 c1 else .slice s2 n2 c2) vs gs l a w') ?h0 ?step ?fin
  case h0 => exact ⟨fun _ => undef, fun _ => 0, RM.start rfl (show Below wz.heap.size wz wz.drew from ⟨rfl, rfl, rfl, Nat.le_refl _, fun _ _ => rfl⟩)⟩
  case step =>
      rintro l a w' i' ⟨vs, gs, hR⟩ hi'
      obtain ⟨hl0, o, ho, hdep⟩ := mem_ready.1 hi'
      have h15 : i' < 15 := by
        have := (Array.getElem?_eq_some_iff.1 ho).1
        simpa using this
      have hbw : Below w.heap.size w w' := HW.out.trans (hR.bl.mono HZ.out)
      obtain ⟨y0, y1, y2⟩ := (HBL.out _ (HD.out.trans (hR.bl.mono HE.out))).1
      rcases (show i' = 0 ∨ i' = 1 ∨ i' = 2 ∨ i' = 3 ∨ i' = 4 ∨ i' = 5 ∨ i' = 6 ∨ i' = 7 ∨ i' = 8 ∨ i' = 9 ∨ i' = 10 ∨ i' = 11 ∨ i' = 12 ∨ i' = 13 ∨ i' = 14 by omega) with rfl | rfl | rfl | rfl | rfl | rfl | rfl | rfl | rfl | rfl | rfl | rfl | rfl | rfl | rfl
      · simp at ho
        subst ho
        simp [Region.binds] at hdep
        have k2 : a.tmps.getD 2 undef = .pointer (some ⟨w.heap.size, 0, none⟩) := (hR.fr.kept rfl (by simp [hT])).trans (by rw [hT]; rfl)
        clear hi' hdep hl0
        unfold wpOp
        simp [Region.wanted]
        refine .inl ?_
        unfold Oper.wp
        simp [execOp, go_sem, Act.eval, k2]
        exact ⟨vs, gs, hR.plain (by omega) (by omega) rfl rfl⟩
      · simp at ho
        subst ho
        simp [Region.binds] at hdep
        have k3 : a.tmps.getD 36 undef = .pointer (some ⟨w.heap.size, 0, none⟩) := hR.fr.done (i := 0) rfl (by simp_all) (by simp [hT])
        clear hi' hdep hl0
        unfold wpOp
        simp [Region.wanted]
        refine .inl ?_
        unfold Oper.wp
        simp [execOp, go_sem, Act.eval, k3, y0]
        exact ⟨vs, gs, hR.plain (by omega) (by omega) rfl rfl⟩
      · simp at ho
        subst ho
        simp [Region.binds] at hdep
        have k4 : a.tmps.getD 37 undef = .slice s0 n0 c0 := hR.fr.done (i := 1) rfl (by simp_all) (by simp [hT])
        clear hi' hdep
        unfold wpOp
        simp [Region.wanted]
        refine .inl ?_
        unfold Oper.wp
        simp [execOp, go_sem, Act.eval, k4]
        refine (HM0.out w' hbw).mono ?_
        rintro e w'' ⟨neg, ao, n, cap, z, rfl, hn, hA, hb⟩
        exact ⟨_, gs, hR.call (t := 0) (by omega) hl0 rfl (.inr (by omega)) ⟨neg, ao, n, cap, z, rfl, hn, hA⟩ hb⟩
      · simp at ho
        subst ho
        simp [Region.binds] at hdep
        have k2 : a.tmps.getD 2 undef = .pointer (some ⟨w.heap.size, 0, none⟩) := (hR.fr.kept rfl (by simp [hT])).trans (by rw [hT]; rfl)
        clear hi' hdep hl0
        unfold wpOp
        simp [Region.wanted]
        refine .inl ?_
        unfold Oper.wp
        simp [execOp, go_sem, Act.eval, k2]
        exact ⟨vs, gs, hR.plain (by omega) (by omega) rfl rfl⟩
      · simp at ho
        subst ho
        simp [Region.binds] at hdep
        have k3 : a.tmps.getD 39 undef = .pointer (some ⟨w.heap.size, 1, none⟩) := hR.fr.done (i := 3) rfl (by simp_all) (by simp [hT])
        clear hi' hdep hl0
        unfold wpOp
        simp [Region.wanted]
        refine .inl ?_
        unfold Oper.wp
        simp [execOp, go_sem, Act.eval, k3, y1]
        exact ⟨vs, gs, hR.plain (by omega) (by omega) rfl rfl⟩
      · simp at ho
        subst ho
        simp [Region.binds] at hdep
        have k4 : a.tmps.getD 40 undef = .slice s1 n1 c1 := hR.fr.done (i := 4) rfl (by simp_all) (by simp [hT])
        clear hi' hdep
        unfold wpOp
        simp [Region.wanted]
        refine .inl ?_
        unfold Oper.wp
        simp [execOp, go_sem, Act.eval, k4]
        refine (HM1.out w' hbw).mono ?_
        rintro e w'' ⟨neg, ao, n, cap, z, rfl, hn, hA, hb⟩
        exact ⟨_, gs, hR.call (t := 1) (by omega) hl0 rfl (.inr (by omega)) ⟨neg, ao, n, cap, z, rfl, hn, hA⟩ hb⟩
      · simp at ho
        subst ho
        simp [Region.binds] at hdep
        have k2 : a.tmps.getD 2 undef = .pointer (some ⟨w.heap.size, 0, none⟩) := (hR.fr.kept rfl (by simp [hT])).trans (by rw [hT]; rfl)
        clear hi' hdep hl0
        unfold wpOp
        simp [Region.wanted]
        refine .inl ?_
        unfold Oper.wp
        simp [execOp, go_sem, Act.eval, k2]
        exact ⟨vs, gs, hR.plain (by omega) (by omega) rfl rfl⟩
      · simp at ho
        subst ho
        simp [Region.binds] at hdep
        have k3 : a.tmps.getD 42 undef = .pointer (some ⟨w.heap.size, 2, none⟩) := hR.fr.done (i := 6) rfl (by simp_all) (by simp [hT])
        clear hi' hdep hl0
        unfold wpOp
        simp [Region.wanted]
        refine .inl ?_
        unfold Oper.wp
        simp [execOp, go_sem, Act.eval, k3, y2]
        exact ⟨vs, gs, hR.plain (by omega) (by omega) rfl rfl⟩
      · simp at ho
        subst ho
        simp [Region.binds] at hdep
        have k4 : a.tmps.getD 43 undef = .slice s2 n2 c2 := hR.fr.done (i := 7) rfl (by simp_all) (by simp [hT])
        clear hi' hdep
        unfold wpOp
        simp [Region.wanted]
        refine .inl ?_
        unfold Oper.wp
        simp [execOp, go_sem, Act.eval, k4]
        refine (HM2.out w' hbw).mono ?_
        rintro e w'' ⟨neg, ao, n, cap, z, rfl, hn, hA, hb⟩
        exact ⟨_, gs, hR.call (t := 2) (by omega) hl0 rfl (.inr (by omega)) ⟨neg, ao, n, cap, z, rfl, hn, hA⟩ hb⟩
      · simp at ho
        subst ho
        simp [Region.binds] at hdep
        clear hi' hdep
        unfold wpOp
        simp [Region.wanted]
        refine .inl ?_
        unfold Oper.wp
        simp [execOp, go_sem, Act.eval]
        exact ⟨vs, _, hR.alloc (t := 0) (by omega) hl0 rfl (.inr (by omega))⟩
      · simp at ho
        subst ho
        simp [Region.binds] at hdep
        clear hi' hdep
        unfold wpOp
        simp [Region.wanted]
        refine .inl ?_
        unfold Oper.wp
        simp [execOp, go_sem, Act.eval]
        exact ⟨vs, _, hR.alloc (t := 1) (by omega) hl0 rfl (.inr (by omega))⟩
      · simp at ho
        subst ho
        simp [Region.binds] at hdep
        clear hi' hdep
        unfold wpOp
        simp [Region.wanted]
        refine .inl ?_
        unfold Oper.wp
        simp [execOp, go_sem, Act.eval]
        exact ⟨vs, _, hR.alloc (t := 2) (by omega) hl0 rfl (.inr (by omega))⟩
      · simp at ho
        subst ho
        simp [Region.binds] at hdep
        have j1 : l.getD 9 true = true := getD_true (by simp_all)
        have j2 : l.getD 2 true = true := getD_true (by simp_all)
        have k5 : a.tmps.getD 6 undef = .pointer (some ⟨gs 0, 0, none⟩) := hR.fr.done (i := 9) rfl (by simp_all) (by simp [hT])
        have k6 : a.tmps.getD 38 undef = vs 0 := hR.fr.done (i := 2) rfl (by simp_all) (by simp [hT])
        obtain ⟨neg, ao, n, cap, z, ev, _⟩ := hR.val 0 (by omega) j2
        rw [ev] at k6
        obtain ⟨x0, x1, x2, x3, x4⟩ := hR.ready (t := 0) (by omega) hl0 j1
        clear hi' hdep
        unfold wpOp
        simp [Region.wanted]
        refine .inl ?_
        unfold Oper.wp
        simp [execOp, go_sem, Act.eval, k5, k6, x0, x1, x2, x3, x4]
        exact ⟨vs, gs, hR.store (t := 0) (by omega) hl0 j1 j2 ev undef⟩
      · simp at ho
        subst ho
        simp [Region.binds] at hdep
        have j1 : l.getD 10 true = true := getD_true (by simp_all)
        have j2 : l.getD 5 true = true := getD_true (by simp_all)
        have k5 : a.tmps.getD 7 undef = .pointer (some ⟨gs 1, 0, none⟩) := hR.fr.done (i := 10) rfl (by simp_all) (by simp [hT])
        have k6 : a.tmps.getD 41 undef = vs 1 := hR.fr.done (i := 5) rfl (by simp_all) (by simp [hT])
        obtain ⟨neg, ao, n, cap, z, ev, _⟩ := hR.val 1 (by omega) j2
        rw [ev] at k6
        obtain ⟨x0, x1, x2, x3, x4⟩ := hR.ready (t := 1) (by omega) hl0 j1
        clear hi' hdep
        unfold wpOp
        simp [Region.wanted]
        refine .inl ?_
        unfold Oper.wp
        simp [execOp, go_sem, Act.eval, k5, k6, x0, x1, x2, x3, x4]
        exact ⟨vs, gs, hR.store (t := 1) (by omega) hl0 j1 j2 ev undef⟩
      · simp at ho
        subst ho
        simp [Region.binds] at hdep
        have j1 : l.getD 11 true = true := getD_true (by simp_all)
        have j2 : l.getD 8 true = true := getD_true (by simp_all)
        have k5 : a.tmps.getD 8 undef = .pointer (some ⟨gs 2, 0, none⟩) := hR.fr.done (i := 11) rfl (by simp_all) (by simp [hT])
        have k6 : a.tmps.getD 44 undef = vs 2 := hR.fr.done (i := 8) rfl (by simp_all) (by simp [hT])
        obtain ⟨neg, ao, n, cap, z, ev, _⟩ := hR.val 2 (by omega) j2
        rw [ev] at k6
        obtain ⟨x0, x1, x2, x3, x4⟩ := hR.ready (t := 2) (by omega) hl0 j1
        clear hi' hdep
        unfold wpOp
        simp [Region.wanted]
        refine .inl ?_
        unfold Oper.wp
        simp [execOp, go_sem, Act.eval, k5, k6, x0, x1, x2, x3, x4]
        exact ⟨vs, gs, hR.store (t := 2) (by omega) hl0 j1 j2 ev undef⟩
  case' fin =>
      rintro l a W ⟨vs, gs, hR⟩ hz
      have hnot := List.eq_nil_iff_forall_not_mem.1 hz
      have hk : ∀ k, k < 15 → (l.getD k true = false → False) → l.getD k false = true := fun k h12 h => by
        have hs := hR.size
        cases h' : l.getD k true with
        | false => exact (h h').elim
        | true => simp [Array.getD, hs, h12] at h' ⊢; exact h'
      have st0 := hk 0 (by omega) (fun h => hnot 0 (mem_ready.2 ⟨h, _, rfl, by simp [Region.binds]⟩))
      have st1 := hk 1 (by omega) (fun h => hnot 1 (mem_ready.2 ⟨h, _, rfl, by simp [Region.binds]; simp_all⟩))
      have st2 := hk 2 (by omega) (fun h => hnot 2 (mem_ready.2 ⟨h, _, rfl, by simp [Region.binds]; simp_all⟩))
      have st3 := hk 3 (by omega) (fun h => hnot 3 (mem_ready.2 ⟨h, _, rfl, by simp [Region.binds]⟩))
      have st4 := hk 4 (by omega) (fun h => hnot 4 (mem_ready.2 ⟨h, _, rfl, by simp [Region.binds]; simp_all⟩))
      have st5 := hk 5 (by omega) (fun h => hnot 5 (mem_ready.2 ⟨h, _, rfl, by simp [Region.binds]; simp_all⟩))
      have st6 := hk 6 (by omega) (fun h => hnot 6 (mem_ready.2 ⟨h, _, rfl, by simp [Region.binds]⟩))
      have st7 := hk 7 (by omega) (fun h => hnot 7 (mem_ready.2 ⟨h, _, rfl, by simp [Region.binds]; simp_all⟩))
      have st8 := hk 8 (by omega) (fun h => hnot 8 (mem_ready.2 ⟨h, _, rfl, by simp [Region.binds]; simp_all⟩))
      have st9 := hk 9 (by omega) (fun h => hnot 9 (mem_ready.2 ⟨h, _, rfl, by simp [Region.binds]⟩))
      have st10 := hk 10 (by omega) (fun h => hnot 10 (mem_ready.2 ⟨h, _, rfl, by simp [Region.binds]⟩))
      have st11 := hk 11 (by omega) (fun h => hnot 11 (mem_ready.2 ⟨h, _, rfl, by simp [Region.binds]⟩))
      have st12 := hk 12 (by omega) (fun h => hnot 12 (mem_ready.2 ⟨h, _, rfl, by simp [Region.binds]; simp_all⟩))
      have st13 := hk 13 (by omega) (fun h => hnot 13 (mem_ready.2 ⟨h, _, rfl, by simp [Region.binds]; simp_all⟩))
      have st14 := hk 14 (by omega) (fun h => hnot 14 (mem_ready.2 ⟨h, _, rfl, by simp [Region.binds]; simp_all⟩))
      have hall : ∀ i, i < 15 → l.getD i true = true := fun i hi => by
        rcases (show i = 0 ∨ i = 1 ∨ i = 2 ∨ i = 3 ∨ i = 4 ∨ i = 5 ∨ i = 6 ∨ i = 7 ∨ i = 8 ∨ i = 9 ∨ i = 10 ∨ i = 11 ∨ i = 12 ∨ i = 13 ∨ i = 14 by omega) with rfl | rfl | rfl | rfl | rfl | rfl | rfl | rfl | rfl | rfl | rfl | rfl | rfl | rfl | rfl
        · exact getD_true st0
        · exact getD_true st1
        · exact getD_true st2
        · exact getD_true st3
        · exact getD_true st4
        · exact getD_true st5
        · exact getD_true st6
        · exact getD_true st7
        · exact getD_true st8
        · exact getD_true st9
        · exact getD_true st10
        · exact getD_true st11
        · exact getD_true st12
        · exact getD_true st13
        · exact getD_true st14
      clear st0 st1 st2 st3 st4 st5 st6 st7 st8 st9 st10 st11 st12 st13 st14 hk hnot hz
      obtain ⟨n6, a6, l6, c6, A, ev0, B6, HA⟩ := hR.bx (t := 0) (by omega) (hall 12 (by omega))
      obtain ⟨n7, a7, l7, c7, B, ev1, B7, HB⟩ := hR.bx (t := 1) (by omega) (hall 13 (by omega))
      obtain ⟨n8, a8, l8, c8, C, ev2, B8, HC⟩ := hR.bx (t := 2) (by omega) (hall 14 (by omega))
      have hTs : T.size = 203 := by rw [hT]; rfl
      have ha : a = ⟨((((((((((((T.setIfInBounds 36 (.pointer (some ⟨w.heap.size, 0, none⟩))).setIfInBounds 37 (.slice s0 n0 c0)).setIfInBounds 38 (vs 0)).setIfInBounds 39 (.pointer (some ⟨w.heap.size, 1, none⟩))).setIfInBounds 40 (.slice s1 n1 c1)).setIfInBounds 41 (vs 1)).setIfInBounds 42 (.pointer (some ⟨w.heap.size, 2, none⟩))).setIfInBounds 43 (.slice s2 n2 c2)).setIfInBounds 44 (vs 2)).setIfInBounds 6 (.pointer (some ⟨gs 0, 0, none⟩))).setIfInBounds 7 (.pointer (some ⟨gs 1, 0, none⟩))).setIfInBounds 8 (.pointer (some ⟨gs 2, 0, none⟩))), []⟩ := by
        refine hR.fr.all (fun j i v h => hall i (by have := mOwn_lt h; simp only [] at this; omega)) (by simp) (fun j hj => ?_)
        by_cases h1 : 36 ≤ j ∧ j < 45
        · rcases (show j = 36 ∨ j = 37 ∨ j = 38 ∨ j = 39 ∨ j = 40 ∨ j = 41 ∨ j = 42 ∨ j = 43 ∨ j = 44 by omega) with rfl | rfl | rfl | rfl | rfl | rfl | rfl | rfl | rfl <;> simp [sets_getD, mOwn, hTs]
        · by_cases h2 : 6 ≤ j ∧ j < 9
          · rcases (show j = 6 ∨ j = 7 ∨ j = 8 by omega) with rfl | rfl | rfl <;> simp [sets_getD, mOwn, hTs]
          · have e : mOwn 3 36 6 w.heap.size (fun t => if t = 0 then .slice s0 n0 c0 else if t = 1 then .slice s1 n1 c1 else .slice s2 n2 c2) vs gs j = none := by
              unfold mOwn
              rw [if_neg (by omega), if_neg (by omega)]
            rw [e]
            simp only [sets_getD]
            repeat rw [if_neg (by omega)]
      have hbl := hR.bl
      clear hR hall
      rw [ev0, ev1, ev2] at ha
      obtain ⟨g6, hg6⟩ : ∃ g6, g6 = gs 0 := ⟨_, rfl⟩
      obtain ⟨g7, hg7⟩ : ∃ g7, g7 = gs 1 := ⟨_, rfl⟩
      obtain ⟨g8, hg8⟩ : ∃ g8, g8 = gs 2 := ⟨_, rfl⟩
      rw [← hg6] at ha B6
      rw [← hg7] at ha B7
      rw [← hg8] at ha B8
      have ha2 : a = ⟨#[.agg #[.slice s0 n0 c0, .slice s1 n1 c1, .slice s2 n2 c2], .agg #[.int .u8 (E0 : Nat), .int .u8 (E1 : Nat)], .pointer (some ⟨w.heap.size, 0, none⟩), .pointer (some ⟨w.heap.size + 1, 0, none⟩), .bool false, .bool true, .pointer (some ⟨g6, 0, none⟩), .pointer (some ⟨g7, 0, none⟩), .pointer (some ⟨g8, 0, none⟩), undef, undef, undef, undef, undef, undef, undef, undef, undef, undef, undef, undef, undef, undef, undef, undef, undef, undef, undef, undef, undef, undef, undef, undef, undef, undef, .bool true, .pointer (some ⟨w.heap.size, 0, none⟩), .slice s0 n0 c0, .agg #[.bool n6, .slice a6 l6 c6], .pointer (some ⟨w.heap.size, 1, none⟩), .slice s1 n1 c1, .agg #[.bool n7, .slice a7 l7 c7], .pointer (some ⟨w.heap.size, 2, none⟩), .slice s2 n2 c2, .agg #[.bool n8, .slice a8 l8 c8], undef, undef, undef, undef, undef, undef, undef, undef, undef, undef, undef, undef, undef, undef, undef, undef, undef, undef, undef, undef, undef, undef, undef, undef, undef, undef, undef, undef, undef, undef, undef, undef, undef, undef, undef, undef, undef, undef, undef, undef, undef, undef, undef, undef, undef, undef, undef, undef, undef, undef, undef, undef, undef, undef, undef, undef, undef, undef, undef, undef, undef, undef, undef, undef, undef, undef, undef, undef, undef, undef, undef, undef, undef, undef, undef, undef, undef, undef, undef, undef, undef, undef, undef, undef, undef, undef, undef, undef, undef, undef, undef, undef, undef, undef, undef, undef, undef, undef, undef, undef, undef, undef, undef, undef, undef, undef, undef, undef, undef, undef, undef, undef, undef, undef, undef, undef, undef, undef, undef, undef, undef, undef, undef, undef, undef, undef, undef, undef, undef, undef, undef, undef, undef, undef, undef, undef, undef, undef, undef, undef, undef, undef, undef, undef, undef, undef, undef, undef, undef, undef, undef, undef, undef, undef, undef, undef, undef, undef], []⟩ := by
        rw [ha, hT]
        simp only [List.setIfInBounds_toArray, List.set_cons_succ, List.set_cons_zero]
      subst ha2
      have B6 := Lib.hid B6
      have B7 := Lib.hid B7
      have B8 := Lib.hid B8
      have HA := Lib.hid HA
      have HB := Lib.hid HB
      have HC := Lib.hid HC
      have HWW := step1 HW HZ hbl
      have HDD := step1 HD HE hbl
      have HW := HWW.1
      have HZ := HWW.2
      have HD := HDD.1
      have HE := HDD.2
      clear HWW HDD hbl ha hT hTs ev0 ev1 ev2 hg6 hg7 hg8 vs gs k0 k1 k2 hW1
  obtain ⟨S, hS⟩ : ∃ S, S = A + B := ⟨_, rfl⟩
  obtain ⟨M, hM⟩ : ∃ M, M = S * C := ⟨_, rfl⟩
  obtain ⟨X, hX⟩ : ∃ X, X = C * A := ⟨_, rfl⟩
  obtain ⟨Y, hY⟩ : ∃ Y, Y = B * C := ⟨_, rfl⟩
  have dS := lt_add HA.out HB.out
  rw [← hS] at dS
  have dM := lt_mul dS HC.out
  rw [← hM] at dM
  have dX := lt_mul HC.out HA.out
  rw [← hX] at dX
  have dY := lt_mul HB.out HC.out
  rw [← hY] at dY
  have hMXY : X + Y = M := by rw [hM, hS, hX, hY, Int.add_mul, Int.mul_comm C A]
  have ES : Hid (A + B = S) := Lib.hid hS.symm
  have ES2 : Hid (B + A = S) := Lib.hid (by rw [hS]; omega)
  have EM : Hid (S * C = M) := Lib.hid hM.symm
  have EX : Hid (C * A = X) := Lib.hid hX.symm
  have EY : Hid (B * C = Y) := Lib.hid hY.symm
  have ER : Hid (X + Y = M) := Lib.hid hMXY
  have EA : Hid (S - B = A) := Lib.hid (by rw [hS]; omega)
  have EZ : Hid (M - M = 0) := Lib.hid (by omega)
  have FS := Lib.hid (fits_pow _ dS (by omega))
  have FM := Lib.hid (fits_pow _ dM (by omega))
  have FX := Lib.hid (fits_pow _ dX (by omega))
  have FY := Lib.hid (fits_pow _ dY (by omega))
  have FA := Lib.hid (fits_pow _ HA.out (by omega))
  have FZ := Lib.hid (fits_w (n := Int.natAbs 0) (by decide))
  obtain ⟨N0, hN0⟩ : ∃ N0, N0 = E0 % 9 := ⟨_, rfl⟩
  obtain ⟨N1, hN1⟩ : ∃ N1, N1 = E1 % 9 := ⟨_, rfl⟩
  have h08 : N0 ≤ 8 := by omega
  have h18 : N1 ≤ 8 := by omega
  obtain ⟨P0, hP0⟩ : ∃ P0, P0 = A ^ N0 := ⟨_, rfl⟩
  obtain ⟨P1, hP1⟩ : ∃ P1, P1 = A ^ N1 := ⟨_, rfl⟩
  obtain ⟨Q, hQ⟩ : ∃ Q, Q = A ^ (N0 + N1) := ⟨_, rfl⟩
  have FP0 : Hid (fitsB P0.natAbs = true) := Lib.hid (by rw [hP0]; exact fits_pow _ (lt_pow N0 (by omega) HA.out) (by omega))
  have FP1 : Hid (fitsB P1.natAbs = true) := Lib.hid (by rw [hP1]; exact fits_pow _ (lt_pow N1 (by omega) HA.out) (by omega))
  have FQ : Hid (fitsB Q.natAbs = true) := Lib.hid (by rw [hQ]; exact fits_pow _ (lt_pow (N0 + N1) (by omega) HA.out) (by omega))
  have EP0 : Hid (A ^ N0 = P0) := Lib.hid hP0.symm
  have EP1 : Hid (A ^ N1 = P1) := Lib.hid hP1.symm
  have EQ : Hid (P0 * P1 = Q) := Lib.hid (by rw [hP0, hP1, hQ, Int.pow_add])
  have HPW : Hid (∀ W x, Nu W x A → Calls Tryz.prog 20 #[x, .int .i64 ((N0 : Int) + (N1 : Int))] W (YesN W Q)) := Lib.hid (fun W x h => pow_fit Q (N0 + N1) h (by omega) hQ.symm FQ.out)
  have m0 : (E0 : Int) % 9 = (N0 : Nat) := by omega
  have m1 : (E1 : Int) % 9 = (N1 : Nat) := by omega
  have t0 : (E0 : Int).tmod 9 = (N0 : Nat) := by rw [Int.tmod_eq_emod_of_nonneg (by omega)]; exact m0
  have t1 : (E1 : Int).tmod 9 = (N1 : Nat) := by rw [Int.tmod_eq_emod_of_nonneg (by omega)]; exact m1
  have w0 : IntKind.i64.wrap (E0 : Int) = (E0 : Int) := by rw [IntKind.wrap_i64]; omega
  have w1 : IntKind.i64.wrap (E1 : Int) = (E1 : Int) := by rw [IntKind.wrap_i64]; omega
  have w2 : IntKind.i64.wrap (N0 : Int) = (N0 : Int) := by rw [IntKind.wrap_i64]; omega
  have w3 : IntKind.i64.wrap (N1 : Int) = (N1 : Int) := by rw [IntKind.wrap_i64]; omega
  clear hS hM hX hY hMXY dS dM dX dY hN0 hN1 hP0 hP1 hQ HA HB HC HM0 HM1 HM2 HSA
  have p6 := B6.out.c0
  have q6 := B6.out.c1
  have p7 := B7.out.c0
  have q7 := B7.out.c1
  go_upto_region 4 with (first | (go_at_call 28; refine (add_fit S B6.out.nu B7.out.nu ES.out FS.out).mono ?_; rintro e wz ⟨n9, a9, l9, c9, rfl, hn, hb⟩; (try have B6 := Lib.hid (B6.out.below hb)); (try have B7 := Lib.hid (B7.out.below hb)); (try have B8 := Lib.hid (B8.out.below hb)); have HWW := step1 HW HZ hb; have HW := HWW.1; have HZ := HWW.2; have HDD := step1 HD HE hb; have HD := HDD.1; have HE := HDD.2; clear HWW HDD; have NB := Lib.hid hn; clear hn; clear hb))
  obtain ⟨W, hW⟩ : ∃ W, W = wz.alloc (.cells #[.bool n9, .slice a9 l9 c9] 27) := ⟨_, rfl⟩
  obtain ⟨g9, hg⟩ : ∃ g, g = wz.heap.size := ⟨_, rfl⟩
  have hb : Below wz.heap.size wz W := by rw [hW]; exact alloc_b _ _
  have B9 : Hid (Bx W g9 n9 a9 l9 c9 S) := Lib.hid (by rw [hW, hg]; exact bx_new NB.out)
  rw [← hW]
  rw [← hg]
  clear hW hg NB
  have B6 := Lib.hid (B6.out.below hb)
  have B7 := Lib.hid (B7.out.below hb)
  have B8 := Lib.hid (B8.out.below hb)
  have HWW := step1 HW HZ hb
  have HW := HWW.1
  have HZ := HWW.2
  have HDD := step1 HD HE hb
  have HD := HDD.1
  have HE := HDD.2
  clear HWW HDD hb 
  clear p6 q6 p7 q7
  have p7 := B7.out.c0
  have q7 := B7.out.c1
  have p6 := B6.out.c0
  have q6 := B6.out.c1
  go_upto_region 5 with (first | (go_at_call 28; refine (add_fit S B7.out.nu B6.out.nu ES2.out FS.out).mono ?_; rintro e wz ⟨n11, a11, l11, c11, rfl, hn, hb⟩; (try have B6 := Lib.hid (B6.out.below hb)); (try have B7 := Lib.hid (B7.out.below hb)); (try have B8 := Lib.hid (B8.out.below hb)); (try have B9 := Lib.hid (B9.out.below hb)); have HWW := step1 HW HZ hb; have HW := HWW.1; have HZ := HWW.2; have HDD := step1 HD HE hb; have HD := HDD.1; have HE := HDD.2; clear HWW HDD; have NB := Lib.hid hn; clear hn; clear hb))
  obtain ⟨W, hW⟩ : ∃ W, W = wz.alloc (.cells #[.bool n11, .slice a11 l11 c11] 27) := ⟨_, rfl⟩
  obtain ⟨g11, hg⟩ : ∃ g, g = wz.heap.size := ⟨_, rfl⟩
  have hb : Below wz.heap.size wz W := by rw [hW]; exact alloc_b _ _
  have B11 : Hid (Bx W g11 n11 a11 l11 c11 S) := Lib.hid (by rw [hW, hg]; exact bx_new NB.out)
  rw [← hW]
  rw [← hg]
  clear hW hg NB
  have B6 := Lib.hid (B6.out.below hb)
  have B7 := Lib.hid (B7.out.below hb)
  have B8 := Lib.hid (B8.out.below hb)
  have B9 := Lib.hid (B9.out.below hb)
  have HWW := step1 HW HZ hb
  have HW := HWW.1
  have HZ := HWW.2
  have HDD := step1 HD HE hb
  have HD := HDD.1
  have HE := HDD.2
  clear HWW HDD hb 
  clear p7 q7 p6 q6
  have p9 := B9.out.c0
  have q9 := B9.out.c1
  have p8 := B8.out.c0
  have q8 := B8.out.c1
  go_upto_region 6 with (first | (go_at_call 30; refine (mul_fit M B9.out.nu B8.out.nu EM.out FM.out).mono ?_; rintro e wz ⟨n13, a13, l13, c13, rfl, hn, hb⟩; (try have B6 := Lib.hid (B6.out.below hb)); (try have B7 := Lib.hid (B7.out.below hb)); (try have B8 := Lib.hid (B8.out.below hb)); (try have B9 := Lib.hid (B9.out.below hb)); (try have B11 := Lib.hid (B11.out.below hb)); have HWW := step1 HW HZ hb; have HW := HWW.1; have HZ := HWW.2; have HDD := step1 HD HE hb; have HD := HDD.1; have HE := HDD.2; clear HWW HDD; have NB := Lib.hid hn; clear hn; clear hb))
  obtain ⟨W, hW⟩ : ∃ W, W = wz.alloc (.cells #[.bool n13, .slice a13 l13 c13] 27) := ⟨_, rfl⟩
  obtain ⟨g13, hg⟩ : ∃ g, g = wz.heap.size := ⟨_, rfl⟩
  have hb : Below wz.heap.size wz W := by rw [hW]; exact alloc_b _ _
  have B13 : Hid (Bx W g13 n13 a13 l13 c13 M) := Lib.hid (by rw [hW, hg]; exact bx_new NB.out)
  rw [← hW]
  rw [← hg]
  clear hW hg NB
  have B6 := Lib.hid (B6.out.below hb)
  have B7 := Lib.hid (B7.out.below hb)
  have B8 := Lib.hid (B8.out.below hb)
  have B9 := Lib.hid (B9.out.below hb)
  have B11 := Lib.hid (B11.out.below hb)
  have HWW := step1 HW HZ hb
  have HW := HWW.1
  have HZ := HWW.2
  have HDD := step1 HD HE hb
  have HD := HDD.1
  have HE := HDD.2
  clear HWW HDD hb 
  clear p9 q9 p8 q8
  have p8 := B8.out.c0
  have q8 := B8.out.c1
  have p6 := B6.out.c0
  have q6 := B6.out.c1
  go_upto_region 7 with (first | (go_at_call 30; refine (mul_fit X B8.out.nu B6.out.nu EX.out FX.out).mono ?_; rintro e wz ⟨n15, a15, l15, c15, rfl, hn, hb⟩; (try have B6 := Lib.hid (B6.out.below hb)); (try have B7 := Lib.hid (B7.out.below hb)); (try have B8 := Lib.hid (B8.out.below hb)); (try have B9 := Lib.hid (B9.out.below hb)); (try have B11 := Lib.hid (B11.out.below hb)); (try have B13 := Lib.hid (B13.out.below hb)); have HWW := step1 HW HZ hb; have HW := HWW.1; have HZ := HWW.2; have HDD := step1 HD HE hb; have HD := HDD.1; have HE := HDD.2; clear HWW HDD; have NB := Lib.hid hn; clear hn; clear hb))
  obtain ⟨W, hW⟩ : ∃ W, W = wz.alloc (.cells #[.bool n15, .slice a15 l15 c15] 27) := ⟨_, rfl⟩
  obtain ⟨g15, hg⟩ : ∃ g, g = wz.heap.size := ⟨_, rfl⟩
  have hb : Below wz.heap.size wz W := by rw [hW]; exact alloc_b _ _
  have B15 : Hid (Bx W g15 n15 a15 l15 c15 X) := Lib.hid (by rw [hW, hg]; exact bx_new NB.out)
  rw [← hW]
  rw [← hg]
  clear hW hg NB
  have B6 := Lib.hid (B6.out.below hb)
  have B7 := Lib.hid (B7.out.below hb)
  have B8 := Lib.hid (B8.out.below hb)
  have B9 := Lib.hid (B9.out.below hb)
  have B11 := Lib.hid (B11.out.below hb)
  have B13 := Lib.hid (B13.out.below hb)
  have HWW := step1 HW HZ hb
  have HW := HWW.1
  have HZ := HWW.2
  have HDD := step1 HD HE hb
  have HD := HDD.1
  have HE := HDD.2
  clear HWW HDD hb 
  clear p8 q8 p6 q6
  have p7 := B7.out.c0
  have q7 := B7.out.c1
  have p8 := B8.out.c0
  have q8 := B8.out.c1
  go_upto_region 8 with (first | (go_at_call 30; refine (mul_fit Y B7.out.nu B8.out.nu EY.out FY.out).mono ?_; rintro e wz ⟨n17, a17, l17, c17, rfl, hn, hb⟩; (try have B6 := Lib.hid (B6.out.below hb)); (try have B7 := Lib.hid (B7.out.below hb)); (try have B8 := Lib.hid (B8.out.below hb)); (try have B9 := Lib.hid (B9.out.below hb)); (try have B11 := Lib.hid (B11.out.below hb)); (try have B13 := Lib.hid (B13.out.below hb)); (try have B15 := Lib.hid (B15.out.below hb)); have HWW := step1 HW HZ hb; have HW := HWW.1; have HZ := HWW.2; have HDD := step1 HD HE hb; have HD := HDD.1; have HE := HDD.2; clear HWW HDD; have NB := Lib.hid hn; clear hn; clear hb))
  obtain ⟨W, hW⟩ : ∃ W, W = wz.alloc (.cells #[.bool n17, .slice a17 l17 c17] 27) := ⟨_, rfl⟩
  obtain ⟨g17, hg⟩ : ∃ g, g = wz.heap.size := ⟨_, rfl⟩
  have hb : Below wz.heap.size wz W := by rw [hW]; exact alloc_b _ _
  have B17 : Hid (Bx W g17 n17 a17 l17 c17 Y) := Lib.hid (by rw [hW, hg]; exact bx_new NB.out)
  rw [← hW]
  rw [← hg]
  clear hW hg NB
  have B6 := Lib.hid (B6.out.below hb)
  have B7 := Lib.hid (B7.out.below hb)
  have B8 := Lib.hid (B8.out.below hb)
  have B9 := Lib.hid (B9.out.below hb)
  have B11 := Lib.hid (B11.out.below hb)
  have B13 := Lib.hid (B13.out.below hb)
  have B15 := Lib.hid (B15.out.below hb)
  have HWW := step1 HW HZ hb
  have HW := HWW.1
  have HZ := HWW.2
  have HDD := step1 HD HE hb
  have HD := HDD.1
  have HE := HDD.2
  clear HWW HDD hb 
  clear p7 q7 p8 q8
  have p15 := B15.out.c0
  have q15 := B15.out.c1
  have p17 := B17.out.c0
  have q17 := B17.out.c1
  go_upto_region 9 with (first | (go_at_call 28; refine (add_fit M B15.out.nu B17.out.nu ER.out FM.out).mono ?_; rintro e wz ⟨n19, a19, l19, c19, rfl, hn, hb⟩; (try have B6 := Lib.hid (B6.out.below hb)); (try have B7 := Lib.hid (B7.out.below hb)); (try have B8 := Lib.hid (B8.out.below hb)); (try have B9 := Lib.hid (B9.out.below hb)); (try have B11 := Lib.hid (B11.out.below hb)); (try have B13 := Lib.hid (B13.out.below hb)); (try have B15 := Lib.hid (B15.out.below hb)); (try have B17 := Lib.hid (B17.out.below hb)); have HWW := step1 HW HZ hb; have HW := HWW.1; have HZ := HWW.2; have HDD := step1 HD HE hb; have HD := HDD.1; have HE := HDD.2; clear HWW HDD; have NB := Lib.hid hn; clear hn; clear hb))
  obtain ⟨W, hW⟩ : ∃ W, W = wz.alloc (.cells #[.bool n19, .slice a19 l19 c19] 27) := ⟨_, rfl⟩
  obtain ⟨g19, hg⟩ : ∃ g, g = wz.heap.size := ⟨_, rfl⟩
  have hb : Below wz.heap.size wz W := by rw [hW]; exact alloc_b _ _
  have B19 : Hid (Bx W g19 n19 a19 l19 c19 M) := Lib.hid (by rw [hW, hg]; exact bx_new NB.out)
  rw [← hW]
  rw [← hg]
  clear hW hg NB
  have B6 := Lib.hid (B6.out.below hb)
  have B7 := Lib.hid (B7.out.below hb)
  have B8 := Lib.hid (B8.out.below hb)
  have B9 := Lib.hid (B9.out.below hb)
  have B11 := Lib.hid (B11.out.below hb)
  have B13 := Lib.hid (B13.out.below hb)
  have B15 := Lib.hid (B15.out.below hb)
  have B17 := Lib.hid (B17.out.below hb)
  have HWW := step1 HW HZ hb
  have HW := HWW.1
  have HZ := HWW.2
  have HDD := step1 HD HE hb
  have HD := HDD.1
  have HE := HDD.2
  clear HWW HDD hb 
  clear p15 q15 p17 q17
  have p9 := B9.out.c0
  have q9 := B9.out.c1
  have p7 := B7.out.c0
  have q7 := B7.out.c1
  go_upto_region 10 with (first | (go_at_call 29; refine (sub_fit A B9.out.nu B7.out.nu EA.out FA.out).mono ?_; rintro e wz ⟨n21, a21, l21, c21, rfl, hn, hb⟩; (try have B6 := Lib.hid (B6.out.below hb)); (try have B7 := Lib.hid (B7.out.below hb)); (try have B8 := Lib.hid (B8.out.below hb)); (try have B9 := Lib.hid (B9.out.below hb)); (try have B11 := Lib.hid (B11.out.below hb)); (try have B13 := Lib.hid (B13.out.below hb)); (try have B15 := Lib.hid (B15.out.below hb)); (try have B17 := Lib.hid (B17.out.below hb)); (try have B19 := Lib.hid (B19.out.below hb)); have HWW := step1 HW HZ hb; have HW := HWW.1; have HZ := HWW.2; have HDD := step1 HD HE hb; have HD := HDD.1; have HE := HDD.2; clear HWW HDD; have NB := Lib.hid hn; clear hn; clear hb))
  obtain ⟨W, hW⟩ : ∃ W, W = wz.alloc (.cells #[.bool n21, .slice a21 l21 c21] 27) := ⟨_, rfl⟩
  obtain ⟨g21, hg⟩ : ∃ g, g = wz.heap.size := ⟨_, rfl⟩
  have hb : Below wz.heap.size wz W := by rw [hW]; exact alloc_b _ _
  have B21 : Hid (Bx W g21 n21 a21 l21 c21 A) := Lib.hid (by rw [hW, hg]; exact bx_new NB.out)
  rw [← hW]
  rw [← hg]
  clear hW hg NB
  have B6 := Lib.hid (B6.out.below hb)
  have B7 := Lib.hid (B7.out.below hb)
  have B8 := Lib.hid (B8.out.below hb)
  have B9 := Lib.hid (B9.out.below hb)
  have B11 := Lib.hid (B11.out.below hb)
  have B13 := Lib.hid (B13.out.below hb)
  have B15 := Lib.hid (B15.out.below hb)
  have B17 := Lib.hid (B17.out.below hb)
  have B19 := Lib.hid (B19.out.below hb)
  have HWW := step1 HW HZ hb
  have HW := HWW.1
  have HZ := HWW.2
  have HDD := step1 HD HE hb
  have HD := HDD.1
  have HE := HDD.2
  clear HWW HDD hb 
  clear p9 q9 p7 q7
  have p13 := B13.out.c0
  have q13 := B13.out.c1
  have p19 := B19.out.c0
  have q19 := B19.out.c1
  go_upto_region 11 with (first | (go_at_call 29; refine (sub_fit 0 B13.out.nu B19.out.nu EZ.out FZ.out).mono ?_; rintro e wz ⟨n23, a23, l23, c23, rfl, hn, hb⟩; (try have B6 := Lib.hid (B6.out.below hb)); (try have B7 := Lib.hid (B7.out.below hb)); (try have B8 := Lib.hid (B8.out.below hb)); (try have B9 := Lib.hid (B9.out.below hb)); (try have B11 := Lib.hid (B11.out.below hb)); (try have B13 := Lib.hid (B13.out.below hb)); (try have B15 := Lib.hid (B15.out.below hb)); (try have B17 := Lib.hid (B17.out.below hb)); (try have B19 := Lib.hid (B19.out.below hb)); (try have B21 := Lib.hid (B21.out.below hb)); have HWW := step1 HW HZ hb; have HW := HWW.1; have HZ := HWW.2; have HDD := step1 HD HE hb; have HD := HDD.1; have HE := HDD.2; clear HWW HDD; have NB := Lib.hid hn; clear hn; clear hb))
  obtain ⟨W, hW⟩ : ∃ W, W = wz.alloc (.cells #[.bool n23, .slice a23 l23 c23] 27) := ⟨_, rfl⟩
  obtain ⟨g23, hg⟩ : ∃ g, g = wz.heap.size := ⟨_, rfl⟩
  have hb : Below wz.heap.size wz W := by rw [hW]; exact alloc_b _ _
  have B23 : Hid (Bx W g23 n23 a23 l23 c23 0) := Lib.hid (by rw [hW, hg]; exact bx_new NB.out)
  rw [← hW]
  rw [← hg]
  clear hW hg NB
  have B6 := Lib.hid (B6.out.below hb)
  have B7 := Lib.hid (B7.out.below hb)
  have B8 := Lib.hid (B8.out.below hb)
  have B9 := Lib.hid (B9.out.below hb)
  have B11 := Lib.hid (B11.out.below hb)
  have B13 := Lib.hid (B13.out.below hb)
  have B15 := Lib.hid (B15.out.below hb)
  have B17 := Lib.hid (B17.out.below hb)
  have B19 := Lib.hid (B19.out.below hb)
  have B21 := Lib.hid (B21.out.below hb)
  have HWW := step1 HW HZ hb
  have HW := HWW.1
  have HZ := HWW.2
  have HDD := step1 HD HE hb
  have HD := HDD.1
  have HE := HDD.2
  clear HWW HDD hb 
  clear p13 q13 p19 q19
  obtain ⟨e1, e2⟩ := B23.out.zero
  subst e1 e2
  have p9 := B9.out.c0
  have q9 := B9.out.c1
  have p11 := B11.out.c0
  have q11 := B11.out.c1
  have p13 := B13.out.c0
  have q13 := B13.out.c1
  have p19 := B19.out.c0
  have q19 := B19.out.c1
  have p21 := B21.out.c0
  have q21 := B21.out.c1
  have p6 := B6.out.c0
  have q6 := B6.out.c1
  have p23 := B23.out.c0
  have q23 := B23.out.c1
  clear B7 B8 B15 B17
  go_upto_region 13 with (first | (go_at_call_of 19 (Value.slice a9 l9 c9); refine (same_yes B9.out.nu B11.out.nu rfl).mono ?_; rintro e wz ⟨rfl, hb⟩; (try have B6 := Lib.hid (B6.out.below hb)); (try have B9 := Lib.hid (B9.out.below hb)); (try have B11 := Lib.hid (B11.out.below hb)); (try have B13 := Lib.hid (B13.out.below hb)); (try have B19 := Lib.hid (B19.out.below hb)); (try have B21 := Lib.hid (B21.out.below hb)); (try have B23 := Lib.hid (B23.out.below hb)); have HWW := step1 HW HZ hb; have HW := HWW.1; have HZ := HWW.2; have HDD := step1 HD HE hb; have HD := HDD.1; have HE := HDD.2; clear HWW HDD; have p9 := B9.out.c0; have q9 := B9.out.c1; have p11 := B11.out.c0; have q11 := B11.out.c1; have p13 := B13.out.c0; have q13 := B13.out.c1; have p19 := B19.out.c0; have q19 := B19.out.c1; have p21 := B21.out.c0; have q21 := B21.out.c1; have p6 := B6.out.c0; have q6 := B6.out.c1; have p23 := B23.out.c0; have q23 := B23.out.c1; clear hb) | (go_at_call_of 19 (Value.slice a13 l13 c13); refine (same_yes B13.out.nu B19.out.nu rfl).mono ?_; rintro e wz ⟨rfl, hb⟩; (try have B6 := Lib.hid (B6.out.below hb)); (try have B9 := Lib.hid (B9.out.below hb)); (try have B11 := Lib.hid (B11.out.below hb)); (try have B13 := Lib.hid (B13.out.below hb)); (try have B19 := Lib.hid (B19.out.below hb)); (try have B21 := Lib.hid (B21.out.below hb)); (try have B23 := Lib.hid (B23.out.below hb)); have HWW := step1 HW HZ hb; have HW := HWW.1; have HZ := HWW.2; have HDD := step1 HD HE hb; have HD := HDD.1; have HE := HDD.2; clear HWW HDD; have p9 := B9.out.c0; have q9 := B9.out.c1; have p11 := B11.out.c0; have q11 := B11.out.c1; have p13 := B13.out.c0; have q13 := B13.out.c1; have p19 := B19.out.c0; have q19 := B19.out.c1; have p21 := B21.out.c0; have q21 := B21.out.c1; have p6 := B6.out.c0; have q6 := B6.out.c1; have p23 := B23.out.c0; have q23 := B23.out.c1; clear hb) | (go_at_call_of 19 (Value.slice a21 l21 c21); refine (same_yes B21.out.nu B6.out.nu rfl).mono ?_; rintro e wz ⟨rfl, hb⟩; (try have B6 := Lib.hid (B6.out.below hb)); (try have B9 := Lib.hid (B9.out.below hb)); (try have B11 := Lib.hid (B11.out.below hb)); (try have B13 := Lib.hid (B13.out.below hb)); (try have B19 := Lib.hid (B19.out.below hb)); (try have B21 := Lib.hid (B21.out.below hb)); (try have B23 := Lib.hid (B23.out.below hb)); have HWW := step1 HW HZ hb; have HW := HWW.1; have HZ := HWW.2; have HDD := step1 HD HE hb; have HD := HDD.1; have HE := HDD.2; clear HWW HDD; have p9 := B9.out.c0; have q9 := B9.out.c1; have p11 := B11.out.c0; have q11 := B11.out.c1; have p13 := B13.out.c0; have q13 := B13.out.c1; have p19 := B19.out.c0; have q19 := B19.out.c1; have p21 := B21.out.c0; have q21 := B21.out.c1; have p6 := B6.out.c0; have q6 := B6.out.c1; have p23 := B23.out.c0; have q23 := B23.out.c1; clear hb))
  clear p9 q9 p11 q11 p13 q13 p19 q19 p21 q21 p6 q6 p23 q23 B9 B11 B13 B19 B21 B23
  obtain ⟨u0, u1⟩ := (HBL.out _ HD.out).2
  go_region
  clear u0 u1
  obtain ⟨W, hW⟩ : ∃ W, W = wz.drew := ⟨_, rfl⟩
  have hb : Below wz.heap.size wz W := by rw [hW]; exact ⟨rfl, rfl, rfl, Nat.le_refl _, fun _ _ => rfl⟩
  rw [← hW]
  clear hW
  have B6 := Lib.hid (B6.out.below hb)
  have HWW := step1 HW HZ hb
  have HW := HWW.1
  have HZ := HWW.2
  have HDD := step1 HD HE hb
  have HD := HDD.1
  have HE := HDD.2
  clear HWW HDD hb
  have p6 := B6.out.c0
  have q6 := B6.out.c1
  go_upto_region 15 with (first | (go_at_call 20; refine (pow_fit P0 N0 B6.out.nu (by omega) EP0.out FP0.out).mono ?_; rintro e wz ⟨n27, a27, l27, c27, rfl, hn, hb⟩; (try have B6 := Lib.hid (B6.out.below hb)); have HWW := step1 HW HZ hb; have HW := HWW.1; have HZ := HWW.2; have HDD := step1 HD HE hb; have HD := HDD.1; have HE := HDD.2; clear HWW HDD; have NB := Lib.hid hn; clear hn; clear hb))
  obtain ⟨W, hW⟩ : ∃ W, W = wz.alloc (.cells #[.bool n27, .slice a27 l27 c27] 27) := ⟨_, rfl⟩
  obtain ⟨g27, hg⟩ : ∃ g, g = wz.heap.size := ⟨_, rfl⟩
  have hb : Below wz.heap.size wz W := by rw [hW]; exact alloc_b _ _
  have B27 : Hid (Bx W g27 n27 a27 l27 c27 P0) := Lib.hid (by rw [hW, hg]; exact bx_new NB.out)
  rw [← hW]
  rw [← hg]
  clear hW hg NB
  have B6 := Lib.hid (B6.out.below hb)
  have HWW := step1 HW HZ hb
  have HW := HWW.1
  have HZ := HWW.2
  have HDD := step1 HD HE hb
  have HD := HDD.1
  have HE := HDD.2
  clear HWW HDD hb 
  clear p6 q6
  have p6 := B6.out.c0
  have q6 := B6.out.c1
  go_upto_region 16 with (first | (go_at_call 20; refine (pow_fit P1 N1 B6.out.nu (by omega) EP1.out FP1.out).mono ?_; rintro e wz ⟨n29, a29, l29, c29, rfl, hn, hb⟩; (try have B6 := Lib.hid (B6.out.below hb)); (try have B27 := Lib.hid (B27.out.below hb)); have HWW := step1 HW HZ hb; have HW := HWW.1; have HZ := HWW.2; have HDD := step1 HD HE hb; have HD := HDD.1; have HE := HDD.2; clear HWW HDD; have NB := Lib.hid hn; clear hn; clear hb))
  obtain ⟨W, hW⟩ : ∃ W, W = wz.alloc (.cells #[.bool n29, .slice a29 l29 c29] 27) := ⟨_, rfl⟩
  obtain ⟨g29, hg⟩ : ∃ g, g = wz.heap.size := ⟨_, rfl⟩
  have hb : Below wz.heap.size wz W := by rw [hW]; exact alloc_b _ _
  have B29 : Hid (Bx W g29 n29 a29 l29 c29 P1) := Lib.hid (by rw [hW, hg]; exact bx_new NB.out)
  rw [← hW]
  rw [← hg]
  clear hW hg NB
  have B6 := Lib.hid (B6.out.below hb)
  have B27 := Lib.hid (B27.out.below hb)
  have HWW := step1 HW HZ hb
  have HW := HWW.1
  have HZ := HWW.2
  have HDD := step1 HD HE hb
  have HD := HDD.1
  have HE := HDD.2
  clear HWW HDD hb 
  clear p6 q6
  have p6 := B6.out.c0
  have q6 := B6.out.c1
  go_upto_region 17 with (first | (go_at_call 20; refine (HPW.out _ _ B6.out.nu).mono ?_; rintro e wz ⟨n31, a31, l31, c31, rfl, hn, hb⟩; (try have B6 := Lib.hid (B6.out.below hb)); (try have B27 := Lib.hid (B27.out.below hb)); (try have B29 := Lib.hid (B29.out.below hb)); have HWW := step1 HW HZ hb; have HW := HWW.1; have HZ := HWW.2; have HDD := step1 HD HE hb; have HD := HDD.1; have HE := HDD.2; clear HWW HDD; have NB := Lib.hid hn; clear hn; clear hb))
  obtain ⟨W, hW⟩ : ∃ W, W = wz.alloc (.cells #[.bool n31, .slice a31 l31 c31] 27) := ⟨_, rfl⟩
  obtain ⟨g31, hg⟩ : ∃ g, g = wz.heap.size := ⟨_, rfl⟩
  have hb : Below wz.heap.size wz W := by rw [hW]; exact alloc_b _ _
  have B31 : Hid (Bx W g31 n31 a31 l31 c31 Q) := Lib.hid (by rw [hW, hg]; exact bx_new NB.out)
  rw [← hW]
  rw [← hg]
  clear hW hg NB
  have B6 := Lib.hid (B6.out.below hb)
  have B27 := Lib.hid (B27.out.below hb)
  have B29 := Lib.hid (B29.out.below hb)
  have HWW := step1 HW HZ hb
  have HW := HWW.1
  have HZ := HWW.2
  have HDD := step1 HD HE hb
  have HD := HDD.1
  have HE := HDD.2
  clear HWW HDD hb 
  clear p6 q6
  have p27 := B27.out.c0
  have q27 := B27.out.c1
  have p29 := B29.out.c0
  have q29 := B29.out.c1
  go_upto_region 18 with (first | (go_at_call 30; refine (mul_fit Q B27.out.nu B29.out.nu EQ.out FQ.out).mono ?_; rintro e wz ⟨n33, a33, l33, c33, rfl, hn, hb⟩; (try have B6 := Lib.hid (B6.out.below hb)); (try have B27 := Lib.hid (B27.out.below hb)); (try have B29 := Lib.hid (B29.out.below hb)); (try have B31 := Lib.hid (B31.out.below hb)); have HWW := step1 HW HZ hb; have HW := HWW.1; have HZ := HWW.2; have HDD := step1 HD HE hb; have HD := HDD.1; have HE := HDD.2; clear HWW HDD; have NB := Lib.hid hn; clear hn; clear hb))
  obtain ⟨W, hW⟩ : ∃ W, W = wz.alloc (.cells #[.bool n33, .slice a33 l33 c33] 27) := ⟨_, rfl⟩
  obtain ⟨g33, hg⟩ : ∃ g, g = wz.heap.size := ⟨_, rfl⟩
  have hb : Below wz.heap.size wz W := by rw [hW]; exact alloc_b _ _
  have B33 : Hid (Bx W g33 n33 a33 l33 c33 Q) := Lib.hid (by rw [hW, hg]; exact bx_new NB.out)
  rw [← hW]
  rw [← hg]
  clear hW hg NB
  have B31 := Lib.hid (B31.out.below hb)
  have HWW := step1 HW HZ hb
  have HW := HWW.1
  have HZ := HWW.2
  have HDD := step1 HD HE hb
  have HD := HDD.1
  have HE := HDD.2
  clear HWW HDD hb 
  clear p27 q27 p29 q29
  have p31 := B31.out.c0
  have q31 := B31.out.c1
  have p33 := B33.out.c0
  have q33 := B33.out.c1
  go_wp2_with (first | (go_at_call 19; refine (same_yes B31.out.nu B33.out.nu rfl).mono ?_; rintro e wz ⟨rfl, hb⟩; have HWW := step1 HW HZ hb; have HW := HWW.1; have HZ := HWW.2; have HDD := step1 HD HE hb; have HD := HDD.1; have HE := HDD.2; clear HWW HDD; clear hb))
  go_ret
  exact ⟨rfl, HW.out⟩

end Go.Proofs.YtdgmjmckeeeljaaGreatDoor
