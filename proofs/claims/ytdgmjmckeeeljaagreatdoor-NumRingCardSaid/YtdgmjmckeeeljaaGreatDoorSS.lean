/- Contract of the statements' sanity. Condition: the table of powers of ten is laid. -/
import Derived.Test.YtdgmjmckeeeljaaGreatDoorRR
namespace Go.Proofs.YtdgmjmckeeeljaaGreatDoor
open Go.RowKit

/-- A number in a box. -/
structure Bx (W : World) (g : Nat) (neg : Bool) (ao : Option Addr) (n cap : Nat) (z : Int) : Prop where
  row : W.heap[g]? = some (.cells #[.bool neg, .slice ao n cap] 27 (0, 0))
  nu : Nu W (.agg #[.bool neg, .slice ao n cap]) z

theorem Bx.below {W W' : World} {g : Nat} {neg : Bool} {ao : Option Addr} {n cap : Nat} {z : Int} (h : Bx W g neg ao n cap z) (hb : Below W.heap.size W W') : Bx W' g neg ao n cap z :=
  ⟨(hb.block _ (Array.getElem?_eq_some_iff.1 h.row).1).trans h.row, h.nu.below hb⟩
theorem Bx.c0 {W : World} {g : Nat} {neg : Bool} {ao : Option Addr} {n cap : Nat} {z : Int} (h : Bx W g neg ao n cap z) : W.cell? ⟨g, 0, none⟩ = some (.bool neg) := by
  rw [cell_of_row _ _ _ _ _ _ h.row]; rfl
theorem Bx.c1 {W : World} {g : Nat} {neg : Bool} {ao : Option Addr} {n cap : Nat} {z : Int} (h : Bx W g neg ao n cap z) : W.cell? ⟨g, 1, none⟩ = some (.slice ao n cap) := by
  rw [cell_of_row _ _ _ _ _ _ h.row]; rfl
theorem alloc_b (W : World) (o : Obj) : Below W.heap.size W (W.alloc o) := (Below.refl _ _).alloc (Nat.le_refl _) _
theorem bx_new {wa : World} {neg : Bool} {ao : Option Addr} {n cap : Nat} {z : Int} (h : Nu wa (.agg #[.bool neg, .slice ao n cap]) z) : Bx (wa.alloc (.cells #[.bool neg, .slice ao n cap] 27)) wa.heap.size neg ao n cap z :=
  ⟨heap_alloc_new _ _, h.below (alloc_b _ _)⟩
theorem nu_as {W : World} {v : Value} {z z' : Int} (h : Nu W v z) (e : z = z') : Nu W v z' := e ▸ h
theorem step1 {B : Nat} {w W W' : World} (h : Hid (Below B w W)) (hB : Hid (B ≤ W.heap.size)) (hb : Below W.heap.size W W') : Hid (Below B w W') ∧ Hid (B ≤ W'.heap.size) :=
  ⟨Lib.hid (h.out.trans (hb.mono hB.out)), Lib.hid (Nat.le_trans hB.out hb.size)⟩
theorem later {W W' : World} {o : Obj} (hb : Below (W.alloc o).heap.size (W.alloc o) W') : Below W.heap.size W W' := (alloc_b W o).trans (hb.mono (alloc_b W o).size)

theorem mul_yes {w : World} {x y : Value} {a b : Int} (z : Int) (hx : Nu w x a) (hy : Nu w y b) (hz : a * b = z) (hf : z.natAbs < 18446744073709551616) : Calls Tryz.prog 30 #[x, y] w (YesN w z) := by
  subst hz; exact (mul_any hx hy).mono fun _ _ h => h.yes (fits_w hf)
theorem sub_yes {w : World} {x y : Value} {a b : Int} (z : Int) (hx : Nu w x a) (hy : Nu w y b) (hz : a - b = z) (hf : z.natAbs < 18446744073709551616) : Calls Tryz.prog 29 #[x, y] w (YesN w z) := by
  subst hz; exact (sub_any hx hy).mono fun _ _ h => h.yes (fits_w hf)
theorem gcd_yes {w : World} {x y : Value} {a b : Int} (z : Int) (hx : Nu w x a) (hy : Nu w y b) (ha : a.natAbs < 4294967296) (hb : b.natAbs < 4294967296) (hz : ((Nat.gcd a.natAbs b.natAbs : Nat) : Int) = z) (hf : z.natAbs < 18446744073709551616) : Calls Tryz.prog 17 #[x, y] w (YesN w z) := by
  subst hz; exact (gcd_small hx hy ha hb).mono fun _ _ h => h.yes (fits_w hf)
theorem pow_yes {w : World} {x : Value} {a : Int} (z : Int) (n : Nat) (hx : Nu w x a) (hn : n < 9223372036854775808) (hz : a ^ n = z) (hf : z.natAbs < 18446744073709551616) : Calls Tryz.prog 20 #[x, .int .i64 n] w (YesN w z) := by
  subst hz; exact (pow_any hx n hn).mono fun _ _ h => h.yes (fits_w hf)
theorem parse_yes {s : ByteArray} {w : World} (z : Int) (h : parseZ s = some z) (hf : z.natAbs < 18446744073709551616) : Calls Tryz.prog 24 #[.string s] w (YesN w z) := by
  have := parse_any s w
  rw [h] at this
  exact this.mono fun _ _ h => NumRes.yes h (fits_w hf)
theorem parse_no {s : ByteArray} {w : World} (h : parseZ s = none) : Calls Tryz.prog 24 #[.string s] w fun e w' => e = .returned (.tuple #[.agg #[.bool false, .slice none 0 0], .bool false]) ∧ Below w.heap.size w w' := by
  have := parse_any s w
  rw [h] at this
  exact this
theorem divides_X (a b q r : Int) (w : World) (hb0 : b ≠ 0) (hb : b.natAbs < 4294967296) (ha1 : -2147483648 ≤ a) (ha2 : a ≤ 2147483647) (hq : a / b = q) (hr : a % b = r) : Calls Tryz.prog 35 #[.int .i64 a, .int .i64 b, .int .i64 q, .int .i64 r] w (SameRes w true) := by
  subst hq hr; exact divides_yes a b hb0 hb ha1 ha2

set_option maxRecDepth 10000 in
set_option maxHeartbeats 4000000 in
theorem sanity_any (w : World) (htab : ∀ W, Below w.heap.size w W → Tab W) : Calls Tryz.prog 10 #[] w fun e w' => e = .returned (.bool true) ∧ Below w.heap.size w w' := by
  have HT := Lib.hid htab
  have HW : Hid (Below w.heap.size w w) := Lib.hid (Below.refl _ _)
  have HZ : Hid (w.heap.size ≤ w.heap.size) := Lib.hid (Nat.le_refl _)
  clear htab
  go_enter Tryz.func10, Tryz.ntmps10
  go_upto_region 2 with fail
  obtain ⟨W, hW⟩ : ∃ W, W = (w.alloc (.cells #[.int .u32 4294967295] 59)).alloc (.cells #[.bool false, .slice (some ⟨w.heap.size, 0, none⟩) 1 1] 27) := ⟨_, rfl⟩
  have hb : Below w.heap.size w W := by rw [hW]; exact (alloc_b _ _).trans ((alloc_b _ _).mono (alloc_b _ _).size)
  have B1 : Hid (Bx W (w.heap.size + 1) false (some ⟨w.heap.size, 0, none⟩) 1 1 4294967295) := Lib.hid (by
    rw [hW]
    have := bx_new (nu_row (z := 4294967295) (nb := false) (row_new w [4294967295]) (bd1 (by decide)) (.inr (by decide)) (by kernel_rfl) rfl rfl (by decide))
    rw [World.size_alloc] at this
    exact this)
  have HWW := step1 HW HZ hb
  have HW := HWW.1
  have HZ := HWW.2
  rw [← hW]
  clear hW hb HWW
  have c0 := B1.out.c0
  have c1 := B1.out.c1
  go_upto_region 3 with (first | (go_at_call 30; refine (mul_yes 18446744065119617025 B1.out.nu B1.out.nu (by decide) (by decide)).mono ?_; rintro e wz ⟨n2, a2, l2, c2, rfl, hn, hb⟩; have HWW := step1 HW HZ hb; have HW := HWW.1; have HZ := HWW.2; clear HWW; have NB := Lib.hid hn; clear hn; clear hb))
  obtain ⟨W, hW⟩ : ∃ W, W = wz.alloc (.cells #[.bool n2, .slice a2 l2 c2] 27) := ⟨_, rfl⟩
  obtain ⟨g2, hg⟩ : ∃ g, g = wz.heap.size := ⟨_, rfl⟩
  have hb : Below wz.heap.size wz W := by rw [hW]; exact alloc_b _ _
  have B2 : Hid (Bx W g2 n2 a2 l2 c2 18446744065119617025) := Lib.hid (by rw [hW, hg]; exact bx_new NB.out)
  rw [← hW]
  rw [← hg]
  clear hW hg NB
  have HWW := step1 HW HZ hb
  have HW := HWW.1
  have HZ := HWW.2
  clear HWW hb c0 c1 B1
  go_upto_region 4 with (first | (go_at_call_of 27 (Value.int .i64 4294967296); refine (of_X 4294967296 _ (by decide) (by decide)).mono ?_; rintro e wz ⟨x1, rfl, hn, hb⟩; (try have B2 := Lib.hid (B2.out.below hb)); have HWW := step1 HW HZ hb; have HW := HWW.1; have HZ := HWW.2; clear HWW; have Nx1 := Lib.hid hn; clear hn; clear hb) | (go_at_call_of 27 (Value.int .i64 1); refine (of_X 1 _ (by decide) (by decide)).mono ?_; rintro e wz ⟨x2, rfl, hn, hb⟩; (try have B2 := Lib.hid (B2.out.below hb)); (try have Nx1 := Lib.hid (Nx1.out.below hb)); have HWW := step1 HW HZ hb; have HW := HWW.1; have HZ := HWW.2; clear HWW; have Nx2 := Lib.hid hn; clear hn; clear hb) | (go_at_call 29; refine (sub_yes 4294967295 Nx1.out Nx2.out (by decide) (by decide)).mono ?_; rintro e wz ⟨n4, a4, l4, c4, rfl, hn, hb⟩; (try have B2 := Lib.hid (B2.out.below hb)); have HWW := step1 HW HZ hb; have HW := HWW.1; have HZ := HWW.2; clear HWW; have NB := Lib.hid hn; clear hn; clear hb))
  obtain ⟨W, hW⟩ : ∃ W, W = wz.alloc (.cells #[.bool n4, .slice a4 l4 c4] 27) := ⟨_, rfl⟩
  obtain ⟨g4, hg⟩ : ∃ g, g = wz.heap.size := ⟨_, rfl⟩
  have hb : Below wz.heap.size wz W := by rw [hW]; exact alloc_b _ _
  have B4 : Hid (Bx W g4 n4 a4 l4 c4 4294967295) := Lib.hid (by rw [hW, hg]; exact bx_new NB.out)
  rw [← hW]
  rw [← hg]
  clear hW hg NB
  have B2 := Lib.hid (B2.out.below hb)
  have HWW := step1 HW HZ hb
  have HW := HWW.1
  have HZ := HWW.2
  clear HWW hb Nx1 Nx2
  go_upto_region 5 with (first | (go_at_call_of 27 (Value.int .i64 4294967296); refine (of_X 4294967296 _ (by decide) (by decide)).mono ?_; rintro e wz ⟨x1, rfl, hn, hb⟩; (try have B2 := Lib.hid (B2.out.below hb)); (try have B4 := Lib.hid (B4.out.below hb)); have HWW := step1 HW HZ hb; have HW := HWW.1; have HZ := HWW.2; clear HWW; have Nx1 := Lib.hid hn; clear hn; clear hb) | (go_at_call 27; refine (of_X (-1) _ (by decide) (by decide)).mono ?_; rintro e wz ⟨x3, rfl, hn, hb⟩; (try have B2 := Lib.hid (B2.out.below hb)); (try have B4 := Lib.hid (B4.out.below hb)); have HWW := step1 HW HZ hb; have HW := HWW.1; have HZ := HWW.2; clear HWW; have Nx3 := Lib.hid hn; clear hn; clear hb) | (go_at_call_of 34 x1; refine (is_yes (z := 4294967296) (ys := [0, 1]) (Nx1.out.below (alloc_b _ _)) (row_new _ [0, 1]) (bd2 (by decide) (by decide)) (.inr (by decide)) (by kernel_rfl) rfl rfl).mono ?_; rintro e wz ⟨rfl, hb⟩; have hb := later hb; (try have B2 := Lib.hid (B2.out.below hb)); (try have B4 := Lib.hid (B4.out.below hb)); have HWW := step1 HW HZ hb; have HW := HWW.1; have HZ := HWW.2; clear HWW; clear hb) | (go_at_call_of 34 x3; refine (is_yes (z := (-1)) (ys := [1]) (Nx3.out.below (alloc_b _ _)) (row_new _ [1]) (bd1 (by decide)) (.inr (by decide)) (by kernel_rfl) rfl rfl).mono ?_; rintro e wz ⟨rfl, hb⟩; have hb := later hb; (try have B2 := Lib.hid (B2.out.below hb)); (try have B4 := Lib.hid (B4.out.below hb)); have HWW := step1 HW HZ hb; have HW := HWW.1; have HZ := HWW.2; clear HWW; have p0 := B2.out.c0; have p1 := B2.out.c1; have q0 := B4.out.c0; have q1 := B4.out.c1; clear hb) | (go_at_call_of 34 (Value.slice a2 l2 c2); refine (is_yes (z := 18446744065119617025) (ys := [1, 4294967294]) (B2.out.nu.below (alloc_b _ _)) (row_new _ [1, 4294967294]) (bd2 (by decide) (by decide)) (.inr (by decide)) (by kernel_rfl) rfl rfl).mono ?_; rintro e wz ⟨rfl, hb⟩; have hb := later hb; (try have B2 := Lib.hid (B2.out.below hb)); (try have B4 := Lib.hid (B4.out.below hb)); have HWW := step1 HW HZ hb; have HW := HWW.1; have HZ := HWW.2; clear HWW; have p0 := B2.out.c0; have p1 := B2.out.c1; have q0 := B4.out.c0; have q1 := B4.out.c1; clear hb) | (go_at_call_of 34 (Value.slice a4 l4 c4); refine (is_yes (z := 4294967295) (ys := [4294967295]) (B4.out.nu.below (alloc_b _ _)) (row_new _ [4294967295]) (bd1 (by decide)) (.inr (by decide)) (by kernel_rfl) rfl rfl).mono ?_; rintro e wz ⟨rfl, hb⟩; have hb := later hb; (try have B2 := Lib.hid (B2.out.below hb)); (try have B4 := Lib.hid (B4.out.below hb)); have HWW := step1 HW HZ hb; have HW := HWW.1; have HZ := HWW.2; clear HWW; clear hb))
  clear B2 B4 Nx1 Nx3 p0 p1 q0 q1
  go_upto_region 6 with (first | (go_at_call_of 27 (Value.int .i64 7); refine (of_X 7 _ (by decide) (by decide)).mono ?_; rintro e wz ⟨x5, rfl, hn, hb⟩; have HWW := step1 HW HZ hb; have HW := HWW.1; have HZ := HWW.2; clear HWW; have Nx5 := Lib.hid hn; clear hn; clear hb) | (go_at_call_of 27 (Value.int .i64 0); refine (of_X 0 _ (by decide) (by decide)).mono ?_; rintro e wz ⟨x6, rfl, hn, hb⟩; (try have Nx5 := Lib.hid (Nx5.out.below hb)); have HWW := step1 HW HZ hb; have HW := HWW.1; have HZ := HWW.2; clear HWW; have Nx6 := Lib.hid hn; clear hn; clear hb) | (go_at_call 15; refine (div_zero Nx5.out Nx6.out).mono ?_; rintro e wz ⟨rfl, hb⟩; have HWW := step1 HW HZ hb; have HW := HWW.1; have HZ := HWW.2; clear HWW; clear hb))
  obtain ⟨W, hW⟩ : ∃ W, W = (wz.alloc (.cells #[.bool false, .slice none 0 0] 27)).alloc (.cells #[.bool false, .slice none 0 0] 27) := ⟨_, rfl⟩
  have hb : Below wz.heap.size wz W := by rw [hW]; exact (alloc_b _ _).trans ((alloc_b _ _).mono (alloc_b _ _).size)
  rw [← hW]
  clear hW
  have HWW := step1 HW HZ hb
  have HW := HWW.1
  have HZ := HWW.2
  clear HWW hb Nx5 Nx6
  go_upto_region 7 with (first | (go_at_call_of 35 (Value.int .i64 2); refine (divides_X (-7) 2 (-4) 1 _ (by decide) (by decide) (by decide) (by decide) (by decide) (by decide)).mono ?_; rintro e wz ⟨rfl, hb⟩; have HWW := step1 HW HZ hb; have HW := HWW.1; have HZ := HWW.2; clear HWW; clear hb) | (go_at_call_of 35 (Value.int .i64 7); refine (divides_X 7 (-2) (-3) 1 _ (by decide) (by decide) (by decide) (by decide) (by decide) (by decide)).mono ?_; rintro e wz ⟨rfl, hb⟩; have HWW := step1 HW HZ hb; have HW := HWW.1; have HZ := HWW.2; clear HWW; clear hb) | (go_at_call_of 35 (Value.int .i64 4); refine (divides_X (-7) (-2) 4 1 _ (by decide) (by decide) (by decide) (by decide) (by decide) (by decide)).mono ?_; rintro e wz ⟨rfl, hb⟩; have HWW := step1 HW HZ hb; have HW := HWW.1; have HZ := HWW.2; clear HWW; clear hb))
  go_upto_region 8 with (first | (go_at_call_of 27 (Value.int .i64 18); refine (of_X 18 _ (by decide) (by decide)).mono ?_; rintro e wz ⟨x2, rfl, hn, hb⟩; (try have Nx1 := Lib.hid (Nx1.out.below hb)); have HWW := step1 HW HZ hb; have HW := HWW.1; have HZ := HWW.2; clear HWW; have Nx2 := Lib.hid hn; clear hn; clear hb) | (go_at_call 27; refine (of_X (-12) _ (by decide) (by decide)).mono ?_; rintro e wz ⟨x1, rfl, hn, hb⟩; have HWW := step1 HW HZ hb; have HW := HWW.1; have HZ := HWW.2; clear HWW; have Nx1 := Lib.hid hn; clear hn; clear hb) | (go_at_call 17; refine (gcd_yes 6 Nx1.out Nx2.out (by decide) (by decide) (by decide) (by decide)).mono ?_; rintro e wz ⟨n11, a11, l11, c11, rfl, hn, hb⟩; have HWW := step1 HW HZ hb; have HW := HWW.1; have HZ := HWW.2; clear HWW; have NB := Lib.hid hn; clear hn; clear hb))
  obtain ⟨W, hW⟩ : ∃ W, W = wz.alloc (.cells #[.bool n11, .slice a11 l11 c11] 27) := ⟨_, rfl⟩
  obtain ⟨g11, hg⟩ : ∃ g, g = wz.heap.size := ⟨_, rfl⟩
  have hb : Below wz.heap.size wz W := by rw [hW]; exact alloc_b _ _
  have B11 : Hid (Bx W g11 n11 a11 l11 c11 6) := Lib.hid (by rw [hW, hg]; exact bx_new NB.out)
  rw [← hW]
  rw [← hg]
  clear hW hg NB
  have HWW := step1 HW HZ hb
  have HW := HWW.1
  have HZ := HWW.2
  clear HWW hb Nx1 Nx2
  go_upto_region 9 with (first | (go_at_call 27; refine (of_X 0 _ (by decide) (by decide)).mono ?_; rintro e wz ⟨x8, rfl, hn, hb⟩; (try have N7 := Lib.hid (N8.out.below hb)); have N8 := Lib.hid hn; clear hn; (try have B11 := Lib.hid (B11.out.below hb)); have HWW := step1 HW HZ hb; have HW := HWW.1; have HZ := HWW.2; clear HWW hb) | (go_at_call 17; refine (gcd_yes 0 N7.out N8.out (by decide) (by decide) (by decide) (by decide)).mono ?_; rintro e wz ⟨n13, a13, l13, c13, rfl, hn, hb⟩; (try have B11 := Lib.hid (B11.out.below hb)); have HWW := step1 HW HZ hb; have HW := HWW.1; have HZ := HWW.2; clear HWW; have NB := Lib.hid hn; clear hn; clear hb))
  obtain ⟨W, hW⟩ : ∃ W, W = wz.alloc (.cells #[.bool n13, .slice a13 l13 c13] 27) := ⟨_, rfl⟩
  obtain ⟨g13, hg⟩ : ∃ g, g = wz.heap.size := ⟨_, rfl⟩
  have hb : Below wz.heap.size wz W := by rw [hW]; exact alloc_b _ _
  have B13 : Hid (Bx W g13 n13 a13 l13 c13 0) := Lib.hid (by rw [hW, hg]; exact bx_new NB.out)
  rw [← hW]
  rw [← hg]
  clear hW hg NB
  have B11 := Lib.hid (B11.out.below hb)
  have HWW := step1 HW HZ hb
  have HW := HWW.1
  have HZ := HWW.2
  clear HWW hb N7 N8
  go_upto_region 10 with (first | (go_at_call 27; refine (of_X (-2) _ (by decide) (by decide)).mono ?_; rintro e wz ⟨x1, rfl, hn, hb⟩; (try have B11 := Lib.hid (B11.out.below hb)); (try have B13 := Lib.hid (B13.out.below hb)); have HWW := step1 HW HZ hb; have HW := HWW.1; have HZ := HWW.2; clear HWW; have Nx1 := Lib.hid hn; clear hn; clear hb) | (go_at_call 20; refine (pow_yes (-32) 5 Nx1.out (by decide) (by decide) (by decide)).mono ?_; rintro e wz ⟨n15, a15, l15, c15, rfl, hn, hb⟩; (try have B11 := Lib.hid (B11.out.below hb)); (try have B13 := Lib.hid (B13.out.below hb)); have HWW := step1 HW HZ hb; have HW := HWW.1; have HZ := HWW.2; clear HWW; have NB := Lib.hid hn; clear hn; clear hb))
  obtain ⟨W, hW⟩ : ∃ W, W = wz.alloc (.cells #[.bool n15, .slice a15 l15 c15] 27) := ⟨_, rfl⟩
  obtain ⟨g15, hg⟩ : ∃ g, g = wz.heap.size := ⟨_, rfl⟩
  have hb : Below wz.heap.size wz W := by rw [hW]; exact alloc_b _ _
  have B15 : Hid (Bx W g15 n15 a15 l15 c15 (-32)) := Lib.hid (by rw [hW, hg]; exact bx_new NB.out)
  rw [← hW]
  rw [← hg]
  clear hW hg NB
  have B11 := Lib.hid (B11.out.below hb)
  have B13 := Lib.hid (B13.out.below hb)
  have HWW := step1 HW HZ hb
  have HW := HWW.1
  have HZ := HWW.2
  clear HWW hb Nx1
  go_upto_region 11 with (first | (go_at_call_of 27 (Value.int .i64 0); refine (of_X 0 _ (by decide) (by decide)).mono ?_; rintro e wz ⟨x1, rfl, hn, hb⟩; (try have B11 := Lib.hid (B11.out.below hb)); (try have B13 := Lib.hid (B13.out.below hb)); (try have B15 := Lib.hid (B15.out.below hb)); have HWW := step1 HW HZ hb; have HW := HWW.1; have HZ := HWW.2; clear HWW; have Nx1 := Lib.hid hn; clear hn; clear hb) | (go_at_call 20; refine (pow_yes 1 0 Nx1.out (by decide) (by decide) (by decide)).mono ?_; rintro e wz ⟨n17, a17, l17, c17, rfl, hn, hb⟩; (try have B11 := Lib.hid (B11.out.below hb)); (try have B13 := Lib.hid (B13.out.below hb)); (try have B15 := Lib.hid (B15.out.below hb)); have HWW := step1 HW HZ hb; have HW := HWW.1; have HZ := HWW.2; clear HWW; have NB := Lib.hid hn; clear hn; clear hb))
  obtain ⟨W, hW⟩ : ∃ W, W = wz.alloc (.cells #[.bool n17, .slice a17 l17 c17] 27) := ⟨_, rfl⟩
  obtain ⟨g17, hg⟩ : ∃ g, g = wz.heap.size := ⟨_, rfl⟩
  have hb : Below wz.heap.size wz W := by rw [hW]; exact alloc_b _ _
  have B17 : Hid (Bx W g17 n17 a17 l17 c17 1) := Lib.hid (by rw [hW, hg]; exact bx_new NB.out)
  rw [← hW]
  rw [← hg]
  clear hW hg NB
  have B11 := Lib.hid (B11.out.below hb)
  have B13 := Lib.hid (B13.out.below hb)
  have B15 := Lib.hid (B15.out.below hb)
  have HWW := step1 HW HZ hb
  have HW := HWW.1
  have HZ := HWW.2
  clear HWW hb Nx1
  go_upto_region 12 with (first | (go_at_call_of 27 (Value.int .i64 2); refine (of_X 2 _ (by decide) (by decide)).mono ?_; rintro e wz ⟨x1, rfl, hn, hb⟩; (try have B11 := Lib.hid (B11.out.below hb)); (try have B13 := Lib.hid (B13.out.below hb)); (try have B15 := Lib.hid (B15.out.below hb)); (try have B17 := Lib.hid (B17.out.below hb)); have HWW := step1 HW HZ hb; have HW := HWW.1; have HZ := HWW.2; clear HWW; have Nx1 := Lib.hid hn; clear hn; clear hb) | (go_at_call 20; refine (pow_neg Nx1.out (-1) (by decide)).mono ?_; rintro e wz ⟨rfl, hb⟩; (try have B11 := Lib.hid (B11.out.below hb)); (try have B13 := Lib.hid (B13.out.below hb)); (try have B15 := Lib.hid (B15.out.below hb)); (try have B17 := Lib.hid (B17.out.below hb)); have HWW := step1 HW HZ hb; have HW := HWW.1; have HZ := HWW.2; clear HWW; clear hb))
  obtain ⟨W, hW⟩ : ∃ W, W = wz.alloc (.cells #[.bool false, .slice none 0 0] 27) := ⟨_, rfl⟩
  have hb : Below wz.heap.size wz W := by rw [hW]; exact alloc_b _ _
  rw [← hW]
  clear hW
  have B11 := Lib.hid (B11.out.below hb)
  have B13 := Lib.hid (B13.out.below hb)
  have B15 := Lib.hid (B15.out.below hb)
  have B17 := Lib.hid (B17.out.below hb)
  have HWW := step1 HW HZ hb
  have HW := HWW.1
  have HZ := HWW.2
  clear HWW hb Nx1
  have p11 := B11.out.c0
  have q11 := B11.out.c1
  have p13 := B13.out.c0
  have q13 := B13.out.c1
  have p15 := B15.out.c0
  have q15 := B15.out.c1
  have p17 := B17.out.c0
  have q17 := B17.out.c1
  go_upto_region 13 with (first | (go_at_call_of 34 (Value.slice a11 l11 c11); refine (is_yes (z := 6) (ys := [6]) (B11.out.nu.below (alloc_b _ _)) (row_new _ [6]) (bd1 (by decide)) (.inr (by decide)) (by kernel_rfl) rfl rfl).mono ?_; rintro e wz ⟨rfl, hb⟩; have hb := later hb; (try have B11 := Lib.hid (B11.out.below hb)); (try have B13 := Lib.hid (B13.out.below hb)); (try have B15 := Lib.hid (B15.out.below hb)); (try have B17 := Lib.hid (B17.out.below hb)); have HWW := step1 HW HZ hb; have HW := HWW.1; have HZ := HWW.2; clear HWW; have p11 := B11.out.c0; have q11 := B11.out.c1; have p13 := B13.out.c0; have q13 := B13.out.c1; have p15 := B15.out.c0; have q15 := B15.out.c1; have p17 := B17.out.c0; have q17 := B17.out.c1; clear hb) | (go_at_call_of 34 (Value.slice a13 l13 c13); refine (is_zero B13.out.nu).mono ?_; rintro e wz ⟨rfl, hb⟩; (try have B11 := Lib.hid (B11.out.below hb)); (try have B13 := Lib.hid (B13.out.below hb)); (try have B15 := Lib.hid (B15.out.below hb)); (try have B17 := Lib.hid (B17.out.below hb)); have HWW := step1 HW HZ hb; have HW := HWW.1; have HZ := HWW.2; clear HWW; have p11 := B11.out.c0; have q11 := B11.out.c1; have p13 := B13.out.c0; have q13 := B13.out.c1; have p15 := B15.out.c0; have q15 := B15.out.c1; have p17 := B17.out.c0; have q17 := B17.out.c1; clear hb) | (go_at_call_of 34 (Value.slice a15 l15 c15); refine (is_yes (z := (-32)) (ys := [32]) (B15.out.nu.below (alloc_b _ _)) (row_new _ [32]) (bd1 (by decide)) (.inr (by decide)) (by kernel_rfl) rfl rfl).mono ?_; rintro e wz ⟨rfl, hb⟩; have hb := later hb; (try have B11 := Lib.hid (B11.out.below hb)); (try have B13 := Lib.hid (B13.out.below hb)); (try have B15 := Lib.hid (B15.out.below hb)); (try have B17 := Lib.hid (B17.out.below hb)); have HWW := step1 HW HZ hb; have HW := HWW.1; have HZ := HWW.2; clear HWW; have p11 := B11.out.c0; have q11 := B11.out.c1; have p13 := B13.out.c0; have q13 := B13.out.c1; have p15 := B15.out.c0; have q15 := B15.out.c1; have p17 := B17.out.c0; have q17 := B17.out.c1; clear hb) | (go_at_call_of 34 (Value.slice a17 l17 c17); refine (is_yes (z := 1) (ys := [1]) (B17.out.nu.below (alloc_b _ _)) (row_new _ [1]) (bd1 (by decide)) (.inr (by decide)) (by kernel_rfl) rfl rfl).mono ?_; rintro e wz ⟨rfl, hb⟩; have hb := later hb; (try have B11 := Lib.hid (B11.out.below hb)); (try have B13 := Lib.hid (B13.out.below hb)); (try have B15 := Lib.hid (B15.out.below hb)); (try have B17 := Lib.hid (B17.out.below hb)); have HWW := step1 HW HZ hb; have HW := HWW.1; have HZ := HWW.2; clear HWW; have p11 := B11.out.c0; have q11 := B11.out.c1; have p13 := B13.out.c0; have q13 := B13.out.c1; have p15 := B15.out.c0; have q15 := B15.out.c1; have p17 := B17.out.c0; have q17 := B17.out.c1; clear hb) | (go_at_call_of 27 (Value.int .i64 0); refine (of_X 0 _ (by decide) (by decide)).mono ?_; rintro e wz ⟨x1, rfl, hn, hb⟩; have HWW := step1 HW HZ hb; have HW := HWW.1; have HZ := HWW.2; clear HWW; have Nx1 := Lib.hid hn; clear hn; clear hb) | (go_at_call_of 33 x1; refine (bits_nu Nx1.out 0 bits_0).mono ?_; rintro e wz ⟨rfl, hb⟩; have HWW := step1 HW HZ hb; have HW := HWW.1; have HZ := HWW.2; clear HWW; clear hb) | (go_at_call 27; refine (of_X (-256) _ (by decide) (by decide)).mono ?_; rintro e wz ⟨x2, rfl, hn, hb⟩; have HWW := step1 HW HZ hb; have HW := HWW.1; have HZ := HWW.2; clear HWW; have Nx2 := Lib.hid hn; clear hn; clear hb) | (go_at_call_of 33 x2; refine (bits_nu Nx2.out 9 bits_256).mono ?_; rintro e wz ⟨rfl, hb⟩; have HWW := step1 HW HZ hb; have HW := HWW.1; have HZ := HWW.2; clear HWW; clear hb))
  clear B11 B13 B15 B17 p11 q11 p13 q13 p15 q15 p17 q17 Nx1 Nx2
  go_upto_region 14 with (first | (go_at_call 24; refine (parse_yes (-12) parse_12 (by decide)).mono ?_; rintro e wz ⟨n22, a22, l22, c22, rfl, hn, hb⟩; have HWW := step1 HW HZ hb; have HW := HWW.1; have HZ := HWW.2; clear HWW; have NB := Lib.hid hn; clear hn; clear hb))
  obtain ⟨W, hW⟩ : ∃ W, W = wz.alloc (.cells #[.bool n22, .slice a22 l22 c22] 27) := ⟨_, rfl⟩
  obtain ⟨g22, hg⟩ : ∃ g, g = wz.heap.size := ⟨_, rfl⟩
  have hb : Below wz.heap.size wz W := by rw [hW]; exact alloc_b _ _
  have B22 : Hid (Bx W g22 n22 a22 l22 c22 (-12)) := Lib.hid (by rw [hW, hg]; exact bx_new NB.out)
  rw [← hW]
  rw [← hg]
  clear hW hg NB
  have HWW := step1 HW HZ hb
  have HW := HWW.1
  have HZ := HWW.2
  clear HWW hb
  go_upto_region 15 with (first | (go_at_call 24; refine (parse_no parse_007).mono ?_; rintro e wz ⟨rfl, hb⟩; (try have B22 := Lib.hid (B22.out.below hb)); have HWW := step1 HW HZ hb; have HW := HWW.1; have HZ := HWW.2; clear HWW; clear hb))
  obtain ⟨W, hW⟩ : ∃ W, W = wz.alloc (.cells #[.bool false, .slice none 0 0] 27) := ⟨_, rfl⟩
  have hb : Below wz.heap.size wz W := by rw [hW]; exact alloc_b _ _
  rw [← hW]
  clear hW
  have B22 := Lib.hid (B22.out.below hb)
  have HWW := step1 HW HZ hb
  have HW := HWW.1
  have HZ := HWW.2
  clear HWW hb
  go_upto_region 16 with (first | (go_at_call 24; refine (parse_no parse_m0).mono ?_; rintro e wz ⟨rfl, hb⟩; (try have B22 := Lib.hid (B22.out.below hb)); have HWW := step1 HW HZ hb; have HW := HWW.1; have HZ := HWW.2; clear HWW; clear hb))
  obtain ⟨W, hW⟩ : ∃ W, W = wz.alloc (.cells #[.bool false, .slice none 0 0] 27) := ⟨_, rfl⟩
  have hb : Below wz.heap.size wz W := by rw [hW]; exact alloc_b _ _
  rw [← hW]
  clear hW
  have B22 := Lib.hid (B22.out.below hb)
  have HWW := step1 HW HZ hb
  have HW := HWW.1
  have HZ := HWW.2
  clear HWW hb
  go_upto_region 17 with (first | (go_at_call 26; refine (int_no (nu_row (z := 9223372036854775808) (nb := false) (row_new _ [0, 2147483648]) (bd2 (by decide) (by decide)) (.inr (by decide)) (by kernel_rfl) rfl rfl (by decide)) (.inr (by decide))).mono ?_; rintro e wz ⟨rfl, hb⟩; have hb := later hb; (try have B22 := Lib.hid (B22.out.below hb)); have HWW := step1 HW HZ hb; have HW := HWW.1; have HZ := HWW.2; clear HWW hb))
  go_upto_region 18 with (first | (go_at_call 26; refine (int_yes (nu_row (z := -9223372036854775808) (nb := true) (row_new _ [0, 2147483648]) (bd2 (by decide) (by decide)) (.inr (by decide)) (by kernel_rfl) rfl rfl (by decide)) (by decide) (by decide)).mono ?_; rintro e wz ⟨rfl, hb⟩; have hb := later hb; (try have B22 := Lib.hid (B22.out.below hb)); have HWW := step1 HW HZ hb; have HW := HWW.1; have HZ := HWW.2; clear HWW hb))
  have p22 := B22.out.c0
  have q22 := B22.out.c1
  go_wp2_with (first | (go_at_call_of 34 (Value.slice a22 l22 c22); refine (is_yes (z := (-12)) (ys := [12]) (B22.out.nu.below (alloc_b _ _)) (row_new _ [12]) (bd1 (by decide)) (.inr (by decide)) (by kernel_rfl) rfl rfl).mono ?_; rintro e wz ⟨rfl, hb⟩; have hb := later hb; have HWW := step1 HW HZ hb; have HW := HWW.1; have HZ := HWW.2; clear HWW; clear hb) | (go_at_call 23; refine (text_any (nu_row (z := -18446744073709551616) (nb := true) (row_new _ [0, 0, 1]) (bd3 (by decide) (by decide) (by decide)) (.inr (by decide)) (by kernel_rfl) rfl rfl (by decide)) (HT.out _ (HW.out.trans ((alloc_b _ _).mono HZ.out)))).mono ?_; rintro e wz ⟨rfl, hb⟩; have hb := later hb; have HWW := step1 HW HZ hb; have HW := HWW.1; have HZ := HWW.2; clear HWW hb; rw [txt_64]))
  go_ret
  exact ⟨rfl, HW.out⟩

end Go.Proofs.YtdgmjmckeeeljaaGreatDoor
