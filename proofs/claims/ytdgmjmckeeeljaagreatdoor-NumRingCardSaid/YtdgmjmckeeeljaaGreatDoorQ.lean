/- Contract of num: Pow. -/
import Derived.Lib.ItoaNum
import Derived.Test.YtdgmjmckeeeljaaGreatDoorP
namespace Go.Proofs.YtdgmjmckeeeljaaGreatDoor
open Go.RowKit

theorem shr_i64 (n k : Nat) (hk : k < 64) : binOp BinOp.shr 3 (.int .i64 (n : Int)) (.int .i64 (k : Int)) = (pure (.int .i64 ((n / 2 ^ k : Nat) : Int)) : Sem Value) := by
  have e : binOp BinOp.shr 3 (.int .i64 (n : Int)) (.int .i64 (k : Int)) = Op.shift .shr .i64 (n : Int) .i64 (k : Int) := rfl
  have h0 : ¬ ((k : Int) < 0) := by omega
  have hm : min ((k : Int)).toNat (IntKind.bits .i64) = k := by
    rw [show IntKind.bits .i64 = 64 from rfl, Int.toNat_natCast]; omega
  rw [e]
  unfold Op.shift
  rw [if_neg h0]
  simp only [hm]
  congr 2
  rw [Int.fdiv_eq_ediv_of_nonneg _ (by exact Int.pow_nonneg (by omega))]
  simp

theorem and_one (q : Nat) (hq : q < 9223372036854775808) : binOp BinOp.and 3 (.int .i64 (q : Int)) (.int .i64 1) = (pure (.int .i64 ((q % 2 : Nat) : Int)) : Sem Value) := by
  have e : binOp BinOp.and 3 (.int .i64 (q : Int)) (.int .i64 1) = (pure (.int .i64 (IntKind.i64.wrap ((BitVec.ofInt 64 (q : Int) &&& BitVec.ofInt 64 1).toNat : Int))) : Sem Value) := rfl
  rw [e]
  have h1 : (BitVec.ofInt 64 (q : Int) &&& BitVec.ofInt 64 1).toNat = q % 2 := by
    rw [BitVec.toNat_and, ofInt_u64 q (by omega)]
    have : (BitVec.ofInt 64 1).toNat = 1 := by decide
    rw [this, Nat.and_one_is_mod]
  rw [h1, IntWalk.i64_in _ (by omega)]

theorem len_any (n : Nat) (hn : n < 9223372036854775808) (w : World) :
    ∃ L : Nat, L ≤ 63 ∧ n / 2 ^ L = 0 ∧ ∀ w, Calls Tryz.prog 52 #[.int .u64 n] w fun e w' => e = .returned (.int .i64 (L : Nat)) ∧ w' = w := by
  refine ⟨Lib.bitLen n, Lib.bitLen_le n 63 (by omega) (by simpa using hn), ?_, fun w => ?_⟩
  · by_cases h0 : n = 0
    · rw [h0]; simp
    · have := (Lib.bitLenAux_bounds 64 n (by omega) h0).2.2
      exact Nat.div_eq_of_lt this
  · have := Tryz.bits_Len (n : Int) w (by omega) (by omega)
    rwa [Int.toNat_natCast] at this

theorem digs_mono {x y : Nat} (h : x ≤ y) : (digs x).length ≤ (digs y).length :=
  digs_length_le.2 (Nat.lt_of_le_of_lt h (digs_length_le.1 (Nat.le_refl _)))

theorem fitsB_false {x y : Nat} (h : x ≤ y) (hx : fitsB x = false) : fitsB y = false := by
  unfold fitsB at *
  have := digs_mono h
  simp at hx ⊢
  omega

/-- If a power on the way does not fit, neither does the last one. -/
theorem pow_over {a : Int} {m n : Nat} (h : m ≤ n) (hf : fitsB (a ^ m).natAbs = false) : fitsB (a ^ n).natAbs = false := by
  have e : ∀ k : Nat, (a ^ k).natAbs = a.natAbs ^ k := fun k => Int.natAbs_pow a k
  rw [e] at hf ⊢
  rcases Nat.lt_or_ge 1 a.natAbs with h1 | h1
  · exact fitsB_false (Nat.pow_le_pow_right (by omega) h) hf
  · exfalso
    have : a.natAbs ^ m ≤ 1 := by
      have := Nat.pow_le_pow_left h1 m
      simpa using this
    have h2 := digs_mono this
    have h3 : (digs 1).length = 1 := by rw [digs_pos (by omega), show 1 / 4294967296 = 0 from rfl, digs_zero]; rfl
    unfold fitsB at hf
    simp at hf
    omega

/-- The boxes of Pow: its argument, its result, the power so far. -/
structure PowI (W : World) (B g : Nat) (na : Bool) (sa : Value) (p : Int) : Prop where
  a0 : W.cell? ⟨B, 0, none⟩ = some (.bool na)
  a1 : W.cell? ⟨B, 1, none⟩ = some sa
  r : ResBox W (B + 1)
  p : ∃ neg ao n cap, W.heap[g]? = some (.cells #[.bool neg, .slice ao n cap] 27 (0, 0)) ∧ neg = decide (p < 0) ∧ Sw (B + 2) W (.slice ao n cap) (digs p.natAbs)
  lt : B + 1 < g

theorem cells_two {W : World} {g : Nat} {u v : Value} (h : W.heap[g]? = some (.cells #[u, v] 27 (0, 0))) :
    W.cell? ⟨g, 0, none⟩ = some u ∧ W.cell? ⟨g, 1, none⟩ = some v ∧ W.frozen? ⟨g, 0, none⟩ = false ∧ W.frozen? ⟨g, 1, none⟩ = false := by
  refine ⟨?_, ?_, frozen_of_row W _ _ _ _ h, frozen_of_row W _ _ _ _ h⟩ <;> rw [cell_of_row W _ _ _ _ _ h] <;> rfl

theorem stored_two {w1 : World} {g : Nat} {u v : Value} (h : w1.heap[g]? = some (.cells #[u, v] 27 (0, 0))) (u0 u1 : Value) :
    ((w1.setCell ⟨g, 0, none⟩ u0).setCell ⟨g, 1, none⟩ u1).heap[g]? = some (.cells #[u0, u1] 27 (0, 0)) := by
  have h1 := heap_setCell_same w1 g 0 _ 27 u0 h
  exact heap_setCell_same _ g 1 _ 27 u1 h1

theorem PowI.step {W W1 : World} {B g : Nat} {na : Bool} {sa : Value} {p p' : Int} (h : PowI W B g na sa p) (hb : Below W.heap.size W W1) {neg : Bool} {ao : Option Addr} {n cap : Nat}
    (hneg : neg = decide (p' < 0)) (hs : Sw W.heap.size W1 (.slice ao n cap) (digs p'.natAbs)) : PowI ((W1.setCell ⟨g, 0, none⟩ (.bool neg)).setCell ⟨g, 1, none⟩ (.slice ao n cap)) B g na sa p' := by
  obtain ⟨neg0, ao0, n0, cap0, hg, _, _⟩ := h.p
  have hlt : g < W.heap.size := (Array.getElem?_eq_some_iff.1 hg).1
  have hg1 := (hb.block g hlt).trans hg
  have hst : Below g W1 ((W1.setCell ⟨g, 0, none⟩ (.bool neg)).setCell ⟨g, 1, none⟩ (.slice ao n cap)) := ((Below.refl _ _).setCell (by simp) _).setCell (by simp) _
  have hall : Below g W ((W1.setCell ⟨g, 0, none⟩ (.bool neg)).setCell ⟨g, 1, none⟩ (.slice ao n cap)) := (hb.mono (Nat.le_of_lt hlt)).trans hst
  have hlB := h.lt
  refine ⟨(hall.cell (p := ⟨B, 0, none⟩) (by simp; omega)).trans h.a0, (hall.cell (p := ⟨B, 1, none⟩) (by simp; omega)).trans h.a1, (hall.block _ hlB).trans h.r, ⟨neg, ao, n, cap, ?_, hneg, (hs.after2 hlt _ _).mono (by omega)⟩, hlB⟩
  have h1 := heap_setCell_same W1 g 0 _ 27 (.bool neg) hg1
  have h2 := heap_setCell_same _ g 1 _ 27 (.slice ao n cap) h1
  exact h2

theorem PowI.below {W W1 : World} {B g : Nat} {na : Bool} {sa : Value} {p : Int} (h : PowI W B g na sa p) (hb : Below W.heap.size W W1) : PowI W1 B g na sa p := by
  obtain ⟨neg0, ao0, n0, cap0, hg, e1, e2⟩ := h.p
  have hlt : g < W.heap.size := (Array.getElem?_eq_some_iff.1 hg).1
  exact ⟨cell_later hb h.a0, cell_later hb h.a1, h.r.below hb, ⟨neg0, ao0, n0, cap0, (hb.block g hlt).trans hg, e1, e2.below hb⟩, h.lt⟩

/-- What a product, or nothing, does to the boxes when it is stored. -/
theorem PowI.stored {W W1 : World} {B g : Nat} {na : Bool} {sa : Value} {p p' : Int} (h : PowI W B g na sa p) (hb : Below W.heap.size W W1) {neg : Bool} {ao : Option Addr} {n cap : Nat}
    (h1 : fitsB p'.natAbs = true → neg = decide (p' < 0) ∧ Sw W.heap.size W1 (.slice ao n cap) (digs p'.natAbs)) (h2 : fitsB p'.natAbs = false → neg = false ∧ ao = none ∧ n = 0 ∧ cap = 0) :
    PowI ((W1.setCell ⟨g, 0, none⟩ (.bool neg)).setCell ⟨g, 1, none⟩ (.slice ao n cap)) B g na sa (if fitsB p'.natAbs = true then p' else 0) := by
  by_cases hf : fitsB p'.natAbs = true
  · rw [if_pos hf]
    exact h.step hb (h1 hf).1 (h1 hf).2
  · rw [if_neg hf]
    obtain ⟨rfl, rfl, rfl, rfl⟩ := h2 (by simpa using hf)
    exact h.step hb rfl (by rw [show digs (Int.natAbs 0) = [] from digs_zero]; exact Sw.nil _ _ _ _)

theorem numRes_no {w W : World} {z : Int} (hf : fitsB z.natAbs = false) (hb : Below w.heap.size w W) : NumRes w z (.returned (.tuple #[.agg #[.bool false, .slice none 0 0], .bool false])) W :=
  ⟨false, none, 0, 0, by rw [hf], hb, (fun h => by rw [hf] at h; cases h), fun _ => ⟨rfl, rfl, rfl, rfl⟩⟩

theorem numRes_yes {w W : World} {z : Int} {neg : Bool} {ao : Option Addr} {n cap : Nat} (hf : fitsB z.natAbs = true) (hb : Below w.heap.size w W) (hn : neg = decide (z < 0)) (hs : Sw w.heap.size W (.slice ao n cap) (digs z.natAbs)) :
    NumRes w z (.returned (.tuple #[.agg #[.bool neg, .slice ao n cap], .bool true])) W :=
  ⟨neg, ao, n, cap, by rw [hf], hb, fun _ => ⟨hn, hs⟩, (fun h => by rw [hf] at h; cases h)⟩

theorem fits_one : fitsB (Int.natAbs 1) = true := by
  have h3 : (digs 1).length = 1 := by rw [digs_pos (by omega), show 1 / 4294967296 = 0 from rfl, digs_zero]; rfl
  show decide ((digs 1).length ≤ 256) = true
  rw [h3]; rfl

theorem bits_one (n k : Nat) : n / 2 ^ k = 2 * (n / 2 ^ (k + 1)) + n / 2 ^ k % 2 := by
  rw [Nat.pow_succ, ← Nat.div_div_eq_div_mul]
  omega

set_option maxRecDepth 10000 in
set_option maxHeartbeats 1000000 in
theorem pow_neg {w : World} {x : Value} {a : Int} (hx : Nu w x a) (n : Int) (hn : n < 0) :
    Calls Tryz.prog 20 #[x, .int .i64 n] w fun e w' => e = .returned (.tuple #[.agg #[.bool false, .slice none 0 0], .bool false]) ∧ Below w.heap.size w w' := by
  obtain ⟨sa, rfl, ha, la⟩ := hx
  have ra := rightB_digs a la
  obtain ⟨na, hna⟩ : ∃ na, na = decide (a < 0) := ⟨_, rfl⟩
  rw [← hna] at ra ⊢
  have HR : Hid (∀ W, Sl W sa (digs a.natAbs) → Calls Tryz.prog 32 #[.agg #[.bool na, sa]] W fun e w' => e = .returned (.bool true) ∧ w' = W.alloc (.cells #[.bool na, sa] 27)) := fun W h => by have := right_any na h (by omega); rwa [ra] at this
  clear hna ra
  go_enter Tryz.func20, Tryz.ntmps20
  go_wp2_with (go_at_call 32; refine (HR.out _ (ha.below (by go_grown))).mono ?_; rintro e w' ⟨rfl, rfl⟩)
  go_returns
  exact ⟨rfl, by go_grown⟩

set_option maxRecDepth 10000 in
set_option maxHeartbeats 4000000 in
theorem pow_any {w : World} {x : Value} {a : Int} (hx : Nu w x a) (n : Nat) (hn : n < 9223372036854775808) :
    Calls Tryz.prog 20 #[x, .int .i64 n] w (NumRes w (a ^ n)) := by
  obtain ⟨sa, rfl, ha, la⟩ := hx
  have ra := rightB_digs a la
  obtain ⟨na, hna⟩ : ∃ na, na = decide (a < 0) := ⟨_, rfl⟩
  rw [← hna] at ra ⊢
  have HR : Hid (∀ W, Sl W sa (digs a.natAbs) → Calls Tryz.prog 32 #[.agg #[.bool na, sa]] W fun e w' => e = .returned (.bool true) ∧ w' = W.alloc (.cells #[.bool na, sa] 27)) := fun W h => by have := right_any na h (by omega); rwa [ra] at this
  obtain ⟨L, hL, hL0, hLen⟩ := len_any n hn w
  have HLEN := Lib.hid hLen
  have HL0 := Lib.hid hL0
  have HNA := Lib.hid hna
  clear hna ra hLen hL0
  have HO : Hid (∀ W, Calls Tryz.prog 27 #[.int .i64 1] W (NewNum W 1)) := fun W => of_any 1 W (by decide) (by decide)
  have hn' : 0 ≤ (n : Int) := by omega
  have hn2 : (n : Int) ≤ 9223372036854775807 := by omega
  have HN := Lib.hid hn
  clear hn
  go_enter Tryz.func20, Tryz.ntmps20
  go_wp2_with (first | (go_at_call 32; refine (HR.out _ (ha.below (by go_grown))).mono ?_; rintro e w' ⟨rfl, rfl⟩))
  obtain ⟨k1, k2, _⟩ := heap_three w (.cells #[.bool na, sa] 27) (.cells #[.bool false, .slice none 0 0] 27) (.cells #[.bool na, sa] 27)
  have hB : Below w.heap.size w (((w.alloc (.cells #[.bool na, sa] 27)).alloc (.cells #[.bool false, .slice none 0 0] 27)).alloc (.cells #[.bool na, sa] 27)) := by go_grown
  revert k1 k2 hB
  generalize ((w.alloc (.cells #[.bool na, sa] 27)).alloc (.cells #[.bool false, .slice none 0 0] 27)).alloc (.cells #[.bool na, sa] 27) = W
  intro k1 k2 hB
  refine (HO.out _).mono ?_
  rintro e W1 ⟨neg, ao, m, cap, rfl, hb1, hneg, hs⟩
  have hI0 : PowI (W1.alloc (.cells #[.bool neg, .slice ao m cap] 27)) w.heap.size W1.heap.size na sa (a ^ (n / 2 ^ L)) := by
    have hl2 : w.heap.size + 1 < W.heap.size := (Array.getElem?_eq_some_iff.1 k2).1
    have hk1 := ((Below.refl W1.heap.size W1).alloc (Nat.le_refl _) (.cells #[.bool neg, .slice ao m cap] 27))
    have e1 := ((hk1.block _ (Nat.lt_of_lt_of_le (by omega) hb1.size)).trans (hb1.block w.heap.size (by omega))).trans k1
    have e2 := ((hk1.block _ (Nat.lt_of_lt_of_le hl2 hb1.size)).trans (hb1.block (w.heap.size + 1) hl2)).trans k2
    obtain ⟨c1, c2, _⟩ := cells_two e1
    rw [HL0.out, Int.pow_zero]
    exact ⟨c1, c2, e2, ⟨neg, ao, m, cap, heap_alloc_new W1 _, hneg, (hs.below hk1).mono (by omega)⟩, Nat.lt_of_lt_of_le hl2 hb1.size⟩
  have hBW : Below w.heap.size w (W1.alloc (.cells #[.bool neg, .slice ao m cap] 27)) := (hB.trans (hb1.mono hB.size)).alloc (Nat.le_trans hB.size hb1.size) _
  have hgW : w.heap.size + 1 < W1.heap.size := hI0.lt
  have HI0 := Lib.hid hI0
  have HBW := Lib.hid hBW
  clear hI0 hBW hneg hs hb1 hB k1 k2 
  go_wp2_with (go_at_call 52; refine (HLEN.out _).mono ?_; rintro e w' ⟨rfl, rfl⟩)
  revert HI0 HBW
  generalize W1.alloc (.cells #[.bool neg, .slice ao m cap] 27) = W2
  intro HI0 HBW
  revert HI0 hgW
  generalize W1.heap.size = g
  intro hgW HI0
  go_loopw [7] (fun kv wr => ∃ k : Nat, k ≤ L ∧ kv = .int .i64 ((k : Int) - 1) ∧ Hid (PowI wr w.heap.size g na sa (a ^ (n / 2 ^ k))) ∧ Hid (Below w.heap.size w wr) ∧ Hid (fitsB (a ^ (n / 2 ^ k)).natAbs = true)) (fun kv _ => (intOf kv + 1).toNat)
  case atStart => exact ⟨L, Nat.le_refl _, rfl, HI0, HBW, by rw [HL0.out, Int.pow_zero]; exact fits_one⟩
  case round =>
    obtain ⟨k, hk, rfl, hI, hBw, hF⟩ := hrel
    obtain ⟨c0, c1, _⟩ : wr.cell? ⟨w.heap.size, 0, none⟩ = some (.bool na) ∧ wr.cell? ⟨w.heap.size, 1, none⟩ = some sa ∧ True := ⟨hI.out.a0, hI.out.a1, trivial⟩
    obtain ⟨r0, r1, rf0, rf1⟩ := hI.out.r.cells
    obtain ⟨neg1, ao1, m1, cap1, hg, hn1, hs1⟩ := hI.out.p
    obtain ⟨p0, p1, pf0, pf1⟩ := cells_two hg
    have hp : Nu wr (.agg #[.bool neg1, .slice ao1 m1 cap1]) (a ^ (n / 2 ^ k)) := ⟨_, by rw [hn1], hs1.sl, by have := hF.out; simpa [fitsB] using this⟩
    have HP := Lib.hid hp
    have hglt : g < wr.heap.size := (Array.getElem?_eq_some_iff.1 hg).1
    have HS1 := Lib.hid hs1
    have HN1 := Lib.hid hn1
    clear hp hn1 hs1 hg
    cases k with
    | zero =>
      have hfin : NumRes w (a ^ n) (.returned (.tuple #[.agg #[.bool neg1, .slice ao1 m1 cap1], .bool true])) ((wr.setCell ⟨w.heap.size + 1, 0, none⟩ (.bool neg1)).setCell ⟨w.heap.size + 1, 1, none⟩ (.slice ao1 m1 cap1)) := by
        have e0 : n / 2 ^ 0 = n := by simp
        have h1 := HS1.out
        have h2 := HN1.out
        have h3 := hF.out
        rw [e0] at h1 h2 h3
        exact numRes_yes h3 ((hBw.out.setCell (by simp) _).setCell (by simp) _) h2 ((h1.after2 (by omega) _ _).mono (by omega))
      have HF := Lib.hid hfin
      obtain ⟨q0, q1⟩ := hI.out.r.stored (.bool neg1) (.slice ao1 m1 cap1)
      clear hfin
      go_wp2
      refine bodyPost_ret (v := .tuple #[.agg #[.bool neg1, .slice ao1 m1 cap1], .bool true]) (by simp [results, Tryz.results20, go_sem, q0, q1]) rfl ?_
      exact HF.out
    | succ k =>
      have hq : n / 2 ^ k = 2 * (n / 2 ^ (k + 1)) + n / 2 ^ k % 2 := bits_one n k
      have hle : n / 2 ^ k ≤ n := Nat.div_le_self _ _
      have hsh := shr_i64 n k (by omega)
      have han := and_one (n / 2 ^ k) (by have := HN.out; omega)
      obtain ⟨q, hq0⟩ : ∃ q, q = n / 2 ^ (k + 1) := ⟨_, rfl⟩
      obtain ⟨u, hu⟩ : ∃ u, u = n / 2 ^ k := ⟨_, rfl⟩
      obtain ⟨b, hb⟩ : ∃ b, b = u % 2 := ⟨_, rfl⟩
      have hb2 : b = 0 ∨ b = 1 := by omega
      rw [← hq0] at HP hI hF hq
      rw [← hu] at hq hle hsh han
      rw [← hb] at hq han
      have HQ := Lib.hid hq
      have HLE := Lib.hid hle
      have HU := Lib.hid hu
      clear hq hle hq0 hu hb
      have hk1 : (((k + 1 : Nat) : Int) - 1) = k := by omega
      go_wp2_with fail
      refine (mul_any HP.out HP.out).mono ?_
      rintro e W3 ⟨neg2, ao2, n2, cap2, rfl, hb3, h1, h2⟩
      have hI4 := hI.out.stored hb3 h1 h2
      have hb3' : Below w.heap.size w W3 := hBw.out.trans (hb3.mono hBw.out.size)
      have hB4 : Below w.heap.size w ((W3.setCell ⟨g, 0, none⟩ (.bool neg2)).setCell ⟨g, 1, none⟩ (.slice ao2 n2 cap2)) := (hb3'.setCell (by simp; omega) _).setCell (by simp; omega) _
      have hI3 := hI.out.below hb3
      obtain ⟨_, _, _, _, hg3, _, _⟩ := hI3.p
      obtain ⟨p0', p1', pf0', pf1'⟩ := cells_two hg3
      have hpp : a ^ q * a ^ q = a ^ (2 * q) := by rw [Nat.two_mul, Int.pow_add]
      rw [hpp] at h1 h2 hI4 ⊢
      have HPP := Lib.hid hpp
      clear hpp
      by_cases hf : fitsB (a ^ (2 * q)).natAbs = true
      · obtain ⟨hn2, hs2⟩ := h1 hf
        rw [if_pos hf] at hI4
        rw [hf]
        obtain ⟨x0, x1, _⟩ : _ ∧ _ ∧ True := ⟨hI4.a0, hI4.a1, trivial⟩
        have hg4 := stored_two hg3 (.bool neg2) (.slice ao2 n2 cap2)
        obtain ⟨y0, y1, yf0, yf1⟩ := cells_two hg4
        have hp4 : Nu ((W3.setCell ⟨g, 0, none⟩ (.bool neg2)).setCell ⟨g, 1, none⟩ (.slice ao2 n2 cap2)) (.agg #[.bool neg2, .slice ao2 n2 cap2]) (a ^ (2 * q)) := ⟨_, by rw [hn2], (hs2.after2 hglt _ _).sl, by simpa [fitsB] using hf⟩
        have HP4 := Lib.hid hp4
        have HI4 := Lib.hid hI4
        have HB4 := Lib.hid hB4
        have HF := Lib.hid hf
        clear h1 h2 hI4 hB4 hf hn2 hs2 hg4 hg3 hI3 hb3 hb3' hp4
        rcases hb2 with rfl | rfl
        · have hu2 : u = 2 * q := by have := HQ.out; omega
          have HU2 := Lib.hid hu2
          clear hu2
          go_wp2
          go_roundw
          case rel => exact ⟨k, by omega, by go_num, by rw [← HU.out, HU2.out]; exact HI4, HB4, by rw [← HU.out, HU2.out]; exact HF⟩
          case measure => simp [intOf]
        · have hu2 : u = 2 * q + 1 := by have := HQ.out; omega
          have HU2 := Lib.hid hu2
          clear hu2
          have hx4 : Nu ((W3.setCell ⟨g, 0, none⟩ (.bool neg2)).setCell ⟨g, 1, none⟩ (.slice ao2 n2 cap2)) (.agg #[.bool na, sa]) a := ⟨_, by rw [HNA.out], ha.below HB4.out, la⟩
          have HX4 := Lib.hid hx4
          clear hx4
          go_wp2_with fail
          refine (mul_any HP4.out HX4.out).mono ?_
          rintro e W5 ⟨neg5, ao5, n5, cap5, rfl, hb5, h1, h2⟩
          have hI6 := HI4.out.stored hb5 h1 h2
          have hb5' : Below w.heap.size w W5 := HB4.out.trans (hb5.mono HB4.out.size)
          have hB6 : Below w.heap.size w ((W5.setCell ⟨g, 0, none⟩ (.bool neg5)).setCell ⟨g, 1, none⟩ (.slice ao5 n5 cap5)) := (hb5'.setCell (by simp; omega) _).setCell (by simp; omega) _
          have hI5 := HI4.out.below hb5
          obtain ⟨_, _, _, _, hg5, _, _⟩ := hI5.p
          obtain ⟨z0, z1, zf0, zf1⟩ := cells_two hg5
          have hpp : a ^ (2 * q) * a = a ^ (2 * q + 1) := by rw [Int.pow_succ]
          rw [hpp] at h1 h2 hI6 ⊢
          have HPP' := Lib.hid hpp
          clear hpp
          by_cases hf : fitsB (a ^ (2 * q + 1)).natAbs = true
          · obtain ⟨hn2, hs2⟩ := h1 hf
            rw [if_pos hf] at hI6
            rw [hf]
            have HI6 := Lib.hid hI6
            have HB6 := Lib.hid hB6
            have HF6 := Lib.hid hf
            clear h1 h2 hI6 hB6 hf hn2 hs2 hg5 hI5 hb5 hb5'
            go_wp2
            go_roundw
            case rel => exact ⟨k, by omega, by go_num, by rw [← HU.out, HU2.out]; exact HI6, HB6, by rw [← HU.out, HU2.out]; exact HF6⟩
            case measure => simp [intOf]
          · have hf0 : fitsB (a ^ (2 * q + 1)).natAbs = false := by simpa using hf
            obtain ⟨rfl, rfl, rfl, rfl⟩ := h2 hf0
            rw [if_neg hf] at hI6
            rw [hf0]
            have HB4' := Lib.hid hB6
            have HF0 := Lib.hid hf0
            clear h1 h2 hf hg5 hI5 hb5 hb5' hB6 hf0
            obtain ⟨r0', r1', rf0', rf1'⟩ := hI6.r.cells
            obtain ⟨q0, q1⟩ := hI6.r.stored (.bool false) (.slice none 0 0)
            have HNO := Lib.hid (numRes_no (w := w) (z := a ^ n) (pow_over (show 2 * q + 1 ≤ n by have := HU2.out; have := HLE.out; omega) HF0.out) ((HB4'.out.setCell (p := ⟨w.heap.size + 1, 0, none⟩) (by simp) (.bool false)).setCell (p := ⟨w.heap.size + 1, 1, none⟩) (by simp) (.slice none 0 0)))
            go_wp2
            refine bodyPost_ret (v := .tuple #[.agg #[.bool false, .slice none 0 0], .bool false]) (by simp [results, Tryz.results20, go_sem, q0, q1]) rfl ?_
            exact HNO.out
      · have hf0 : fitsB (a ^ (2 * q)).natAbs = false := by simpa using hf
        obtain ⟨rfl, rfl, rfl, rfl⟩ := h2 hf0
        have hf' := hf0
        rw [hf0]
        have HB4 := Lib.hid hB4
        clear h1 h2 hf hg3 hI3 hb3 hb3' hB4
        clear hf'
        have HF0 := Lib.hid hf0
        clear hf0
        obtain ⟨r0', r1', rf0', rf1'⟩ := hI4.r.cells
        obtain ⟨q0, q1⟩ := hI4.r.stored (.bool false) (.slice none 0 0)
        have HNO := Lib.hid (numRes_no (w := w) (z := a ^ n) (pow_over (show 2 * q ≤ n by have := HQ.out; have := HLE.out; omega) HF0.out) ((HB4.out.setCell (p := ⟨w.heap.size + 1, 0, none⟩) (by simp) (.bool false)).setCell (p := ⟨w.heap.size + 1, 1, none⟩) (by simp) (.slice none 0 0)))
        go_wp2
        refine bodyPost_ret (v := .tuple #[.agg #[.bool false, .slice none 0 0], .bool false]) (by simp [results, Tryz.results20, go_sem, q0, q1]) rfl ?_
        exact HNO.out

end Go.Proofs.YtdgmjmckeeeljaaGreatDoor
