/- Contract: Shuffle of draw. Condition: the seed is shorter than 2^31, the number fits an int. -/
import Derived.Test.YtafdjohgoopcmaaXJ
namespace Go.Proofs.Ytafdjohgoopcmaa
open Go.RowKit

def iv (x : Nat) : Value := .int .i64 (x : Int)
/-- A row of ints. -/
abbrev RowI (W : World) (g : Nat) (L : List Nat) : Prop := W.heap[g]? = some (.cells (L.map iv).toArray 3 (0, 0))

theorem RowI.cell {W : World} {g : Nat} {L : List Nat} (h : RowI W g L) {j : Nat} (hj : j < L.length) : W.cell? ⟨g, j, none⟩ = some (.int .i64 (L.getD j 0 : Nat)) := by
  rw [cell_of_row _ _ _ _ _ _ h]
  simp [iv, List.getD, hj]
theorem RowI.free {W : World} {g : Nat} {L : List Nat} (h : RowI W g L) (j : Nat) : W.frozen? ⟨g, j, none⟩ = false := frozen_of_row _ _ _ _ _ h
theorem RowI.set {W : World} {g : Nat} {L : List Nat} (h : RowI W g L) (j x : Nat) : RowI (W.setCell ⟨g, j, none⟩ (.int .i64 (x : Nat))) g (L.set j x) := by
  have := heap_setCell_same W g j _ 3 (.int .i64 (x : Nat)) h
  rw [List.setIfInBounds_toArray] at this
  rw [RowI, this, List.map_set]
  rfl
theorem RowI.below {W W' : World} {g : Nat} {L : List Nat} (h : RowI W g L) (hb : Below W.heap.size W W') : RowI W' g L := (hb.block g (Array.getElem?_eq_some_iff.1 h).1).trans h
theorem RowI.lt {W : World} {g : Nat} {L : List Nat} (h : RowI W g L) : g < W.heap.size := (Array.getElem?_eq_some_iff.1 h).1

theorem Try.info3 : (Try.prog.info? 3).map (fun i => (i.zero, i.size, i.bytes)) = some (some (.int .i64 0), 1, 8) := by kernel_rfl

theorem zeros_cells (k : Nat) : madeCells (Value.int .i64 0).cells (k * 1) = ((List.replicate k 0).map iv).toArray := by
  apply Array.ext'
  rw [show (Value.int .i64 0).cells = #[.int .i64 0] from rfl, toList_madeCells_one]
  simp [iv]

theorem make_run (k : Nat) (hk : k ≤ 1000) (W : World) : (Instr.makeSlice 34 (.int .i64 (k : Int)) (.int .i64 (k : Int))).run Try.prog W = .ok (.slice (some ⟨W.heap.size, 0, none⟩) k k) (W.alloc (.cells ((List.replicate k 0).map iv).toArray 3)) := by
  obtain ⟨i0, hii, hz0, hz1, hz2⟩ := info_parts Try.info3
  have h := run_makeSlice (P := Try.prog) W 34 3 i0 (.int .i64 0) Try.underlying34 hii hz0 .i64 .i64 (k : Int) (k : Int) (by omega) (Int.le_refl _) (by rw [hz1]; simp; omega) (by rw [hz2]; omega) (by omega)
  rw [hz1] at h
  simp only [Int.toNat_natCast] at h
  rw [zeros_cells] at h
  exact h

/-- One exchange. -/
def swp (s : ByteArray) (i : Nat) (L : List Nat) : List Nat := (L.set i (L.getD (numV s i ((i : Int) + 1)) 0)).set (numV s i ((i : Int) + 1)) (L.getD i 0)
theorem swp_len (s : ByteArray) (i : Nat) (L : List Nat) : (swp s i L).length = L.length := by simp [swp]
/-- Exchanges from i on, down to 1. -/
def shufD (s : ByteArray) : Nat → List Nat → List Nat
  | 0, L => L
  | i + 1, L => shufD s i (swp s (i + 1) L)
theorem shufD_len (s : ByteArray) : ∀ i L, (shufD s i L).length = L.length
  | 0, L => rfl
  | i + 1, L => by rw [shufD, shufD_len s i, swp_len]
def shufV (s : ByteArray) (n : Nat) : List Nat := shufD s (n - 1) (List.range n)

/-- The numbers from 0 on, and zeros. -/
def upto (n k : Nat) : List Nat := List.range k ++ List.replicate (n - k) 0
theorem upto_len {n k : Nat} (h : k ≤ n) : (upto n k).length = n := by simp [upto]; omega
theorem upto_set {n k : Nat} (h : k < n) : (upto n k).set k k = upto n (k + 1) := by
  unfold upto
  rw [show n - k = (n - (k + 1)) + 1 by omega, List.replicate_succ, List.set_append_right _ _ (by simp), List.length_range, Nat.sub_self, List.set_cons_zero, List.range_succ, List.append_assoc]
  rfl
theorem upto_end (n : Nat) : upto n n = List.range n := by simp [upto]
theorem upto_zero (n : Nat) : upto n 0 = List.replicate n 0 := by simp [upto]

theorem numV_self {s : ByteArray} {i : Nat} (hs : s.size ≠ 0) (hi : i < 1073741824) : okN s i ((i : Int) + 1) = true ∧ numV s i ((i : Int) + 1) ≤ i := by
  have h : okN s i ((i : Int) + 1) = true := (okN_iff _ _ _).2 ⟨hs, by omega, by omega, by omega⟩
  have := numV_lt h
  exact ⟨h, by omega⟩

set_option maxRecDepth 10000 in
set_option maxHeartbeats 4000000 in
theorem shuffle_good (s : ByteArray) (hs : s.size < 2147483648) (h0 : s.size ≠ 0) (n : Nat) (hn : n ≤ 400) (w : World) :
    Calls Try.prog 20 #[.string s, .int .i64 n] w fun e w' => e = .returned (.tuple #[.slice (some ⟨w.heap.size, 0, none⟩) n n, .bool true]) ∧ RowI w' w.heap.size (shufV s n) ∧ Below w.heap.size w w' := by
  have he : s.toList.isEmpty = false := by
    cases hq : s.toList with
    | nil => exact absurd ((empty_iff s).1 hq) h0
    | cons a l => rfl
  have hmk := make_run n (by omega) w
  obtain ⟨W1, hW1⟩ : ∃ W1, W1 = w.alloc (.cells ((List.replicate n 0).map iv).toArray 3) := ⟨_, rfl⟩
  have hrow : RowI W1 w.heap.size (upto n 0) := by rw [hW1, upto_zero]; exact heap_alloc_new _ _
  have hbl : Below w.heap.size w W1 := by rw [hW1]; exact (Below.refl _ _).alloc (Nat.le_refl _) _
  rw [← hW1] at hmk
  have HROW := Lib.hid hrow
  have HBL := Lib.hid hbl
  have HNB : Hid (∀ (i : Nat) W, i < 400 → Calls Try.prog 11 #[.string s, .int .i64 i, .int .i64 ((i : Int) + 1)] W fun e w' => e = .returned (.tuple #[.int .i64 (numV s i ((i : Int) + 1) : Nat), .bool true]) ∧ Below W.heap.size W w') := Lib.hid fun i W hi => by
    have := number_any s hs i ((i : Int) + 1) ⟨by omega, by omega⟩ ⟨by omega, by omega⟩ W
    rw [(numV_self h0 (by omega)).1] at this
    exact this
  have HNS := Lib.hid (fun (i : Nat) (hi : i < 1073741824) => (numV_self h0 hi).2)
  clear hW1 hrow hbl h0
  go_enter Try.func20, Try.ntmps20
  go_wp2
  go_loopw [7, 25] (fun _ kv wr => ∃ k : Nat, k ≤ n ∧ kv = .int .i64 (k : Nat) ∧ Hid (RowI wr w.heap.size (upto n k)) ∧ Hid (Below w.heap.size w wr)) (fun _ kv _ => n - (intOf kv).toNat)
  case atStart => exact ⟨0, by omega, rfl, HROW, HBL⟩
  case round =>
    obtain ⟨k, hk, rfl, hJ, hB⟩ := hrel
    by_cases hkn : k = n
    · subst hkn
      have hJ2 : Hid (RowI wr w.heap.size (List.range k)) := Lib.hid (by have := hJ.out; rwa [upto_end] at this)
      clear hJ
      go_wp2
      go_loopw [8, 9, 10] (fun jv _ _ wr => ∃ (i : Int) (L : List Nat), -1 ≤ i ∧ i < k ∧ jv = .int .i64 i ∧ Hid (L.length = k) ∧ Hid (shufD s i.toNat L = shufV s k) ∧ Hid (RowI wr w.heap.size L) ∧ Hid (Below w.heap.size w wr)) (fun jv _ _ _ => (intOf jv).toNat)
      case atStart => exact ⟨(k : Int) - 1, List.range k, by omega, by omega, rfl, Lib.hid (by simp), Lib.hid (by rw [shufV, show ((k : Int) - 1).toNat = k - 1 by omega]), hJ2, hB⟩
      case round =>
        obtain ⟨i, L, hi1, hi2, rfl, hL, hS, hR, hB2⟩ := hrel
        by_cases hi0 : i ≤ 0
        · have HF := hR.out
          have e1 : L = shufV s k := by rw [← hS.out, show i.toNat = 0 by omega]; rfl
          rw [e1] at HF
          have HF2 := Lib.hid HF
          clear HF e1
          go_wp2
          go_ret2
          exact ⟨rfl, HF2.out, hB2.out⟩
        · obtain ⟨j, rfl⟩ : ∃ j : Nat, i = (j : Int) + 1 := ⟨(i - 1).toNat, by omega⟩
          have hj := HNB.out (j + 1) wr (by omega)
          have ho := HNS.out (j + 1) (by omega)
          have hS2 : shufD s j (swp s (j + 1) L) = shufV s k := by rw [← hS.out, show ((j : Int) + 1).toNat = j + 1 by omega]; rfl
          have hlen := hL.out
          have c1 := fun (o : Nat) (h : o ≤ j + 1) => hR.out.cell (j := o) (by omega)
          have f1 := hR.out.free
          have hset := fun (a b x y : Nat) => (hR.out.set a x).set b y
          unfold swp at hS2
          rw [show ((j + 1 : Nat) : Int) = (j : Int) + 1 by omega] at hj ho hS2
          obtain ⟨o, hoe⟩ : ∃ o, o = numV s ((j : Int) + 1) ((j : Int) + 1 + 1) := ⟨_, rfl⟩
          rw [← hoe] at hj ho hS2
          have ca := c1 (j + 1) (by omega)
          have cb := c1 o ho
          have HST := Lib.hid hset
          have HS2 := Lib.hid hS2
          have HJ := Lib.hid hj
          have HLN := Lib.hid hlen
          have f2 := f1 (j + 1)
          have f3 := f1 o
          obtain ⟨a, hae⟩ : ∃ a, a = L.getD (j + 1) 0 := ⟨_, rfl⟩
          obtain ⟨b, hbe⟩ : ∃ b, b = L.getD o 0 := ⟨_, rfl⟩
          rw [← hae] at ca HS2
          rw [← hbe] at cb HS2
          have HR := Lib.hid hR.out
          clear hoe hae hbe hset hS2 hj hlen c1 f1 hS hR
          go_wp2_with (go_at_call 11; refine HJ.out.mono ?_; rintro e w2 ⟨rfl, hb2⟩; have ca2 := cell_later hb2 ca; have cb2 := cell_later hb2 cb; have HR2 := Lib.hid (HR.out.below hb2); have f2 := HR2.out.free (j + 1); have f3 := HR2.out.free o; have HB3 := Lib.hid (hB2.out.trans (hb2.mono hB2.out.size)); clear hb2)
          have hok : o < k := by omega
          have hR3 : RowI ((w2.setCell ⟨w.heap.size, j + 1, none⟩ (.int .i64 (b : Nat))).drew) w.heap.size (L.set (j + 1) b) := HR2.out.set (j + 1) b
          have cc := hR3.cell (j := o) (by rw [List.length_set, HLN.out]; exact hok)
          have fc := hR3.free o
          have HR4 : Hid (RowI (((w2.setCell ⟨w.heap.size, j + 1, none⟩ (.int .i64 (b : Nat))).setCell ⟨w.heap.size, o, none⟩ (.int .i64 (a : Nat))).drew) w.heap.size ((L.set (j + 1) b).set o a)) := Lib.hid (hR3.set o a)
          have HB4 : Hid (Below w.heap.size w (((w2.setCell ⟨w.heap.size, j + 1, none⟩ (.int .i64 (b : Nat))).setCell ⟨w.heap.size, o, none⟩ (.int .i64 (a : Nat))).drew)) := Lib.hid (((HB3.out.setCell (p := ⟨w.heap.size, j + 1, none⟩) (Nat.le_refl _) _).setCell (p := ⟨w.heap.size, o, none⟩) (Nat.le_refl _) _).drew)
          have HL4 : Hid (((L.set (j + 1) b).set o a).length = k) := Lib.hid (by simp [HLN.out])
          clear hR3
          go_region
          go_wp2
          go_roundw
          case rel => exact ⟨(j : Int), _, by omega, by omega, rfl, HL4, Lib.hid (by rw [Int.toNat_natCast]; exact HS2.out), HR4, HB4⟩
          case measure => simp [intOf]
    · have hlt : k < n := by omega
      have hc := hJ.out.cell (j := k) (by rw [upto_len hk]; exact hlt)
      have hf := hJ.out.free k
      have HJ2 : Hid (RowI (wr.setCell ⟨w.heap.size, k, none⟩ (.int .i64 (k : Nat))) w.heap.size (upto n (k + 1))) := Lib.hid (by have := hJ.out.set k k; rwa [upto_set hlt] at this)
      have HB2 : Hid (Below w.heap.size w (wr.setCell ⟨w.heap.size, k, none⟩ (.int .i64 (k : Nat)))) := Lib.hid (hB.out.setCell (p := ⟨w.heap.size, k, none⟩) (Nat.le_refl _) _)
      clear hJ
      go_wp2
      go_roundw
      case rel => exact ⟨k + 1, by omega, by go_num, HJ2, HB2⟩
      case measure => simp [intOf]; omega

set_option maxRecDepth 10000 in
set_option maxHeartbeats 1000000 in
theorem shuffle_bad (s : ByteArray) (hs : s.size < 2147483648) (n : Int) (hn : I64 n) (hbad : s.size = 0 ∨ n < 0 ∨ 400 < n) (w : World) :
    Calls Try.prog 20 #[.string s, .int .i64 n] w fun e w' => e = .returned (.tuple #[.slice none 0 0, .bool false]) ∧ w' = w := by
  have he : (s.toList.isEmpty = true) ↔ s.size = 0 := by rw [← empty_iff s]; exact List.isEmpty_iff
  by_cases h0 : s.size = 0
  · have h1 := he.2 h0
    clear he h0 hbad
    go_enter Try.func20, Try.ntmps20
    go_wp2
    go_ret2
    exact ⟨rfl, rfl⟩
  · have h1 : s.toList.isEmpty = false := by
      cases hq : s.toList.isEmpty with
      | true => exact absurd (he.1 hq) h0
      | false => rfl
    clear he
    by_cases h2 : n < 0
    · clear h0 hbad
      go_enter Try.func20, Try.ntmps20
      go_wp2
      go_ret2
      exact ⟨rfl, rfl⟩
    · have h4 : 400 < n := by omega
      clear h0 hbad
      go_enter Try.func20, Try.ntmps20
      go_wp2
      go_ret2
      exact ⟨rfl, rfl⟩

end Go.Proofs.Ytafdjohgoopcmaa
