/- Contracts: a strings.Builder of this dump. Contract: strconv.FormatUint to the base 10, below 10^9. Decimal texts by groups of nine digits: the groups, the last one first, each but the first filled with zeros, are the text. Contract of num.Text, for a right Num. Premise: the table uint64pow10 is laid in the world. What the rows' condition gives: the table of powers of ten; and a world that meets it. No condition. Contract of num.Text, for a right Num. Premise: the table uint64pow10 is laid in the world. Contract of num.Text, for a right Num. Premise: the table uint64pow10 is laid in the world. Calls with numbers that are given: what the statements' examples need. No condition beyond those that each states. Contract of the statements' sanity. Condition: the table of powers of ten is laid. The law NumInts, walked. Condition: the table of powers of ten is laid. -/
import Derived.OwnWalk
import Derived.Test.YtdgmjmckeeeljaaGreatDoorGd4
import Derived.Lib.AppendIntMem
import Derived.Test.YtdgmjmckeeeljaaGreatDoorRows
import Derived.LaidLaws
import Derived.LaidHandle
import Derived.Lib.LaidTab
import Derived.Deep.DeepLaidRun
import Derived.Stop.LaidErr
namespace Go.Proofs.YtdgmjmckeeeljaaGreatDoor
open Go.RowKit

set_option maxHeartbeats 1000000 in
set_option maxRecDepth 100000 in
theorem copyCheck_used (b : Nat) (w : World) (h0 : w.cell? ⟨b, 0, none⟩ = some (.pointer (some ⟨b, 0, none⟩))) :
    Calls Tryz.prog 89 #[.pointer (some ⟨b, 0, none⟩)] w fun e w' => e = .returned (.tuple #[]) ∧ w' = w := by
  obtain ⟨j, hj, _⟩ := Option.map_eq_some_iff.1 Tryz.Builder_Extra_105.sizeBuilder
  go_enter Tryz.func89, Tryz.ntmps89
  go_wp2
  rw [Lib.run_neq_ptr_same w _ Tryz.underlying71 hj]
  go_wp2
  go_end0
  exact ⟨rfl, rfl⟩

set_option maxHeartbeats 1000000 in
set_option maxRecDepth 100000 in
theorem copyCheck_fresh (b : Nat) (w : World) (h0 : w.cell? ⟨b, 0, none⟩ = some (.pointer none)) (hsh : w.shape? b = some (73, 2)) (hfz : w.frozen? ⟨b, 0, none⟩ = false) :
    Calls Tryz.prog 89 #[.pointer (some ⟨b, 0, none⟩)] w fun e w' => e = .returned (.tuple #[]) ∧ w' = w.setCell ⟨b, 0, none⟩ (.pointer (some ⟨b, 0, none⟩)) := by
  obtain ⟨j, hj, hjs⟩ := Option.map_eq_some_iff.1 Tryz.Builder_Extra_105.sizeBuilder
  go_enter Tryz.func89, Tryz.ntmps89
  go_wp2
  rw [Lib.run_to_unsafe w ⟨b, 0, none⟩ Tryz.underlying71 Tryz.underlying122 hj (by rw [hjs]; decide) hsh (Nat.zero_lt_succ 1)]
  simp only [Result.andThen]
  rw [Oper.upon_value]
  go_wp2
  rw [run_callFunc_extern Tryz.func109 (by kernel_rfl) (by kernel_rfl) (by kernel_rfl) (e := Extern.AbiNoEscape.same) (by kernel_rfl)]
  rw [Lib.run_noEscape]
  simp only [Result.andThen]
  rw [Oper.upon_value]
  go_wp2
  rw [Lib.run_from_unsafe w ⟨b, 0, none⟩ Tryz.underlying122 Tryz.underlying71 hj hsh Tryz.Builder_Extra_105.liesBuilder]
  simp only [Result.andThen]
  rw [Oper.upon_value]
  go_wp2
  go_end0
  exact ⟨rfl, rfl⟩

/-- Every block but the builder's own and rows of bytes is as it was. -/
def KeptT (b : Nat) (w w' : World) : Prop := ∀ (g : Nat) (o : Obj), w.heap[g]? = some o → (∀ cs f, o ≠ .cells cs 5 f) → g ≠ b → w'.heap[g]? = some o

theorem KeptT.refl (b : Nat) (w : World) : KeptT b w w := fun _ _ h _ _ => h
theorem KeptT.trans {b : Nat} {w w1 w2 : World} (h : KeptT b w w1) (k : KeptT b w1 w2) : KeptT b w w2 := fun g o h1 h2 h3 => k g o (h g o h1 h2 h3) h2 h3
theorem KeptT.below {b : Nat} {w w' : World} (h : Below w.heap.size w w') : KeptT b w w' := fun g o h1 _ _ => (h.block g (Array.getElem?_eq_some_iff.1 h1).1).trans h1
theorem KeptT.setCell (b o : Nat) (w : World) (v : Value) : KeptT b w (w.setCell ⟨b, o, none⟩ v) := fun g o' h1 _ h3 => (heap_setCell_other _ _ _ _ (by simpa using h3)).trans h1
theorem KeptT.grown {b B n : Nat} {w w' : World} {row : Value} {bs : List Value} (hown : w.ownsRow B 5 1 row n bs) (hg : w.grownBy w' row.ownBlock) : KeptT b w w' := by
  intro g o h1 h2 _
  refine (hg.block g (Array.getElem?_eq_some_iff.1 h1).1 fun e => ?_).trans h1
  rcases hown.2 with ⟨rfl, _⟩ | ⟨g', cap, cur, rfl, _, hgg, _⟩
  · simp [Value.ownBlock] at e
  · simp only [Value.ownBlock, Option.some.injEq] at e
    subst e
    rw [hgg] at h1
    cases h1
    exact h2 _ _ rfl

theorem copyCheck_any (B b : Nat) (bs : List Value) (w : World) (h : Lib.IsBuilder 73 5 B b bs w) :
    Calls Tryz.prog 89 #[.pointer (some ⟨b, 0, none⟩)] w fun e w' => e = .returned (.tuple #[]) ∧ (Lib.BuilderAt 73 5 B b (.pointer (some ⟨b, 0, none⟩)) bs w' ∧ Below B w w' ∧ KeptT b w w') := by
  rcases h with h | h
  · refine (copyCheck_fresh b w h.cell0 h.shape h.frozen0).mono ?_
    rintro e w' ⟨rfl, rfl⟩
    exact ⟨rfl, h.used _, (Below.refl B w).setCell (p := ⟨b, 0, none⟩) h.1 _, KeptT.setCell b 0 w _⟩
  · refine (copyCheck_used b w h.cell0).mono ?_
    rintro e w' ⟨rfl, rfl⟩
    exact ⟨rfl, h, Below.refl B _, KeptT.refl _ _⟩

theorem slice_of_owns {W : World} {B : Nat} {e : TypeId} {size n : Nat} {v : Value} {xs : List Value} (h : W.ownsRow B e size v n xs) : ∃ ao m cap, v = .slice ao m cap := by
  rcases h.2 with ⟨hv, _⟩ | ⟨g, cap, cur, hv, _⟩
  · exact ⟨_, _, _, hv⟩
  · exact ⟨_, _, _, hv⟩

/-- A used builder, looked at: its own block, and the row of its bytes. -/
theorem builder_parts {b : Nat} {W W' : World} {row : Value} (hbk : W.heap[b]? = some (.cells #[.pointer (some ⟨b, 0, none⟩), row] 73 (0, 0))) (hg : W.grownBy W' row.ownBlock) (hne : row.ownBlock ≠ some b) :
    W'.heap[b]? = some (.cells #[.pointer (some ⟨b, 0, none⟩), row] 73 (0, 0)) ∧ W'.cell? ⟨b, 0, none⟩ = some (.pointer (some ⟨b, 0, none⟩)) ∧ W'.cell? ⟨b, 1, none⟩ = some row ∧ W'.frozen? ⟨b, 1, none⟩ = false := by
  have hlt := (Array.getElem?_eq_some_iff.1 hbk).1
  have h := (hg.block b hlt (fun e => hne e.symm)).trans hbk
  refine ⟨h, ?_, ?_, frozen_of_row W' _ _ _ _ h⟩ <;> rw [cell_of_row W' _ _ _ _ _ h] <;> rfl

set_option maxHeartbeats 1000000 in
set_option maxRecDepth 100000 in
theorem writeString_any (B b : Nat) (bs : List Value) (s : ByteArray) (w : World) (h : Lib.IsBuilder 73 5 B b bs w) (hlen : bs.length + s.size ≤ 140737488355328) (hBw : B ≤ w.heap.size) :
    Calls Tryz.prog 60 #[.pointer (some ⟨b, 0, none⟩), .string s] w fun e w' => e = .returned (.tuple #[.int .i64 s.size, .nilIface]) ∧ Lib.BuilderAt 73 5 B b (.pointer (some ⟨b, 0, none⟩)) (bs ++ Lib.strCells s) w' ∧ Below B w w' ∧ KeptT b w w' := by
  obtain ⟨i0, hi, hz0, hz1, hz2⟩ := info_parts Tryz.Builder_Extra_105.infoByte
  have HC := Lib.hid (copyCheck_any B b bs w h)
  clear h
  go_enter Tryz.func60, Tryz.ntmps60
  go_wp2_with (go_at_call 89; refine HC.out.mono ?_)
  rintro e w1 ⟨rfl, h1, hb1, hk1⟩
  obtain ⟨hB, row, hbk, hown, hne⟩ := h1
  have c0 : w1.cell? ⟨b, 0, none⟩ = some (.pointer (some ⟨b, 0, none⟩)) := by
    rw [cell_of_row w1 _ _ _ _ _ hbk]; rfl
  have c1 : w1.cell? ⟨b, 1, none⟩ = some row := by
    rw [cell_of_row w1 _ _ _ _ _ hbk]; rfl
  have hs1 := hb1.size
  go_wp2_with (at_builtin; go_must (refine Lib.wpList_append_own_string _ rfl _ _ 56 9 rfl B 5 i0 Tryz.underlying56 Tryz.underlying9 hi hz0 hz1 hz2 _ _ _ rfl hown s rfl (by unfold maxLen; omega) (by omega) (by omega) ?_; intro v' w2 hown' hgrow _; obtain ⟨hb2, d0, d1, f1⟩ := builder_parts hbk hgrow hne; obtain ⟨ao, n', cap, rfl⟩ := slice_of_owns hown'))
  go_returns
  refine ⟨rfl, Lib.BuilderAt.put (T := 73) (e := 5) hB hb2 (bs' := bs ++ Lib.strCells s) (by simpa [Lib.strCells_length] using hown') Tryz.Builder_Extra_105.neB5, ?_, (hk1.trans (KeptT.grown hown hgrow)).trans (KeptT.setCell b 1 _ _)⟩
  exact (hb1.grown hgrow (by omega) (fun k hk => (hown.lt k hk).1)).setCell (p := ⟨b, 1, none⟩) hB _

set_option maxHeartbeats 1000000 in
set_option maxRecDepth 100000 in
theorem writeByte_any (B b : Nat) (bs : List Value) (c : Int) (w : World) (h : Lib.IsBuilder 73 5 B b bs w) (hlen : bs.length + 1 ≤ 140737488355328) (hBw : B ≤ w.heap.size) :
    Calls Tryz.prog 56 #[.pointer (some ⟨b, 0, none⟩), .int .u8 c] w fun e w' => e = .returned .nilIface ∧ Lib.BuilderAt 73 5 B b (.pointer (some ⟨b, 0, none⟩)) (bs ++ [.int .u8 c]) w' ∧ Below B w w' ∧ KeptT b w w' := by
  obtain ⟨i0, hi, hz0, hz1, hz2⟩ := info_parts Tryz.Builder_Extra_105.infoByte
  have HC := Lib.hid (copyCheck_any B b bs w h)
  clear h
  go_enter Tryz.func56, Tryz.ntmps56
  go_wp2_with (go_at_call 89; refine HC.out.mono ?_)
  rintro e w1 ⟨rfl, h1, hb1, hk1⟩
  obtain ⟨hB, row, hbk, hown, hne⟩ := h1
  have c0 : w1.cell? ⟨b, 0, none⟩ = some (.pointer (some ⟨b, 0, none⟩)) := by
    rw [cell_of_row w1 _ _ _ _ _ hbk]; rfl
  have c1 : w1.cell? ⟨b, 1, none⟩ = some row := by
    rw [cell_of_row w1 _ _ _ _ _ hbk]; rfl
  have hs1 := hb1.size
  have hbk2 : (w1.alloc (.cells #[.int .u8 c] 5)).heap[b]? = some (.cells #[.pointer (some ⟨b, 0, none⟩), row] 73 (0, 0)) := (Below.heap_alloc w1 _ b (Array.getElem?_eq_some_iff.1 hbk).1).trans hbk
  go_wp2_with (at_builtin; go_must (refine wpList_append_own _ rfl _ _ 56 rfl B 5 i0 (.int .u8 0) 1 1 Tryz.underlying56 hi hz0 hz1 hz2 rfl (by decide) _ _ _ rfl (hown.alloc _) ⟨w1.heap.size, 0, none⟩ 1 1 [.int .u8 c] rfl rfl (cell_one_new _ _ _) (fun x hx => by simp at hx; subst hx; rfl) (by unfold maxLen; omega) (by omega) (by simp; omega) ?_; intro v' w2 hown' hgrow _; obtain ⟨hb2, d0, d1, f1⟩ := builder_parts hbk2 hgrow hne; obtain ⟨ao, n', cap, rfl⟩ := slice_of_owns hown'))
  go_returns
  refine ⟨rfl, Lib.BuilderAt.put (T := 73) (e := 5) hB hb2 (bs' := bs ++ [.int .u8 c]) (by simpa using hown') Tryz.Builder_Extra_105.neB5, ?_, ((hk1.trans (KeptT.below (by go_grown))).trans (KeptT.grown (hown.alloc _) hgrow)).trans (KeptT.setCell b 1 _ _)⟩
  exact ((hb1.alloc (by omega) _).grown hgrow (by simp; omega) (fun k hk => (hown.lt k hk).1)).setCell (p := ⟨b, 1, none⟩) hB _

end Go.Proofs.YtdgmjmckeeeljaaGreatDoor

namespace Go.Proofs.YtdgmjmckeeeljaaGreatDoor
open Go.RowKit Go.Sort Go.Lib Go.Shelf

set_option maxHeartbeats 1000000 in
set_option maxRecDepth 10000 in
theorem fmt_small (u : Nat) (h : u < 100) (w : World) : Calls Tryz.prog 91 #[.int .u64 u, .int .i64 10] w fun e w' => e = .returned (.string ⟨(Lib.decDigits u).toArray⟩) ∧ w' = w := by
  have HS := Lib.hid (fun W => Tryz.internal_strconv_small u h W)
  go_enter Tryz.func91, Tryz.ntmps91
  go_wp2_with (go_at_call 110; refine (HS.out _).mono ?_; rintro e w' ⟨rfl, rfl⟩)
  go_ret
  exact ⟨rfl, rfl⟩

set_option maxHeartbeats 2000000 in
set_option maxRecDepth 10000 in
theorem fmt_big (u : Nat) (h : 100 ≤ u) (hu : u < 18446744073709551616) (w : World) (htab : Lib.TabIs Tryz.prog w "internal/strconv.uint64pow10" .u64 Lib.pow10Tab) : Calls Tryz.prog 91 #[.int .u64 u, .int .i64 10] w fun e w' => e = .returned (.string ⟨(Lib.decDigits u).toArray⟩) ∧ Below w.heap.size w w' := by
  obtain ⟨nd, hnd⟩ : ∃ nd, nd = Lib.nDigits u := ⟨_, rfl⟩
  have h20 : nd ≤ 20 := by rw [hnd]; have := Lib.numDigits_eq u (by omega) hu; split at this <;> omega
  have hND := Lib.hid (fun W htab => Tryz.internal_strconv_numDigits u (by omega) hu W htab)
  have hH := Lib.holds_zero0 w 125 nd (by omega)
  have hfmt := Tryz.internal_strconv_formatBase10 w.heap.size 0 24 u (Array.replicate nd 0) (w.alloc (.cells Lib.zeros24 125)) hH (by rw [Array.size_replicate, hnd]; exact Lib.lt_pow_nDigits u) hu (by rw [Array.size_replicate]; omega)
  rw [Array.size_replicate] at hfmt
  have hsl : ∀ W, (Instr.sliceAt 125 (.pointer (some ⟨w.heap.size, 0, none⟩)) none (some (.int .i64 (nd : Int))) none).run Tryz.prog W = .ok (.slice (some ⟨w.heap.size, 0, none⟩) nd 24) W := fun W => by
    have hal : Tryz.prog.arrayLen 125 = 24 := by kernel_rfl
    rw [run_sliceAt_array_h W 125 ⟨w.heap.size, 0, none⟩ (by kernel_rfl) .i64 (nd : Int) (by omega) (by rw [hal]; omega)]
    go_simp
  rw [← hnd] at hND
  have HH := Lib.hid hH
  have HF := Lib.hid hfmt
  have HNN := Lib.hid hnd
  clear hH hfmt hnd
  go_enter Tryz.func91, Tryz.ntmps91
  go_wp2_with (go_at_call 111; refine (hND.out _ (Lib.tabIs_alloc htab _)).mono ?_; rintro e w' ⟨rfl, rfl⟩)
  refine HF.out.mono ?_
  rintro e w' ⟨rfl, k, v', dk, rfl, hF⟩
  have hb : Below w.heap.size w ((putRow (fun (b : UInt8) => Value.int .u8 (b.toNat : Int)) (w.alloc (.cells Lib.zeros24 125)) w.heap.size 0 dk).drewN k) := by
    obtain ⟨os, e⟩ := Lib.fin_at w (.cells Lib.zeros24 125) dk k 0
    rw [e]
    exact Lib.below_grow _ _ (Nat.le_refl _) _ _
  have hcv : (convert 56 9 (.slice (some ⟨w.heap.size, 0, none⟩) nd 24)).run Tryz.prog ((putRow (fun (b : UInt8) => Value.int .u8 (b.toNat : Int)) (w.alloc (.cells Lib.zeros24 125)) w.heap.size 0 dk).drewN k) = .ok (.string ⟨(Lib.decDigits u).toArray⟩) ((putRow (fun (b : UInt8) => Value.int .u8 (b.toNat : Int)) (w.alloc (.cells Lib.zeros24 125)) w.heap.size 0 dk).drewN k) := by
    have hl : (Lib.decDigits u).length = nd := by rw [Lib.decDigits_length]; exact HNN.out.symm
    have hF' := hF
    rw [HNN.out] at hF'
    have hc := run_convert_bytes_back (P := Tryz.prog) ((putRow (fun (b : UInt8) => Value.int .u8 (b.toNat : Int)) (w.alloc (.cells Lib.zeros24 125)) w.heap.size 0 dk).drewN k) 56 9 5 ⟨w.heap.size, 0, none⟩ 24 (Lib.decDigits u) Tryz.underlying56 Tryz.underlying5 Tryz.underlying9 (fun j hj => by
      rw [Lib.row_is_numeral hF' j hj, Lib.add_plain, World.cell?_drewN]
      exact cell?_putRow (fun (b : UInt8) => Value.int .u8 (b.toNat : Int)) _ w.heap.size 0 _ dk HH.out (by rw [hF.size, Array.size_replicate]) j (by rw [hF.size]; omega))
    rw [hl] at hc
    exact hc
  revert hb hcv
  generalize (putRow (fun (b : UInt8) => Value.int .u8 (b.toNat : Int)) (w.alloc (.cells Lib.zeros24 125)) w.heap.size 0 dk).drewN k = W4
  intro hb hcv
  go_wp2
  go_ret
  exact ⟨rfl, hb⟩

set_option maxRecDepth 10000 in
/-- strconv.FormatUint to the base 10. -/
theorem fmt_any (u : Nat) (hu : u < 18446744073709551616) (w : World) (htab : Lib.TabIs Tryz.prog w "internal/strconv.uint64pow10" .u64 Lib.pow10Tab) : Calls Tryz.prog 59 #[.int .u64 u, .int .i64 10] w fun e w' => e = .returned (.string ⟨(Lib.decDigits u).toArray⟩) ∧ Below w.heap.size w w' := by
  have H : Hid (∀ W, Lib.TabIs Tryz.prog W "internal/strconv.uint64pow10" .u64 Lib.pow10Tab → Calls Tryz.prog 91 #[.int .u64 u, .int .i64 10] W fun e w' => e = .returned (.string ⟨(Lib.decDigits u).toArray⟩) ∧ Below W.heap.size W w') := fun W ht => by
    by_cases h : u < 100
    · exact (fmt_small u h W).mono fun e w' hh => ⟨hh.1, by rw [hh.2]; exact Below.refl _ _⟩
    · exact fmt_big u (by omega) hu W ht
  go_enter Tryz.func59, Tryz.ntmps59
  go_wp2_with (go_at_call 91; refine (H.out _ htab).mono ?_; rintro e w' ⟨rfl, hb⟩)
  go_ret
  exact ⟨rfl, hb⟩

end Go.Proofs.YtdgmjmckeeeljaaGreatDoor

namespace Go.Proofs.YtdgmjmckeeeljaaGreatDoor
open Go.Lib

/-- k decimal digits. -/
def pad : Nat → Nat → List UInt8
  | 0, _ => []
  | k + 1, g => pad k (g / 10) ++ [UInt8.ofNat (48 + g % 10)]

theorem repeatL_snoc (k : Nat) (b : UInt8) : repeatL [b] (k + 1) = repeatL [b] k ++ [b] := by
  induction k with
  | zero => rfl
  | succ k ih =>
    show [b] ++ repeatL [b] (k + 1) = ([b] ++ repeatL [b] k) ++ [b]
    rw [ih, List.append_assoc]

theorem pad_zero (k : Nat) : pad k 0 = repeatL [48] k := by
  induction k with
  | zero => rfl
  | succ k ih =>
    rw [repeatL_snoc, ← ih]
    rfl

theorem dec_ge {u : Nat} (h : ¬ u < 10) : decDigits u = decDigits (u / 10) ++ [UInt8.ofNat (48 + u % 10)] := by
  rw [decDigits, dif_neg h]

theorem pad_fill : ∀ (k g : Nat), g < 10 ^ (k + 1) → repeatL [48] (k + 1 - (decDigits g).length) ++ decDigits g = pad (k + 1) g
  | k, g, hg => by
    by_cases h : g < 10
    · rw [decDigits_one h]
      show repeatL [48] (k + 1 - 1) ++ _ = pad k (g / 10) ++ [UInt8.ofNat (48 + g % 10)]
      rw [Nat.add_sub_cancel, Nat.div_eq_of_lt h, Nat.mod_eq_of_lt h, pad_zero]
    · cases k with
      | zero => simp at hg; omega
      | succ k =>
        have ih := pad_fill k (g / 10) (by rw [Nat.div_lt_iff_lt_mul (by omega)]; rwa [Nat.pow_succ] at hg)
        rw [dec_ge h, List.length_append, List.length_singleton]
        show _ = pad (k + 1) (g / 10) ++ [UInt8.ofNat (48 + g % 10)]
        rw [← ih, List.append_assoc]
        congr 2
        omega

theorem dec_split : ∀ (k x : Nat), x / 10 ^ k ≠ 0 → decDigits x = decDigits (x / 10 ^ k) ++ pad k (x % 10 ^ k)
  | 0, x, _ => by simp [pad]
  | k + 1, x, h => by
    have hp : 10 ^ (k + 1) = 10 * 10 ^ k := by rw [Nat.pow_succ, Nat.mul_comm]
    rw [hp, ← Nat.div_div_eq_div_mul] at h
    have hx : ¬ x < 10 := fun hx => h (by rw [Nat.div_eq_of_lt hx, Nat.zero_div])
    have ih := dec_split k (x / 10) h
    rw [dec_ge hx, ih, hp, ← Nat.div_div_eq_div_mul]
    show _ = _ ++ (pad k (x % (10 * 10 ^ k) / 10) ++ [UInt8.ofNat (48 + x % (10 * 10 ^ k) % 10)])
    rw [Nat.mod_mul_right_div_self, Nat.mod_mul_right_mod, List.append_assoc]

/-- The text of groups, the lowest first. -/
def grpText : List Nat → List UInt8
  | [] => []
  | [g] => decDigits g
  | g :: r => grpText r ++ (repeatL [48] (9 - (decDigits g).length) ++ decDigits g)

theorem grpText_grp (x : Nat) : grpText (grp x) = decDigits x := by
  induction x using Nat.strongRecOn with
  | _ x ih =>
    rw [grp]
    by_cases h : x < 1000000000
    · rw [if_pos h]; rfl
    · rw [if_neg h]
      have h0 : x / 1000000000 ≠ 0 := by omega
      have hi := ih (x / 1000000000) (Nat.div_lt_self (by omega) (by omega))
      have hs := dec_split 9 x (by simpa using h0)
      have hf := pad_fill 8 (x % 1000000000) (Nat.mod_lt _ (by omega))
      simp only [show (10 : Nat) ^ 9 = 1000000000 from rfl] at hs
      rw [hs, ← hi, ← hf]
      rw [grp_step (x / 1000000000)]
      rfl

end Go.Proofs.YtdgmjmckeeeljaaGreatDoor

namespace Go.Proofs.YtdgmjmckeeeljaaGreatDoor
open Go.RowKit Go.Shelf
attribute [local go_sem] Oper.semAt_some

/-- The table that FormatUint reads is laid. -/
abbrev Tab (w : World) : Prop := Lib.TabIs Tryz.prog w "internal/strconv.uint64pow10" .u64 Lib.pow10Tab

theorem tab_kept {w W : World} (h : Tab w) (hk : ∀ (g : Nat) (o : Obj), w.heap[g]? = some o → o.isCells = true → g < w.heap.size → W.heap[g]? = some o) : Tab W := by
  unfold Tab Lib.TabIs World.var? at h ⊢
  cases hg : Tryz.prog.globalNamed "internal/strconv.uint64pow10" with
  | none => rw [hg] at h; cases h
  | some g =>
    rw [hg] at h
    simp only [Option.bind_some] at h ⊢
    cases ho : w.heap[g]? with
    | none => rw [ho] at h; cases h
    | some o =>
      rw [ho] at h
      cases o with
      | cells cs t f =>
        rw [hk g _ ho rfl (Array.getElem?_eq_some_iff.1 ho).1]
        exact h
      | _ => cases h

theorem tab_below {w W : World} (h : Tab w) (hb : Below w.heap.size w W) : Tab W := tab_kept h fun g _ h1 _ h2 => (hb.block g h2).trans h1

/-- Bytes as cells. -/
def chars (l : List UInt8) : List Value := l.map fun b => Value.int .u8 b.toNat
theorem chars_append (a b : List UInt8) : chars (a ++ b) = chars a ++ chars b := by simp [chars]
theorem chars_str (l : List UInt8) : Lib.strCells ⟨l.toArray⟩ = chars l := rfl

/-- A builder holds what it held, where all cells are as they were. -/
theorem builder_kept {B b : Nat} {p : Value} {bs : List Value} {w W : World} (h : Lib.BuilderAt 73 5 B b p bs w) (hk : ∀ (g : Nat) (o : Obj), w.heap[g]? = some o → o.isCells = true → W.heap[g]? = some o) : Lib.BuilderAt 73 5 B b p bs W := by
  obtain ⟨hB, v, hb, hown, hne⟩ := h
  refine ⟨hB, v, hk _ _ hb rfl, ⟨hown.1, ?_⟩, hne⟩
  rcases hown.2 with h1 | ⟨g, cap, cur, h1, h2, h3, h4⟩
  · exact .inl h1
  · exact .inr ⟨g, cap, cur, h1, h2, hk _ _ h3 rfl, h4⟩

theorem isBuilder_kept {B b : Nat} {bs : List Value} {w W : World} (h : Lib.IsBuilder 73 5 B b bs w) (hk : ∀ (g : Nat) (o : Obj), w.heap[g]? = some o → o.isCells = true → W.heap[g]? = some o) : Lib.IsBuilder 73 5 B b bs W :=
  h.imp (fun h => builder_kept h hk) (fun h => builder_kept h hk)

theorem isBuilder_below {B b : Nat} {bs : List Value} {w W : World} (h : Lib.IsBuilder 73 5 B b bs w) (hb : Below w.heap.size w W) : Lib.IsBuilder 73 5 B b bs W :=
  isBuilder_kept h fun g _ h1 _ => (hb.block g (Array.getElem?_eq_some_iff.1 h1).1).trans h1

/-- What holds when k groups are written. -/
structure TxI (B0 b g : Nat) (w : World) (ao : Option Addr) (cap : Nat) (L : List Nat) (pre : List UInt8) (k : Nat) (W : World) : Prop where
  c : W.heap[g]? = some (.cells #[.slice ao L.length cap] 25 (0, 0))
  sl : Sl W (.slice ao L.length cap) L
  ty : ∀ bb off, ao = some ⟨bb, off, none⟩ → ∃ cs f t, t ≠ 5 ∧ bb ≠ b ∧ W.heap[bb]? = some (.cells cs t f)
  bd : Lib.IsBuilder 73 5 B0 b (chars (pre ++ grpText (L.drop (L.length - k)))) W
  tab : Tab W
  bl : Below B0 w W

theorem txI_kept {B0 b g : Nat} {w W W' : World} {ao : Option Addr} {cap : Nat} {L : List Nat} {pre : List UInt8} {k : Nat} (h : TxI B0 b g w ao cap L pre k W) (hk : ∀ (g : Nat) (o : Obj), W.heap[g]? = some o → o.isCells = true → W'.heap[g]? = some o) (hb : Below B0 w W') : TxI B0 b g w ao cap L pre k W' := by
  refine ⟨hk _ _ h.c rfl, ⟨h.sl.bd, h.sl.len, ?_⟩, fun bb off e => ?_, isBuilder_kept h.bd hk, tab_kept h.tab (fun g o h1 h2 _ => hk g o h1 h2), hb⟩
  · rcases h.sl.is with h1 | ⟨bb, off, cap', hv, hc, hcl⟩
    · exact .inl h1
    · refine .inr ⟨bb, off, cap', hv, hc, fun j hj => ?_⟩
      cases hv
      obtain ⟨cs, f, t, _, _, ho⟩ := h.ty bb off rfl
      rw [← hcl j hj]
      exact World.cell?_of_block (a := ⟨bb, off + j, none⟩) ((hk _ _ ho rfl).trans ho.symm)
  · obtain ⟨cs, f, t, h1, h2, ho⟩ := h.ty bb off e
    exact ⟨cs, f, t, h1, h2, hk _ _ ho rfl⟩

theorem txI_own {B0 b g : Nat} {w : World} {ao : Option Addr} {cap : Nat} {L : List Nat} {pre : List UInt8} {w0 : World} (h0 : B0 ≤ w.heap.size) (h1 : w.heap.size ≤ w0.heap.size) : OwnFrom w0.heap.size (TxI B0 b g w ao cap L pre) := by
  intro k W W' row hs hg hr
  refine txI_kept hs (fun q o hq hc => ?_) (hs.bl.grown hg (Nat.le_trans h0 hs.bl.size) (fun r e => Nat.le_trans (Nat.le_trans h0 h1) (hr r e).1))
  refine (hg.block q (Array.getElem?_eq_some_iff.1 hq).1 fun e => ?_).trans hq
  obtain ⟨_, o', ho', hc'⟩ := hr q e.symm
  rw [hq] at ho'
  cases ho'
  rw [hc] at hc'
  cases hc'

theorem grpText_drop {L : List Nat} {k : Nat} (hk : k < L.length) (h0 : k ≠ 0) : grpText (L.drop (L.length - (k + 1))) = grpText (L.drop (L.length - k)) ++ (Lib.repeatL [48] (9 - (Lib.decDigits (L.getD (L.length - 1 - k) 0)).length) ++ Lib.decDigits (L.getD (L.length - 1 - k) 0)) := by
  have h1 : L.length - (k + 1) < L.length := by omega
  rw [List.drop_eq_getElem_cons h1, show L.length - (k + 1) + 1 = L.length - k by omega]
  have h2 : L.getD (L.length - 1 - k) 0 = L[L.length - (k + 1)] := by
    rw [show L.length - 1 - k = L.length - (k + 1) by omega]
    simp [List.getD, h1]
  rw [h2]
  have h3 : L.length - k < L.length := by omega
  rw [List.drop_eq_getElem_cons h3]
  rfl

theorem grpText_first {L : List Nat} (h : 0 < L.length) : grpText (L.drop (L.length - 1)) = Lib.decDigits (L.getD (L.length - 1) 0) := by
  have h1 : L.length - 1 < L.length := by omega
  rw [List.drop_eq_getElem_cons h1, show L.length - 1 + 1 = L.length by omega, List.drop_length]
  simp [List.getD, h1, grpText]

end Go.Proofs.YtdgmjmckeeeljaaGreatDoor

namespace Go.Proofs.YtdgmjmckeeeljaaGreatDoor
open Go.RowKit

/-- What the rows list. -/
abbrev laidL : List (String × DataW Unit) := Rows.numIntsRow.laid

theorem pow10_data : Rows.laid_internal_strconv_uint64pow10 (H := Unit) = Lib.tabData .u64 Lib.pow10Tab := by rfl
theorem pow10_named : Tryz.prog.globalNamed "internal/strconv.uint64pow10" = some 1 := by kernel_rfl

theorem tab_of_laid {W : World} (h : laidMetH Tryz.prog laidL W) : Tab W := by
  have h1 : laidMet Tryz.prog laidL W := h
  have h2 := h1.tail.tail
  rw [pow10_data] at h2
  exact Lib.tabIs_of_head pow10_named (by kernel_rfl) Tryz.underlying137 Tryz.underlying69 (by kernel_rfl) (by kernel_rfl) h2

/-- The cells of plain data. -/
def dataCells : DataW Unit → Array Value
  | .agg ds => (ds.map fun d => match d with | .lit (.int k z) => Value.int k z | _ => undef).toArray
  | _ => #[]

abbrev rangeS : ByteArray := ⟨#[118, 97, 108, 117, 101, 32, 111, 117, 116, 32, 111, 102, 32, 114, 97, 110, 103, 101]⟩
abbrev syntaxS : ByteArray := ⟨#[105, 110, 118, 97, 108, 105, 100, 32, 115, 121, 110, 116, 97, 120]⟩

noncomputable def low : Nat := (World.holding Tryz.prog default ⟨#[], #[], []⟩).heap.size

/-- A world that meets the condition: the settled one, the variables laid. -/
noncomputable def laidWorld (os : Os) : World :=
  let w0 := World.holding Tryz.prog os ⟨#[.cells #[.string rangeS] 153, .cells #[.string syntaxS] 153], #[], []⟩
  let put (g : Nat) (cs : Array Value) (h : Array Obj) : Array Obj := h.modify g fun
    | .cells _ t frozen => .cells cs t frozen
    | o => o
  { w0 with heap := put 5 (dataCells Rows.laid_math_bits_deBruijn32tab) (put 6 (dataCells Rows.laid_math_bits_deBruijn64tab) (put 1 (dataCells Rows.laid_internal_strconv_uint64pow10)
      (put 4 #[.iface 151 (.pointer (some ⟨low, 0, none⟩))] (put 3 #[.iface 151 (.pointer (some ⟨low + 1, 0, none⟩))] w0.heap)))) }

theorem laidWorld_met (os : Os) (args : Array Value) : laidMetH Tryz.prog laidL ((laidWorld os).forCall (fun _ _ => 0) ⟨#[], args, []⟩).memory :=
  (laidMet_of_run3 8 (by kernel_rfl) (by kernel_rfl) (by kernel_rfl) : laidMet Tryz.prog laidL ((laidWorld os).forCall (fun _ _ => 0) ⟨#[], args, []⟩).memory)

end Go.Proofs.YtdgmjmckeeeljaaGreatDoor

namespace Go.Proofs.YtdgmjmckeeeljaaGreatDoor
open Go.RowKit Go.Shelf
attribute [local go_sem] Oper.semAt_some

theorem pad_len : ∀ k g, (pad k g).length = k
  | 0, _ => rfl
  | k + 1, g => by simp [pad, pad_len k]

theorem dec_len9 {g : Nat} (h : g < 1000000000) : (Lib.decDigits g).length ≤ 9 := by
  have := congrArg List.length (pad_fill 8 g (by simpa using h))
  rw [List.length_append, pad_len] at this
  omega

theorem rep_len (k : Nat) (b : UInt8) : (Lib.repeatL [b] k).length = k := by
  induction k with
  | zero => rfl
  | succ k ih => rw [repeatL_snoc, List.length_append, ih]; rfl

theorem grpText_len : ∀ L : List Nat, (∀ d ∈ L, d < 1000000000) → (grpText L).length ≤ 9 * L.length
  | [], _ => by simp [grpText]
  | [g], h => by
    have := dec_len9 (h g (by simp))
    simpa [grpText] using this
  | g :: a :: r, h => by
    have h1 := grpText_len (a :: r) (fun d hd => h d (List.mem_cons_of_mem _ hd))
    have h2 := dec_len9 (h g (by simp))
    show (grpText (a :: r) ++ (Lib.repeatL [48] (9 - (Lib.decDigits g).length) ++ Lib.decDigits g)).length ≤ _
    rw [List.length_append, List.length_append, rep_len]
    simp only [List.length_cons] at h1 ⊢
    omega

/-- What holds when k groups are written. -/
structure TxJ (w : World) (b g g' : Nat) (ao : Option Addr) (cap : Nat) (L : List Nat) (pre : List UInt8) (k : Nat) (W : World) : Prop where
  c : W.heap[g]? = some (.cells #[.slice ao L.length cap] 25 (0, 0))
  c' : W.heap[g']? = some (.cells #[.slice ao L.length cap] 25 (0, 0))
  sl : Sl W (.slice ao L.length cap) L
  ty : Ty59 W ao
  bd : Lib.IsBuilder 73 5 w.heap.size b (chars (pre ++ grpText (L.drop (L.length - k)))) W
  bl : Below w.heap.size w W

theorem Sl.row59 {W W' : World} {ao : Option Addr} {n cap : Nat} {L : List Nat} (h : Sl W (.slice ao n cap) L) (ht : Ty59 W ao) (hk : ∀ (g : Nat) (o : Obj), W.heap[g]? = some o → (∃ cs f, o = .cells cs 59 f) → W'.heap[g]? = some o) : Sl W' (.slice ao n cap) L ∧ Ty59 W' ao := by
  refine ⟨⟨h.bd, h.len, ?_⟩, fun bb off e => ?_⟩
  · rcases h.is with h1 | ⟨bb, off, cap', hv, hc, hcl⟩
    · exact .inl h1
    · refine .inr ⟨bb, off, cap', hv, hc, fun j hj => ?_⟩
      cases hv
      obtain ⟨cs, f, ho⟩ := ht bb off rfl
      rw [← hcl j hj]
      exact World.cell?_of_block (a := ⟨bb, off + j, none⟩) ((hk _ _ ho ⟨_, _, rfl⟩).trans ho.symm)
  · obtain ⟨cs, f, ho⟩ := ht bb off e
    exact ⟨cs, f, hk _ _ ho ⟨_, _, rfl⟩⟩

theorem txJ_kept {w W W' : World} {b g g' : Nat} {ao : Option Addr} {cap : Nat} {L : List Nat} {pre : List UInt8} {k : Nat} (h : TxJ w b g g' ao cap L pre k W) (hk : ∀ (g : Nat) (o : Obj), W.heap[g]? = some o → o.isCells = true → W'.heap[g]? = some o) (hb : Below w.heap.size w W') : TxJ w b g g' ao cap L pre k W' := by
  obtain ⟨h1, h2⟩ := h.sl.row59 h.ty (W' := W') (fun g o ho hx => by obtain ⟨cs, f, rfl⟩ := hx; exact hk g _ ho rfl)
  exact ⟨hk _ _ h.c rfl, hk _ _ h.c' rfl, h1, h2, isBuilder_kept h.bd hk, hb⟩

theorem txJ_own {w : World} {b g g' : Nat} {ao : Option Addr} {cap : Nat} {L : List Nat} {pre : List UInt8} {B : Nat} (hB : w.heap.size ≤ B) : OwnFrom B (TxJ w b g g' ao cap L pre) := by
  intro k W W' row hs hg hr
  refine txJ_kept hs (fun q o hq hc => ?_) (hs.bl.grown hg hs.bl.size (fun r e => Nat.le_trans hB (hr r e).1))
  refine (hg.block q (Array.getElem?_eq_some_iff.1 hq).1 fun e => ?_).trans hq
  obtain ⟨_, o', ho', hc'⟩ := hr q e.symm
  rw [hq] at ho'
  cases ho'
  rw [hc] at hc'
  cases hc'

/-- The builder's own block is a builder's. -/
theorem builder_ty {B b : Nat} {bs : List Value} {W : World} (h : Lib.IsBuilder 73 5 B b bs W) : ∃ cs, W.heap[b]? = some (.cells cs 73 (0, 0)) := by
  rcases h with ⟨_, v, hb, _⟩ | ⟨_, v, hb, _⟩
  · exact ⟨_, hb⟩
  · exact ⟨_, hb⟩

/-- A round: what is not the builder's is as it was. -/
theorem txJ_step {w W W' : World} {b g g' : Nat} {ao : Option Addr} {cap : Nat} {L : List Nat} {pre : List UInt8} {k : Nat} (h : TxJ w b g g' ao cap L pre k W) (hk : KeptT b W W') (hb : Below w.heap.size W W')
    (hd : Lib.IsBuilder 73 5 w.heap.size b (chars (pre ++ grpText (L.drop (L.length - (k + 1))))) W') : TxJ w b g g' ao cap L pre (k + 1) W' := by
  obtain ⟨cs0, hb0⟩ := builder_ty h.bd
  have hne : ∀ q cs t f, W.heap[q]? = some (.cells cs t f) → t ≠ 73 → q ≠ b := fun q cs t f hq ht e => by
    subst e
    rw [hb0] at hq
    cases hq
    exact ht rfl
  obtain ⟨h1, h2⟩ := h.sl.row59 h.ty (W' := W') (fun q o ho hx => by
    obtain ⟨cs, f, rfl⟩ := hx
    exact hk q _ ho (fun cs f e => by cases e) (hne q _ _ _ ho (by decide)))
  exact ⟨hk _ _ h.c (fun cs f e => by cases e) (hne _ _ _ _ h.c (by decide)), hk _ _ h.c' (fun cs f e => by cases e) (hne _ _ _ _ h.c' (by decide)), h1, h2, hd, h.bl.trans hb⟩

theorem keeps_of_keptT {B b : Nat} {W W' : World} {cs0 : Array Value} (hb0 : W.heap[b]? = some (.cells cs0 73 (0, 0))) (hk : KeptT b W W') (hs : W.heap.size ≤ W'.heap.size) : KeepsFrom B W W' :=
  ⟨hs, fun q o _ hq hc => hk q o hq (fun cs f e => by subst e; cases hc) (fun e => by subst e; rw [hb0] at hq; cases hq; cases hc)⟩

/-- A fresh builder. -/
theorem builder_fresh (w W : World) (h : w.heap.size ≤ W.heap.size) : Lib.IsBuilder 73 5 w.heap.size W.heap.size (chars []) (W.alloc (.cells #[.pointer none, .slice none 0 0] 73)) :=
  .inl ⟨h, .slice none 0 0, heap_alloc_new _ _, ⟨rfl, .inl ⟨rfl, rfl⟩⟩, by simp [Value.ownBlock]⟩

/-- The text of a number. -/
def txt (a : Int) : List UInt8 := (if a < 0 then [45] else []) ++ Lib.decDigits a.natAbs

end Go.Proofs.YtdgmjmckeeeljaaGreatDoor

namespace Go.Proofs.YtdgmjmckeeeljaaGreatDoor
open Go.RowKit Go.Shelf
attribute [local go_sem] Oper.semAt_some

theorem isB {B b : Nat} {bs : List Value} {W : World} (h : Lib.BuilderAt 73 5 B b (.pointer (some ⟨b, 0, none⟩)) bs W) : Lib.IsBuilder 73 5 B b bs W := .inr h

set_option maxRecDepth 100000 in
set_option maxHeartbeats 4000000 in
theorem text_any {w : World} {v : Value} {a : Int} (hN : Nu w v a) (htab : Tab w) : Calls Tryz.prog 23 #[v] w fun e w' => e = .returned (.string ⟨(txt a).toArray⟩) ∧ Below w.heap.size w w' := by
  obtain ⟨s, rfl, hs, hl⟩ := hN
  have hr := rightB_digs a hl
  obtain ⟨x, hx⟩ : ∃ x, x = a.natAbs := ⟨_, rfl⟩
  rw [← hx] at hs hl hr
  obtain ⟨ao0, cap0, hsv⟩ := hs.mk'
  obtain ⟨n0, hn0⟩ : ∃ n, n = (digs x).length := ⟨_, rfl⟩
  rw [← hn0] at hsv
  subst hsv
  refine (callsIn_wide (n := 5)).1 ?_
  have w32 : Fence.wide.fn 32 := trivial
  have w56 : Fence.wide.fn 56 := trivial
  have w57 : Fence.wide.fn 57 := trivial
  have w58 : Fence.wide.fn 58 := trivial
  have w59 : Fence.wide.fn 59 := trivial
  have w60 : Fence.wide.fn 60 := trivial
  have w61 : Fence.wide.fn 61 := trivial
  have w62 : Fence.wide.fn 62 := trivial
  obtain ⟨neg, hneg⟩ : ∃ neg, neg = decide (a < 0) := ⟨_, rfl⟩
  rw [← hneg] at hr ⊢
  have H32 : Hid (∀ k W, Below w.heap.size w W → CallsIn Fence.wide k Tryz.prog 32 #[.agg #[.bool neg, .slice ao0 n0 cap0]] W fun e w' => e = .returned (.bool true) ∧ Below W.heap.size W w') := fun k W hW => callsIn_wide.2 ((right_any neg (hs.below hW) (by omega)).mono fun e w' h => by
    rw [hr] at h
    exact ⟨h.1, by rw [h.2]; exact (Below.refl _ _).alloc (Nat.le_refl _) _⟩)
  have H57 : Hid (∀ k W, Below w.heap.size w W → CallsIn Fence.wide k Tryz.prog 57 #[.slice ao0 n0 cap0] W fun e w' => ∃ ao cap, e = .returned (.slice ao (grp x).length cap) ∧ Sl w' (.slice ao (grp x).length cap) (grp x) ∧ Below W.heap.size W w' ∧ Ty59 w' ao) := fun k W hW => callsIn_wide.2 ((groups_any (hs.below hW) hl).mono fun e w' ⟨ao, cap, h1, h2, h3, h4⟩ => ⟨ao, cap, h1, h2.sl, h3, h4⟩)
  have H56 : Hid (∀ k B b bs W, Lib.IsBuilder 73 5 B b bs W → bs.length + 1 ≤ 140737488355328 → B ≤ W.heap.size → CallsIn Fence.wide k Tryz.prog 56 #[.pointer (some ⟨b, 0, none⟩), .int .u8 45] W fun e w' => e = .returned .nilIface ∧ Lib.BuilderAt 73 5 B b (.pointer (some ⟨b, 0, none⟩)) (bs ++ [.int .u8 45]) w' ∧ Below B W w' ∧ KeptT b W w') := fun k B b bs W h1 h2 h3 => callsIn_wide.2 (writeByte_any B b bs 45 W h1 h2 h3)
  obtain ⟨L, hL⟩ : ∃ L, L = grp x := ⟨_, rfl⟩
  have hLb : ∀ d ∈ L, d < 1000000000 := by rw [hL]; exact grp_bd x
  have hL1 : 1 ≤ L.length := by rw [hL]; exact grp_pos x
  have hL2 : L.length ≤ 514 := by
    rw [hL]
    by_cases h0 : (digs x).length = 0
    · have : x = 0 := digs_inj (by rw [digs_zero]; exact List.eq_nil_of_length_eq_zero h0)
      rw [this, grp]; simp
    · have := grp_len2 hl (by omega)
      omega
  rw [← hL] at H57
  obtain ⟨pre, hpre⟩ : ∃ pre : List UInt8, pre = if a < 0 then [45] else [] := ⟨_, rfl⟩
  have hpl : pre.length ≤ 1 := by rw [hpre]; split <;> simp
  obtain ⟨res, hres⟩ : ∃ res : ByteArray, res = ⟨(txt a).toArray⟩ := ⟨_, rfl⟩
  rw [← hres]
  have HRES : Hid (res = ⟨(pre ++ grpText L).toArray⟩) := by
    rw [hres, hL, grpText_grp, hpre, hx]
    rfl
  obtain ⟨nL, hnL⟩ : ∃ nL, nL = L.length := ⟨_, rfl⟩
  rw [← hnL] at H57 hL1 hL2
  have HNL := Lib.hid hnL
  have HLB := Lib.hid hLb
  have HTAB := Lib.hid htab
  have HNEG := Lib.hid hneg
  have HPRE := Lib.hid hpre
  clear hs hl hr hx hn0 hneg hL hLb hpre hres hnL htab
  refine callsIn_of_wp_marks Tryz.func23 rfl trivial ?_ rfl
  simp only [Tryz.ntmps23, List.size_toArray, List.length_cons, List.length_nil, Nat.reduceAdd, Nat.reduceSub, Array.replicate_succ, Array.replicate_zero, List.push_toArray, List.append_toArray, List.nil_append, List.cons_append]
  cases neg
  · have hpr : pre = [] := by rw [HPRE.out, if_neg (by have := HNEG.out; simpa using this)]
    have HPR := Lib.hid hpr
    clear hpr
    gi_wp2_with (first | (gi_at_call 32; refine (H32.out _ _ (by go_grown)).mono ?_; rintro e w1 ⟨rfl, hb1⟩; have r1 : w1.heap[w.heap.size]? = some (.cells #[.bool false, .slice ao0 n0 cap0] 27 (0, 0)) := (hb1.block w.heap.size (by simp)).trans (heap_alloc_new _ _); have hb1' : Below w.heap.size w w1 := ((Below.refl _ w).alloc (Nat.le_refl _) _).trans (hb1.mono (by simp)); have hlt1 : w.heap.size < w1.heap.size := (Array.getElem?_eq_some_iff.1 r1).1; have r2 : (w1.alloc (.cells #[.pointer none, .slice none 0 0] 73)).heap[w.heap.size]? = some (.cells #[.bool false, .slice ao0 n0 cap0] 27 (0, 0)) := (Below.heap_alloc _ _ _ hlt1).trans r1; have c0 : (w1.alloc (.cells #[.pointer none, .slice none 0 0] 73)).cell? ⟨w.heap.size, 0, none⟩ = some (.bool false) := (cell_of_row _ _ _ _ _ _ r2).trans rfl; have c1 : (w1.alloc (.cells #[.pointer none, .slice none 0 0] 73)).cell? ⟨w.heap.size, 1, none⟩ = some (.slice ao0 n0 cap0) := (cell_of_row _ _ _ _ _ _ r2).trans rfl; have hfr := builder_fresh w w1 (Nat.le_of_lt hlt1); have HFR := Lib.hid hfr; have HB1 : Hid (Below w.heap.size w (w1.alloc (.cells #[.pointer none, .slice none 0 0] 73))) := Lib.hid (hb1'.alloc (Nat.le_of_lt hlt1) _); have HR2 := Lib.hid r2; have HL1 := Lib.hid hlt1; clear hb1 r1 hb1' hlt1 r2 hfr) | (gi_at_call 57; refine (H57.out _ _ HB1.out).mono ?_; rintro e w3 ⟨ao, cap, rfl, hsl, hb3, hty⟩; have HSL := Lib.hid hsl; have HTY := Lib.hid hty; have HB3 := Lib.hid (HB1.out.trans (hb3.mono HB1.out.size)); have HBD3 := Lib.hid (isBuilder_below HFR.out hb3); clear hsl hb3 hty) | (gi_at_call 58; refine (backward_in Fence.wide _ w58 rfl _ _ _ _).mono ?_; rintro e w' ⟨rfl, rfl⟩))
    have hI0 : TxJ w w1.heap.size w3.heap.size (w3.heap.size + 1) ao cap L pre 0 ((w3.alloc (.cells #[.slice ao nL cap] 25)).alloc (.cells #[.slice ao nL cap] 25)) := by
      have e0 : pre ++ grpText (L.drop (L.length - 0)) = [] := by rw [HPR.out, Nat.sub_zero, List.drop_length]; rfl
      have hbb : Below w3.heap.size w3 ((w3.alloc (.cells #[.slice ao nL cap] 25)).alloc (.cells #[.slice ao nL cap] 25)) := by go_grown
      have k2 := heap_alloc_new (w3.alloc (.cells #[.slice ao nL cap] 25)) (.cells #[.slice ao nL cap] 25)
      rw [World.size_alloc] at k2
      obtain ⟨q1, q2⟩ := HSL.out.row59 HTY.out (W' := ((w3.alloc (.cells #[.slice ao nL cap] 25)).alloc (.cells #[.slice ao nL cap] 25))) (fun q o ho _ => (hbb.block q (Array.getElem?_eq_some_iff.1 ho).1).trans ho)
      rw [HNL.out] at q1 q2 k2 hbb ⊢
      refine ⟨(Below.heap_alloc _ _ _ (by simp)).trans (heap_alloc_new _ _), k2, q1, q2, ?_, HB3.out.trans (hbb.mono HB3.out.size)⟩
      rw [e0]
      exact isBuilder_below HBD3.out hbb
    have HI0 := Lib.hid hI0
    have HS3 := Lib.hid HB3.out.size
    clear hI0
    refine rangeFunc_counts rfl (by omega) (gf := 90) (lb := #[.pointer (some ⟨w3.heap.size + 1, 0, none⟩)]) rfl trivial (enters_of Tryz.func90 (by kernel_rfl) rfl)
      (backward_counts Fence.wide 4 trivial rfl (by omega) (w3.heap.size + 1) ao cap L (by rw [← HNL.out]; omega) (TxJ w w1.heap.size w3.heap.size (w3.heap.size + 1) ao cap L pre) (fun k W h => by rw [cell_of_row _ _ _ _ _ _ h.c']; rfl) (fun k W h hk => ?hcell)) (fun _ => rfl)
      (txJ_own (by have := HS3.out; simp; omega)) HI0.out
      (fun k => { tmps := #[.agg #[.bool false, .slice ao0 n0 cap0], .pointer (some ⟨w.heap.size, 0, none⟩), .string ⟨#[]⟩, .pointer (some ⟨w1.heap.size, 0, none⟩), .pointer (some ⟨w3.heap.size, 0, none⟩), .int .i64 ((L.length - 1 - k : Nat) : Int), .int .u32 ((L.getD (L.length - 1 - k) 0 : Nat) : Int), undef, .agg #[.bool false, .slice ao0 n0 cap0], .bool true, .bool false, .pointer (some ⟨w.heap.size, 0, none⟩), .bool false, undef, .pointer (some ⟨w.heap.size, 1, none⟩), .slice ao0 n0 cap0, .slice ao nL cap, .slice ao nL cap, .func (.func 90) #[] #[.pointer (some ⟨w3.heap.size + 1, 0, none⟩)], .int .i64 ((L.length - 1 - k : Nat) : Int), .int .u32 ((L.getD (L.length - 1 - k) 0 : Nat) : Int), undef, undef, undef, undef, undef, undef, undef, undef, undef, undef, undef, undef, undef, undef, undef, undef], defers := [] }) ?assign ?body ?done
    case hcell =>
      obtain ⟨b, off, e, _, _, hcl⟩ := h.sl.at (by rw [← HNL.out]; omega)
      exact ⟨b, off, e, hcl _ (by omega)⟩
    case assign =>
      intro y k W K hK
      obtain ⟨i, hi⟩ : ∃ i, i = L.length - 1 - k := ⟨_, rfl⟩
      obtain ⟨u, hu⟩ : ∃ u, u = L.getD (L.length - 1 - k) 0 := ⟨_, rfl⟩
      unfold backArgs
      rw [← hu, ← hi] at hK ⊢
      clear hi hu
      gi_wp2
      exact hK
    case body =>
      intro y k W hk hI
      obtain ⟨i, hi⟩ : ∃ i, i = L.length - 1 - k := ⟨_, rfl⟩
      obtain ⟨u, hu⟩ : ∃ u, u = L.getD (L.length - 1 - k) 0 := ⟨_, rfl⟩
      rw [← hu, ← hi]
      have hil : i < L.length := by omega
      have hub : u < 1000000000 := by
        rw [hu, ← hi, show L.getD i 0 = L[i] by simp [List.getD, hil]]
        exact HLB.out _ (List.getElem_mem hil)
      obtain ⟨D, hD⟩ : ∃ D : ByteArray, D = ⟨(Lib.decDigits u).toArray⟩ := ⟨_, rfl⟩
      obtain ⟨nd, hnd⟩ : ∃ nd, nd = (Lib.decDigits u).length := ⟨_, rfl⟩
      have hDs : D.size = nd := by rw [hD, hnd]; simp [ByteArray.size]
      have hnd9 : nd ≤ 9 := by rw [hnd]; exact dec_len9 hub
      obtain ⟨Z, hZ⟩ : ∃ Z : ByteArray, Z = ⟨(Lib.repeatL [48] (9 - nd)).toArray⟩ := ⟨_, rfl⟩
      have hZs : Z.size = 9 - nd := by rw [hZ]; simp [ByteArray.size, rep_len]
      have HF : Hid (∀ k W, Tab W → CallsIn Fence.wide k Tryz.prog 59 #[.int .u64 u, .int .i64 10] W fun e w' => e = .returned (.string D) ∧ Below W.heap.size W w') := fun k W ht => callsIn_wide.2 (by rw [hD]; exact fmt_any u (by omega) W ht)
      have HRP : Hid (∀ k W, CallsIn Fence.wide k Tryz.prog 61 #[.string ⟨#[48]⟩, .int .i64 (9 - (nd : Int))] W fun e w' => e = .returned (.string Z) ∧ Below W.heap.size W w') := fun k W => callsIn_wide.2 (by
        have := Tryz.strings_Repeat ⟨#[48]⟩ (9 - nd) W (by omega) (by show 1 * (9 - nd) ≤ _; omega)
        rw [show ((9 - nd : Nat) : Int) = 9 - (nd : Int) by omega] at this
        rw [hZ]; exact this)
      have H60 : Hid (∀ k bs s W, Lib.IsBuilder 73 5 w.heap.size w1.heap.size bs W → bs.length + s.size ≤ 140737488355328 → w.heap.size ≤ W.heap.size → CallsIn Fence.wide k Tryz.prog 60 #[.pointer (some ⟨w1.heap.size, 0, none⟩), .string s] W fun e w' => e = .returned (.tuple #[.int .i64 s.size, .nilIface]) ∧ Lib.BuilderAt 73 5 w.heap.size w1.heap.size (.pointer (some ⟨w1.heap.size, 0, none⟩)) (bs ++ Lib.strCells s) w' ∧ Below w.heap.size W w' ∧ KeptT w1.heap.size W w') := fun k bs s W h1 h2 h3 => callsIn_wide.2 (writeString_any w.heap.size w1.heap.size bs s W h1 h2 h3)
      have hc : W.cell? ⟨w3.heap.size, 0, none⟩ = some (.slice ao nL cap) := by rw [cell_of_row _ _ _ _ _ _ hI.c, ← HNL.out]; rfl
      have hln1 : (chars (pre ++ grpText (L.drop (L.length - k)))).length ≤ 9000 := by
        have h1 := grpText_len (L.drop (L.length - k)) (fun d hd => HLB.out d (List.mem_of_mem_drop hd))
        rw [List.length_drop] at h1
        have h2 := HNL.out
        simp only [chars, List.length_map, List.length_append]
        omega
      have htb := tab_below HTAB.out hI.bl
      obtain ⟨cs0, hb0⟩ := builder_ty hI.bd
      have HBW := Lib.hid hI.bl.size
      have HB0 := Lib.hid hb0
      have HTB := Lib.hid htb
      have HI := Lib.hid hI
      have HBD := Lib.hid hI.bd
      have HKT := Lib.hid (KeptT.refl w1.heap.size W)
      have HBL := Lib.hid (Below.refl w.heap.size W)
      have HU := Lib.hid hu
      have HII := Lib.hid hi
      have HD := Lib.hid hD
      have HZ := Lib.hid hZ
      have HND := Lib.hid hnd
      have hnl := HNL.out
      have HKL := Lib.hid hk
      by_cases hk0 : k = 0
      · have hik : i = nL - 1 := by omega
        have hi2 : ¬ ((i : Int) < (nL : Int) - 1) := by omega
        have HLN := Lib.hid hln1
        have HK0 := Lib.hid hk0
        clear hln1 htb hb0 hI hu hi hD hZ hnd hnl hk hk0 hik HI0
        gi_wp2_with (first | (gi_at_call 59; refine (CallsIn.inRound y (HF.out _ _ HTB.out)).mono ?_; rintro e w4 ⟨rfl, hb⟩; have hc4 : w4.cell? ⟨w3.heap.size, 0, none⟩ = some (.slice ao nL cap) := cell_later hb hc; have HBD := Lib.hid (isBuilder_below HBD.out hb); have HKT := Lib.hid (HKT.out.trans (KeptT.below hb)); have HBL := Lib.hid (HBL.out.trans (hb.mono (Nat.le_trans HBW.out HBL.out.size))); clear hb) | (gi_at_call 60; refine (CallsIn.inRound y (H60.out _ _ D _ HBD.out (by have := HLN.out; rw [hDs]; omega) (Nat.le_trans HBW.out HBL.out.size))).mono ?_; rintro e w7 ⟨rfl, hbd, hb, hk⟩; have HBD := Lib.hid (isB hbd); have HKT := Lib.hid (HKT.out.trans hk); have HBL := Lib.hid (HBL.out.trans hb); clear hb hbd hk))
        refine ⟨keeps_of_keptT HB0.out HKT.out HBL.out.size, txJ_step HI.out HKT.out HBL.out ?_⟩
        have h1 := HBD.out
        rw [HK0.out, Nat.sub_zero, List.drop_length, HD.out, chars_str, ← chars_append] at h1
        rw [HK0.out, Nat.zero_add, grpText_first (by rw [← HNL.out]; omega)]
        have h2 := HU.out
        rw [HK0.out, Nat.sub_zero] at h2
        rw [← h2]
        simpa [grpText] using h1
      · have hi2 : (i : Int) < (nL : Int) - 1 := by omega
        have HLN1 := Lib.hid hln1
        have HK0 := Lib.hid hk0
        clear hln1 htb hb0 hI hu hi hD hZ hnd hnl hk hk0 HI0
        gi_wp2_with (first | (gi_at_call 59; refine (CallsIn.inRound y (HF.out _ _ HTB.out)).mono ?_; rintro e w4 ⟨rfl, hb⟩; have hc4 : w4.cell? ⟨w3.heap.size, 0, none⟩ = some (.slice ao nL cap) := cell_later hb hc; have HBD := Lib.hid (isBuilder_below HBD.out hb); have HKT := Lib.hid (HKT.out.trans (KeptT.below hb)); have HBL := Lib.hid (HBL.out.trans (hb.mono (Nat.le_trans HBW.out HBL.out.size))); clear hb) | (gi_at_call 61; refine (CallsIn.inRound y (HRP.out _ _)).mono ?_; rintro e w5 ⟨rfl, hb⟩; have HBD := Lib.hid (isBuilder_below HBD.out hb); have HKT := Lib.hid (HKT.out.trans (KeptT.below hb)); have HBL := Lib.hid (HBL.out.trans (hb.mono (Nat.le_trans HBW.out HBL.out.size))); clear hb) | (gi_at_call 60; refine (CallsIn.inRound y (H60.out _ _ _ _ HBD.out (by first | (rw [hZs]; have := HLN1.out; omega) | (rw [List.length_append, hDs, show (Lib.strCells Z).length = Z.size from Lib.strCells_length Z, hZs]; have := HLN1.out; omega)) (Nat.le_trans HBW.out HBL.out.size))).mono ?_; rintro e w6 ⟨rfl, hbd, hb, hk⟩; have HBD := Lib.hid (isB hbd); have HKT := Lib.hid (HKT.out.trans hk); have HBL := Lib.hid (HBL.out.trans hb); clear hb hbd hk))
        refine ⟨keeps_of_keptT HB0.out HKT.out HBL.out.size, txJ_step HI.out HKT.out HBL.out ?_⟩
        have h1 := HBD.out
        rw [HD.out, HZ.out, chars_str, chars_str, ← chars_append, ← chars_append] at h1
        rw [grpText_drop HKL.out HK0.out, ← HU.out, ← HND.out, ← List.append_assoc, ← List.append_assoc]
        exact h1
    case done =>
      intro D W hD hI hK
      have hbd := hI.bd
      rw [Nat.sub_self, List.drop_zero] at hbd
      obtain ⟨cs0, hb0⟩ := builder_ty hI.bd
      have hne : some D ≠ some w1.heap.size := fun e => by
        cases e
        rw [hb0] at hK
        cases hK
      have H62 : Hid (∀ k, CallsIn Fence.wide k Tryz.prog 62 #[.pointer (some ⟨w1.heap.size, 0, none⟩)] W fun e w' => e = .returned (.string res) ∧ Below w.heap.size W w' ∧ Lib.OthersKept 5 (some w1.heap.size) W w') := fun k => callsIn_wide.2 ((Any.Builder_String_any_k Tryz.lays169 Tryz.Builder_Extra_169 w.heap.size w1.heap.size (pre ++ grpText L) W (Lib.IsBuilderF.of hbd) hI.bl.size).mono fun e w' h => ⟨by rw [HRES.out]; exact h.1, h.2.2.1, h.2.2.2⟩)
      have HBL := Lib.hid hI.bl
      have HK := Lib.hid hK
      have HNE := Lib.hid hne
      clear hI hK hbd hb0 HI0 hne
      gi_wp2_with (gi_at_call 62; refine (H62.out _).mono ?_; rintro e w4 ⟨rfl, hb, hok⟩)
      have hK4 := hok _ _ HK.out HNE.out (fun c f e => by cases e)
      refine ⟨by simp, .inl ⟨_, _, rfl, run_takeDeferred hK4, ?_⟩⟩
      refine ⟨_, results_tmp rfl _ _ _, rfl, ?_⟩
      exact (HBL.out.trans hb).grown (grownBy_putObj' _ D _) (by have := HBL.out.size; have := hb.size; omega) (fun k e => by cases e; have := HS3.out; simp at hD; omega)
  · have hpr : pre = [45] := by rw [HPRE.out, if_pos (by have := HNEG.out; simpa using this)]
    have HPR := Lib.hid hpr
    clear hpr
    gi_wp2_with (first | (gi_at_call 32; refine (H32.out _ _ (by go_grown)).mono ?_; rintro e w1 ⟨rfl, hb1⟩; have r1 : w1.heap[w.heap.size]? = some (.cells #[.bool true, .slice ao0 n0 cap0] 27 (0, 0)) := (hb1.block w.heap.size (by simp)).trans (heap_alloc_new _ _); have hb1' : Below w.heap.size w w1 := ((Below.refl _ w).alloc (Nat.le_refl _) _).trans (hb1.mono (by simp)); have hlt1 : w.heap.size < w1.heap.size := (Array.getElem?_eq_some_iff.1 r1).1; have r2 : (w1.alloc (.cells #[.pointer none, .slice none 0 0] 73)).heap[w.heap.size]? = some (.cells #[.bool true, .slice ao0 n0 cap0] 27 (0, 0)) := (Below.heap_alloc _ _ _ hlt1).trans r1; have c0 : (w1.alloc (.cells #[.pointer none, .slice none 0 0] 73)).cell? ⟨w.heap.size, 0, none⟩ = some (.bool true) := (cell_of_row _ _ _ _ _ _ r2).trans rfl; have c1 : (w1.alloc (.cells #[.pointer none, .slice none 0 0] 73)).cell? ⟨w.heap.size, 1, none⟩ = some (.slice ao0 n0 cap0) := (cell_of_row _ _ _ _ _ _ r2).trans rfl; have hfr := builder_fresh w w1 (Nat.le_of_lt hlt1); have HFR := Lib.hid hfr; have HB1 : Hid (Below w.heap.size w (w1.alloc (.cells #[.pointer none, .slice none 0 0] 73))) := Lib.hid (hb1'.alloc (Nat.le_of_lt hlt1) _); have HR2 := Lib.hid r2; have HL1 := Lib.hid hlt1; clear hb1 r1 hb1' hlt1 r2 hfr) | (gi_at_call 56; refine (H56.out _ w.heap.size _ _ _ HFR.out (by simp [chars]) HB1.out.size).mono ?_; rintro e w2 ⟨rfl, hbd, hb2, hk2⟩; have r3 := hk2 _ _ HR2.out (fun cs f e => by cases e) (by have := HL1.out; omega); have c3 : w2.cell? ⟨w.heap.size, 1, none⟩ = some (.slice ao0 n0 cap0) := (cell_of_row _ _ _ _ _ _ r3).trans rfl; have HBD : Hid (Lib.IsBuilder 73 5 w.heap.size w1.heap.size (chars [45]) w2) := Lib.hid (.inr hbd); have HB2 := Lib.hid (HB1.out.trans hb2); clear hbd hb2 hk2 r3) | (gi_at_call 57; refine (H57.out _ _ HB2.out).mono ?_; rintro e w3 ⟨ao, cap, rfl, hsl, hb3, hty⟩; have HSL := Lib.hid hsl; have HTY := Lib.hid hty; have HB3 := Lib.hid (HB2.out.trans (hb3.mono HB2.out.size)); have HBD3 := Lib.hid (isBuilder_below HBD.out hb3); clear hsl hb3 hty) | (gi_at_call 58; refine (backward_in Fence.wide _ w58 rfl _ _ _ _).mono ?_; rintro e w' ⟨rfl, rfl⟩))
    have hI0 : TxJ w w1.heap.size w3.heap.size (w3.heap.size + 1) ao cap L pre 0 ((w3.alloc (.cells #[.slice ao nL cap] 25)).alloc (.cells #[.slice ao nL cap] 25)) := by
      have e0 : pre ++ grpText (L.drop (L.length - 0)) = [45] := by rw [HPR.out, Nat.sub_zero, List.drop_length]; rfl
      have hbb : Below w3.heap.size w3 ((w3.alloc (.cells #[.slice ao nL cap] 25)).alloc (.cells #[.slice ao nL cap] 25)) := by go_grown
      have k2 := heap_alloc_new (w3.alloc (.cells #[.slice ao nL cap] 25)) (.cells #[.slice ao nL cap] 25)
      rw [World.size_alloc] at k2
      obtain ⟨q1, q2⟩ := HSL.out.row59 HTY.out (W' := ((w3.alloc (.cells #[.slice ao nL cap] 25)).alloc (.cells #[.slice ao nL cap] 25))) (fun q o ho _ => (hbb.block q (Array.getElem?_eq_some_iff.1 ho).1).trans ho)
      rw [HNL.out] at q1 q2 k2 hbb ⊢
      refine ⟨(Below.heap_alloc _ _ _ (by simp)).trans (heap_alloc_new _ _), k2, q1, q2, ?_, HB3.out.trans (hbb.mono HB3.out.size)⟩
      rw [e0]
      exact isBuilder_below HBD3.out hbb
    have HI0 := Lib.hid hI0
    have HS3 := Lib.hid HB3.out.size
    clear hI0
    refine rangeFunc_counts rfl (by omega) (gf := 90) (lb := #[.pointer (some ⟨w3.heap.size + 1, 0, none⟩)]) rfl trivial (enters_of Tryz.func90 (by kernel_rfl) rfl)
      (backward_counts Fence.wide 4 trivial rfl (by omega) (w3.heap.size + 1) ao cap L (by rw [← HNL.out]; omega) (TxJ w w1.heap.size w3.heap.size (w3.heap.size + 1) ao cap L pre) (fun k W h => by rw [cell_of_row _ _ _ _ _ _ h.c']; rfl) (fun k W h hk => ?hcell)) (fun _ => rfl)
      (txJ_own (by have := HS3.out; simp; omega)) HI0.out
      (fun k => { tmps := #[.agg #[.bool true, .slice ao0 n0 cap0], .pointer (some ⟨w.heap.size, 0, none⟩), .string ⟨#[]⟩, .pointer (some ⟨w1.heap.size, 0, none⟩), .pointer (some ⟨w3.heap.size, 0, none⟩), .int .i64 ((L.length - 1 - k : Nat) : Int), .int .u32 ((L.getD (L.length - 1 - k) 0 : Nat) : Int), undef, .agg #[.bool true, .slice ao0 n0 cap0], .bool true, .bool false, .pointer (some ⟨w.heap.size, 0, none⟩), .bool true, .nilIface, .pointer (some ⟨w.heap.size, 1, none⟩), .slice ao0 n0 cap0, .slice ao nL cap, .slice ao nL cap, .func (.func 90) #[] #[.pointer (some ⟨w3.heap.size + 1, 0, none⟩)], .int .i64 ((L.length - 1 - k : Nat) : Int), .int .u32 ((L.getD (L.length - 1 - k) 0 : Nat) : Int), undef, undef, undef, undef, undef, undef, undef, undef, undef, undef, undef, undef, undef, undef, undef, undef], defers := [] }) ?assign ?body ?done
    case hcell =>
      obtain ⟨b, off, e, _, _, hcl⟩ := h.sl.at (by rw [← HNL.out]; omega)
      exact ⟨b, off, e, hcl _ (by omega)⟩
    case assign =>
      intro y k W K hK
      obtain ⟨i, hi⟩ : ∃ i, i = L.length - 1 - k := ⟨_, rfl⟩
      obtain ⟨u, hu⟩ : ∃ u, u = L.getD (L.length - 1 - k) 0 := ⟨_, rfl⟩
      unfold backArgs
      rw [← hu, ← hi] at hK ⊢
      clear hi hu
      gi_wp2
      exact hK
    case body =>
      intro y k W hk hI
      obtain ⟨i, hi⟩ : ∃ i, i = L.length - 1 - k := ⟨_, rfl⟩
      obtain ⟨u, hu⟩ : ∃ u, u = L.getD (L.length - 1 - k) 0 := ⟨_, rfl⟩
      rw [← hu, ← hi]
      have hil : i < L.length := by omega
      have hub : u < 1000000000 := by
        rw [hu, ← hi, show L.getD i 0 = L[i] by simp [List.getD, hil]]
        exact HLB.out _ (List.getElem_mem hil)
      obtain ⟨D, hD⟩ : ∃ D : ByteArray, D = ⟨(Lib.decDigits u).toArray⟩ := ⟨_, rfl⟩
      obtain ⟨nd, hnd⟩ : ∃ nd, nd = (Lib.decDigits u).length := ⟨_, rfl⟩
      have hDs : D.size = nd := by rw [hD, hnd]; simp [ByteArray.size]
      have hnd9 : nd ≤ 9 := by rw [hnd]; exact dec_len9 hub
      obtain ⟨Z, hZ⟩ : ∃ Z : ByteArray, Z = ⟨(Lib.repeatL [48] (9 - nd)).toArray⟩ := ⟨_, rfl⟩
      have hZs : Z.size = 9 - nd := by rw [hZ]; simp [ByteArray.size, rep_len]
      have HF : Hid (∀ k W, Tab W → CallsIn Fence.wide k Tryz.prog 59 #[.int .u64 u, .int .i64 10] W fun e w' => e = .returned (.string D) ∧ Below W.heap.size W w') := fun k W ht => callsIn_wide.2 (by rw [hD]; exact fmt_any u (by omega) W ht)
      have HRP : Hid (∀ k W, CallsIn Fence.wide k Tryz.prog 61 #[.string ⟨#[48]⟩, .int .i64 (9 - (nd : Int))] W fun e w' => e = .returned (.string Z) ∧ Below W.heap.size W w') := fun k W => callsIn_wide.2 (by
        have := Tryz.strings_Repeat ⟨#[48]⟩ (9 - nd) W (by omega) (by show 1 * (9 - nd) ≤ _; omega)
        rw [show ((9 - nd : Nat) : Int) = 9 - (nd : Int) by omega] at this
        rw [hZ]; exact this)
      have H60 : Hid (∀ k bs s W, Lib.IsBuilder 73 5 w.heap.size w1.heap.size bs W → bs.length + s.size ≤ 140737488355328 → w.heap.size ≤ W.heap.size → CallsIn Fence.wide k Tryz.prog 60 #[.pointer (some ⟨w1.heap.size, 0, none⟩), .string s] W fun e w' => e = .returned (.tuple #[.int .i64 s.size, .nilIface]) ∧ Lib.BuilderAt 73 5 w.heap.size w1.heap.size (.pointer (some ⟨w1.heap.size, 0, none⟩)) (bs ++ Lib.strCells s) w' ∧ Below w.heap.size W w' ∧ KeptT w1.heap.size W w') := fun k bs s W h1 h2 h3 => callsIn_wide.2 (writeString_any w.heap.size w1.heap.size bs s W h1 h2 h3)
      have hc : W.cell? ⟨w3.heap.size, 0, none⟩ = some (.slice ao nL cap) := by rw [cell_of_row _ _ _ _ _ _ hI.c, ← HNL.out]; rfl
      have hln1 : (chars (pre ++ grpText (L.drop (L.length - k)))).length ≤ 9000 := by
        have h1 := grpText_len (L.drop (L.length - k)) (fun d hd => HLB.out d (List.mem_of_mem_drop hd))
        rw [List.length_drop] at h1
        have h2 := HNL.out
        simp only [chars, List.length_map, List.length_append]
        omega
      have htb := tab_below HTAB.out hI.bl
      obtain ⟨cs0, hb0⟩ := builder_ty hI.bd
      have HBW := Lib.hid hI.bl.size
      have HB0 := Lib.hid hb0
      have HTB := Lib.hid htb
      have HI := Lib.hid hI
      have HBD := Lib.hid hI.bd
      have HKT := Lib.hid (KeptT.refl w1.heap.size W)
      have HBL := Lib.hid (Below.refl w.heap.size W)
      have HU := Lib.hid hu
      have HII := Lib.hid hi
      have HD := Lib.hid hD
      have HZ := Lib.hid hZ
      have HND := Lib.hid hnd
      have hnl := HNL.out
      have HKL := Lib.hid hk
      by_cases hk0 : k = 0
      · have hik : i = nL - 1 := by omega
        have hi2 : ¬ ((i : Int) < (nL : Int) - 1) := by omega
        have HLN := Lib.hid hln1
        have HK0 := Lib.hid hk0
        clear hln1 htb hb0 hI hu hi hD hZ hnd hnl hk hk0 hik HI0
        gi_wp2_with (first | (gi_at_call 59; refine (CallsIn.inRound y (HF.out _ _ HTB.out)).mono ?_; rintro e w4 ⟨rfl, hb⟩; have hc4 : w4.cell? ⟨w3.heap.size, 0, none⟩ = some (.slice ao nL cap) := cell_later hb hc; have HBD := Lib.hid (isBuilder_below HBD.out hb); have HKT := Lib.hid (HKT.out.trans (KeptT.below hb)); have HBL := Lib.hid (HBL.out.trans (hb.mono (Nat.le_trans HBW.out HBL.out.size))); clear hb) | (gi_at_call 60; refine (CallsIn.inRound y (H60.out _ _ D _ HBD.out (by have := HLN.out; rw [hDs]; omega) (Nat.le_trans HBW.out HBL.out.size))).mono ?_; rintro e w7 ⟨rfl, hbd, hb, hk⟩; have HBD := Lib.hid (isB hbd); have HKT := Lib.hid (HKT.out.trans hk); have HBL := Lib.hid (HBL.out.trans hb); clear hb hbd hk))
        refine ⟨keeps_of_keptT HB0.out HKT.out HBL.out.size, txJ_step HI.out HKT.out HBL.out ?_⟩
        have h1 := HBD.out
        rw [HK0.out, Nat.sub_zero, List.drop_length, HD.out, chars_str, ← chars_append] at h1
        rw [HK0.out, Nat.zero_add, grpText_first (by rw [← HNL.out]; omega)]
        have h2 := HU.out
        rw [HK0.out, Nat.sub_zero] at h2
        rw [← h2]
        simpa [grpText] using h1
      · have hi2 : (i : Int) < (nL : Int) - 1 := by omega
        have HLN1 := Lib.hid hln1
        have HK0 := Lib.hid hk0
        clear hln1 htb hb0 hI hu hi hD hZ hnd hnl hk hk0 HI0
        gi_wp2_with (first | (gi_at_call 59; refine (CallsIn.inRound y (HF.out _ _ HTB.out)).mono ?_; rintro e w4 ⟨rfl, hb⟩; have hc4 : w4.cell? ⟨w3.heap.size, 0, none⟩ = some (.slice ao nL cap) := cell_later hb hc; have HBD := Lib.hid (isBuilder_below HBD.out hb); have HKT := Lib.hid (HKT.out.trans (KeptT.below hb)); have HBL := Lib.hid (HBL.out.trans (hb.mono (Nat.le_trans HBW.out HBL.out.size))); clear hb) | (gi_at_call 61; refine (CallsIn.inRound y (HRP.out _ _)).mono ?_; rintro e w5 ⟨rfl, hb⟩; have HBD := Lib.hid (isBuilder_below HBD.out hb); have HKT := Lib.hid (HKT.out.trans (KeptT.below hb)); have HBL := Lib.hid (HBL.out.trans (hb.mono (Nat.le_trans HBW.out HBL.out.size))); clear hb) | (gi_at_call 60; refine (CallsIn.inRound y (H60.out _ _ _ _ HBD.out (by first | (rw [hZs]; have := HLN1.out; omega) | (rw [List.length_append, hDs, show (Lib.strCells Z).length = Z.size from Lib.strCells_length Z, hZs]; have := HLN1.out; omega)) (Nat.le_trans HBW.out HBL.out.size))).mono ?_; rintro e w6 ⟨rfl, hbd, hb, hk⟩; have HBD := Lib.hid (isB hbd); have HKT := Lib.hid (HKT.out.trans hk); have HBL := Lib.hid (HBL.out.trans hb); clear hb hbd hk))
        refine ⟨keeps_of_keptT HB0.out HKT.out HBL.out.size, txJ_step HI.out HKT.out HBL.out ?_⟩
        have h1 := HBD.out
        rw [HD.out, HZ.out, chars_str, chars_str, ← chars_append, ← chars_append] at h1
        rw [grpText_drop HKL.out HK0.out, ← HU.out, ← HND.out, ← List.append_assoc, ← List.append_assoc]
        exact h1
    case done =>
      intro D W hD hI hK
      have hbd := hI.bd
      rw [Nat.sub_self, List.drop_zero] at hbd
      obtain ⟨cs0, hb0⟩ := builder_ty hI.bd
      have hne : some D ≠ some w1.heap.size := fun e => by
        cases e
        rw [hb0] at hK
        cases hK
      have H62 : Hid (∀ k, CallsIn Fence.wide k Tryz.prog 62 #[.pointer (some ⟨w1.heap.size, 0, none⟩)] W fun e w' => e = .returned (.string res) ∧ Below w.heap.size W w' ∧ Lib.OthersKept 5 (some w1.heap.size) W w') := fun k => callsIn_wide.2 ((Any.Builder_String_any_k Tryz.lays169 Tryz.Builder_Extra_169 w.heap.size w1.heap.size (pre ++ grpText L) W (Lib.IsBuilderF.of hbd) hI.bl.size).mono fun e w' h => ⟨by rw [HRES.out]; exact h.1, h.2.2.1, h.2.2.2⟩)
      have HBL := Lib.hid hI.bl
      have HK := Lib.hid hK
      have HNE := Lib.hid hne
      clear hI hK hbd hb0 HI0 hne
      gi_wp2_with (gi_at_call 62; refine (H62.out _).mono ?_; rintro e w4 ⟨rfl, hb, hok⟩)
      have hK4 := hok _ _ HK.out HNE.out (fun c f e => by cases e)
      refine ⟨by simp, .inl ⟨_, _, rfl, run_takeDeferred hK4, ?_⟩⟩
      refine ⟨_, results_tmp rfl _ _ _, rfl, ?_⟩
      exact (HBL.out.trans hb).grown (grownBy_putObj' _ D _) (by have := HBL.out.size; have := hb.size; omega) (fun k e => by cases e; have := HS3.out; simp at hD; omega)

end Go.Proofs.YtdgmjmckeeeljaaGreatDoor

namespace Go.Proofs.YtdgmjmckeeeljaaGreatDoor
open Go.RowKit

theorem fits_w {n : Nat} (h : n < 18446744073709551616) : fitsB n = true := decide_eq_true (Nat.le_trans (digs_word (by omega)) (by omega))

/-- A number, and true. -/
def YesN (w : World) (z : Int) (e : Ending) (w' : World) : Prop :=
  ∃ neg ao n cap, e = .returned (.tuple #[.agg #[.bool neg, .slice ao n cap], .bool true]) ∧ Nu w' (.agg #[.bool neg, .slice ao n cap]) z ∧ Below w.heap.size w w'

theorem NumRes.yes {w w' : World} {z : Int} {e : Ending} (h : NumRes w z e w') (hf : fitsB z.natAbs = true) : YesN w z e w' := by
  obtain ⟨neg, ao, n, cap, he, hb, h1, _⟩ := h
  obtain ⟨hn, hs⟩ := h1 hf
  exact ⟨neg, ao, n, cap, by rw [he, hf], ⟨_, by rw [hn], hs.sl, by simpa [fitsB] using hf⟩, hb⟩

theorem of_X (a : Int) (W : World) (h1 : -9223372036854775808 ≤ a) (h2 : a ≤ 9223372036854775807) : Calls Tryz.prog 27 #[.int .i64 a] W fun e w' => ∃ x, e = .returned x ∧ Nu w' x a ∧ Below W.heap.size W w' :=
  (of_any a W h1 h2).mono fun _ _ h => h.nu (fit_i64 h1 h2)

theorem nu_row {W : World} {p n : Nat} {ys : List Nat} {z : Int} {nb : Bool} (hr : Row W p ys) (hb : Bd ys) (ht : ys = [] ∨ ys.getLast? ≠ some 0) (hv : val ys = z.natAbs) (hn : n = ys.length) (hnb : nb = decide (z < 0)) (hl : ys.length ≤ 256) :
    Nu W (.agg #[.bool nb, .slice (some ⟨p, 0, none⟩) n n]) z := by
  have e : digs z.natAbs = ys := by rw [← hv]; exact digs_val hb ht
  subst hn
  exact ⟨_, by rw [hnb], by rw [e]; exact (hr.sw (Nat.zero_le _) hb (by unfold maxLen; omega)).sl, by rw [e]; exact hl⟩

theorem is_yes {W : World} {x : Value} {z : Int} {p n : Nat} {ys : List Nat} {nb : Bool} (hx : Nu W x z) (hr : Row W p ys) (hb : Bd ys) (ht : ys = [] ∨ ys.getLast? ≠ some 0) (hv : val ys = z.natAbs) (hn : n = ys.length) (hnb : nb = decide (z < 0)) :
    Calls Tryz.prog 34 #[x, .bool true, .bool nb, .slice (some ⟨p, 0, none⟩) n n] W (SameRes W true) := by
  obtain ⟨s, rfl, hs, hl⟩ := hx
  have e : digs z.natAbs = ys := by rw [← hv]; exact digs_val hb ht
  rw [e] at hs hl
  subst hn
  exact is_any _ _ true (by rw [hnb]; simp) hs (hr.sw (Nat.zero_le _) hb (by unfold maxLen; omega)).sl

theorem is_zero {W : World} {x : Value} (hx : Nu W x 0) : Calls Tryz.prog 34 #[x, .bool true, .bool false, .slice none 0 0] W (SameRes W true) := by
  obtain ⟨s, rfl, hs, hl⟩ := hx
  have e : digs (Int.natAbs 0) = [] := digs_zero
  rw [e] at hs
  exact is_any _ _ true (by simp) hs (Sl.nil _ _ _)

theorem bits_nu {W : World} {x : Value} {z : Int} (hx : Nu W x z) (k : Nat) (hk : bitsB (decide (z < 0)) (digs z.natAbs) = k) : Calls Tryz.prog 33 #[x] W fun e w' => e = .returned (.int .i64 (k : Nat)) ∧ Below W.heap.size W w' := by
  obtain ⟨s, rfl, hs, hl⟩ := hx
  have := bits_any (decide (z < 0)) hs (by omega)
  rwa [hk] at this

set_option maxRecDepth 10000 in
set_option maxHeartbeats 1000000 in
theorem div_zero {w : World} {x y : Value} {a : Int} (hx : Nu w x a) (hy : Nu w y 0) :
    Calls Tryz.prog 15 #[x, y] w fun e w' => e = .returned (.tuple #[.agg #[.bool false, .slice none 0 0], .agg #[.bool false, .slice none 0 0], .bool false]) ∧ Below w.heap.size w w' := by
  obtain ⟨sa, rfl, ha, la⟩ := hx
  obtain ⟨sb, rfl, hb, lb⟩ := hy
  have ra := rightB_digs a la
  have rb := rightB_digs 0 lb
  rw [show digs (Int.natAbs 0) = [] from digs_zero] at hb rb
  rw [show decide ((0 : Int) < 0) = false from rfl] at rb ⊢
  obtain ⟨ab, cb, rfl⟩ := hb.mk'
  obtain ⟨na, hna⟩ : ∃ na, na = decide (a < 0) := ⟨_, rfl⟩
  rw [← hna] at ra ⊢
  rw [List.length_nil] at hb ⊢
  have HR1 : Hid (∀ W, Sl W sa (digs a.natAbs) → Calls Tryz.prog 32 #[.agg #[.bool na, sa]] W fun e w' => e = .returned (.bool true) ∧ w' = W.alloc (.cells #[.bool na, sa] 27)) := fun W h => by have := right_any na h (by omega); rwa [ra] at this
  have HR2 : Hid (∀ W, Sl W (.slice ab 0 cb) [] → Calls Tryz.prog 32 #[.agg #[.bool false, .slice ab 0 cb]] W fun e w' => e = .returned (.bool true) ∧ w' = W.alloc (.cells #[.bool false, .slice ab 0 cb] 27)) := fun W h => by have := right_any false h (by simp); rwa [rb] at this
  clear hna ra rb lb
  by_cases hs : (Value.agg #[.bool na, sa]) = .agg #[.bool false, .slice ab 0 cb]
  · injection hs with hs
    have h1 : na = false ∧ sa = .slice ab 0 cb := by
      simp only [Array.mk.injEq, List.cons.injEq, Value.bool.injEq, and_true] at hs
      exact hs
    obtain ⟨rfl, rfl⟩ := h1
    clear hs HR1
    go_enter Tryz.func15, Tryz.ntmps15
    go_wp2_with (go_at_call 32; refine (HR2.out _ (hb.below (by go_grown))).mono ?_; rintro e w' ⟨rfl, rfl⟩)
    go_returns
    exact ⟨rfl, by go_grown⟩
  · clear hs
    go_enter Tryz.func15, Tryz.ntmps15
    go_wp2_with (first | (go_at_call_of 32 (Value.bool na); refine (HR1.out _ (ha.below (by go_grown))).mono ?_; rintro e w' ⟨rfl, rfl⟩) | (go_at_call 32; refine (HR2.out _ (hb.below (by go_grown))).mono ?_; rintro e w' ⟨rfl, rfl⟩))
    go_returns
    exact ⟨rfl, by go_grown⟩

theorem bd1 {a : Nat} (h : a < 4294967296) : Bd [a] := Bd.mk h bd_nil
theorem bd2 {a b : Nat} (h : a < 4294967296) (k : b < 4294967296) : Bd [a, b] := Bd.mk h (bd1 k)
theorem bd3 {a b c : Nat} (h : a < 4294967296) (k : b < 4294967296) (l : c < 4294967296) : Bd [a, b, c] := Bd.mk h (bd2 k l)

theorem bits_0 : bitsB (decide ((0 : Int) < 0)) (digs (Int.natAbs 0)) = 0 := by
  rw [show digs (Int.natAbs 0) = [] from digs_zero]
  rfl
theorem bits_256 : bitsB (decide ((-256 : Int) < 0)) (digs (Int.natAbs (-256))) = 9 := by
  rw [show Int.natAbs (-256) = 256 from rfl, digs_small (by decide) (by decide)]
  decide

theorem parse_12 : parseZ ⟨#[45, 49, 50]⟩ = some (-12) := by kernel_rfl
theorem parse_007 : parseZ ⟨#[48, 48, 55]⟩ = none := by kernel_rfl
theorem parse_m0 : parseZ ⟨#[45, 48]⟩ = none := by kernel_rfl
theorem txt_64 : txt (-18446744073709551616) = [45, 49, 56, 52, 52, 54, 55, 52, 52, 48, 55, 51, 55, 48, 57, 53, 53, 49, 54, 49, 54] := by kernel_rfl

end Go.Proofs.YtdgmjmckeeeljaaGreatDoor

namespace Go.Proofs.YtdgmjmckeeeljaaGreatDoor
open Go.RowKit

/-- A number in a box. -/
structure Bx (W : World) (g : Nat) (neg : Bool) (ao : Option Addr) (n cap : Nat) (z : Int) : Prop where
  row : W.heap[g]? = some (.cells #[.bool neg, .slice ao n cap] 27 (0, 0))
  nu : Nu W (.agg #[.bool neg, .slice ao n cap]) z

theorem Bx.below {W W' : World} {g : Nat} {neg : Bool} {ao : Option Addr} {n cap : Nat} {z : Int} (h : Bx W g neg ao n cap z) (hb : Below W.heap.size W W') : Bx W' g neg ao n cap z :=
  ⟨(hb.block _ (Array.getElem?_eq_some_iff.1 h.row).1).trans h.row, h.nu.below hb⟩
theorem Bx.c0 {W : World} {g : Nat} {neg : Bool} {ao : Option Addr} {n cap : Nat} {z : Int} (h : Bx W g neg ao n cap z) : W.cell? ⟨g, 0, none⟩ = some (.bool neg) := by
  rw [cell_of_row _ _ _ _ _ _ h.row]; rfl
theorem Bx.c1 {W : World} {g : Nat} {neg : Bool} {ao : Option Addr} {n cap : Nat} {z : Int} (h : Bx W g neg ao n cap z) : W.cell? ⟨g, 1, none⟩ = some (.slice ao n cap) := by
  rw [cell_of_row _ _ _ _ _ _ h.row]; rfl
theorem alloc_b (W : World) (o : Obj) : Below W.heap.size W (W.alloc o) := (Below.refl _ _).alloc (Nat.le_refl _) _
theorem bx_new {wa : World} {neg : Bool} {ao : Option Addr} {n cap : Nat} {z : Int} (h : Nu wa (.agg #[.bool neg, .slice ao n cap]) z) : Bx (wa.alloc (.cells #[.bool neg, .slice ao n cap] 27)) wa.heap.size neg ao n cap z :=
  ⟨heap_alloc_new _ _, h.below (alloc_b _ _)⟩
theorem nu_as {W : World} {v : Value} {z z' : Int} (h : Nu W v z) (e : z = z') : Nu W v z' := e ▸ h
theorem step1 {B : Nat} {w W W' : World} (h : Hid (Below B w W)) (hB : Hid (B ≤ W.heap.size)) (hb : Below W.heap.size W W') : Hid (Below B w W') ∧ Hid (B ≤ W'.heap.size) :=
  ⟨Lib.hid (h.out.trans (hb.mono hB.out)), Lib.hid (Nat.le_trans hB.out hb.size)⟩
theorem later {W W' : World} {o : Obj} (hb : Below (W.alloc o).heap.size (W.alloc o) W') : Below W.heap.size W W' := (alloc_b W o).trans (hb.mono (alloc_b W o).size)

theorem mul_yes {w : World} {x y : Value} {a b : Int} (z : Int) (hx : Nu w x a) (hy : Nu w y b) (hz : a * b = z) (hf : z.natAbs < 18446744073709551616) : Calls Tryz.prog 30 #[x, y] w (YesN w z) := by
  subst hz; exact (mul_any hx hy).mono fun _ _ h => h.yes (fits_w hf)
theorem sub_yes {w : World} {x y : Value} {a b : Int} (z : Int) (hx : Nu w x a) (hy : Nu w y b) (hz : a - b = z) (hf : z.natAbs < 18446744073709551616) : Calls Tryz.prog 29 #[x, y] w (YesN w z) := by
  subst hz; exact (sub_any hx hy).mono fun _ _ h => h.yes (fits_w hf)
theorem gcd_yes {w : World} {x y : Value} {a b : Int} (z : Int) (hx : Nu w x a) (hy : Nu w y b) (ha : a.natAbs < 4294967296) (hb : b.natAbs < 4294967296) (hz : ((Nat.gcd a.natAbs b.natAbs : Nat) : Int) = z) (hf : z.natAbs < 18446744073709551616) : Calls Tryz.prog 17 #[x, y] w (YesN w z) := by
  subst hz; exact (gcd_small hx hy ha hb).mono fun _ _ h => h.yes (fits_w hf)
theorem pow_yes {w : World} {x : Value} {a : Int} (z : Int) (n : Nat) (hx : Nu w x a) (hn : n < 9223372036854775808) (hz : a ^ n = z) (hf : z.natAbs < 18446744073709551616) : Calls Tryz.prog 20 #[x, .int .i64 n] w (YesN w z) := by
  subst hz; exact (pow_any hx n hn).mono fun _ _ h => h.yes (fits_w hf)
theorem parse_yes {s : ByteArray} {w : World} (z : Int) (h : parseZ s = some z) (hf : z.natAbs < 18446744073709551616) : Calls Tryz.prog 24 #[.string s] w (YesN w z) := by
  have := parse_any s w
  rw [h] at this
  exact this.mono fun _ _ h => NumRes.yes h (fits_w hf)
theorem parse_no {s : ByteArray} {w : World} (h : parseZ s = none) : Calls Tryz.prog 24 #[.string s] w fun e w' => e = .returned (.tuple #[.agg #[.bool false, .slice none 0 0], .bool false]) ∧ Below w.heap.size w w' := by
  have := parse_any s w
  rw [h] at this
  exact this
theorem divides_X (a b q r : Int) (w : World) (hb0 : b ≠ 0) (hb : b.natAbs < 4294967296) (ha1 : -2147483648 ≤ a) (ha2 : a ≤ 2147483647) (hq : a / b = q) (hr : a % b = r) : Calls Tryz.prog 35 #[.int .i64 a, .int .i64 b, .int .i64 q, .int .i64 r] w (SameRes w true) := by
  subst hq hr; exact divides_yes a b hb0 hb ha1 ha2

set_option maxRecDepth 10000 in
set_option maxHeartbeats 4000000 in
theorem sanity_any (w : World) (htab : ∀ W, Below w.heap.size w W → Tab W) : Calls Tryz.prog 10 #[] w fun e w' => e = .returned (.bool true) ∧ Below w.heap.size w w' := by
  have HT := Lib.hid htab
  have HW : Hid (Below w.heap.size w w) := Lib.hid (Below.refl _ _)
  have HZ : Hid (w.heap.size ≤ w.heap.size) := Lib.hid (Nat.le_refl _)
  clear htab
  go_enter Tryz.func10, Tryz.ntmps10
  go_upto_region 2 with fail
  obtain ⟨W, hW⟩ : ∃ W, W = (w.alloc (.cells #[.int .u32 4294967295] 59)).alloc (.cells #[.bool false, .slice (some ⟨w.heap.size, 0, none⟩) 1 1] 27) := ⟨_, rfl⟩
  have hb : Below w.heap.size w W := by rw [hW]; exact (alloc_b _ _).trans ((alloc_b _ _).mono (alloc_b _ _).size)
  have B1 : Hid (Bx W (w.heap.size + 1) false (some ⟨w.heap.size, 0, none⟩) 1 1 4294967295) := Lib.hid (by
    rw [hW]
    have := bx_new (nu_row (z := 4294967295) (nb := false) (row_new w [4294967295]) (bd1 (by decide)) (.inr (by decide)) (by kernel_rfl) rfl rfl (by decide))
    rw [World.size_alloc] at this
    exact this)
  have HWW := step1 HW HZ hb
  have HW := HWW.1
  have HZ := HWW.2
  rw [← hW]
  clear hW hb HWW
  have c0 := B1.out.c0
  have c1 := B1.out.c1
  go_upto_region 3 with (first | (go_at_call 30; refine (mul_yes 18446744065119617025 B1.out.nu B1.out.nu (by decide) (by decide)).mono ?_; rintro e wz ⟨n2, a2, l2, c2, rfl, hn, hb⟩; have HWW := step1 HW HZ hb; have HW := HWW.1; have HZ := HWW.2; clear HWW; have NB := Lib.hid hn; clear hn; clear hb))
  obtain ⟨W, hW⟩ : ∃ W, W = wz.alloc (.cells #[.bool n2, .slice a2 l2 c2] 27) := ⟨_, rfl⟩
  obtain ⟨g2, hg⟩ : ∃ g, g = wz.heap.size := ⟨_, rfl⟩
  have hb : Below wz.heap.size wz W := by rw [hW]; exact alloc_b _ _
  have B2 : Hid (Bx W g2 n2 a2 l2 c2 18446744065119617025) := Lib.hid (by rw [hW, hg]; exact bx_new NB.out)
  rw [← hW]
  rw [← hg]
  clear hW hg NB
  have HWW := step1 HW HZ hb
  have HW := HWW.1
  have HZ := HWW.2
  clear HWW hb c0 c1 B1
  go_upto_region 4 with (first | (go_at_call_of 27 (Value.int .i64 4294967296); refine (of_X 4294967296 _ (by decide) (by decide)).mono ?_; rintro e wz ⟨x1, rfl, hn, hb⟩; (try have B2 := Lib.hid (B2.out.below hb)); have HWW := step1 HW HZ hb; have HW := HWW.1; have HZ := HWW.2; clear HWW; have Nx1 := Lib.hid hn; clear hn; clear hb) | (go_at_call_of 27 (Value.int .i64 1); refine (of_X 1 _ (by decide) (by decide)).mono ?_; rintro e wz ⟨x2, rfl, hn, hb⟩; (try have B2 := Lib.hid (B2.out.below hb)); (try have Nx1 := Lib.hid (Nx1.out.below hb)); have HWW := step1 HW HZ hb; have HW := HWW.1; have HZ := HWW.2; clear HWW; have Nx2 := Lib.hid hn; clear hn; clear hb) | (go_at_call 29; refine (sub_yes 4294967295 Nx1.out Nx2.out (by decide) (by decide)).mono ?_; rintro e wz ⟨n4, a4, l4, c4, rfl, hn, hb⟩; (try have B2 := Lib.hid (B2.out.below hb)); have HWW := step1 HW HZ hb; have HW := HWW.1; have HZ := HWW.2; clear HWW; have NB := Lib.hid hn; clear hn; clear hb))
  obtain ⟨W, hW⟩ : ∃ W, W = wz.alloc (.cells #[.bool n4, .slice a4 l4 c4] 27) := ⟨_, rfl⟩
  obtain ⟨g4, hg⟩ : ∃ g, g = wz.heap.size := ⟨_, rfl⟩
  have hb : Below wz.heap.size wz W := by rw [hW]; exact alloc_b _ _
  have B4 : Hid (Bx W g4 n4 a4 l4 c4 4294967295) := Lib.hid (by rw [hW, hg]; exact bx_new NB.out)
  rw [← hW]
  rw [← hg]
  clear hW hg NB
  have B2 := Lib.hid (B2.out.below hb)
  have HWW := step1 HW HZ hb
  have HW := HWW.1
  have HZ := HWW.2
  clear HWW hb Nx1 Nx2
  go_upto_region 5 with (first | (go_at_call_of 27 (Value.int .i64 4294967296); refine (of_X 4294967296 _ (by decide) (by decide)).mono ?_; rintro e wz ⟨x1, rfl, hn, hb⟩; (try have B2 := Lib.hid (B2.out.below hb)); (try have B4 := Lib.hid (B4.out.below hb)); have HWW := step1 HW HZ hb; have HW := HWW.1; have HZ := HWW.2; clear HWW; have Nx1 := Lib.hid hn; clear hn; clear hb) | (go_at_call 27; refine (of_X (-1) _ (by decide) (by decide)).mono ?_; rintro e wz ⟨x3, rfl, hn, hb⟩; (try have B2 := Lib.hid (B2.out.below hb)); (try have B4 := Lib.hid (B4.out.below hb)); have HWW := step1 HW HZ hb; have HW := HWW.1; have HZ := HWW.2; clear HWW; have Nx3 := Lib.hid hn; clear hn; clear hb) | (go_at_call_of 34 x1; refine (is_yes (z := 4294967296) (ys := [0, 1]) (Nx1.out.below (alloc_b _ _)) (row_new _ [0, 1]) (bd2 (by decide) (by decide)) (.inr (by decide)) (by kernel_rfl) rfl rfl).mono ?_; rintro e wz ⟨rfl, hb⟩; have hb := later hb; (try have B2 := Lib.hid (B2.out.below hb)); (try have B4 := Lib.hid (B4.out.below hb)); have HWW := step1 HW HZ hb; have HW := HWW.1; have HZ := HWW.2; clear HWW; clear hb) | (go_at_call_of 34 x3; refine (is_yes (z := (-1)) (ys := [1]) (Nx3.out.below (alloc_b _ _)) (row_new _ [1]) (bd1 (by decide)) (.inr (by decide)) (by kernel_rfl) rfl rfl).mono ?_; rintro e wz ⟨rfl, hb⟩; have hb := later hb; (try have B2 := Lib.hid (B2.out.below hb)); (try have B4 := Lib.hid (B4.out.below hb)); have HWW := step1 HW HZ hb; have HW := HWW.1; have HZ := HWW.2; clear HWW; have p0 := B2.out.c0; have p1 := B2.out.c1; have q0 := B4.out.c0; have q1 := B4.out.c1; clear hb) | (go_at_call_of 34 (Value.slice a2 l2 c2); refine (is_yes (z := 18446744065119617025) (ys := [1, 4294967294]) (B2.out.nu.below (alloc_b _ _)) (row_new _ [1, 4294967294]) (bd2 (by decide) (by decide)) (.inr (by decide)) (by kernel_rfl) rfl rfl).mono ?_; rintro e wz ⟨rfl, hb⟩; have hb := later hb; (try have B2 := Lib.hid (B2.out.below hb)); (try have B4 := Lib.hid (B4.out.below hb)); have HWW := step1 HW HZ hb; have HW := HWW.1; have HZ := HWW.2; clear HWW; have p0 := B2.out.c0; have p1 := B2.out.c1; have q0 := B4.out.c0; have q1 := B4.out.c1; clear hb) | (go_at_call_of 34 (Value.slice a4 l4 c4); refine (is_yes (z := 4294967295) (ys := [4294967295]) (B4.out.nu.below (alloc_b _ _)) (row_new _ [4294967295]) (bd1 (by decide)) (.inr (by decide)) (by kernel_rfl) rfl rfl).mono ?_; rintro e wz ⟨rfl, hb⟩; have hb := later hb; (try have B2 := Lib.hid (B2.out.below hb)); (try have B4 := Lib.hid (B4.out.below hb)); have HWW := step1 HW HZ hb; have HW := HWW.1; have HZ := HWW.2; clear HWW; clear hb))
  clear B2 B4 Nx1 Nx3 p0 p1 q0 q1
  go_upto_region 6 with (first | (go_at_call_of 27 (Value.int .i64 7); refine (of_X 7 _ (by decide) (by decide)).mono ?_; rintro e wz ⟨x5, rfl, hn, hb⟩; have HWW := step1 HW HZ hb; have HW := HWW.1; have HZ := HWW.2; clear HWW; have Nx5 := Lib.hid hn; clear hn; clear hb) | (go_at_call_of 27 (Value.int .i64 0); refine (of_X 0 _ (by decide) (by decide)).mono ?_; rintro e wz ⟨x6, rfl, hn, hb⟩; (try have Nx5 := Lib.hid (Nx5.out.below hb)); have HWW := step1 HW HZ hb; have HW := HWW.1; have HZ := HWW.2; clear HWW; have Nx6 := Lib.hid hn; clear hn; clear hb) | (go_at_call 15; refine (div_zero Nx5.out Nx6.out).mono ?_; rintro e wz ⟨rfl, hb⟩; have HWW := step1 HW HZ hb; have HW := HWW.1; have HZ := HWW.2; clear HWW; clear hb))
  obtain ⟨W, hW⟩ : ∃ W, W = (wz.alloc (.cells #[.bool false, .slice none 0 0] 27)).alloc (.cells #[.bool false, .slice none 0 0] 27) := ⟨_, rfl⟩
  have hb : Below wz.heap.size wz W := by rw [hW]; exact (alloc_b _ _).trans ((alloc_b _ _).mono (alloc_b _ _).size)
  rw [← hW]
  clear hW
  have HWW := step1 HW HZ hb
  have HW := HWW.1
  have HZ := HWW.2
  clear HWW hb Nx5 Nx6
  go_upto_region 7 with (first | (go_at_call_of 35 (Value.int .i64 2); refine (divides_X (-7) 2 (-4) 1 _ (by decide) (by decide) (by decide) (by decide) (by decide) (by decide)).mono ?_; rintro e wz ⟨rfl, hb⟩; have HWW := step1 HW HZ hb; have HW := HWW.1; have HZ := HWW.2; clear HWW; clear hb) | (go_at_call_of 35 (Value.int .i64 7); refine (divides_X 7 (-2) (-3) 1 _ (by decide) (by decide) (by decide) (by decide) (by decide) (by decide)).mono ?_; rintro e wz ⟨rfl, hb⟩; have HWW := step1 HW HZ hb; have HW := HWW.1; have HZ := HWW.2; clear HWW; clear hb) | (go_at_call_of 35 (Value.int .i64 4); refine (divides_X (-7) (-2) 4 1 _ (by decide) (by decide) (by decide) (by decide) (by decide) (by decide)).mono ?_; rintro e wz ⟨rfl, hb⟩; have HWW := step1 HW HZ hb; have HW := HWW.1; have HZ := HWW.2; clear HWW; clear hb))
  go_upto_region 8 with (first | (go_at_call_of 27 (Value.int .i64 18); refine (of_X 18 _ (by decide) (by decide)).mono ?_; rintro e wz ⟨x2, rfl, hn, hb⟩; (try have Nx1 := Lib.hid (Nx1.out.below hb)); have HWW := step1 HW HZ hb; have HW := HWW.1; have HZ := HWW.2; clear HWW; have Nx2 := Lib.hid hn; clear hn; clear hb) | (go_at_call 27; refine (of_X (-12) _ (by decide) (by decide)).mono ?_; rintro e wz ⟨x1, rfl, hn, hb⟩; have HWW := step1 HW HZ hb; have HW := HWW.1; have HZ := HWW.2; clear HWW; have Nx1 := Lib.hid hn; clear hn; clear hb) | (go_at_call 17; refine (gcd_yes 6 Nx1.out Nx2.out (by decide) (by decide) (by decide) (by decide)).mono ?_; rintro e wz ⟨n11, a11, l11, c11, rfl, hn, hb⟩; have HWW := step1 HW HZ hb; have HW := HWW.1; have HZ := HWW.2; clear HWW; have NB := Lib.hid hn; clear hn; clear hb))
  obtain ⟨W, hW⟩ : ∃ W, W = wz.alloc (.cells #[.bool n11, .slice a11 l11 c11] 27) := ⟨_, rfl⟩
  obtain ⟨g11, hg⟩ : ∃ g, g = wz.heap.size := ⟨_, rfl⟩
  have hb : Below wz.heap.size wz W := by rw [hW]; exact alloc_b _ _
  have B11 : Hid (Bx W g11 n11 a11 l11 c11 6) := Lib.hid (by rw [hW, hg]; exact bx_new NB.out)
  rw [← hW]
  rw [← hg]
  clear hW hg NB
  have HWW := step1 HW HZ hb
  have HW := HWW.1
  have HZ := HWW.2
  clear HWW hb Nx1 Nx2
  go_upto_region 9 with (first | (go_at_call 27; refine (of_X 0 _ (by decide) (by decide)).mono ?_; rintro e wz ⟨x8, rfl, hn, hb⟩; (try have N7 := Lib.hid (N8.out.below hb)); have N8 := Lib.hid hn; clear hn; (try have B11 := Lib.hid (B11.out.below hb)); have HWW := step1 HW HZ hb; have HW := HWW.1; have HZ := HWW.2; clear HWW hb) | (go_at_call 17; refine (gcd_yes 0 N7.out N8.out (by decide) (by decide) (by decide) (by decide)).mono ?_; rintro e wz ⟨n13, a13, l13, c13, rfl, hn, hb⟩; (try have B11 := Lib.hid (B11.out.below hb)); have HWW := step1 HW HZ hb; have HW := HWW.1; have HZ := HWW.2; clear HWW; have NB := Lib.hid hn; clear hn; clear hb))
  obtain ⟨W, hW⟩ : ∃ W, W = wz.alloc (.cells #[.bool n13, .slice a13 l13 c13] 27) := ⟨_, rfl⟩
  obtain ⟨g13, hg⟩ : ∃ g, g = wz.heap.size := ⟨_, rfl⟩
  have hb : Below wz.heap.size wz W := by rw [hW]; exact alloc_b _ _
  have B13 : Hid (Bx W g13 n13 a13 l13 c13 0) := Lib.hid (by rw [hW, hg]; exact bx_new NB.out)
  rw [← hW]
  rw [← hg]
  clear hW hg NB
  have B11 := Lib.hid (B11.out.below hb)
  have HWW := step1 HW HZ hb
  have HW := HWW.1
  have HZ := HWW.2
  clear HWW hb N7 N8
  go_upto_region 10 with (first | (go_at_call 27; refine (of_X (-2) _ (by decide) (by decide)).mono ?_; rintro e wz ⟨x1, rfl, hn, hb⟩; (try have B11 := Lib.hid (B11.out.below hb)); (try have B13 := Lib.hid (B13.out.below hb)); have HWW := step1 HW HZ hb; have HW := HWW.1; have HZ := HWW.2; clear HWW; have Nx1 := Lib.hid hn; clear hn; clear hb) | (go_at_call 20; refine (pow_yes (-32) 5 Nx1.out (by decide) (by decide) (by decide)).mono ?_; rintro e wz ⟨n15, a15, l15, c15, rfl, hn, hb⟩; (try have B11 := Lib.hid (B11.out.below hb)); (try have B13 := Lib.hid (B13.out.below hb)); have HWW := step1 HW HZ hb; have HW := HWW.1; have HZ := HWW.2; clear HWW; have NB := Lib.hid hn; clear hn; clear hb))
  obtain ⟨W, hW⟩ : ∃ W, W = wz.alloc (.cells #[.bool n15, .slice a15 l15 c15] 27) := ⟨_, rfl⟩
  obtain ⟨g15, hg⟩ : ∃ g, g = wz.heap.size := ⟨_, rfl⟩
  have hb : Below wz.heap.size wz W := by rw [hW]; exact alloc_b _ _
  have B15 : Hid (Bx W g15 n15 a15 l15 c15 (-32)) := Lib.hid (by rw [hW, hg]; exact bx_new NB.out)
  rw [← hW]
  rw [← hg]
  clear hW hg NB
  have B11 := Lib.hid (B11.out.below hb)
  have B13 := Lib.hid (B13.out.below hb)
  have HWW := step1 HW HZ hb
  have HW := HWW.1
  have HZ := HWW.2
  clear HWW hb Nx1
  go_upto_region 11 with (first | (go_at_call_of 27 (Value.int .i64 0); refine (of_X 0 _ (by decide) (by decide)).mono ?_; rintro e wz ⟨x1, rfl, hn, hb⟩; (try have B11 := Lib.hid (B11.out.below hb)); (try have B13 := Lib.hid (B13.out.below hb)); (try have B15 := Lib.hid (B15.out.below hb)); have HWW := step1 HW HZ hb; have HW := HWW.1; have HZ := HWW.2; clear HWW; have Nx1 := Lib.hid hn; clear hn; clear hb) | (go_at_call 20; refine (pow_yes 1 0 Nx1.out (by decide) (by decide) (by decide)).mono ?_; rintro e wz ⟨n17, a17, l17, c17, rfl, hn, hb⟩; (try have B11 := Lib.hid (B11.out.below hb)); (try have B13 := Lib.hid (B13.out.below hb)); (try have B15 := Lib.hid (B15.out.below hb)); have HWW := step1 HW HZ hb; have HW := HWW.1; have HZ := HWW.2; clear HWW; have NB := Lib.hid hn; clear hn; clear hb))
  obtain ⟨W, hW⟩ : ∃ W, W = wz.alloc (.cells #[.bool n17, .slice a17 l17 c17] 27) := ⟨_, rfl⟩
  obtain ⟨g17, hg⟩ : ∃ g, g = wz.heap.size := ⟨_, rfl⟩
  have hb : Below wz.heap.size wz W := by rw [hW]; exact alloc_b _ _
  have B17 : Hid (Bx W g17 n17 a17 l17 c17 1) := Lib.hid (by rw [hW, hg]; exact bx_new NB.out)
  rw [← hW]
  rw [← hg]
  clear hW hg NB
  have B11 := Lib.hid (B11.out.below hb)
  have B13 := Lib.hid (B13.out.below hb)
  have B15 := Lib.hid (B15.out.below hb)
  have HWW := step1 HW HZ hb
  have HW := HWW.1
  have HZ := HWW.2
  clear HWW hb Nx1
  go_upto_region 12 with (first | (go_at_call_of 27 (Value.int .i64 2); refine (of_X 2 _ (by decide) (by decide)).mono ?_; rintro e wz ⟨x1, rfl, hn, hb⟩; (try have B11 := Lib.hid (B11.out.below hb)); (try have B13 := Lib.hid (B13.out.below hb)); (try have B15 := Lib.hid (B15.out.below hb)); (try have B17 := Lib.hid (B17.out.below hb)); have HWW := step1 HW HZ hb; have HW := HWW.1; have HZ := HWW.2; clear HWW; have Nx1 := Lib.hid hn; clear hn; clear hb) | (go_at_call 20; refine (pow_neg Nx1.out (-1) (by decide)).mono ?_; rintro e wz ⟨rfl, hb⟩; (try have B11 := Lib.hid (B11.out.below hb)); (try have B13 := Lib.hid (B13.out.below hb)); (try have B15 := Lib.hid (B15.out.below hb)); (try have B17 := Lib.hid (B17.out.below hb)); have HWW := step1 HW HZ hb; have HW := HWW.1; have HZ := HWW.2; clear HWW; clear hb))
  obtain ⟨W, hW⟩ : ∃ W, W = wz.alloc (.cells #[.bool false, .slice none 0 0] 27) := ⟨_, rfl⟩
  have hb : Below wz.heap.size wz W := by rw [hW]; exact alloc_b _ _
  rw [← hW]
  clear hW
  have B11 := Lib.hid (B11.out.below hb)
  have B13 := Lib.hid (B13.out.below hb)
  have B15 := Lib.hid (B15.out.below hb)
  have B17 := Lib.hid (B17.out.below hb)
  have HWW := step1 HW HZ hb
  have HW := HWW.1
  have HZ := HWW.2
  clear HWW hb Nx1
  have p11 := B11.out.c0
  have q11 := B11.out.c1
  have p13 := B13.out.c0
  have q13 := B13.out.c1
  have p15 := B15.out.c0
  have q15 := B15.out.c1
  have p17 := B17.out.c0
  have q17 := B17.out.c1
  go_upto_region 13 with (first | (go_at_call_of 34 (Value.slice a11 l11 c11); refine (is_yes (z := 6) (ys := [6]) (B11.out.nu.below (alloc_b _ _)) (row_new _ [6]) (bd1 (by decide)) (.inr (by decide)) (by kernel_rfl) rfl rfl).mono ?_; rintro e wz ⟨rfl, hb⟩; have hb := later hb; (try have B11 := Lib.hid (B11.out.below hb)); (try have B13 := Lib.hid (B13.out.below hb)); (try have B15 := Lib.hid (B15.out.below hb)); (try have B17 := Lib.hid (B17.out.below hb)); have HWW := step1 HW HZ hb; have HW := HWW.1; have HZ := HWW.2; clear HWW; have p11 := B11.out.c0; have q11 := B11.out.c1; have p13 := B13.out.c0; have q13 := B13.out.c1; have p15 := B15.out.c0; have q15 := B15.out.c1; have p17 := B17.out.c0; have q17 := B17.out.c1; clear hb) | (go_at_call_of 34 (Value.slice a13 l13 c13); refine (is_zero B13.out.nu).mono ?_; rintro e wz ⟨rfl, hb⟩; (try have B11 := Lib.hid (B11.out.below hb)); (try have B13 := Lib.hid (B13.out.below hb)); (try have B15 := Lib.hid (B15.out.below hb)); (try have B17 := Lib.hid (B17.out.below hb)); have HWW := step1 HW HZ hb; have HW := HWW.1; have HZ := HWW.2; clear HWW; have p11 := B11.out.c0; have q11 := B11.out.c1; have p13 := B13.out.c0; have q13 := B13.out.c1; have p15 := B15.out.c0; have q15 := B15.out.c1; have p17 := B17.out.c0; have q17 := B17.out.c1; clear hb) | (go_at_call_of 34 (Value.slice a15 l15 c15); refine (is_yes (z := (-32)) (ys := [32]) (B15.out.nu.below (alloc_b _ _)) (row_new _ [32]) (bd1 (by decide)) (.inr (by decide)) (by kernel_rfl) rfl rfl).mono ?_; rintro e wz ⟨rfl, hb⟩; have hb := later hb; (try have B11 := Lib.hid (B11.out.below hb)); (try have B13 := Lib.hid (B13.out.below hb)); (try have B15 := Lib.hid (B15.out.below hb)); (try have B17 := Lib.hid (B17.out.below hb)); have HWW := step1 HW HZ hb; have HW := HWW.1; have HZ := HWW.2; clear HWW; have p11 := B11.out.c0; have q11 := B11.out.c1; have p13 := B13.out.c0; have q13 := B13.out.c1; have p15 := B15.out.c0; have q15 := B15.out.c1; have p17 := B17.out.c0; have q17 := B17.out.c1; clear hb) | (go_at_call_of 34 (Value.slice a17 l17 c17); refine (is_yes (z := 1) (ys := [1]) (B17.out.nu.below (alloc_b _ _)) (row_new _ [1]) (bd1 (by decide)) (.inr (by decide)) (by kernel_rfl) rfl rfl).mono ?_; rintro e wz ⟨rfl, hb⟩; have hb := later hb; (try have B11 := Lib.hid (B11.out.below hb)); (try have B13 := Lib.hid (B13.out.below hb)); (try have B15 := Lib.hid (B15.out.below hb)); (try have B17 := Lib.hid (B17.out.below hb)); have HWW := step1 HW HZ hb; have HW := HWW.1; have HZ := HWW.2; clear HWW; have p11 := B11.out.c0; have q11 := B11.out.c1; have p13 := B13.out.c0; have q13 := B13.out.c1; have p15 := B15.out.c0; have q15 := B15.out.c1; have p17 := B17.out.c0; have q17 := B17.out.c1; clear hb) | (go_at_call_of 27 (Value.int .i64 0); refine (of_X 0 _ (by decide) (by decide)).mono ?_; rintro e wz ⟨x1, rfl, hn, hb⟩; have HWW := step1 HW HZ hb; have HW := HWW.1; have HZ := HWW.2; clear HWW; have Nx1 := Lib.hid hn; clear hn; clear hb) | (go_at_call_of 33 x1; refine (bits_nu Nx1.out 0 bits_0).mono ?_; rintro e wz ⟨rfl, hb⟩; have HWW := step1 HW HZ hb; have HW := HWW.1; have HZ := HWW.2; clear HWW; clear hb) | (go_at_call 27; refine (of_X (-256) _ (by decide) (by decide)).mono ?_; rintro e wz ⟨x2, rfl, hn, hb⟩; have HWW := step1 HW HZ hb; have HW := HWW.1; have HZ := HWW.2; clear HWW; have Nx2 := Lib.hid hn; clear hn; clear hb) | (go_at_call_of 33 x2; refine (bits_nu Nx2.out 9 bits_256).mono ?_; rintro e wz ⟨rfl, hb⟩; have HWW := step1 HW HZ hb; have HW := HWW.1; have HZ := HWW.2; clear HWW; clear hb))
  clear B11 B13 B15 B17 p11 q11 p13 q13 p15 q15 p17 q17 Nx1 Nx2
  go_upto_region 14 with (first | (go_at_call 24; refine (parse_yes (-12) parse_12 (by decide)).mono ?_; rintro e wz ⟨n22, a22, l22, c22, rfl, hn, hb⟩; have HWW := step1 HW HZ hb; have HW := HWW.1; have HZ := HWW.2; clear HWW; have NB := Lib.hid hn; clear hn; clear hb))
  obtain ⟨W, hW⟩ : ∃ W, W = wz.alloc (.cells #[.bool n22, .slice a22 l22 c22] 27) := ⟨_, rfl⟩
  obtain ⟨g22, hg⟩ : ∃ g, g = wz.heap.size := ⟨_, rfl⟩
  have hb : Below wz.heap.size wz W := by rw [hW]; exact alloc_b _ _
  have B22 : Hid (Bx W g22 n22 a22 l22 c22 (-12)) := Lib.hid (by rw [hW, hg]; exact bx_new NB.out)
  rw [← hW]
  rw [← hg]
  clear hW hg NB
  have HWW := step1 HW HZ hb
  have HW := HWW.1
  have HZ := HWW.2
  clear HWW hb
  go_upto_region 15 with (first | (go_at_call 24; refine (parse_no parse_007).mono ?_; rintro e wz ⟨rfl, hb⟩; (try have B22 := Lib.hid (B22.out.below hb)); have HWW := step1 HW HZ hb; have HW := HWW.1; have HZ := HWW.2; clear HWW; clear hb))
  obtain ⟨W, hW⟩ : ∃ W, W = wz.alloc (.cells #[.bool false, .slice none 0 0] 27) := ⟨_, rfl⟩
  have hb : Below wz.heap.size wz W := by rw [hW]; exact alloc_b _ _
  rw [← hW]
  clear hW
  have B22 := Lib.hid (B22.out.below hb)
  have HWW := step1 HW HZ hb
  have HW := HWW.1
  have HZ := HWW.2
  clear HWW hb
  go_upto_region 16 with (first | (go_at_call 24; refine (parse_no parse_m0).mono ?_; rintro e wz ⟨rfl, hb⟩; (try have B22 := Lib.hid (B22.out.below hb)); have HWW := step1 HW HZ hb; have HW := HWW.1; have HZ := HWW.2; clear HWW; clear hb))
  obtain ⟨W, hW⟩ : ∃ W, W = wz.alloc (.cells #[.bool false, .slice none 0 0] 27) := ⟨_, rfl⟩
  have hb : Below wz.heap.size wz W := by rw [hW]; exact alloc_b _ _
  rw [← hW]
  clear hW
  have B22 := Lib.hid (B22.out.below hb)
  have HWW := step1 HW HZ hb
  have HW := HWW.1
  have HZ := HWW.2
  clear HWW hb
  go_upto_region 17 with (first | (go_at_call 26; refine (int_no (nu_row (z := 9223372036854775808) (nb := false) (row_new _ [0, 2147483648]) (bd2 (by decide) (by decide)) (.inr (by decide)) (by kernel_rfl) rfl rfl (by decide)) (.inr (by decide))).mono ?_; rintro e wz ⟨rfl, hb⟩; have hb := later hb; (try have B22 := Lib.hid (B22.out.below hb)); have HWW := step1 HW HZ hb; have HW := HWW.1; have HZ := HWW.2; clear HWW hb))
  go_upto_region 18 with (first | (go_at_call 26; refine (int_yes (nu_row (z := -9223372036854775808) (nb := true) (row_new _ [0, 2147483648]) (bd2 (by decide) (by decide)) (.inr (by decide)) (by kernel_rfl) rfl rfl (by decide)) (by decide) (by decide)).mono ?_; rintro e wz ⟨rfl, hb⟩; have hb := later hb; (try have B22 := Lib.hid (B22.out.below hb)); have HWW := step1 HW HZ hb; have HW := HWW.1; have HZ := HWW.2; clear HWW hb))
  have p22 := B22.out.c0
  have q22 := B22.out.c1
  go_wp2_with (first | (go_at_call_of 34 (Value.slice a22 l22 c22); refine (is_yes (z := (-12)) (ys := [12]) (B22.out.nu.below (alloc_b _ _)) (row_new _ [12]) (bd1 (by decide)) (.inr (by decide)) (by kernel_rfl) rfl rfl).mono ?_; rintro e wz ⟨rfl, hb⟩; have hb := later hb; have HWW := step1 HW HZ hb; have HW := HWW.1; have HZ := HWW.2; clear HWW; clear hb) | (go_at_call 23; refine (text_any (nu_row (z := -18446744073709551616) (nb := true) (row_new _ [0, 0, 1]) (bd3 (by decide) (by decide) (by decide)) (.inr (by decide)) (by kernel_rfl) rfl rfl (by decide)) (HT.out _ (HW.out.trans ((alloc_b _ _).mono HZ.out)))).mono ?_; rintro e wz ⟨rfl, hb⟩; have hb := later hb; have HWW := step1 HW HZ hb; have HW := HWW.1; have HZ := HWW.2; clear HWW hb; rw [txt_64]))
  go_ret
  exact ⟨rfl, HW.out⟩

end Go.Proofs.YtdgmjmckeeeljaaGreatDoor

namespace Go.Proofs.YtdgmjmckeeeljaaGreatDoor
open Go.RowKit

theorem tmod_lt (n k : Int) (hk : 0 < k) : -k < n.tmod k ∧ n.tmod k < k := by
  have h1 := Int.lt_tmod_of_pos n hk
  have h2 := Int.tmod_lt_of_pos n hk
  omega

theorem mul_bound {a b k : Int} (ha : -k < a ∧ a < k) (hb : -k < b ∧ b < k) : -(k * k) ≤ a * b ∧ a * b ≤ k * k := by
  have h : (a * b).natAbs ≤ (k * k).natAbs := by
    rw [Int.natAbs_mul, Int.natAbs_mul]
    exact Nat.mul_le_mul (by omega) (by omega)
  have h2 : 0 ≤ k * k := Int.mul_nonneg (by omega) (by omega)
  omega

theorem pow_bound {s : Int} (hs : -200 < s ∧ s < 200) (k : Nat) : (s ^ k).natAbs ≤ 200 ^ k := by
  rw [Int.natAbs_pow]
  exact Nat.pow_le_pow_left (by omega) k

theorem pow_small {s : Int} (hs : -200 < s ∧ s < 200) (k : Nat) (hk : k ≤ 7) : (s ^ k).natAbs ≤ 12800000000000000 :=
  Nat.le_trans (pow_bound hs k) (Nat.le_trans (Nat.pow_le_pow_right (by decide) hk) (by decide))

theorem add_yes {w : World} {x y : Value} {a b : Int} (z : Int) (hx : Nu w x a) (hy : Nu w y b) (hz : a + b = z) (hf : z.natAbs < 18446744073709551616) : Calls Tryz.prog 28 #[x, y] w (YesN w z) := by
  subst hz; exact (add_any hx hy).mono fun _ _ h => h.yes (fits_w hf)

theorem right_nu {W : World} {x : Value} {z : Int} (hx : Nu W x z) : Calls Tryz.prog 32 #[x] W fun e w' => e = .returned (.bool true) ∧ Below W.heap.size W w' := by
  obtain ⟨s, rfl, hs, hl⟩ := hx
  have := right_any (decide (z < 0)) hs (by omega)
  rw [rightB_digs z hl] at this
  exact this.mono fun _ _ ⟨h1, h2⟩ => ⟨h1, by rw [h2]; exact alloc_b _ _⟩

set_option maxRecDepth 10000 in
set_option maxHeartbeats 4000000 in
theorem ints_any (n m : Int) (e8 : UInt8) (w : World) (htab : ∀ W, Below w.heap.size w W → Tab W) (hn1 : -9223372036854775808 ≤ n) (hn2 : n ≤ 9223372036854775807) (hm1 : -9223372036854775808 ≤ m) (hm2 : m ≤ 9223372036854775807) :
    Calls Tryz.prog 6 #[.int .i64 n, .int .i64 m, .int .u8 e8.toNat] w fun e w' => e = .returned (.bool true) ∧ Below w.heap.size w w' := by
  have HS : Hid (Calls Tryz.prog 10 #[] w fun e w' => e = .returned (.bool true) ∧ Below w.heap.size w w') := Lib.hid (sanity_any w htab)
  have HW : Hid (Below w.heap.size w w) := Lib.hid (Below.refl _ _)
  have HZ : Hid (w.heap.size ≤ w.heap.size) := Lib.hid (Nat.le_refl _)
  have he := e8.toNat_lt
  obtain ⟨E8, hE8⟩ : ∃ E8 : Nat, E8 = e8.toNat := ⟨_, rfl⟩
  rw [← hE8] at he ⊢
  obtain ⟨a, hra⟩ : ∃ a, n.tmod 2147483648 = a := ⟨_, rfl⟩
  obtain ⟨b, hrb⟩ : ∃ b, m.tmod 2147483648 = b := ⟨_, rfl⟩
  have ha := tmod_lt n 2147483648 (by decide)
  have hb := tmod_lt m 2147483648 (by decide)
  rw [hra] at ha
  rw [hrb] at hb
  have hp := mul_bound ha hb
  obtain ⟨P, hP⟩ : ∃ P, P = a * b := ⟨_, rfl⟩
  rw [← hP] at hp
  have HP := Lib.hid hP
  obtain ⟨ha1, ha2⟩ := ha
  obtain ⟨hb1, hb2⟩ := hb
  obtain ⟨hp1, hp2⟩ := hp
  obtain ⟨s, hs⟩ : ∃ s, a.tmod 200 = s := ⟨_, rfl⟩
  have hs2 := tmod_lt a 200 (by decide)
  rw [hs] at hs2
  have HS2 := Lib.hid hs2
  obtain ⟨hs3, hs4⟩ := hs2
  have hPw : IntKind.i64.wrap P = P := by rw [IntKind.wrap_i64]; omega
  have hPn : (P != wrap64 (a * b)) = false := by
    rw [← hP]
    have h : wrap64 P = P := by unfold wrap64; omega
    rw [h]
    simp
  obtain ⟨E, hE⟩ : ∃ E, E = E8 % 8 := ⟨_, rfl⟩
  have hE7 : E ≤ 7 := by omega
  have hEE : ((E8 : Int) % 8) = (E : Nat) := by omega
  clear htab hE8 hP hE
  go_enter Tryz.func6, Tryz.ntmps6
  go_upto_region 2 with (first | (go_at_call 10; refine HS.out.mono ?_; rintro e wz ⟨rfl, hb⟩; have HWW := step1 HW HZ hb; have HW := HWW.1; have HZ := HWW.2; clear HWW hb))
  go_upto_region 3 with (first | (go_at_call_of 27 (Value.int .i64 n); refine (of_X n _ (by omega) (by omega)).mono ?_; rintro e wz ⟨x1, rfl, hn, hb⟩; have HWW := step1 HW HZ hb; have HW := HWW.1; have HZ := HWW.2; clear HWW; have Nx1 := Lib.hid hn; clear hn; clear hb) | (go_at_call 26; refine (int_yes Nx1.out hn1 hn2).mono ?_; rintro e wz ⟨rfl, hb⟩; have HWW := step1 HW HZ hb; have HW := HWW.1; have HZ := HWW.2; clear HWW; clear hb))
  clear Nx1 HS
  go_upto_region 4 with fail

  go_upto_region 5 with (first | (go_at_call_of 27 (Value.int .i64 a); refine (of_X a _ (by omega) (by omega)).mono ?_; rintro e wz ⟨x1, rfl, hn, hb⟩; have HWW := step1 HW HZ hb; have HW := HWW.1; have HZ := HWW.2; clear HWW; have Nx1 := Lib.hid hn; clear hn; clear hb) | (go_at_call_of 27 (Value.int .i64 b); refine (of_X b _ (by omega) (by omega)).mono ?_; rintro e wz ⟨x2, rfl, hn, hb⟩; (try have Nx1 := Lib.hid (Nx1.out.below hb)); have HWW := step1 HW HZ hb; have HW := HWW.1; have HZ := HWW.2; clear HWW; have Nx2 := Lib.hid hn; clear hn; clear hb) | (go_at_call 28; refine (add_yes (a + b) Nx1.out Nx2.out (rfl) (by omega)).mono ?_; rintro e wz ⟨n12, a12, l12, c12, rfl, hn, hb⟩; have HWW := step1 HW HZ hb; have HW := HWW.1; have HZ := HWW.2; clear HWW; have NB := Lib.hid hn; clear hn; clear hb))
  obtain ⟨W, hW⟩ : ∃ W, W = wz.alloc (.cells #[.bool n12, .slice a12 l12 c12] 27) := ⟨_, rfl⟩
  obtain ⟨g12, hg⟩ : ∃ g, g = wz.heap.size := ⟨_, rfl⟩
  have hb : Below wz.heap.size wz W := by rw [hW]; exact alloc_b _ _
  have B12 : Hid (Bx W g12 n12 a12 l12 c12 (a + b)) := Lib.hid (by rw [hW, hg]; exact bx_new NB.out)
  rw [← hW]
  rw [← hg]
  clear hW hg NB
  have HWW := step1 HW HZ hb
  have HW := HWW.1
  have HZ := HWW.2
  clear HWW hb Nx1 Nx2
  go_upto_region 6 with (first | (go_at_call_of 27 (Value.int .i64 a); refine (of_X a _ (by omega) (by omega)).mono ?_; rintro e wz ⟨x1, rfl, hn, hb⟩; (try have B12 := Lib.hid (B12.out.below hb)); have HWW := step1 HW HZ hb; have HW := HWW.1; have HZ := HWW.2; clear HWW; have Nx1 := Lib.hid hn; clear hn; clear hb) | (go_at_call_of 27 (Value.int .i64 b); refine (of_X b _ (by omega) (by omega)).mono ?_; rintro e wz ⟨x2, rfl, hn, hb⟩; (try have B12 := Lib.hid (B12.out.below hb)); (try have Nx1 := Lib.hid (Nx1.out.below hb)); have HWW := step1 HW HZ hb; have HW := HWW.1; have HZ := HWW.2; clear HWW; have Nx2 := Lib.hid hn; clear hn; clear hb) | (go_at_call 29; refine (sub_yes (a - b) Nx1.out Nx2.out (rfl) (by omega)).mono ?_; rintro e wz ⟨n14, a14, l14, c14, rfl, hn, hb⟩; (try have B12 := Lib.hid (B12.out.below hb)); have HWW := step1 HW HZ hb; have HW := HWW.1; have HZ := HWW.2; clear HWW; have NB := Lib.hid hn; clear hn; clear hb))
  obtain ⟨W, hW⟩ : ∃ W, W = wz.alloc (.cells #[.bool n14, .slice a14 l14 c14] 27) := ⟨_, rfl⟩
  obtain ⟨g14, hg⟩ : ∃ g, g = wz.heap.size := ⟨_, rfl⟩
  have hb : Below wz.heap.size wz W := by rw [hW]; exact alloc_b _ _
  have B14 : Hid (Bx W g14 n14 a14 l14 c14 (a - b)) := Lib.hid (by rw [hW, hg]; exact bx_new NB.out)
  rw [← hW]
  rw [← hg]
  clear hW hg NB
  have B12 := Lib.hid (B12.out.below hb)
  have HWW := step1 HW HZ hb
  have HW := HWW.1
  have HZ := HWW.2
  clear HWW hb Nx1 Nx2
  go_upto_region 7 with (first | (go_at_call_of 27 (Value.int .i64 a); refine (of_X a _ (by omega) (by omega)).mono ?_; rintro e wz ⟨x1, rfl, hn, hb⟩; (try have B12 := Lib.hid (B12.out.below hb)); (try have B14 := Lib.hid (B14.out.below hb)); have HWW := step1 HW HZ hb; have HW := HWW.1; have HZ := HWW.2; clear HWW; have Nx1 := Lib.hid hn; clear hn; clear hb) | (go_at_call_of 27 (Value.int .i64 b); refine (of_X b _ (by omega) (by omega)).mono ?_; rintro e wz ⟨x2, rfl, hn, hb⟩; (try have B12 := Lib.hid (B12.out.below hb)); (try have B14 := Lib.hid (B14.out.below hb)); (try have Nx1 := Lib.hid (Nx1.out.below hb)); have HWW := step1 HW HZ hb; have HW := HWW.1; have HZ := HWW.2; clear HWW; have Nx2 := Lib.hid hn; clear hn; clear hb) | (go_at_call 30; refine (mul_yes P Nx1.out Nx2.out (HP.out.symm) (by omega)).mono ?_; rintro e wz ⟨n16, a16, l16, c16, rfl, hn, hb⟩; (try have B12 := Lib.hid (B12.out.below hb)); (try have B14 := Lib.hid (B14.out.below hb)); have HWW := step1 HW HZ hb; have HW := HWW.1; have HZ := HWW.2; clear HWW; have NB := Lib.hid hn; clear hn; clear hb))
  obtain ⟨W, hW⟩ : ∃ W, W = wz.alloc (.cells #[.bool n16, .slice a16 l16 c16] 27) := ⟨_, rfl⟩
  obtain ⟨g16, hg⟩ : ∃ g, g = wz.heap.size := ⟨_, rfl⟩
  have hb : Below wz.heap.size wz W := by rw [hW]; exact alloc_b _ _
  have B16 : Hid (Bx W g16 n16 a16 l16 c16 P) := Lib.hid (by rw [hW, hg]; exact bx_new NB.out)
  rw [← hW]
  rw [← hg]
  clear hW hg NB
  have B12 := Lib.hid (B12.out.below hb)
  have B14 := Lib.hid (B14.out.below hb)
  have HWW := step1 HW HZ hb
  have HW := HWW.1
  have HZ := HWW.2
  clear HWW hb Nx1 Nx2
  have p0 := B12.out.c0
  have p1 := B12.out.c1
  go_upto_region 8 with (first | (go_at_call 26; refine (int_yes B12.out.nu (by omega) (by omega)).mono ?_; rintro e wz ⟨rfl, hb⟩; (try have B14 := Lib.hid (B14.out.below hb)); (try have B16 := Lib.hid (B16.out.below hb)); have HWW := step1 HW HZ hb; have HW := HWW.1; have HZ := HWW.2; clear HWW; clear hb))
  clear p0 p1 B12
  have p0 := B14.out.c0
  have p1 := B14.out.c1
  go_upto_region 9 with (first | (go_at_call 26; refine (int_yes B14.out.nu (by omega) (by omega)).mono ?_; rintro e wz ⟨rfl, hb⟩; (try have B16 := Lib.hid (B16.out.below hb)); have HWW := step1 HW HZ hb; have HW := HWW.1; have HZ := HWW.2; clear HWW; clear hb))
  clear p0 p1 B14
  have p0 := B16.out.c0
  have p1 := B16.out.c1
  go_upto_region 10 with (first | (go_at_call 26; refine (int_yes B16.out.nu (by omega) (by omega)).mono ?_; rintro e wz ⟨rfl, hb⟩; have HWW := step1 HW HZ hb; have HW := HWW.1; have HZ := HWW.2; clear HWW; clear hb))
  clear p0 p1 B16
  go_upto_region 12 with fail
  go_wp2_with fail
  go_loopw [24, 26] (fun v kv wr => ∃ j : Nat, j ≤ E ∧ kv = .int .i64 (j : Nat) ∧ v = .int .i64 (s ^ j) ∧ Hid (Below w.heap.size w wr)) (fun _ kv _ => E - (intOf kv).toNat)
  case atStart => exact ⟨0, by omega, rfl, by rw [Int.pow_zero], HW⟩
  case round =>
    obtain ⟨j, hj, rfl, rfl, hwr⟩ := hrel
    have hq7 := pow_small HS2.out j (by omega)
    by_cases hjE : j < E
    · have hq8 := pow_small HS2.out (j + 1) (by omega)
      obtain ⟨q, hq⟩ : ∃ q, q = s ^ j := ⟨_, rfl⟩
      obtain ⟨q2, hq2⟩ : ∃ q2, q2 = s ^ (j + 1) := ⟨_, rfl⟩
      rw [← hq] at hq7 ⊢
      rw [← hq2] at hq8
      have hqq : wrap64 (q * s) = q2 := by
        rw [hq, ← Int.pow_succ, ← hq2]
        unfold wrap64
        omega
      have HQ2 := Lib.hid hq2
      clear hq hq2 HW
      go_wp2_with fail
      exact ⟨⟨j + 1, by omega, by go_num, by rw [hqq, HQ2.out], hwr⟩, by simp [intOf]; omega⟩
    · have hj2 : j = E := by omega
      subst hj2
      have HW := hwr
      have HZ := Lib.hid hwr.out.size
      obtain ⟨q, hq⟩ : ∃ q, q = s ^ j := ⟨_, rfl⟩
      rw [← hq] at hq7 ⊢
      have HQ := Lib.hid hq
      clear hq
      go_upto_region 18 with (first | (go_at_call_of 27 (Value.int .i64 s); refine (of_X s _ (by omega) (by omega)).mono ?_; rintro e wz ⟨x1, rfl, hn, hb⟩; have HWW := step1 HW HZ hb; have HW := HWW.1; have HZ := HWW.2; clear HWW; have Nx1 := Lib.hid hn; clear hn; clear hb) | (go_at_call 20; refine (pow_yes q j Nx1.out (by omega) HQ.out.symm (by omega)).mono ?_; rintro e wz ⟨n27, a27, l27, c27, rfl, hn, hb⟩; have HWW := step1 HW HZ hb; have HW := HWW.1; have HZ := HWW.2; clear HWW; have NB := Lib.hid hn; clear hn; clear hb))
      obtain ⟨W, hW⟩ : ∃ W, W = wz.alloc (.cells #[.bool n27, .slice a27 l27 c27] 27) := ⟨_, rfl⟩
      obtain ⟨g27, hg⟩ : ∃ g, g = wz.heap.size := ⟨_, rfl⟩
      have hb : Below wz.heap.size wz W := by rw [hW]; exact alloc_b _ _
      have B27 : Hid (Bx W g27 n27 a27 l27 c27 q) := Lib.hid (by rw [hW, hg]; exact bx_new NB.out)
      rw [← hW]
      rw [← hg]
      clear hW hg NB
      have HWW := step1 HW HZ hb
      have HW := HWW.1
      have HZ := HWW.2
      clear HWW hb Nx1
      have p0 := B27.out.c0
      have p1 := B27.out.c1
      go_upto_region 19 with (first | (go_at_call 26; refine (int_yes B27.out.nu (by omega) (by omega)).mono ?_; rintro e wz ⟨rfl, hb⟩; have HWW := step1 HW HZ hb; have HW := HWW.1; have HZ := HWW.2; clear HWW; clear hb))
      clear p0 p1 B27
      have HCM : Hid (∀ W x y, Nu W x n → Nu W y m → Calls Tryz.prog 31 #[x, y] W fun e w' => e = .returned (.int .i64 (cmpZ n m)) ∧ Below W.heap.size W w') := Lib.hid (fun W x y h1 h2 => cmp_any h1 h2)
      rcases Int.lt_trichotomy n m with h | h | h
      case' inl =>
        rw [show cmpZ n m = -1 by unfold cmpZ; rw [if_pos h]] at HCM
        have h2 : ¬ n > m := by omega
      case' inr.inl =>
        rw [show cmpZ n m = 0 by unfold cmpZ; rw [if_neg (by omega), if_pos h]] at HCM
        have h1 : ¬ n < m := by omega
        have h2 : ¬ n > m := by omega
        clear h
      case' inr.inr =>
        rw [show cmpZ n m = 1 by unfold cmpZ; rw [if_neg (by omega), if_neg (by omega)]] at HCM
        have h1 : ¬ n < m := by omega
      all_goals
        go_wp2_with (first | (go_at_call_of 27 (Value.int .i64 n); refine (of_X n _ (by omega) (by omega)).mono ?_; rintro e wz ⟨x1, rfl, hn, hb⟩; have HWW := step1 HW HZ hb; have HW := HWW.1; have HZ := HWW.2; clear HWW; have Nx1 := Lib.hid hn; clear hn; clear hb) | (go_at_call_of 27 (Value.int .i64 m); refine (of_X m _ (by omega) (by omega)).mono ?_; rintro e wz ⟨x2, rfl, hn, hb⟩; (try have Nx1 := Lib.hid (Nx1.out.below hb)); have HWW := step1 HW HZ hb; have HW := HWW.1; have HZ := HWW.2; clear HWW; have Nx2 := Lib.hid hn; clear hn; clear hb) | (go_at_call 31; refine (HCM.out _ _ _ Nx1.out Nx2.out).mono ?_; rintro e wz ⟨rfl, hb⟩; have HWW := step1 HW HZ hb; have HW := HWW.1; have HZ := HWW.2; clear HWW; clear hb) | (go_at_call 32; refine (right_nu Nx1.out).mono ?_; rintro e wz ⟨rfl, hb⟩; have HWW := step1 HW HZ hb; have HW := HWW.1; have HZ := HWW.2; clear HWW; clear hb))
        go_ret
        exact ⟨rfl, HW.out⟩

end Go.Proofs.YtdgmjmckeeeljaaGreatDoor
