/- Contract: before. Condition: a permitted ratio, or a row that is not empty. -/
import Derived.Test.YtjlneggfkpjnpaaE
import Derived.IntWalk
namespace Go.Proofs.Ytjlneggfkpjnpaa
open Go.RowKit

theorem hasB_iff {r s : List Int} : hasB r s = true ↔ (1 ≤ r.length ∧ r.length ≤ 6 ∧ inB 0 8 r = true ∧ r.any (fun x => decide (0 < x)) = true) ∧ 1 ≤ s.length ∧ s.length ≤ 3 ∧ inB 1 4 s = true := by
  unfold hasB hasR hasS
  simp only [Bool.and_eq_true, decide_eq_true_eq, and_assoc]

theorem getD_map {r : List Int} {f : Int → Int} {k : Nat} (h : k < r.length) : (r.map f).getD k 0 = f (r.getD k 0) := by simp [List.getD, h]

theorem in_times {r : List Int} {y : Int} (h : inB 0 8 r = true) (h1 : 1 ≤ y) (h4 : y ≤ 4) : ∀ k, k < r.length → 0 ≤ y * r.getD k 0 ∧ y * r.getD k 0 ≤ 32 := fun k hk => by
  obtain ⟨a, b⟩ := (inB_iff.1 h) k hk
  refine ⟨Int.mul_nonneg (by omega) a, ?_⟩
  have h5 : y * r.getD k 0 ≤ 4 * r.getD k 0 := Int.mul_le_mul_of_nonneg_right h4 a
  omega

/-- What is known of a choice. -/
theorem ch_facts {r s row : List Int} {x y z : Int} (h : (x, y, z) ∈ chV r s row) : hasB r s = true ∧ (y = 0 ∧ row.length = r.length ∨ 1 ≤ y ∧ y ≤ 4) ∧ inB 0 1048576 (blockV r row y) = true ∧ (blockV r row y).length = r.length ∧ ∃ k, k < r.length ∧ z = (k : Int) ∧ 1 ≤ (blockV r row y).getD k 0 ∧ (blockV r row y).getD k 0 ≤ 1048576 := by
  unfold chV at h
  split at h
  · rename_i hb
    rw [Bool.and_eq_true] at hb
    obtain ⟨hB, hF⟩ := hb
    split at h
    · rename_i hl
      obtain ⟨k, hk, h0, he⟩ := mem_coll.1 h
      injection he with e1 e2
      injection e2 with e2 e3
      have hin : inB 0 1048576 row = true := by
        unfold leftV at hl
        split at hl
        · assumption
        · omega
      have hlen : row.length = r.length := by
        unfold fitB at hF
        rw [Bool.or_eq_true, Bool.and_eq_true, decide_eq_true_eq, decide_eq_true_eq] at hF
        rcases hF with hF | hF
        · omega
        · exact hF.1
      have e : blockV r row y = row := by unfold blockV; rw [if_pos e2]
      rw [e]
      exact ⟨hB, .inl ⟨e2, hlen⟩, hin, hlen, k, by omega, e3, by omega, ((inB_iff.1 hin) k hk).2⟩
    · obtain ⟨i, hi, hc⟩ := mem_blks.1 h
      obtain ⟨k, hk, h0, he⟩ := mem_coll.1 hc
      injection he with e1 e2
      injection e2 with e2 e3
      obtain ⟨⟨b1, b2, b3, b4⟩, b5, b6, b7⟩ := hasB_iff.1 hB
      have hy := (inB_iff.1 b7) i hi
      rw [← e2] at hy
      have e : blockV r row y = r.map fun x => y * x := by unfold blockV; rw [if_neg (by omega)]
      have ht := in_times b3 hy.1 hy.2
      have hpos : 1 ≤ y * r.getD k 0 := by
        have : 0 < y * r.getD k 0 := Int.mul_pos (by omega) h0
        omega
      rw [e]
      refine ⟨hB, .inr hy, inB_iff.2 fun j hj => ?_, by simp, k, hk, e3, ?_, ?_⟩
      · rw [List.length_map] at hj
        have := ht j hj
        rw [getD_map hj]; omega
      · rw [getD_map hk]; exact hpos
      · have := ht k hk
        rw [getD_map hk]; omega
  · simp at h

theorem make_run (k : Nat) (hk : k ≤ 1000) (W : World) : (Instr.makeSlice 25 (.int .i64 (k : Int)) (.int .i64 (k : Int))).run Try.prog W = .ok (.slice (some ⟨W.heap.size, 0, none⟩) k k) (W.alloc (.cells (ints (List.replicate k 0)).toArray 3)) := by
  obtain ⟨i0, hii, hz0, hz1, hz2⟩ := info_parts Try.info3
  have h := run_makeSlice (P := Try.prog) W 25 3 i0 (.int .i64 0) Try.underlying25 hii hz0 .i64 .i64 (k : Int) (k : Int) (by omega) (Int.le_refl _) (by rw [hz1]; simp; omega) (by rw [hz2]; omega) (by omega)
  rw [hz1] at h
  simp only [Int.toNat_natCast] at h
  have e : madeCells (Value.int .i64 0).cells (k * 1) = (ints (List.replicate k 0)).toArray := by
    apply Array.ext'
    rw [show (Value.int .i64 0).cells = #[.int .i64 0] from rfl, toList_madeCells_one]
    simp [ints]
  rw [e] at h
  exact h

theorem made_own (k : Nat) (hk : k ≤ 1000) (W : World) : OwI (W.alloc (.cells (ints (List.replicate k 0)).toArray 3)) W.heap.size (.slice (some ⟨W.heap.size, 0, none⟩) k k) k (List.replicate k 0) :=
  ⟨by simp [ints], .inr ⟨W.heap.size, k, _, rfl, Nat.le_refl _, heap_alloc_new _ _, Nat.le_refl _, by unfold maxLen; omega, by simp [ints], by simp [ints]⟩⟩

/-- The first numbers multiplied, the others 0. -/
def mkL (r : List Int) (size : Int) (k : Nat) : List Int := (List.range r.length).map fun j => if j < k then size * r.getD j 0 else 0
theorem mkL_len (r : List Int) (size : Int) (k : Nat) : (mkL r size k).length = r.length := by simp [mkL]
theorem mkL_zero (r : List Int) (size : Int) : mkL r size 0 = List.replicate r.length 0 := by
  apply List.ext_getElem <;> simp [mkL]
theorem mkL_end (r : List Int) (size : Int) : mkL r size r.length = r.map fun x => size * x := by
  apply List.ext_getElem
  · simp [mkL]
  · intro i h1 h2
    have h3 : i < r.length := by simpa [mkL] using h1
    simp [mkL, h3, List.getD]
theorem mkL_set {r : List Int} {size : Int} {k : Nat} (h : k < r.length) : (mkL r size k).set k (size * r.getD k 0) = mkL r size (k + 1) := by
  apply List.ext_getElem
  · simp [mkL]
  · intro i h1 h2
    have h3 : i < r.length := by simpa [mkL] using h2
    rw [List.getElem_set]
    by_cases hik : k = i
    · subst hik
      simp [mkL]
    · simp only [mkL, List.getElem_map, List.getElem_range, if_neg hik]
      by_cases hk2 : i < k
      · rw [if_pos hk2, if_pos (by omega)]
      · rw [if_neg hk2, if_neg (by omega)]

set_option maxRecDepth 10000 in
set_option maxHeartbeats 1000000 in
theorem before_old {W : World} {ar az aw : Option Addr} {nr cr ns cs nw cw : Nat} {row : List Int} (hw : Ix W (.slice aw nw cw) row) (h0 : row.length ≠ 0) (lw : row.length ≤ 8) :
    Calls Try.prog 35 #[.agg #[.int .i64 0, .slice ar nr cr, .slice az ns cs, .int .i64 0, .int .i64 0, .int .i64 0], .slice aw nw cw, .int .i64 0] W fun e w' => ∃ ao cap, e = .returned (.slice ao row.length cap) ∧ OwI w' W.heap.size (.slice ao row.length cap) row.length row ∧ Below W.heap.size W w' := by
  have HC := Lib.hid (clone_any (hw.below (dbox_below W (.slice ar nr cr) (.slice az ns cs))) h0 (by omega))
  clear hw
  go_enter Try.func35, Try.ntmps35
  go_wp2_with (go_at_call 46; refine HC.out.mono ?_; rintro e w1 ⟨ao, cap, rfl, ho, hb⟩; have HO := Lib.hid (owns_mono ho (show W.heap.size ≤ _ by simp)); have HB := Lib.hid (dbox_up hb); clear ho hb)
  go_ret
  exact ⟨_, _, rfl, HO.out, HB.out⟩

set_option maxRecDepth 10000 in
set_option maxHeartbeats 2000000 in
theorem before_new {W : World} {ar az aw : Option Addr} {nr cr ns cs nw cw : Nat} {r : List Int} (hr : Ix W (.slice ar nr cr) r) (h8 : inB 0 8 r = true) (lr : r.length ≤ 8) {y : Int} (y1 : 1 ≤ y) (y4 : y ≤ 4) :
    Calls Try.prog 35 #[.agg #[.int .i64 0, .slice ar nr cr, .slice az ns cs, .int .i64 0, .int .i64 0, .int .i64 0], .slice aw nw cw, .int .i64 y] W fun e w' => ∃ ao cap, e = .returned (.slice ao r.length cap) ∧ OwI w' W.heap.size (.slice ao r.length cap) r.length (r.map fun x => y * x) ∧ Below W.heap.size W w' := by
  have hnr := hr.size
  have ht := in_times h8 y1 y4
  have HD0 := Lib.hid (dbox_is W (.slice ar nr cr) (.slice az ns cs))
  have hmk := make_run nr (by omega) (dbox W (.slice ar nr cr) (.slice az ns cs))
  have hown := made_own nr (by omega) (dbox W (.slice ar nr cr) (.slice az ns cs))
  have hbl : Below (dbox W (.slice ar nr cr) (.slice az ns cs)).heap.size (dbox W (.slice ar nr cr) (.slice az ns cs)) _ := (Below.refl _ _).alloc (Nat.le_refl _) (.cells (ints (List.replicate nr 0)).toArray 3)
  obtain ⟨W1, hW1⟩ : ∃ W1, W1 = (dbox W (.slice ar nr cr) (.slice az ns cs)).alloc (.cells (ints (List.replicate nr 0)).toArray 3) := ⟨_, rfl⟩
  rw [← hW1] at hmk hown hbl
  rw [hnr, ← mkL_zero r y, ← hnr] at hown
  rw [dbox_size] at hown hbl hmk
  rw [← mkL_end r y, ← hnr]
  have HO := Lib.hid hown
  have HB := Lib.hid hbl
  have HX := Lib.hid hr
  have HT := Lib.hid ht
  have HN := Lib.hid hnr
  have hnr8 : nr ≤ 8 := by omega
  have hz : ¬ y = 0 := by omega
  clear hW1 hown hbl hr ht h8 lr hnr y1 y4
  go_enter Try.func35, Try.ntmps35
  go_wp2
  go_loopw [8, 19] (fun _ kv wr => ∃ k : Nat, k ≤ nr ∧ kv = .int .i64 (k : Nat) ∧ Hid (OwI wr (W.heap.size + 1) (.slice (some ⟨W.heap.size + 1, 0, none⟩) nr nr) nr (mkL r y k)) ∧ Hid (Below (W.heap.size + 1) (dbox W (.slice ar nr cr) (.slice az ns cs)) wr)) (fun _ kv _ => nr - (intOf kv).toNat)
  case atStart => exact ⟨0, by omega, rfl, HO, HB⟩
  case round =>
    obtain ⟨k, hk, rfl, hO, hB⟩ := hrel
    by_cases hkn : k = nr
    · subst hkn
      go_wp2
      go_ret
      exact ⟨_, _, rfl, owns_mono hO.out (by omega), dbox_up1 hB.out⟩
    · have hlt : k < nr := by omega
      obtain ⟨c0, c1, c2, c3, c4, c5⟩ := (DBox.below1 hB.out).cells
      obtain ⟨g, cap, e, -, hg, hgl, hgc, hfr, hset⟩ := hO.out.parts (by omega)
      injection e with e
      injection e with e
      injection e with e
      subst e
      have hfz := hfr k
      have hst := hset k (y * r.getD k 0) hlt
      rw [mkL_set (by rw [← HN.out]; exact hlt)] at hst
      obtain ⟨b, off, rfl, hq, hcap, hbl, hcl⟩ := HX.out.at (by omega)
      have hc := cell_later (dbox_up1 hB.out) (hcl k hlt)
      have hcw := hgc k hlt
      have hm := HT.out k (by rw [← HN.out]; exact hlt)
      obtain ⟨x, hx⟩ : ∃ x, x = r.getD k 0 := ⟨_, rfl⟩
      rw [← hx] at hc hm hst
      obtain ⟨q, hqq⟩ : ∃ q, q = (mkL r y k).getD k 0 := ⟨_, rfl⟩
      rw [← hqq] at hcw
      have hw1 : IntKind.i64.wrap (y * x) = y * x := IntWalk.i64_in _ (by omega)
      have hw2 : wrap64 (y * x) = y * x := by simp only [wrap64]; omega
      have HO2 := Lib.hid hst
      have HB2 := Lib.hid (hB.out.setCell (p := ⟨W.heap.size + 1, k, none⟩) (Nat.le_refl _) (.int .i64 (y * x)))
      clear hx hqq hcl hgc hfr hset hst hq hm hO
      go_wp2
      go_roundw
      case rel => exact ⟨k + 1, by omega, by go_num, HO2, HB2⟩
      case measure => simp [intOf]; omega

end Go.Proofs.Ytjlneggfkpjnpaa
