/- Contract of the reference: Made, for any slice of ints. -/
import Derived.Test.YtdgmjmckeeeljaaGreatDoorJJ
namespace Go.Proofs.YtdgmjmckeeeljaaGreatDoor
open Go.RowKit

/-- A slice that reads as ints. -/
def Li (w : World) (v : Value) (zs : List Int) : Prop := ∃ ao cap, v = .slice ao zs.length cap ∧ zs.length ≤ cap ∧ zs.length ≤ maxLen ∧ (zs.length ≠ 0 → ∃ b off, ao = some ⟨b, off, none⟩ ∧ ∀ j, j < zs.length → w.cell? ⟨b, off + j, none⟩ = some (.int .i64 (zs.getD j 0)))

structure MadI (w : World) (B : Nat) (wr : World) (dv : Value) (j : Nat) : Prop where
  own : ∃ ds, ds.length = j ∧ Bd ds ∧ wr.ownsRow B 59 1 dv j (ds.map u32v)
  below : Below w.heap.size w wr
  box : ResBox wr w.heap.size
  big : B ≤ wr.heap.size

theorem Bd.append1 {ds : List Nat} (h : Bd ds) {r : Nat} (hr : r < 4294967296) : Bd (ds ++ [r]) := fun d hd => by
  rcases List.mem_append.1 hd with h1 | h1
  · exact h d h1
  · simp at h1; omega

set_option maxRecDepth 10000 in
set_option maxHeartbeats 1000000 in
theorem made11_any {w : World} {v : Value} {zs : List Int} (h : Li w v zs) :
    Calls Tryz.prog 11 #[v] w fun e w' => ∃ x z, e = .returned x ∧ Nu w' x z ∧ (digs z.natAbs).length ≤ 6 ∧ Below w.heap.size w w' := by
  obtain ⟨ao, cap, rfl, hc, hm, hcell⟩ := h
  obtain ⟨n, hn⟩ : ∃ n, n = zs.length := ⟨_, rfl⟩
  rw [← hn] at hc hm hcell ⊢
  have hbase : w.heap.size + 1 ≤ (w.alloc (.cells #[.bool false, .slice none 0 0] 27)).heap.size := by simp
  have HI0 : Hid (MadI w (w.heap.size + 1) (w.alloc (.cells #[.bool false, .slice none 0 0] 27)) (.slice none 0 0) 0) := Lib.hid ⟨⟨[], rfl, bd_nil, World.ownsRow_nil _ _ _ _⟩, by go_grown, resbox_new w, hbase⟩
  obtain ⟨i0, hi, hz0, hz1, hz2⟩ := info_parts Tryz.info59
  unfold maxLen at hm
  clear hn hbase
  go_enter Tryz.func11, Tryz.ntmps11
  go_wp2
  go_loopw [3, 4] (fun dv kv wr => ∃ j dao dc, dv = .slice dao j dc ∧ kv = .int .i64 ((j + 1 : Nat) : Int) ∧ j ≤ 6 ∧ Hid (MadI w (w.heap.size + 1) wr dv j)) (fun _ kv _ => 8 - (intOf kv).toNat)
  case atStart => exact ⟨0, none, 0, rfl, rfl, by omega, HI0⟩
  case round =>
    obtain ⟨j, dao, dc, rfl, rfl, hj, HI⟩ := hrel
    by_cases h1 : j + 1 < n ∧ j + 1 < 7
    · obtain ⟨h1, h2⟩ := h1
      obtain ⟨b, off, rfl, hcl⟩ := hcell (by omega)
      obtain ⟨z, hz⟩ : ∃ z, z = zs.getD (j + 1) 0 := ⟨_, rfl⟩
      have hx := cell_later HI.out.below (hcl (j + 1) (by omega))
      rw [← hz] at hx
      clear hz hcl hcell
      obtain ⟨ds, g1, g2, g3⟩ := HI.out.own
      obtain ⟨r, hr⟩ : ∃ r : Nat, z % 4294967296 = (r : Int) := ⟨(z % 4294967296).toNat, by omega⟩
      have hr4 : r < 4294967296 := by omega
      have HIB := Lib.hid HI.out.big
      go_wp2_with (at_builtin; go_must (refine wpList_append_own _ rfl _ _ 25 rfl (w.heap.size + 1) 59 i0 (.int .u32 0) 1 4 Tryz.underlying25 hi hz0 hz1 hz2 rfl (by decide) (.slice dao j dc) j (ds.map u32v) rfl (g3.alloc _) ⟨wr.heap.size, 0, none⟩ 1 1 [.int .u32 (r : Int)] rfl rfl (cell_one_new _ _ _) (fun x hx => by simp at hx; subst hx; rfl) (by unfold maxLen; omega) (by omega) (by have := HIB.out; simp; omega) ?_; intro v' w3 hown' hgrow3 hnil3))
      have hown2 : w3.ownsRow (w.heap.size + 1) 59 1 v' (j + 1) ((ds ++ [r]).map u32v) := by
        rw [List.map_append]
        exact hown'
      have hlv : ∀ b, (Value.slice dao j dc).ownBlock = some b → w.heap.size + 1 ≤ b := fun b e => (g3.lt b e).1
      have hgs := hgrow3.size
      simp at hgs
      have hblt := HI.out.box.lt
      have HN : Hid (MadI w (w.heap.size + 1) w3 v' (j + 1)) := Lib.hid ⟨⟨ds ++ [r], by simp [g1], Bd.append1 g2 hr4, hown2⟩,
        (HI.out.below.alloc (by have := HI.out.below.size; omega) _).grown hgrow3 (by simp; omega) (fun r e => by have := hlv r e; omega),
        (hgrow3.block _ (by simp; omega) (fun e => by have := hlv _ e.symm; omega)).trans ((Below.heap_alloc wr _ _ hblt).trans HI.out.box), by have := HIB.out; omega⟩
      obtain ⟨ao2, c2, rfl⟩ : ∃ ao2 c2, v' = .slice ao2 (j + 1) c2 := by
        rcases hown2.2 with ⟨_, e⟩ | ⟨g, cc, _, e, _⟩
        · omega
        · exact ⟨_, _, e⟩
      clear hown' hown2 hgrow3 hgs
      go_roundw
      case rel => exact ⟨j + 1, _, _, rfl, by go_num, by omega, HN⟩
      case measure => simp [intOf]; omega
    · obtain ⟨ds, g1, g2, g3⟩ := HI.out.own
      rw [← g1] at g3
      obtain ⟨dao', dc', e4, e5⟩ := sw_of_owns g2 g3
      rw [g1] at e4
      cases e4
      rw [g1] at e5
      have hsl := e5.sl
      have hd6 : (digs (val ds)).length ≤ 6 := Nat.le_trans (take_trim g2).2 (by omega)
      have HSI : Hid (∀ W neg, Sl W (.slice dao j dc) ds → Calls Tryz.prog 36 #[.bool neg, .slice dao j dc] W fun e w' => ∃ (z : Int) (neg' : Bool) (ao : Option Addr) (n c : Nat), e = .returned (.tuple #[.agg #[.bool neg', .slice ao n c], .bool true]) ∧ (neg' = decide (z < 0) ∧ Sw W.heap.size w' (.slice ao n c) (digs z.natAbs) ∧ (digs z.natAbs).length ≤ 6) ∧ Below W.heap.size W w') := fun W neg h => by
        have hza : (if neg = true then -((val ds : Nat) : Int) else ((val ds : Nat) : Int)).natAbs = val ds := by split <;> omega
        have hf : fitsB (if neg = true then -((val ds : Nat) : Int) else ((val ds : Nat) : Int)).natAbs = true := by
          rw [hza]; unfold fitsB; simp; omega
        refine (rsigned_any neg h).mono ?_
        rintro e w' ⟨neg', ao2, n2, c2, rfl, hb2, hyes, -⟩
        obtain ⟨h1, h2⟩ := hyes hf
        exact ⟨_, neg', ao2, n2, c2, by rw [hf], ⟨h1, h2, by rw [hza]; exact hd6⟩, hb2⟩
      have HBX := Lib.hid HI.out.box
      have HBL := Lib.hid HI.out.below
      clear g1 g2 g3 e5 hd6 HI0 HI hz0 hz1 hz2 hi
      by_cases hn0 : n = 0
      · subst hn0
        go_wp2_with (go_at_call 36; refine (HSI.out _ _ hsl).mono ?_; rintro e W2 ⟨z, neg', ao2, n2, c2, rfl, hres, hb2⟩; have HRS := Lib.hid hres; clear hres; have hr2 := HBX.out.below hb2; obtain ⟨r0, r1, f0, f1⟩ := hr2.cells; have hz1' := hr2.lt; have hz2' := Nat.le_of_lt hz1')
        obtain ⟨c0, c1⟩ := res_cells hr2 (.bool neg') (.slice ao2 n2 c2) (.cells #[.bool neg', .slice ao2 n2 c2] 27)
        have hsz := HBL.out.size
        have hsz2 := hb2.size
        have hfin : Below w.heap.size w (((W2.setCell ⟨w.heap.size, 0, none⟩ (.bool neg')).setCell ⟨w.heap.size, 1, none⟩ (.slice ao2 n2 c2)).alloc (.cells #[.bool neg', .slice ao2 n2 c2] 27)) :=
          (((HBL.out.trans (hb2.mono hsz)).setCell (by simp) _).setCell (by simp) _).alloc (by simp; omega) _
        have hgt := HBX.out.lt
        have hsw := HRS.out.2.1.after (g := w.heap.size) hgt (.bool neg') (.slice ao2 n2 c2) (.cells #[.bool neg', .slice ao2 n2 c2] 27)
        revert hfin c0 c1 hsw
        generalize (((W2.setCell ⟨w.heap.size, 0, none⟩ (.bool neg')).setCell ⟨w.heap.size, 1, none⟩ (.slice ao2 n2 c2)).alloc (.cells #[.bool neg', .slice ao2 n2 c2] 27)) = W4
        intro c0 c1 hfin hsw
        have HSW := Lib.hid hsw
        clear hsw
        refine bodyPost_ret (v := .agg #[.bool neg', .slice ao2 n2 c2]) (by simp [results, Tryz.results11, go_sem, c0, c1]) rfl ?_
        exact ⟨_, z, rfl, ⟨.slice ao2 n2 c2, by rw [← HRS.out.1], HSW.out.sl, by have := HRS.out.2.2; omega⟩, HRS.out.2.2, hfin⟩
      · obtain ⟨b, off, rfl, hcl⟩ := hcell hn0
        have hx := cell_later HBL.out (hcl 0 (by omega))
        obtain ⟨z0, hz⟩ : ∃ z0, z0 = zs.getD 0 0 := ⟨_, rfl⟩
        rw [← hz, Nat.add_zero] at hx
        clear hz hcl hcell
        have hn1 : 0 < n := by omega
        by_cases h3 : j + 1 < n
        · have h4 : j = 6 := by omega
          subst h4
          go_wp2_with (go_at_call 36; refine (HSI.out _ _ hsl).mono ?_; rintro e W2 ⟨z, neg', ao2, n2, c2, rfl, hres, hb2⟩; have HRS := Lib.hid hres; clear hres; have hr2 := HBX.out.below hb2; obtain ⟨r0, r1, f0, f1⟩ := hr2.cells; have hz1' := hr2.lt; have hz2' := Nat.le_of_lt hz1')
          obtain ⟨c0, c1⟩ := res_cells hr2 (.bool neg') (.slice ao2 n2 c2) (.cells #[.bool neg', .slice ao2 n2 c2] 27)
          have hsz := HBL.out.size
          have hsz2 := hb2.size
          have hfin : Below w.heap.size w (((W2.setCell ⟨w.heap.size, 0, none⟩ (.bool neg')).setCell ⟨w.heap.size, 1, none⟩ (.slice ao2 n2 c2)).alloc (.cells #[.bool neg', .slice ao2 n2 c2] 27)) :=
            (((HBL.out.trans (hb2.mono hsz)).setCell (by simp) _).setCell (by simp) _).alloc (by simp; omega) _
          have hgt := HBX.out.lt
          have hsw := HRS.out.2.1.after (g := w.heap.size) hgt (.bool neg') (.slice ao2 n2 c2) (.cells #[.bool neg', .slice ao2 n2 c2] 27)
          revert hfin c0 c1 hsw
          generalize (((W2.setCell ⟨w.heap.size, 0, none⟩ (.bool neg')).setCell ⟨w.heap.size, 1, none⟩ (.slice ao2 n2 c2)).alloc (.cells #[.bool neg', .slice ao2 n2 c2] 27)) = W4
          intro c0 c1 hfin hsw
          have HSW := Lib.hid hsw
          clear hsw
          refine bodyPost_ret (v := .agg #[.bool neg', .slice ao2 n2 c2]) (by simp [results, Tryz.results11, go_sem, c0, c1]) rfl ?_
          exact ⟨_, z, rfl, ⟨.slice ao2 n2 c2, by rw [← HRS.out.1], HSW.out.sl, by have := HRS.out.2.2; omega⟩, HRS.out.2.2, hfin⟩
        · have h4 : n ≤ j + 1 := by omega
          go_wp2_with (go_at_call 36; refine (HSI.out _ _ hsl).mono ?_; rintro e W2 ⟨z, neg', ao2, n2, c2, rfl, hres, hb2⟩; have HRS := Lib.hid hres; clear hres; have hr2 := HBX.out.below hb2; obtain ⟨r0, r1, f0, f1⟩ := hr2.cells; have hz1' := hr2.lt; have hz2' := Nat.le_of_lt hz1')
          obtain ⟨c0, c1⟩ := res_cells hr2 (.bool neg') (.slice ao2 n2 c2) (.cells #[.bool neg', .slice ao2 n2 c2] 27)
          have hsz := HBL.out.size
          have hsz2 := hb2.size
          have hfin : Below w.heap.size w (((W2.setCell ⟨w.heap.size, 0, none⟩ (.bool neg')).setCell ⟨w.heap.size, 1, none⟩ (.slice ao2 n2 c2)).alloc (.cells #[.bool neg', .slice ao2 n2 c2] 27)) :=
            (((HBL.out.trans (hb2.mono hsz)).setCell (by simp) _).setCell (by simp) _).alloc (by simp; omega) _
          have hgt := HBX.out.lt
          have hsw := HRS.out.2.1.after (g := w.heap.size) hgt (.bool neg') (.slice ao2 n2 c2) (.cells #[.bool neg', .slice ao2 n2 c2] 27)
          revert hfin c0 c1 hsw
          generalize (((W2.setCell ⟨w.heap.size, 0, none⟩ (.bool neg')).setCell ⟨w.heap.size, 1, none⟩ (.slice ao2 n2 c2)).alloc (.cells #[.bool neg', .slice ao2 n2 c2] 27)) = W4
          intro c0 c1 hfin hsw
          have HSW := Lib.hid hsw
          clear hsw
          refine bodyPost_ret (v := .agg #[.bool neg', .slice ao2 n2 c2]) (by simp [results, Tryz.results11, go_sem, c0, c1]) rfl ?_
          exact ⟨_, z, rfl, ⟨.slice ao2 n2 c2, by rw [← HRS.out.1], HSW.out.sl, by have := HRS.out.2.2; omega⟩, HRS.out.2.2, hfin⟩

end Go.Proofs.YtdgmjmckeeeljaaGreatDoor
