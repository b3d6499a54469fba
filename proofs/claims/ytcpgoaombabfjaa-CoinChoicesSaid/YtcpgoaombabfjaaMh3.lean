/- Contracts of the reference: Mod, a draw's Next. Condition: the slice reads as ints. Contract of the reference: Proper. Condition: the ratio reads as ints. Contract of the reference: Made. Condition: the slice reads as ints. Contract of the reference: Made. Condition: the slice reads as ints. Contract of the reference: Row. Condition: the slices read as ints. -/
import Derived.Test.YtcpgoaombabfjaaMh2
import Derived.Deep.RegionLaw
import Derived.BigQuiet
import Derived.Deep.RegionHeld3
namespace Go.Proofs.Ytcpgoaombabfjaa
open Go.RowKit

theorem mod_arith (n : Int) (m : Nat) (h1 : 1 ≤ m) (h2 : m ≤ 1000) : (wrap64 (n.tmod m + m)).tmod m = n % m := by
  have hw : ∀ r : Int, -1000 ≤ r → r ≤ 2000 → wrap64 r = r := fun r _ _ => by simp only [wrap64]; omega
  rcases Int.le_total 0 n with h | h
  · rw [Int.tmod_eq_emod_of_nonneg h]
    have a1 := Int.emod_nonneg n (show (m : Int) ≠ 0 by omega)
    have a2 := Int.emod_lt_of_pos n (show (0 : Int) < m by omega)
    rw [hw _ (by omega) (by omega), Int.tmod_eq_emod_of_nonneg (by omega), Int.add_emod_right, Int.emod_emod_of_dvd _ (Int.dvd_refl _)]
  · have e : n.tmod m = -((-n) % m) := by
      rw [← Int.tmod_eq_emod_of_nonneg (by omega), Int.neg_tmod, Int.neg_neg]
    have a1 := Int.emod_nonneg (-n) (show (m : Int) ≠ 0 by omega)
    have a2 := Int.emod_lt_of_pos (-n) (show (0 : Int) < m by omega)
    rw [e, hw _ (by omega) (by omega), Int.tmod_eq_emod_of_nonneg (by omega)]
    refine Int.emod_eq_emod_iff_emod_sub_eq_zero.2 ?_
    have a3 := Int.mul_ediv_add_emod (-n) m
    refine Int.emod_eq_zero_of_dvd ⟨1 + (-n) / m, ?_⟩
    rw [Int.mul_add, Int.mul_one]
    omega

set_option maxRecDepth 10000 in
set_option maxHeartbeats 1000000 in
theorem mod_any (n : Int) (m : Nat) (hm1 : 1 ≤ m) (hm : m ≤ 1000) (w : World) : Calls Try.prog 14 #[.int .i64 n, .int .i64 m] w fun e w' => e = .returned (.int .i64 (n % m)) ∧ w' = w := by
  have ha := mod_arith n m hm1 hm
  have HA := Lib.hid ha
  have hm0 : ¬ (m : Int) < 1 := by omega
  clear ha
  go_enter Try.func14, Try.ntmps14
  go_wp2
  go_ret
  exact ⟨congrArg (fun z => Ending.returned (Value.int IntKind.i64 z)) HA.out, rfl⟩

/-- A draw. -/
abbrev DrB (W : World) (g : Nat) (v : Value) (k : Nat) : Prop := W.heap[g]? = some (.cells #[v, .int .i64 (k : Int)] 70 (0, 0))
theorem DrB.below {W W' : World} {g : Nat} {v : Value} {k : Nat} (h : DrB W g v k) (hb : Below W.heap.size W W') : DrB W' g v k := (hb.block g (Array.getElem?_eq_some_iff.1 h).1).trans h
theorem DrB.cells {W : World} {g : Nat} {v : Value} {k : Nat} (h : DrB W g v k) : W.cell? ⟨g, 0, none⟩ = some v ∧ W.cell? ⟨g, 1, none⟩ = some (.int .i64 (k : Int)) := ⟨cell_of_row _ _ _ _ _ _ h, cell_of_row _ _ _ _ _ _ h⟩
/-- Only one block is turned. -/
structure Chg (g : Nat) (W W' : World) : Prop where
  os : W'.os = W.os
  tape : W'.tape = W.tape
  output : W'.output = W.output
  size : W'.heap.size = W.heap.size
  same : ∀ j, j ≠ g → W'.heap[j]? = W.heap[j]?
theorem Chg.below {g : Nat} {W W' : World} (h : Chg g W W') : Below g W W' := ⟨h.os, h.tape, h.output, Nat.le_of_eq h.size.symm, fun j hj => h.same j (by omega)⟩
theorem Chg.refl (g : Nat) (W : World) : Chg g W W := ⟨rfl, rfl, rfl, rfl, fun _ _ => rfl⟩
theorem chg_set (g o : Nat) (W : World) (v : Value) : Chg g W (W.setCell ⟨g, o, none⟩ v) := by
  have hb : Below g W (W.setCell ⟨g, o, none⟩ v) := (Below.refl g W).setCell (Nat.le_refl g) v
  exact ⟨hb.os, hb.tape, hb.output, by simp only [World.setCell, Array.size_modify], fun j hj => Below.heap_setCell _ _ _ _ (by simpa using fun e => hj e)⟩

theorem Chg.drew {g : Nat} {W W' : World} (h : Chg g W W') : Chg g W W'.drew := ⟨h.os, h.tape, h.output, h.size, h.same⟩
theorem Chg.trans {g : Nat} {W W' W2 : World} (h : Chg g W W') (h2 : Chg g W' W2) : Chg g W W2 := ⟨h2.os.trans h.os, h2.tape.trans h.tape, h2.output.trans h.output, h2.size.trans h.size, fun j hj => (h2.same j hj).trans (h.same j hj)⟩

set_option maxRecDepth 10000 in
set_option maxHeartbeats 4000000 in
theorem drawNext_any {W0 W : World} {g k : Nat} {ao : Option Addr} {n cap : Nat} {l : List Int} (hX : Ix W0 (.slice ao n cap) l) (hb : Below W0.heap.size W0 W) (hg : W0.heap.size ≤ g) (hd : DrB W g (.slice ao n cap) k) (hk : k ≤ n) (m : Nat) (hm1 : 1 ≤ m) (hm : m ≤ 1000) :
    Calls Try.prog 39 #[.pointer (some ⟨g, 0, none⟩), .int .i64 (m : Int)] W fun e w' => ∃ (x k' : Nat), e = .returned (.int .i64 (x : Int)) ∧ x < m ∧ k' ≤ n ∧ DrB w' g (.slice ao n cap) k' ∧ Chg g W w' := by
  obtain ⟨c0, c1⟩ := hd.cells
  have hn := hX.size
  have hlen := hX.len
  unfold maxLen at hlen
  have HD := Lib.hid hd
  have hlt := (Array.getElem?_eq_some_iff.1 hd).1
  by_cases hkn : k = n
  · subst hkn
    have HE : Hid (Chg g W W.drew) := Lib.hid (Chg.refl g W).drew
    clear hX hb hg hd hk hn hlen
    go_enter Try.func39, Try.ntmps39
    go_wp2
    go_region
    go_wp2
    go_ret
    exact ⟨0, k, by first | rfl | (simp; done), by omega, Nat.le_refl _, HD.out, HE.out⟩
  · have hk2 : k < n := by omega
    obtain ⟨b, off, rfl, -, -, hbl, hcl⟩ := hX.at (show n ≠ 0 by omega)
    have hc := hcl k hk2
    have hcW := cell_later hb hc
    have hbg : b ≠ g := by omega
    obtain ⟨z, hz⟩ : ∃ z, z = l.getD k 0 := ⟨_, rfl⟩
    rw [← hz] at hc hcW
    have HM := Lib.hid (fun w => mod_any z m hm1 hm w)
    obtain ⟨y, hy⟩ : ∃ y : Nat, (y : Int) = z % m := ⟨(z % m).toNat, by have := Int.emod_nonneg z (show (m : Int) ≠ 0 by omega); omega⟩
    have hym : y < m := by have := Int.emod_lt_of_pos z (show (0 : Int) < m by omega); omega
    rw [← hy] at HM
    have fr := frozen_of_row _ _ 1 _ _ hd
    have hw : IntKind.i64.wrap ((k : Int) + 1) = (k : Int) + 1 := IntWalk.i64_in _ (by omega)
    have hw2 : IntKind.i64.wrap ((k : Int) + 1 - 1) = (k : Int) := by rw [IntWalk.i64_in _ (by omega)]; omega
    obtain ⟨W2, hW2⟩ : ∃ W2, W2 = (W.setCell ⟨g, 1, none⟩ (.int .i64 ((k : Int) + 1))).drew := ⟨_, rfl⟩
    have hd2 : DrB W2 g (.slice (some ⟨b, off, none⟩) n cap) (k + 1) := by rw [hW2]; exact heap_setCell_same _ _ _ _ _ _ hd
    have hch : Chg g W W2 := by rw [hW2]; exact (chg_set _ _ _ _).drew
    have HD2 := Lib.hid hd2
    have HE := Lib.hid hch
    have hl2 : W2.cell? ⟨b, off + k, none⟩ = some (.int .i64 z) := (World.cell?_of_block (hch.same b hbg)).trans hcW
    obtain ⟨d0, d1⟩ := hd2.cells
    rw [show (((k + 1 : Nat)) : Int) = (k : Int) + 1 by omega] at d1
    have hw3 : IntKind.i64.wrap (k : Int) = (k : Int) := IntWalk.i64_in _ (by omega)
    have hk00 : (0 : Int) ≤ (k : Int) := by omega
    have hkI : (k : Int) < (n : Int) := by omega
    have hk0 : ¬ (n : Int) ≤ (k : Int) := by omega
    rw [hW2] at d0 d1 hl2 HE HD2
    clear hX hb hg hd hk hn hlen hcl hc hz hy hd2 hch hW2 W2 hbl hkn
    go_enter Try.func39, Try.ntmps39
    go_wp2
    go_region
    go_wp2
    go_region_held3 (fun W' => W'.cell? ⟨g, 0, none⟩ = some (.slice (some ⟨b, off, none⟩) n cap) ∧ W'.cell? ⟨g, 1, none⟩ = some (.int .i64 ((k : Int) + 1)) ∧ W'.cell? ⟨b, off + k, none⟩ = some (.int .i64 z))
      (first | exact ⟨d0, d1, hl2⟩)
      ((first | (go_at_call 14; (with_reducible refine (HM.out _).mono ?_); rintro e w3 ⟨rfl, rfl⟩)))
    go_wp2
    go_ret
    exact ⟨y, k + 1, rfl, hym, by omega, HD2.out, HE.out.drew⟩

end Go.Proofs.Ytcpgoaombabfjaa

namespace Go.Proofs.Ytcpgoaombabfjaa
open Go.RowKit

set_option maxRecDepth 10000 in
set_option maxHeartbeats 4000000 in
theorem rProper_any {W : World} {ar : Option Addr} {nr cr : Nat} {r : List Int} (hr : Ix W (.slice ar nr cr) r) (kd cn cd : Int) :
    Calls Try.prog 28 #[DV kd (.slice ar nr cr) cn cd] W fun e w' => e = .returned (.bool (prB r)) ∧ Below W.heap.size W w' := by
  have hn := hr.size
  have hlen := hr.len
  unfold maxLen at hlen
  have HB := Lib.hid (dbox_below W kd (.slice ar nr cr) cn cd)
  obtain ⟨c0, c1, c2, c3, c4, c5⟩ := (dbox_is W kd (.slice ar nr cr) cn cd).cells
  have HX := Lib.hid (hr.below HB.out)
  have HP := Lib.hid (prB_iff (r := r))
  have HN := Lib.hid hn
  have HCN := Lib.hid (cnt_le r)
  obtain ⟨Z, hZ⟩ : ∃ Z, Z = prB r := ⟨_, rfl⟩
  rw [← hZ] at HP ⊢
  rw [← hn] at hlen HP
  clear hr hn hZ
  go_enter Try.func28, Try.ntmps28
  go_wp2
  go_loopw [3, 4] (fun ov kv wr => ∃ k : Nat, k ≤ nr ∧ kv = .int .i64 (k : Nat) ∧ ov = .int .i64 (cnt r k : Nat) ∧ Hid (∀ j, j < k → 0 ≤ r.getD j 0 ∧ r.getD j 0 ≤ 8) ∧ wr = dbox W kd (.slice ar nr cr) cn cd) (fun _ kv _ => nr - (intOf kv).toNat)
  case atStart => exact ⟨0, by omega, rfl, rfl, Lib.hid (fun j h => by omega), rfl⟩
  case round =>
    obtain ⟨k, hk, rfl, rfl, hJ, rfl⟩ := hrel
    have hck := HCN.out k
    by_cases hkn : k = nr
    · have hz : Z = (decide (nr ≤ 6) && decide (2 ≤ cnt r nr)) := by
        rw [Bool.eq_iff_iff, HP.out, Bool.and_eq_true, decide_eq_true_iff, decide_eq_true_iff]
        exact ⟨fun h => ⟨h.1, h.2.2⟩, fun h => ⟨h.1, fun j hj => hJ.out j (by omega), h.2⟩⟩
      subst hkn
      obtain ⟨c, hc⟩ : ∃ c, c = cnt r k := ⟨_, rfl⟩
      rw [← hc] at hz hck ⊢
      have HZ := Lib.hid hz
      clear hJ hc hz
      by_cases h6 : k ≤ 6
      · have h6I : (k : Int) ≤ 6 := by omega
        by_cases h2 : 2 ≤ c
        · have h2I : (2 : Int) ≤ (c : Int) := by omega
          go_wp2
          go_ret
          exact ⟨by rw [HZ.out, decide_eq_true h6, decide_eq_true h2]; first | rfl | (simp [h6, h2]; done), HB.out⟩
        · have h2I : ¬ (2 : Int) ≤ (c : Int) := by omega
          go_wp2
          go_ret
          exact ⟨by rw [HZ.out, decide_eq_true h6, decide_eq_false h2]; first | rfl | (simp [h6, h2]; done), HB.out⟩
      · have h6I : ¬ (k : Int) ≤ 6 := by omega
        go_wp2
        go_ret
        exact ⟨by rw [HZ.out, decide_eq_false h6]; first | rfl | (simp [h6]; done), HB.out⟩
    · have hlt : k < nr := by omega
      have hltI : (k : Int) < (nr : Int) := by omega
      obtain ⟨b, off, rfl, -, -, -, hcl⟩ := HX.out.at (by omega)
      have hc := hcl k hlt
      obtain ⟨x, hx⟩ : ∃ x, x = r.getD k 0 := ⟨_, rfl⟩
      rw [← hx] at hc
      by_cases hlo : x < 0
      · have hz : Hid (Z = false) := Lib.hid (by
          cases hz : Z with
          | false => rfl
          | true => have := (HP.out.1 hz).2.1 k hlt; rw [← hx] at this; omega)
        clear hcl hJ hx
        go_wp2
        go_ret
        exact ⟨by rw [hz.out]; rfl, HB.out⟩
      · by_cases hhi : 8 < x
        · have hz : Hid (Z = false) := Lib.hid (by
            cases hz : Z with
            | false => rfl
            | true => have := (HP.out.1 hz).2.1 k hlt; rw [← hx] at this; omega)
          clear hcl hJ hx
          go_wp2
          go_ret
          exact ⟨by rw [hz.out]; rfl, HB.out⟩
        · have HJ : Hid (∀ j, j < k + 1 → 0 ≤ r.getD j 0 ∧ r.getD j 0 ≤ 8) := Lib.hid (fun j hj => by
            by_cases h : j = k
            · subst h; rw [← hx]; omega
            · exact hJ.out j (by omega))
          by_cases hp : 0 < x
          · have e1 : cnt r (k + 1) = cnt r k + 1 := by rw [cnt, if_pos (by rw [← hx]; exact hp)]
            have HE : Hid (((cnt r k : Nat) : Int) + 1 = ((cnt r (k + 1) : Nat) : Int)) := Lib.hid (by rw [e1]; omega)
            have hw : IntKind.i64.wrap (((cnt r k : Nat) : Int) + 1) = ((cnt r k : Nat) : Int) + 1 := IntWalk.i64_in _ (by omega)
            obtain ⟨c, hcc⟩ : ∃ c, c = cnt r k := ⟨_, rfl⟩
            rw [← hcc] at hw HE hck ⊢
            clear hcl hJ hx e1 hcc
            go_wp2
            go_roundw
            case rel => exact ⟨k + 1, by omega, by go_num, by rw [← HE.out], HJ, by trivial⟩
            case measure => simp [intOf]; omega
          · have e1 : cnt r (k + 1) = cnt r k := by rw [cnt, if_neg (by rw [← hx]; exact hp)]; rfl
            have HE := Lib.hid e1
            obtain ⟨c, hcc⟩ : ∃ c, c = cnt r k := ⟨_, rfl⟩
            rw [← hcc] at HE hck ⊢
            clear hcl hJ hx e1 hcc
            go_wp2
            go_roundw
            case rel => exact ⟨k + 1, by omega, by go_num, by rw [HE.out], HJ, by trivial⟩
            case measure => simp [intOf]; omega

end Go.Proofs.Ytcpgoaombabfjaa

namespace Go.Proofs.Ytcpgoaombabfjaa
open Go.RowKit

/-- What lies in memory while a design is made. -/
structure MdI (W wr : World) (vl : Value) (ln : Nat) (vR : Value) (n : Nat) (R : List Int) : Prop where
  res : DBox wr W.heap.size 0 (.slice none 0 0) 0 0
  dr : ∃ k, k ≤ ln ∧ DrB wr (W.heap.size + 1) vl k
  d : DBox wr (W.heap.size + 2) 4 vR 0 0
  o : OwI wr (W.heap.size + 3) vR n R
  bl : Below W.heap.size W wr
  lt : W.heap.size + 3 ≤ wr.heap.size

theorem MdI.below {W wr w' : World} {vl vR : Value} {ln n : Nat} {R : List Int} (h : MdI W wr vl ln vR n R) (hb : Below wr.heap.size wr w') : MdI W w' vl ln vR n R :=
  ⟨h.res.below hb, by obtain ⟨k, h1, h2⟩ := h.dr; exact ⟨k, h1, h2.below hb⟩, h.d.below hb, owns_later h.o hb, h.bl.trans (hb.mono h.bl.size), Nat.le_trans h.lt hb.size⟩
theorem MdI.drew {W wr : World} {vl vR : Value} {ln n : Nat} {R : List Int} (h : MdI W wr vl ln vR n R) : MdI W wr.drew vl ln vR n R := h.below (Below.refl _ _).drew
theorem MdI.alloc {W wr : World} {vl vR : Value} {ln n : Nat} {R : List Int} (h : MdI W wr vl ln vR n R) (o : Obj) : MdI W (wr.alloc o) vl ln vR n R := h.below ((Below.refl _ _).alloc (Nat.le_refl _) _)
theorem MdI.chg {W wr w' : World} {vl vR : Value} {ln n k : Nat} {R : List Int} (h : MdI W wr vl ln vR n R) (hc : Chg (W.heap.size + 1) wr w') (hk : k ≤ ln) (hd : DrB w' (W.heap.size + 1) vl k) : MdI W w' vl ln vR n R :=
  ⟨(hc.same _ (by omega)).trans h.res, ⟨k, hk, hd⟩, (hc.same _ (by omega)).trans h.d, owns_same h.o (fun g hg => hc.same _ (by have := (own_lt h.o hg).1; omega)), h.bl.trans (hc.below.mono (by omega)), by have := hc.size; have := h.lt; omega⟩

theorem MdI.next {W wr : World} {vR : Value} {ln n : Nat} {R : List Int} {ao : Option Addr} {cap : Nat} {l : List Int} (hX : Ix W (.slice ao ln cap) l) (h : MdI W wr (.slice ao ln cap) ln vR n R) (m : Nat) (hm1 : 1 ≤ m) (hm : m ≤ 1000) :
    Calls Try.prog 39 #[.pointer (some ⟨W.heap.size + 1, 0, none⟩), .int .i64 (m : Int)] wr fun e w' => ∃ x : Nat, e = .returned (.int .i64 (x : Int)) ∧ x < m ∧ MdI W w' (.slice ao ln cap) ln vR n R ∧ Chg (W.heap.size + 1) wr w' := by
  obtain ⟨k, hk, hd⟩ := h.dr
  refine (drawNext_any hX h.bl (by omega) hd hk m hm1 hm).mono ?_
  rintro e w' ⟨x, k', h1, h2, h3, h4, h5⟩
  exact ⟨x, h1, h2, h.chg h5 h3 h4, h5⟩

theorem MdI.step {W wr : World} {vl vR : Value} {ln n : Nat} {R : List Int} (h : MdI W wr vl ln vR n R) (hn : n ≤ 100) (x : Int) :
    ∃ g cap w2, Sem.run Try.prog (appI 22 #[vR, .slice (some ⟨wr.heap.size, 0, none⟩) 1 1]) (wr.alloc (.cells #[.int .i64 x] 3)) = .ok (.slice (some ⟨g, 0, none⟩) (n + 1) cap) w2 ∧ w2.cell? ⟨W.heap.size + 2, 1, none⟩ = some vR ∧ w2.frozen? ⟨W.heap.size + 2, 1, none⟩ = false ∧ W.heap.size + 2 < w2.heap.size ∧ MdI W (w2.setCell ⟨W.heap.size + 2, 1, none⟩ (.slice (some ⟨g, 0, none⟩) (n + 1) cap)) vl ln (.slice (some ⟨g, 0, none⟩) (n + 1) cap) (n + 1) (R ++ [x]) := by
  have hlt := h.lt
  obtain ⟨g, cap, w2, hrun, hown, hb, hgr, hg, hgl⟩ := push_int h.o (by omega) hlt x
  have hkeep : ∀ k, k < W.heap.size + 3 → w2.heap[k]? = wr.heap[k]? := fun k hk => by
    rw [grown_block hgr (by rw [World.size_alloc]; omega) (fun e => by have := (own_lt h.o e).1; omega)]
    exact Below.heap_alloc wr _ k (by omega)
  have hgB := (own_lt hown (g := g) rfl).1
  have hd := (hkeep _ (by omega)).trans h.d
  have hsz := hb.size
  refine ⟨g, cap, w2, hrun, DBox.cells hd |>.2.1, frozen_of_row _ _ _ _ _ hd, by omega, ⟨?_, ?_, heap_setCell_same _ _ _ _ _ _ hd, ?_, ?_, ?_⟩⟩
  · rw [DBox, Below.heap_setCell _ _ _ _ (by simp only; omega)]; exact (hkeep _ (by omega)).trans h.res
  · obtain ⟨k, hk, hdr⟩ := h.dr
    exact ⟨k, hk, by rw [DrB, Below.heap_setCell _ _ _ _ (by simp only; omega)]; exact (hkeep _ (by omega)).trans hdr⟩
  · exact owns_same hown fun k hk => Below.heap_setCell _ _ _ _ (by
      have e : g = k := by simpa [Value.ownBlock] using hk
      simp only; omega)
  · exact (h.bl.trans (hb.mono (by omega))).setCell (by simp only; omega) _
  · simp only [World.setCell, Array.size_modify]; omega

/-- What is known of a made design. -/
structure MadeOk (r : List Int) (cn cd : Nat) : Prop where
  l2 : 2 ≤ r.length
  l4 : r.length ≤ 4
  rr : ∀ k, 0 ≤ r.getD k 0 ∧ r.getD k 0 ≤ 3
  pr : prB r = true
  coin : (cn = 2 ∧ cd = 3) ∨ (cn = 1 ∧ cd = 2) ∨ (cn = 1 ∧ cd = 1) ∨ (cn = 3 ∧ cd = 4)

/-- A design that is the one result. -/
theorem results_cell30 {fn : Func} {t g : Nat} {tmps : Array Value} {w : World} {a b c d e f : Value} (h : fn.results = #[.cell t 30]) (hp : tmps.getD t undef = .pointer (some ⟨g, 0, none⟩)) (hg : w.heap[g]? = some (.cells #[a, b, c, d, e, f] 30 (0, 0))) :
    (results fn tmps).run Try.prog w = .ok (.agg #[a, b, c, d, e, f]) w := by
  have h1 := run_loadVar_row (P := Try.prog) w g 30 30 #[a, b, c, d, e, f] (0, 0) _ hg Try.underlying30 rfl (by kernel_rfl)
  have hp' : tmps[t]?.getD undef = .pointer (some ⟨g, 0, none⟩) := by simpa [Array.getD_eq_getD_getElem?] using hp
  simp [results, h, hp', h1, asAddr]

abbrev mdW (W : World) (vl : Value) : World := ((W.alloc (.cells #[.int .i64 0, .slice none 0 0, .slice none 0 0, .int .i64 0, .int .i64 0, .int .i64 0] 30)).alloc (.cells #[vl, .int .i64 0] 70)).alloc (.cells #[.int .i64 4, .slice none 0 0, .slice none 0 0, .int .i64 0, .int .i64 0, .int .i64 0] 30)
theorem md_start (W : World) (vl : Value) (ln : Nat) : MdI W (mdW W vl) vl ln (.slice none 0 0) 0 [] := by
  have h0 := heap_alloc_new W (.cells #[.int .i64 0, .slice none 0 0, .slice none 0 0, .int .i64 0, .int .i64 0, .int .i64 0] 30)
  have h1 := heap_alloc_new (W.alloc (.cells #[.int .i64 0, .slice none 0 0, .slice none 0 0, .int .i64 0, .int .i64 0, .int .i64 0] 30)) (.cells #[vl, .int .i64 0] 70)
  rw [World.size_alloc] at h1
  have h2 := heap_alloc_new ((W.alloc (.cells #[.int .i64 0, .slice none 0 0, .slice none 0 0, .int .i64 0, .int .i64 0, .int .i64 0] 30)).alloc (.cells #[vl, .int .i64 0] 70)) (.cells #[.int .i64 4, .slice none 0 0, .slice none 0 0, .int .i64 0, .int .i64 0, .int .i64 0] 30)
  rw [World.size_alloc, World.size_alloc] at h2
  have b1 : ∀ (w : World) (o : Obj), Below w.heap.size w (w.alloc o) := fun w o => (Below.refl _ _).alloc (Nat.le_refl _) _
  exact ⟨((show DBox _ _ _ _ _ _ from h0).below (b1 _ _)).below (b1 _ _), ⟨0, by omega, (show DrB _ _ _ 0 from h1).below (b1 _ _)⟩, h2, World.ownsRow_nil _ _ _ _, (((Below.refl _ W).alloc (Nat.le_refl _) _).alloc (by simp) _).alloc (by simp; omega) _, by simp⟩

/-- What can be an arm's ratio. -/
def five (x : Nat) : Int := [(1 : Int), 1, 2, 3, 0].getD x 0
theorem five_in (x : Nat) : 0 ≤ five x ∧ five x ≤ 3 := by
  unfold five
  rcases (show x = 0 ∨ x = 1 ∨ x = 2 ∨ x = 3 ∨ x = 4 ∨ 5 ≤ x by omega) with rfl | rfl | rfl | rfl | rfl | h
  · simp
  · simp
  · simp
  · simp
  · simp
  · rw [out_zero (by simpa using h)]; omega
theorem five_cell {w : World} {b x : Nat} (h : w.heap[b]? = some (.cells #[.int .i64 1, .int .i64 1, .int .i64 2, .int .i64 3, .int .i64 0] 3 (0, 0))) (hx : x < 5) : w.cell? ⟨b, x, none⟩ = some (.int .i64 (five x)) := by
  rw [cell_of_row _ _ _ _ _ _ h]
  rcases (show x = 0 ∨ x = 1 ∨ x = 2 ∨ x = 3 ∨ x = 4 by omega) with rfl | rfl | rfl | rfl | rfl <;> rfl

/-- The first two arms are set. -/
theorem MdI.fix {W w : World} {vl : Value} {ln n : Nat} {aR : Option Addr} {cR : Nat} {R : List Int} (h : MdI W w vl ln (.slice aR n cR) n R) (hn : 2 ≤ n) :
    ∃ g, aR = some ⟨g, 0, none⟩ ∧ w.cell? ⟨g, 0, none⟩ = some (.int .i64 (R.getD 0 0)) ∧ w.cell? ⟨g, 1, none⟩ = some (.int .i64 (R.getD 1 0)) ∧ w.frozen? ⟨g, 0, none⟩ = false ∧ w.frozen? ⟨g, 1, none⟩ = false ∧ g < w.heap.size ∧ g ≠ W.heap.size + 2 ∧ MdI W ((w.setCell ⟨g, 0, none⟩ (.int .i64 1)).setCell ⟨g, 1, none⟩ (.int .i64 2)) vl ln (.slice aR n cR) n ((R.set 0 1).set 1 2) := by
  obtain ⟨g, cap, e, h1, h2, h3, h4, h5, h6⟩ := h.o.parts (by omega)
  injection e with e1 _ e3
  subst e1 e3
  have o1 := h6 0 1 (by omega)
  obtain ⟨g', cap', e', -, -, -, -, -, h6'⟩ := o1.parts (by omega)
  injection e' with e1 _ _
  injection e1 with e1
  injection e1 with e1
  subst e1
  have o2 := h6' 1 2 (by omega)
  have hk : ∀ j, j ≠ g → ((w.setCell ⟨g, 0, none⟩ (.int .i64 1)).setCell ⟨g, 1, none⟩ (.int .i64 2)).heap[j]? = w.heap[j]? := fun j hj => by
    rw [Below.heap_setCell _ _ _ _ (by simpa using hj), Below.heap_setCell _ _ _ _ (by simpa using hj)]
  refine ⟨g, rfl, h4 0 (by omega), h4 1 (by omega), h5 0, h5 1, h3, by omega, ⟨(hk _ (by omega)).trans h.res, ?_, (hk _ (by omega)).trans h.d, o2, ?_, ?_⟩⟩
  · obtain ⟨k, hk1, hk2⟩ := h.dr
    exact ⟨k, hk1, (hk _ (by omega)).trans hk2⟩
  · exact (h.bl.setCell (by simp only; omega) _).setCell (by simp only; omega) _
  · simp only [World.setCell, Array.size_modify]; exact h.lt

/-- What lies in memory when the design is handed on. -/
theorem MdI.final {W w : World} {vl vR : Value} {ln n : Nat} {R : List Int} (h : MdI W w vl ln vR n R) (cn cd : Int) {Wf : World}
    (hf : Wf = ((((((((w.setCell ⟨W.heap.size + 2, 4, none⟩ (.int .i64 cn)).setCell ⟨W.heap.size + 2, 5, none⟩ (.int .i64 cd)).setCell ⟨W.heap.size, 0, none⟩ (.int .i64 4)).setCell ⟨W.heap.size, 1, none⟩ vR).setCell ⟨W.heap.size, 2, none⟩ (.slice none 0 0)).setCell ⟨W.heap.size, 3, none⟩ (.int .i64 0)).setCell ⟨W.heap.size, 4, none⟩ (.int .i64 cn)).setCell ⟨W.heap.size, 5, none⟩ (.int .i64 cd))) :
    DBox Wf W.heap.size 4 vR cn cd ∧ OwI Wf W.heap.size vR n R ∧ Below W.heap.size W Wf := by
  have hr : ((w.setCell ⟨W.heap.size + 2, 4, none⟩ (.int .i64 cn)).setCell ⟨W.heap.size + 2, 5, none⟩ (.int .i64 cd)).heap[W.heap.size]? = some (.cells #[.int .i64 0, .slice none 0 0, .slice none 0 0, .int .i64 0, .int .i64 0, .int .i64 0] 30 (0, 0)) := by
    rw [Below.heap_setCell _ _ _ _ (by simp only; omega), Below.heap_setCell _ _ _ _ (by simp only; omega)]
    exact h.res
  have k1 := heap_setCell_same _ W.heap.size 0 _ 30 (.int .i64 4) hr
  have k2 := heap_setCell_same _ W.heap.size 1 _ 30 vR k1
  have k3 := heap_setCell_same _ W.heap.size 2 _ 30 (.slice none 0 0) k2
  have k4 := heap_setCell_same _ W.heap.size 3 _ 30 (.int .i64 0) k3
  have k5 := heap_setCell_same _ W.heap.size 4 _ 30 (.int .i64 cn) k4
  have k6 := heap_setCell_same _ W.heap.size 5 _ 30 (.int .i64 cd) k5
  rw [← hf] at k6
  have hk : ∀ k, k ≠ W.heap.size → k ≠ W.heap.size + 2 → Wf.heap[k]? = w.heap[k]? := fun k hk1 hk2 => by
    rw [hf]
    repeat rw [Below.heap_setCell _ _ _ _ (by simp only; omega)]
  refine ⟨k6, owns_mono (owns_same h.o fun k hq => hk k (by have := (own_lt h.o hq).1; omega) (by have := (own_lt h.o hq).1; omega)) (by omega), ?_⟩
  rw [hf]
  exact ((((((((h.bl.setCell (by simp) _).setCell (by simp) _).setCell (by simp) _).setCell (by simp) _).setCell (by simp) _).setCell (by simp) _).setCell (by simp) _).setCell (by simp) _)

/-- What can be a coin. -/
def coinN (x : Nat) : Nat := [2, 1, 1, 3].getD x 0
def coinD (x : Nat) : Nat := [3, 2, 1, 4].getD x 0
theorem coin_ok {x : Nat} (h : x < 4) : (coinN x = 2 ∧ coinD x = 3) ∨ (coinN x = 1 ∧ coinD x = 2) ∨ (coinN x = 1 ∧ coinD x = 1) ∨ (coinN x = 3 ∧ coinD x = 4) := by
  rcases (show x = 0 ∨ x = 1 ∨ x = 2 ∨ x = 3 by omega) with rfl | rfl | rfl | rfl <;> decide
theorem coin_cell {w : World} {b x : Nat} (h : w.heap[b]? = some (.cells #[.int .i64 2, .int .i64 3, .int .i64 1, .int .i64 2, .int .i64 1, .int .i64 1, .int .i64 3, .int .i64 4] 28 (0, 0))) (hx : x < 4) : w.cell? ⟨b, x * 2, none⟩ = some (.int .i64 (coinN x : Nat)) ∧ w.cell? ⟨b, x * 2 + 1, none⟩ = some (.int .i64 (coinD x : Nat)) := by
  rw [cell_of_row _ _ _ _ _ _ h, cell_of_row _ _ _ _ _ _ h]
  rcases (show x = 0 ∨ x = 1 ∨ x = 2 ∨ x = 3 by omega) with rfl | rfl | rfl | rfl <;> exact ⟨rfl, rfl⟩

theorem app_in {R : List Int} {y : Int} (h : ∀ j, 0 ≤ R.getD j 0 ∧ R.getD j 0 ≤ 3) (hy : 0 ≤ y ∧ y ≤ 3) (j : Nat) : 0 ≤ (R ++ [y]).getD j 0 ∧ (R ++ [y]).getD j 0 ≤ 3 := by
  by_cases h1 : j < R.length
  · have := h j
    have e : (R ++ [y]).getD j 0 = R.getD j 0 := by simp [List.getD, List.getElem?_append_left h1]
    rw [e]; exact this
  · by_cases h2 : j = R.length
    · subst h2
      have e : (R ++ [y]).getD R.length 0 = y := by simp [List.getD]
      rw [e]; exact hy
    · rw [out_zero (by simp; omega)]; omega
theorem fix_in {R : List Int} (h : ∀ j, 0 ≤ R.getD j 0 ∧ R.getD j 0 ≤ 3) (hl : 2 ≤ R.length) (j : Nat) : 0 ≤ ((R.set 0 1).set 1 2).getD j 0 ∧ ((R.set 0 1).set 1 2).getD j 0 ≤ 3 := by
  match R, hl with
  | a :: b :: R, _ =>
    match j with
    | 0 => simp
    | 1 => simp
    | j + 2 => exact h (j + 2)
theorem cnt_mono (r : List Int) (k : Nat) : ∀ d, cnt r k ≤ cnt r (k + d)
  | 0 => Nat.le_refl _
  | d + 1 => by have := cnt_mono r k d; rw [← Nat.add_assoc, cnt]; omega
theorem fix_pr {R : List Int} (h : ∀ j, 0 ≤ R.getD j 0 ∧ R.getD j 0 ≤ 3) (hl : 2 ≤ R.length) (h4 : R.length ≤ 4) : prB ((R.set 0 1).set 1 2) = true := by
  refine prB_iff.2 ⟨by simp; omega, fun k _ => by have := fix_in h hl k; omega, ?_⟩
  have e : ((R.set 0 1).set 1 2).length = 2 + (R.length - 2) := by simp; omega
  rw [e]
  refine Nat.le_trans ?_ (cnt_mono _ 2 _)
  match R, hl with
  | a :: b :: R, _ => simp [cnt]

end Go.Proofs.Ytcpgoaombabfjaa

namespace Go.Proofs.Ytcpgoaombabfjaa
open Go.RowKit
attribute [local go_sem ↓] appI_rw

set_option maxRecDepth 10000 in
set_option maxHeartbeats 8000000 in
theorem made_any {W : World} {ao : Option Addr} {ln cap : Nat} {l : List Int} (hX : Ix W (.slice ao ln cap) l) :
    Calls Try.prog 23 #[.slice ao ln cap] W fun e w' => ∃ ar nr cr r cn cd, e = .returned (DV 4 (.slice ar nr cr) ((cn : Nat) : Int) ((cd : Nat) : Int)) ∧ OwI w' W.heap.size (.slice ar nr cr) nr r ∧ MadeOk r cn cd ∧ Below W.heap.size W w' := by
  have HS := Lib.hid (md_start W (.slice ao ln cap) ln)
  have HN3 : Hid (∀ w vR n R, MdI W w (.slice ao ln cap) ln vR n R → Calls Try.prog 39 #[.pointer (some ⟨W.heap.size + 1, 0, none⟩), .int .i64 3] w fun e w' => ∃ x : Nat, e = .returned (.int .i64 (x : Int)) ∧ x < 3 ∧ MdI W w' (.slice ao ln cap) ln vR n R ∧ Chg (W.heap.size + 1) w w') := Lib.hid (fun w vR n R h => MdI.next hX h 3 (by omega) (by omega))
  have HN5 : Hid (∀ w vR n R, MdI W w (.slice ao ln cap) ln vR n R → Calls Try.prog 39 #[.pointer (some ⟨W.heap.size + 1, 0, none⟩), .int .i64 5] w fun e w' => ∃ x : Nat, e = .returned (.int .i64 (x : Int)) ∧ x < 5 ∧ MdI W w' (.slice ao ln cap) ln vR n R ∧ Chg (W.heap.size + 1) w w') := Lib.hid (fun w vR n R h => MdI.next hX h 5 (by omega) (by omega))
  have HN4 : Hid (∀ w vR n R, MdI W w (.slice ao ln cap) ln vR n R → Calls Try.prog 39 #[.pointer (some ⟨W.heap.size + 1, 0, none⟩), .int .i64 4] w fun e w' => ∃ x : Nat, e = .returned (.int .i64 (x : Int)) ∧ x < 4 ∧ MdI W w' (.slice ao ln cap) ln vR n R ∧ Chg (W.heap.size + 1) w w') := Lib.hid (fun w vR n R h => MdI.next hX h 4 (by omega) (by omega))
  clear hX
  go_enter Try.func23, Try.ntmps23
  go_wp2_with (go_at_call 39; (with_reducible refine (HN3.out _ _ _ _ HS.out).mono ?_); rintro e w1 ⟨x, rfl, hx, hM, -⟩; have HM1 := Lib.hid hM; have hw0 : IntKind.i64.wrap (2 + (x : Int)) = 2 + (x : Int) := (IntWalk.i64_in _ (by omega)); clear hM)
  obtain ⟨N, hN⟩ : ∃ N : Nat, (N : Int) = 2 + (x : Int) := ⟨2 + x, by omega⟩
  have hN2 : 2 ≤ N ∧ N ≤ 4 := by omega
  rw [← hN]
  clear hN hw0
  go_loopw [6] (fun kv wr => ∃ (k : Nat) (vR : Value) (R : List Int), k ≤ N ∧ kv = .int .i64 (k : Nat) ∧ Hid (MdI W wr (.slice ao ln cap) ln vR k R ∧ ∀ j, 0 ≤ R.getD j 0 ∧ R.getD j 0 ≤ 3)) (fun kv _ => N - (intOf kv).toNat)
  case atStart => exact ⟨0, _, _, by omega, rfl, Lib.hid ⟨HM1.out, fun j => by simp⟩⟩
  case round =>
    obtain ⟨k, vR, R, hk, rfl, hI⟩ := hrel
    by_cases hkm : k = N
    · subst hkm
      have HI := Lib.hid hI.out.1
      have HR3 := Lib.hid hI.out.2
      obtain ⟨aR, cR, rfl⟩ := slice_of_owns HI.out.o
      have hRl := owI_len HI.out.o
      obtain ⟨d0, d1, d2, d3, d4, d5⟩ := HI.out.d.cells
      have hI64 : ∀ j, I64 (R.getD j 0) := fun j => by have := HR3.out j; exact ⟨by omega, by omega⟩
      have HPR := Lib.hid (rProper_any (HI.out.o.ix (by omega) hI64) 4 0 0)
      have HC4 : Hid (∀ w vR n R', MdI W w (.slice ao ln cap) ln vR n R' → Calls Try.prog 39 #[.pointer (some ⟨W.heap.size + 1, 0, none⟩), .int .i64 4] (w.alloc (.cells #[.int .i64 2, .int .i64 3, .int .i64 1, .int .i64 2, .int .i64 1, .int .i64 1, .int .i64 3, .int .i64 4] 28)) fun e w' => ∃ x cn cd : Nat, e = .returned (.int .i64 (x : Int)) ∧ x < 4 ∧ ((cn = 2 ∧ cd = 3) ∨ (cn = 1 ∧ cd = 2) ∨ (cn = 1 ∧ cd = 1) ∨ (cn = 3 ∧ cd = 4)) ∧ MdI W w' (.slice ao ln cap) ln vR n R' ∧ w'.cell? ⟨w.heap.size, x * 2, none⟩ = some (.int .i64 (cn : Nat)) ∧ w'.cell? ⟨w.heap.size, x * 2 + 1, none⟩ = some (.int .i64 (cd : Nat))) := Lib.hid (fun w vR n R' h => by
        refine (HN4.out _ _ _ _ (h.alloc _)).mono ?_
        rintro e w' ⟨x, h1, h2, h3, h4⟩
        have hlt := h.lt
        obtain ⟨c1, c2⟩ := coin_cell ((h4.same w.heap.size (by omega)).trans (heap_alloc_new w (.cells #[.int .i64 2, .int .i64 3, .int .i64 1, .int .i64 2, .int .i64 1, .int .i64 1, .int .i64 3, .int .i64 4] 28))) h2
        exact ⟨x, coinN x, coinD x, h1, h2, coin_ok h2, h3, c1, c2⟩)
      have HRN := Lib.hid (And.intro hRl (And.intro hN2.1 hN2.2))
      clear hI hRl hI64 HN3 HN5 HN4 HM1 HS
      cases hp : prB R with
      | true =>
        rw [hp] at HPR
        have HPB := Lib.hid hp
        clear hp
        go_wp2_with (first
          | (go_at_call 28; (with_reducible refine HPR.out.mono ?_); rintro e w5 ⟨rfl, hb⟩; have HI := Lib.hid (HI.out.below hb); clear hb)
          | (go_at_call 39; (with_reducible refine (HC4.out _ _ _ _ HI.out).mono ?_); rintro e w6 ⟨z, cn, cd, rfl, hz, hco, hM, e1, e2⟩; have HCO := Lib.hid hco; have HM := Lib.hid hM; have hzI : (z : Int) < 4 := (by omega); have hz0 : (0 : Int) ≤ (z : Int) := (by omega); have hqd := hM.d; have hqr := hM.res; clear d0 d1 d2 d3 d4 d5; obtain ⟨d0, d1, d2, d3, d4, d5⟩ := hqd.cells; obtain ⟨r0, r1, r2, r3, r4, r5⟩ := hqr.cells; have lq := (Array.getElem?_eq_some_iff.1 hqd).1; have lr := (Array.getElem?_eq_some_iff.1 hqr).1; have g4 := frozen_of_row _ _ 4 _ _ hqd; have g5 := frozen_of_row _ _ 5 _ _ hqd; have f0 := frozen_of_row _ _ 0 _ _ hqr; have f1 := frozen_of_row _ _ 1 _ _ hqr; have f2 := frozen_of_row _ _ 2 _ _ hqr; have f3 := frozen_of_row _ _ 3 _ _ hqr; have f4 := frozen_of_row _ _ 4 _ _ hqr; have f5 := frozen_of_row _ _ 5 _ _ hqr; clear hco hM hqd hqr))
        have HFI := HM.out.final (cn : Nat) (cd : Nat) rfl
        have hR3 := HR3.out
        have hRN := HRN.out
        refine bodyPost_ret (results_cell30 (t := 2) rfl rfl HFI.1) rfl ?_
        exact ⟨_, _, _, R, cn, cd, rfl, HFI.2.1, ⟨by omega, by omega, hR3, HPB.out, HCO.out⟩, HFI.2.2⟩
      | false =>
        rw [hp] at HPR
        clear hp
        go_wp2_with (first
          | (go_at_call 28; (with_reducible refine HPR.out.mono ?_); rintro e w5 ⟨rfl, hb⟩; have hI5 := HI.out.below hb; obtain ⟨gR, rfl, b0, b1, bf0, bf1, bl, bne, hFX⟩ := hI5.fix HRN.out.2.1; have HF := Lib.hid hFX; clear d0 d1 d2 d3 d4 d5; obtain ⟨d0, d1, d2, d3, d4, d5⟩ := hI5.d.cells; have ld := (Array.getElem?_eq_some_iff.1 hI5.d).1; obtain ⟨x0, x1, x2, x3, x4, x5⟩ := hFX.d.cells; have hkI : (1 : Int) < (k : Int) := (by have := HRN.out; omega); have hkJ : (0 : Int) < (k : Int) := (by have := HRN.out; omega); clear hb hI5 hFX)
          | (go_at_call 39; (with_reducible refine (HC4.out _ _ _ _ HF.out).mono ?_); rintro e w6 ⟨z, cn, cd, rfl, hz, hco, hM, e1, e2⟩; rw [show ((w5.setCell ⟨gR, 0, none⟩ (.int .i64 1)).setCell ⟨gR, 1, none⟩ (.int .i64 2)).heap.size = w5.heap.size from (by simp only [World.setCell, Array.size_modify])] at e1 e2; have HCO := Lib.hid hco; have HM := Lib.hid hM; have hzI : (z : Int) < 4 := (by omega); have hz0 : (0 : Int) ≤ (z : Int) := (by omega); have hqd := hM.d; have hqr := hM.res; clear d0 d1 d2 d3 d4 d5; obtain ⟨d0, d1, d2, d3, d4, d5⟩ := hqd.cells; obtain ⟨r0, r1, r2, r3, r4, r5⟩ := hqr.cells; have lq := (Array.getElem?_eq_some_iff.1 hqd).1; have lr := (Array.getElem?_eq_some_iff.1 hqr).1; have g4 := frozen_of_row _ _ 4 _ _ hqd; have g5 := frozen_of_row _ _ 5 _ _ hqd; have f0 := frozen_of_row _ _ 0 _ _ hqr; have f1 := frozen_of_row _ _ 1 _ _ hqr; have f2 := frozen_of_row _ _ 2 _ _ hqr; have f3 := frozen_of_row _ _ 3 _ _ hqr; have f4 := frozen_of_row _ _ 4 _ _ hqr; have f5 := frozen_of_row _ _ 5 _ _ hqr; clear hco hM hqd hqr))
        have HFI := HM.out.final (cn : Nat) (cd : Nat) rfl
        have hR3 := HR3.out
        have hRN := HRN.out
        exact bodyPost_ret (results_cell30 (t := 2) rfl rfl HFI.1) rfl ⟨_, _, _, (R.set 0 1).set 1 2, cn, cd, rfl, HFI.2.1, ⟨by simp; omega, by simp; omega, fix_in hR3 (by omega), fix_pr hR3 (by omega) (by omega), HCO.out⟩, HFI.2.2⟩
    · have hlt : k < N := by omega
      have hltI : (k : Int) < (N : Int) := by omega
      have HI := Lib.hid hI.out.1
      have HR3 := Lib.hid hI.out.2
      obtain ⟨d0, d1, d2, d3, d4, d5⟩ := HI.out.d.cells
      have hld := (Array.getElem?_eq_some_iff.1 HI.out.d).1
      have hz1 := HI.out.lt
      obtain ⟨aR, cR, rfl⟩ := slice_of_owns HI.out.o
      clear hI d0 d2 d3 d4 d5
      go_wp2
      go_region_law (go_simp; go_at_call 39; refine (HN5.out _ _ _ _ (by first | exact HI.out.drew | exact (HI.out.alloc _).drew | exact HI.out.drew.alloc _ | exact HI.out)).mono ?_; rintro e w5 ⟨z, rfl, hz, hM5, hch⟩; (try have hcA := five_cell ((hch.same wr.heap.size (by omega)).trans (show (wr.alloc (.cells #[.int .i64 1, .int .i64 1, .int .i64 2, .int .i64 3, .int .i64 0] 3)).heap[wr.heap.size]? = _ from heap_alloc_new _ _)) hz); have hcB := five_cell (heap_alloc_new w5 (.cells #[.int .i64 1, .int .i64 1, .int .i64 2, .int .i64 3, .int .i64 0] 3)) hz; have hf3 := five_in z; obtain ⟨y, hy⟩ : ∃ y, y = five z := ⟨_, rfl⟩; obtain ⟨gA, capA, wA, hrunA, hccA, hffA, hltA, hMA⟩ := hM5.step (by omega) y; obtain ⟨gB, capB, wB, hrunB, hccB, hffB, hltB, hMB⟩ := (hM5.alloc (.cells #[.int .i64 1, .int .i64 1, .int .i64 2, .int .i64 3, .int .i64 0] 3)).step (by omega) y; rw [World.size_alloc] at hrunB; have HMA := Lib.hid hMA; have HMB := Lib.hid hMB; obtain ⟨-, d1, -, -, -, -⟩ := hM5.d.cells; obtain ⟨-, d1a, -, -, -, -⟩ := (hM5.alloc (.cells #[.int .i64 y] 3)).d.cells; obtain ⟨-, d1b, -, -, -, -⟩ := ((hM5.alloc (.cells #[.int .i64 1, .int .i64 1, .int .i64 2, .int .i64 3, .int .i64 0] 3)).alloc (.cells #[.int .i64 y] 3)).d.cells; obtain ⟨-, d1c, -, -, -, -⟩ := (hM5.alloc (.cells #[.int .i64 1, .int .i64 1, .int .i64 2, .int .i64 3, .int .i64 0] 3)).d.cells; have hld := (Array.getElem?_eq_some_iff.1 hM5.d).1; have hzI : (z : Int) < 5 := (by omega); have hz0 : (0 : Int) ≤ (z : Int) := (by omega); (try rw [← hy] at hcA); rw [← hy] at hcB hf3; clear hy hM5 hch hMA hMB)
      all_goals (go_wp2; go_roundw; all_goals first | exact ⟨k + 1, _, R ++ [y], by omega, by go_num, Lib.hid ⟨HMA.out, app_in HR3.out hf3⟩⟩ | exact ⟨k + 1, _, R ++ [y], by omega, by go_num, Lib.hid ⟨HMB.out, app_in HR3.out hf3⟩⟩ | (simp [intOf]; done) | (simp [intOf]; omega))

end Go.Proofs.Ytcpgoaombabfjaa

namespace Go.Proofs.Ytcpgoaombabfjaa
open Go.RowKit
attribute [local go_sem ↓] appI_rw

/-- What lies in memory while a row is made. -/
structure RoI (W wr : World) (kd cn cd : Int) (vr vl : Value) (ln : Nat) (vR : Value) (n : Nat) (R : List Int) : Prop where
  d : DBox wr W.heap.size kd vr cn cd
  dr : ∃ k, k ≤ ln ∧ DrB wr (W.heap.size + 1) vl k
  o : OwI wr (W.heap.size + 2) vR n R
  bl : Below W.heap.size W wr
  lt : W.heap.size + 2 ≤ wr.heap.size
theorem RoI.chg {W wr w' : World} {kd cn cd : Int} {vr vl vR : Value} {ln n k : Nat} {R : List Int} (h : RoI W wr kd cn cd vr vl ln vR n R) (hc : Chg (W.heap.size + 1) wr w') (hk : k ≤ ln) (hd : DrB w' (W.heap.size + 1) vl k) : RoI W w' kd cn cd vr vl ln vR n R :=
  ⟨(hc.same _ (by omega)).trans h.d, ⟨k, hk, hd⟩, owns_same h.o (fun g hg => hc.same _ (by have := (own_lt h.o hg).1; omega)), h.bl.trans (hc.below.mono (by omega)), by have := hc.size; have := h.lt; omega⟩
theorem RoI.next {W wr : World} {kd cn cd : Int} {vr vR : Value} {ln n : Nat} {R : List Int} {ao : Option Addr} {cap : Nat} {l : List Int} (hX : Ix W (.slice ao ln cap) l) (h : RoI W wr kd cn cd vr (.slice ao ln cap) ln vR n R) (m : Nat) (hm1 : 1 ≤ m) (hm : m ≤ 1000) :
    Calls Try.prog 39 #[.pointer (some ⟨W.heap.size + 1, 0, none⟩), .int .i64 (m : Int)] wr fun e w' => ∃ x : Nat, e = .returned (.int .i64 (x : Int)) ∧ x < m ∧ RoI W w' kd cn cd vr (.slice ao ln cap) ln vR n R := by
  obtain ⟨k, hk, hd⟩ := h.dr
  refine (drawNext_any hX h.bl (by omega) hd hk m hm1 hm).mono ?_
  rintro e w' ⟨x, k', h1, h2, h3, h4, h5⟩
  exact ⟨x, h1, h2, h.chg h5 h3 h4⟩
theorem RoI.step {W wr : World} {kd cn cd : Int} {vr vl vR : Value} {ln n : Nat} {R : List Int} (h : RoI W wr kd cn cd vr vl ln vR n R) (hn : n ≤ 100) (x : Int) :
    ∃ g cap w2, Sem.run Try.prog (appI 22 #[vR, .slice (some ⟨wr.heap.size, 0, none⟩) 1 1]) (wr.alloc (.cells #[.int .i64 x] 3)) = .ok (.slice (some ⟨g, 0, none⟩) (n + 1) cap) w2 ∧ RoI W w2 kd cn cd vr vl ln (.slice (some ⟨g, 0, none⟩) (n + 1) cap) (n + 1) (R ++ [x]) := by
  have hlt := h.lt
  obtain ⟨g, cap, w2, hrun, hown, hb, hgr, hg, hgl⟩ := push_int h.o (by omega) hlt x
  have hkeep : ∀ k, k < W.heap.size + 2 → w2.heap[k]? = wr.heap[k]? := fun k hk => by
    rw [grown_block hgr (by rw [World.size_alloc]; omega) (fun e => by have := (own_lt h.o e).1; omega)]
    exact Below.heap_alloc wr _ k (by omega)
  have hsz := hb.size
  obtain ⟨k, hk, hdr⟩ := h.dr
  exact ⟨g, cap, w2, hrun, ⟨(hkeep _ (by omega)).trans h.d, ⟨k, hk, (hkeep _ (by omega)).trans hdr⟩, hown, h.bl.trans (hb.mono (by omega)), by omega⟩⟩

/-- What is known of a made row. -/
def RowOk (r row : List Int) : Prop := (row.length = 0 ∨ row.length = r.length) ∧ ∀ k, 0 ≤ row.getD k 0 ∧ row.getD k 0 ≤ 6
theorem RowOk.fi {r row : List Int} (h : RowOk r row) : fiB r row = true := by
  unfold fiB
  rcases h.1 with h0 | h0
  · rw [decide_eq_true h0]; rfl
  · rw [decide_eq_true h0, Bool.true_and, (inB_iff (lo := 0) (hi := 1048575)).2 (fun k _ => by have := h.2 k; omega), Bool.or_true]

theorem app6 {R : List Int} {y : Int} (h : ∀ j, 0 ≤ R.getD j 0 ∧ R.getD j 0 ≤ 6) (hy : 0 ≤ y ∧ y ≤ 6) (j : Nat) : 0 ≤ (R ++ [y]).getD j 0 ∧ (R ++ [y]).getD j 0 ≤ 6 := by
  by_cases h1 : j < R.length
  · have := h j
    have e : (R ++ [y]).getD j 0 = R.getD j 0 := by simp [List.getD, List.getElem?_append_left h1]
    rw [e]; exact this
  · by_cases h2 : j = R.length
    · subst h2
      have e : (R ++ [y]).getD R.length 0 = y := by simp [List.getD]
      rw [e]; exact hy
    · rw [out_zero (by simp; omega)]; omega

set_option maxRecDepth 10000 in
set_option maxHeartbeats 4000000 in
theorem row_any {W : World} {ar ao : Option Addr} {nr cr ln cap : Nat} {r l : List Int} (hr : nr = r.length) (h8 : nr ≤ 8) (hX : Ix W (.slice ao ln cap) l) (kd cn cd : Int) :
    Calls Try.prog 24 #[DV kd (.slice ar nr cr) cn cd, .slice ao ln cap] W fun e w' => ∃ bo n dp row, e = .returned (.slice bo n dp) ∧ OwI w' W.heap.size (.slice bo n dp) n row ∧ RowOk r row ∧ Below W.heap.size W w' := by
  have hS : RoI W ((dbox W kd (.slice ar nr cr) cn cd).alloc (.cells #[.slice ao ln cap, .int .i64 0] 70)) kd cn cd (.slice ar nr cr) (.slice ao ln cap) ln (.slice none 0 0) 0 [] := by
    have h1 := heap_alloc_new (dbox W kd (.slice ar nr cr) cn cd) (.cells #[.slice ao ln cap, .int .i64 0] 70)
    rw [dbox_size] at h1
    exact ⟨(dbox_is W kd (.slice ar nr cr) cn cd).below ((Below.refl _ _).alloc (Nat.le_refl _) _), ⟨0, by omega, h1⟩, World.ownsRow_nil _ _ _ _, (dbox_below W kd (.slice ar nr cr) cn cd).alloc (by simp) _, by simp⟩
  have HS := Lib.hid hS
  have HN : Hid (∀ w vR n R, RoI W w kd cn cd (.slice ar nr cr) (.slice ao ln cap) ln vR n R → Calls Try.prog 39 #[.pointer (some ⟨W.heap.size + 1, 0, none⟩), .int .i64 5] w fun e w' => ∃ x : Nat, e = .returned (.int .i64 (x : Int)) ∧ x < 5 ∧ RoI W w' kd cn cd (.slice ar nr cr) (.slice ao ln cap) ln vR n R) := Lib.hid (fun w vR n R h => RoI.next hX h 5 (by omega) (by omega))
  have HN7 : Hid (∀ w vR n R, RoI W w kd cn cd (.slice ar nr cr) (.slice ao ln cap) ln vR n R → Calls Try.prog 39 #[.pointer (some ⟨W.heap.size + 1, 0, none⟩), .int .i64 7] w fun e w' => ∃ x : Nat, e = .returned (.int .i64 (x : Int)) ∧ x < 7 ∧ RoI W w' kd cn cd (.slice ar nr cr) (.slice ao ln cap) ln vR n R) := Lib.hid (fun w vR n R h => RoI.next hX h 7 (by omega) (by omega))
  have HR := Lib.hid hr
  clear hS hX hr
  go_enter Try.func24, Try.ntmps24
  go_wp2_with (go_at_call 39; (with_reducible refine (HN.out _ _ _ _ HS.out).mono ?_); rintro e w1 ⟨x, rfl, hx, hM⟩; have HM1 := Lib.hid hM; clear hM)
  all_goals first
    | (go_ret; exact ⟨_, _, _, [], rfl, World.ownsRow_nil _ _ _ _, ⟨.inl rfl, fun k => by simp⟩, HM1.out.bl⟩)
    | skip
  have hx4 : ((x : Int) == 4) = false := by assumption
  rw [hx4]
  clear hx4
  go_loopw [6, 7] (fun sv kv wr => ∃ (k : Nat) (vR : Value) (R : List Int), k ≤ nr ∧ kv = .int .i64 (k : Nat) ∧ sv = vR ∧ Hid (RoI W wr kd cn cd (.slice ar nr cr) (.slice ao ln cap) ln vR k R ∧ ∀ j, 0 ≤ R.getD j 0 ∧ R.getD j 0 ≤ 6)) (fun _ kv _ => nr - (intOf kv).toNat)
  case atStart => exact ⟨0, _, _, by omega, rfl, rfl, Lib.hid ⟨HM1.out, fun j => by simp⟩⟩
  case round =>
    obtain ⟨k, vR, R, hk, rfl, rfl, hI⟩ := hrel
    have HI := Lib.hid hI.out.1
    have HR6 := Lib.hid hI.out.2
    obtain ⟨d0, d1, d2, d3, d4, d5⟩ := HI.out.d.cells
    obtain ⟨aR, cR, rfl⟩ := slice_of_owns HI.out.o
    by_cases hkm : k = nr
    · subst hkm
      clear hI
      go_wp2
      go_ret
      exact ⟨_, _, _, R, rfl, owns_mono HI.out.o (by omega), ⟨.inr (by have := owI_len HI.out.o; have := HR.out; omega), HR6.out⟩, HI.out.bl⟩
    · have hlt : k < nr := by omega
      have hltI : (k : Int) < (nr : Int) := by omega
      clear hI
      go_wp2_with (go_at_call 39; (with_reducible refine (HN7.out _ _ _ _ HI.out).mono ?_); rintro e w5 ⟨z, rfl, hz, hM5⟩; obtain ⟨gA, capA, wA, hrunA, hMA⟩ := hM5.step (by omega) (z : Int); have HMA := Lib.hid hMA; have hz6 : (0 : Int) ≤ (z : Int) ∧ (z : Int) ≤ 6 := (by omega); clear hM5 hMA)
      go_roundw
      case rel => exact ⟨k + 1, _, R ++ [(z : Int)], by omega, by go_num, rfl, Lib.hid ⟨HMA.out, app6 HR6.out hz6⟩⟩
      case measure => simp [intOf]; omega

end Go.Proofs.Ytcpgoaombabfjaa
