/- Rows after draws; the law's draw. Condition: the arms that are drawn are in use, at most thirty. -/
import Derived.Test.YtmpopbkhmkkhgaaP2
namespace Go.Proofs.Ytmpopbkhmkkhgaa
open Go.RowKit

/-- What an arm has after these draws. -/
def rowA (r : List Int) (a : Int) (O : List Int) (j : Nat) : Int := if 0 < r.getD j 0 then r.getD j 0 + a * ((O.length : Int) - (O.count (j : Int) : Int)) else r.getD j 0
def rowV (r : List Int) (a : Int) (O : List Int) : List Int := (List.range r.length).map (rowA r a O)
theorem rowV_len {r : List Int} {a : Int} {O : List Int} : (rowV r a O).length = r.length := by simp [rowV]
theorem rowV_get {r : List Int} {a : Int} {O : List Int} {j : Nat} (h : j < r.length) : (rowV r a O).getD j 0 = rowA r a O j := by simp [rowV, List.getD, h]
theorem rowV_nil {r : List Int} {a : Int} : rowV r a [] = r := by
  apply List.ext_getElem
  · exact rowV_len
  · intro j h1 h2
    simp only [rowV, List.getElem_map, List.getElem_range, rowA, List.length_nil, List.count_nil]
    have e : r.getD j 0 = r[j] := by simp [List.getD, h2]
    rw [e]
    split <;> simp
theorem rowV_rev {r : List Int} {a : Int} {O : List Int} : rowV r a O.reverse = rowV r a O := by
  unfold rowV
  apply List.map_congr_left
  intro j _
  simp only [rowA, List.length_reverse, List.count_reverse]

theorem rowV_push {r : List Int} {a : Int} {O : List Int} {m : Nat} : addV r a (m : Int) (rowV r a O) r.length = rowV r a (O ++ [(m : Int)]) := by
  apply List.ext_getElem
  · rw [addV_len, rowV_len, rowV_len]
  · intro j h1 h2
    have hj : j < r.length := by rwa [rowV_len] at h2
    have e1 : (addV r a (m : Int) (rowV r a O) r.length)[j] = addN r a (m : Int) (rowV r a O) r.length j := by simp [addV]
    have e2 : (rowV r a (O ++ [(m : Int)]))[j] = rowA r a (O ++ [(m : Int)]) j := by simp [rowV]
    rw [e1, e2]
    unfold addN
    rw [rowV_get hj]
    simp only [rowA, List.length_append, List.length_singleton, List.count_append, List.count_singleton]
    by_cases h0 : 0 < r.getD j 0
    · rw [if_pos h0, if_pos h0]
      by_cases hm : (j : Int) = (m : Int)
      · rw [if_neg (fun h => h.2.2 hm)]
        have : ((m : Int) == (j : Int)) = true := by simp; omega
        rw [this]
        simp only [if_true]
        congr 2
        omega
      · rw [if_pos ⟨hj, h0, hm⟩]
        have : ((m : Int) == (j : Int)) = false := by simp; omega
        rw [this]
        simp only [Bool.false_eq_true, if_false, Nat.add_zero]
        rw [show ((O.length + 1 : Nat) : Int) - (O.count (j : Int) : Int) = ((O.length : Int) - (O.count (j : Int) : Int)) + 1 by omega, Int.mul_add, Int.mul_one]
        omega
    · rw [if_neg h0, if_neg h0, if_neg (fun h => h0 h.2.1)]

theorem rowA_in {r : List Int} {a : Int} {O : List Int} {j : Nat} (hm : MadeOk r a) (hO : O.length ≤ 100) (hj : j < r.length) : r.getD j 0 ≤ rowA r a O j ∧ 0 ≤ rowA r a O j ∧ rowA r a O j ≤ 303 := by
  have h1 := hm.rr j hj
  have h2 := hm.a0
  have h3 : O.count (j : Int) ≤ O.length := List.count_le_length
  unfold rowA
  split
  · have h4 : 0 ≤ a * ((O.length : Int) - (O.count (j : Int) : Int)) := Int.mul_nonneg h2.1 (by omega)
    have h5 : a * ((O.length : Int) - (O.count (j : Int) : Int)) ≤ 3 * 100 := Int.mul_le_mul (by omega) (by omega) (by omega) (by omega)
    omega
  · omega

/-- The row of a draw: nothing before the first one. -/
def nowV (r : List Int) (a : Int) (O : List Int) : List Int := if O.length = 0 then [] else rowV r a O
theorem nowV_len {r : List Int} {a : Int} {O : List Int} : (nowV r a O).length ≤ r.length := by
  unfold nowV; split
  · simp
  · rw [rowV_len]; exact Nat.le_refl _
theorem rowV_in {r : List Int} {a : Int} {O : List Int} (hm : MadeOk r a) (hO : O.length ≤ 100) : inB 0 1048576 (rowV r a O) = true := inB_iff.2 fun k hk => by
  rw [rowV_len] at hk
  rw [rowV_get hk]
  have := rowA_in hm hO hk
  omega
theorem bal_now {r : List Int} {a : Int} {O : List Int} (hm : MadeOk r a) (hO : O.length ≤ 100) : balV r a (nowV r a O) = rowV r a O := by
  obtain ⟨-, -, -, hu, -⟩ := made_bal hm (row := []) (.inl rfl)
  unfold nowV
  split
  · rename_i h
    rw [List.length_eq_zero_iff.1 h, rowV_nil]
    exact balV_new hu rfl rfl
  · have hl := rowV_len (r := r) (a := a) (O := O)
    have := hm.l2
    refine balV_row hu ?_ (by omega)
    unfold fitB
    rw [decide_eq_true hl, rowV_in hm hO]; simp
theorem now_ch {r : List Int} {a : Int} {O : List Int} {m : Nat} (hm : MadeOk r a) (hO : O.length ≤ 100) (h1 : m < r.length) (h2 : 0 < r.getD m 0) : ((rowV r a O).getD m 0, 0, (m : Int)) ∈ chV r a (nowV r a O) := by
  unfold chV
  rw [bal_now hm hO, mem_cho]
  refine ⟨m, by rw [rowV_len]; exact h1, h2, ?_, rfl⟩
  rw [rowV_get h1]
  have := rowA_in hm hO h1
  omega
theorem now_next {r : List Int} {a : Int} {O : List Int} {m : Nat} (hm : MadeOk r a) (hO : O.length ≤ 99) : allV r a (nowV r a O) (m : Int) = rowV r a (O ++ [(m : Int)]) ∧ inB 0 1048576 (rowV r a (O ++ [(m : Int)])) = true := by
  refine ⟨?_, rowV_in hm (by simp; omega)⟩
  unfold allV
  rw [bal_now hm (by omega), rowV_len, rowV_push]

/-- An arm that can be drawn. -/
def InUse (r : List Int) (x : Int) : Prop := ∃ m : Nat, x = (m : Int) ∧ m < r.length ∧ 0 < r.getD m 0

theorem take_next {l : List Int} {k : Nat} (h : k < l.length) : l.take (k + 1) = l.take k ++ [l.getD k 0] := by
  rw [List.take_add_one]
  simp [List.getD, List.getElem?_eq_getElem h]

set_option maxRecDepth 10000 in
set_option maxHeartbeats 4000000 in
theorem draw_any {W : World} {ar ao : Option Addr} {nr cr k co : Nat} {r O : List Int} {a : Int} (hr : Ix W (.slice ar nr cr) r) (hO : Ix W (.slice ao k co) O) (hm : MadeOk r a) (hin : ∀ i, i < O.length → InUse r (O.getD i 0)) (hl : O.length ≤ 30) :
    Calls Try.prog 20 #[DV 3 (.slice ar nr cr) a, .slice none 0 0, .slice ao k co] W fun e w' => ∃ av n cv, e = .returned (.tuple #[.slice av n cv, .bool true]) ∧ Ix w' (.slice av n cv) (nowV r a O) ∧ Below W.heap.size W w' := by
  have hk := hO.size
  have hl4 := hm.l4
  have HB0 := Lib.hid (dbox_below W 3 (.slice ar nr cr) a)
  have HD0 := Lib.hid (fun W' (h : Below (dbox W 3 (.slice ar nr cr) a).heap.size (dbox W 3 (.slice ar nr cr) a) W') => (DBox.below (dbox_is W 3 (.slice ar nr cr) a) h).cells)
  have HUP := Lib.hid (fun W' (h : Below (dbox W 3 (.slice ar nr cr) a).heap.size (dbox W 3 (.slice ar nr cr) a) W') => dbox_up h)
  have HBL := Lib.hid (fun W' (h : Below W.heap.size W W') (vn : Option Addr) (nn cn i : Nat) (hx : Ix W' (.slice vn nn cn) (nowV r a (O.take i))) => balls_any (hr.below h) hx (by omega) (by have := nowV_len (r := r) (a := a) (O := O.take i); omega) 3 a)
  have HNX := Lib.hid (fun W' (h : Below W.heap.size W W') (vn : Option Addr) (nn cn i m : Nat) (hx : Ix W' (.slice vn nn cn) (nowV r a (O.take i))) (hml : m < r.length) (hmr : 0 < r.getD m 0) => next_yes (hr.below h) hx (by omega) (by have := nowV_len (r := r) (a := a) (O := O.take i); omega) 3 (now_ch hm (O := O.take i) (by rw [List.length_take]; omega) hml hmr))
  have HBA := Lib.hid (fun i => bal_now hm (O := O.take i) (by rw [List.length_take]; omega))
  have HNW := Lib.hid (fun i (m : Nat) => now_next (m := m) hm (O := O.take i) (by rw [List.length_take]; omega))
  have HX := Lib.hid hO
  have HK := Lib.hid hk
  have HIN := Lib.hid hin
  have HM := Lib.hid hm
  have HLR := Lib.hid hr.size
  have hk30 : k ≤ 30 := by omega
  have HFULL : Hid (O.take k = O) := Lib.hid (by rw [hk, List.take_length])
  have hbr := Below.refl (dbox W 3 (.slice ar nr cr) a).heap.size (dbox W 3 (.slice ar nr cr) a)
  have HBR := Lib.hid hbr
  have HDL : Hid (W.heap.size < (dbox W 3 (.slice ar nr cr) a).heap.size) := Lib.hid (by simp)
  clear hr hO hm hin hl hk hl4 hbr
  go_enter Try.func20, Try.ntmps20
  go_wp2
  go_loopw [1, 9, 10, 11, 12, 15] (fun nv _ _ _ _ kv wr => ∃ (i : Nat) (vn : Option Addr) (nn cn : Nat), i ≤ k ∧ kv = .int .i64 (i : Nat) ∧ nv = .slice vn nn cn ∧ Hid (Ix wr (.slice vn nn cn) (nowV r a (O.take i))) ∧ Hid (Below (dbox W 3 (.slice ar nr cr) a).heap.size (dbox W 3 (.slice ar nr cr) a) wr)) (fun _ _ _ _ _ kv _ => k - (intOf kv).toNat)
  case atStart => exact ⟨0, none, 0, 0, by omega, rfl, rfl, Lib.hid (Ix.nil _), HBR⟩
  case round =>
    obtain ⟨i, vn, nn, cn, hi, rfl, rfl, hX, hB⟩ := hrel
    by_cases hik : i = k
    · have hx := hX.out
      rw [hik, HFULL.out] at hx
      have HX2 := Lib.hid hx
      subst hik
      clear hx hX
      go_wp2
      go_ret2
      exact ⟨_, _, _, rfl, HX2.out, HUP.out _ hB.out⟩
    · have hlt : i < k := by omega
      obtain ⟨bo, ofo, rfl, hqo, hcapo, hblo, hclo⟩ := HX.out.at (by omega)
      have hco := cell_later (HUP.out _ hB.out) (hclo i hlt)
      obtain ⟨m, hxm, hml, hmr⟩ := HIN.out i (by rw [← HK.out]; exact hlt)
      have HTK := Lib.hid (take_next (l := O) (k := i) (by rw [← HK.out]; exact hlt))
      rw [hxm] at hco HTK
      have HBL2 := Lib.hid (HBL.out wr (HUP.out _ hB.out) vn nn cn i hX.out)
      have HNX2 := Lib.hid (fun W' (h : Below W.heap.size W W') hx => HNX.out W' h vn nn cn i m hx hml hmr)
      rw [HBA.out i] at HBL2
      rw [(HNW.out i m).1, (HNW.out i m).2] at HNX2
      simp only [if_true] at HNX2
      have hmn : (m : Int) < (nr : Int) := by have := HLR.out; omega
      have hm0 : ¬ (m : Int) < 0 := by omega
      have hm9 : (0 : Int) ≤ (m : Int) := by omega
      obtain ⟨k0, k1, k2, k3, k4, k5⟩ := HD0.out _ hB.out
      have hdl := Nat.lt_of_lt_of_le HDL.out hB.out.size
      have HMR := Lib.hid (And.intro hml hmr)
      clear hclo hqo hxm hml hmr
      go_upto_region 5 with (go_at_call 13; (with_reducible refine HBL2.out.mono ?_); rintro e w2 ⟨ab, nb, cb, rfl, ho, hb⟩; have HO2 := Lib.hid ho; have HNB := Lib.hid (owI_len ho); have HB2 := Lib.hid (hB.out.trans (hb.mono hB.out.size)); have HX2 := Lib.hid (hX.out.below hb); clear ho hb k0 k1 k2 k3 k4 k5)
      have hnb : nb = nr := by have := HNB.out; rw [rowV_len] at this; have := HLR.out; omega
      subst hnb
      obtain ⟨g, cap2, eg, -, hg1, hg2, hgc, -, -⟩ := HO2.out.parts (by omega)
      injection eg with eg1 _ eg3
      subst eg1 eg3
      have cg := hgc m (by omega)
      obtain ⟨u, hu⟩ : ∃ u, u = (rowV r a (O.take i)).getD m 0 := ⟨_, rfl⟩
      rw [← hu] at cg HNX2
      obtain ⟨k0, k1, k2, k3, k4, k5⟩ := HD0.out _ HB2.out
      have HKS := Lib.hid (fun W' (h : Below w2.heap.size w2 W') => And.intro (HD0.out W' (HB2.out.trans (h.mono HB2.out.size))) (cell_later h cg))
      have hrr := Below.refl w2.heap.size w2
      have HRR := Lib.hid hrr
      clear hgc hu hg1 hg2 hrr
      go_upto_region 7 with fail
      go_region_held3 (fun W' => (W'.cell? ⟨W.heap.size, 0, none⟩ = some (.int .i64 3) ∧ W'.cell? ⟨W.heap.size, 1, none⟩ = some (.slice ar nb cr) ∧ W'.cell? ⟨W.heap.size, 2, none⟩ = some (.slice none 0 0) ∧ W'.cell? ⟨W.heap.size, 3, none⟩ = some (.int .i64 a) ∧ W'.cell? ⟨W.heap.size, 4, none⟩ = some (.int .i64 0) ∧ W'.cell? ⟨W.heap.size, 5, none⟩ = some (.int .i64 0)) ∧ W'.cell? ⟨g, m, none⟩ = some (.int .i64 u))
        (first | (with_reducible exact HKS.out _ HB3.out) | (with_reducible exact HKS.out _ HRR.out) | (with_reducible exact HKS.out _ HRR.out.drew) | (exact HKS.out _ HRR.out.drew))
        ((go_at_call 18; (refine (HNX2.out _ (HUP.out _ HB2.out.drew) (HX2.out.below (Below.refl _ _).drew)).mono ?_); rintro e w3 ⟨a3, n3, c3, rfl, ho, hb⟩; have HO3 := Lib.hid ho; have HB3 := Lib.hid (HRR.out.drew.trans (hb.mono HRR.out.drew.size)); clear ho hb))
      have HX3 : Hid (Ix w3 (.slice a3 n3 c3) (nowV r a (O.take (i + 1)))) := Lib.hid (by
        have hlo : (O.take (i + 1)).length ≠ 0 := by rw [HTK.out]; simp
        unfold nowV
        rw [if_neg hlo, HTK.out]
        have h1 := HO3.out
        exact h1.ix (by have := owI_len h1; rw [rowV_len] at this; have := HM.out.l4; omega) (fit_in (HNW.out i m).2))
      have HBE := Lib.hid (HB2.out.trans (HB3.out.mono HB2.out.size))
      clear k0 k1 k2 k3 k4 k5 cg
      go_wp2
      go_roundw
      case rel => exact ⟨i + 1, a3, n3, c3, by omega, by go_num, rfl, HX3, HBE⟩
      case measure => simp [intOf]; omega

end Go.Proofs.Ytmpopbkhmkkhgaa
