/- Contracts of coin: proper and what it calls. Condition: the slices read as ints. Contract of coin: proper. Condition: the slices read as ints, at most eight arms. Contracts of coin: units, oneMore. Condition: the slices read as ints. Contract of coin: multiple. Condition: the ratio reads as ints between 0 and 8, at most eight of them. Regions that draw their order, met by what holds behind each set of their operations; one whose results are known and which stores once. No condition. -/
import Derived.Test.YtcpgoaombabfjaaMh2
import Derived.Deep.RegionHeld3
import Derived.OrdersIn
import Derived.WalkKit
import Derived.OwnWalkIn
namespace Go.Proofs.Ytcpgoaombabfjaa
open Go.RowKit Go.Shelf
attribute [local go_sem] Oper.semAt_some

set_option maxRecDepth 10000 in
set_option maxHeartbeats 1000000 in
theorem proper1_any {W : World} {Bd : Nat} {kd cn cd : Int} {ar aw : Option Addr} {nr cr nw cw : Nat} {r row : List Int} (hd : DBox W Bd kd (.slice ar nr cr) cn cd) (hr : nr = r.length) (hw : Ix W (.slice aw nw cw) row) :
    Calls Try.prog 42 #[.slice aw nw cw, .pointer (some ⟨Bd, 0, none⟩)] W fun e w' => e = .returned (.bool (!(fiB r row))) ∧ Below W.heap.size W w' := by
  have hnw := hw.size
  obtain ⟨-, c1, -, -, -, -⟩ := hd.cells
  have HW := Lib.hid (within_any hw 1048575)
  unfold fiB
  rw [← hr, ← hnw]
  obtain ⟨q, hq⟩ : ∃ q, q = inB 0 1048575 row := ⟨_, rfl⟩
  rw [← hq] at HW ⊢
  clear hr hw hnw hq hd
  by_cases h1 : nw = 0
  · subst h1
    go_enter Try.func42, Try.ntmps42
    go_wp2
    go_ret
    exact ⟨rfl, Below.refl _ _⟩
  · have e1 : decide (nw = 0) = false := by simpa using h1
    rw [e1]
    clear e1
    by_cases h2 : nw = nr
    · subst h2
      have e2 : (false || (decide (nw = nw) && q)) = q := by simp
      rw [e2]
      clear e2
      go_enter Try.func42, Try.ntmps42
      go_wp2_with (go_at_call 40; (with_reducible refine HW.out.mono ?_); rintro e w1 ⟨rfl, hb1⟩; have HB1 := Lib.hid hb1; clear hb1)
      go_ret
      exact ⟨by first | rfl | (simp [h1]; done), HB1.out⟩
    · have e2 : (false || (decide (nw = nr) && q)) = false := by simp [h2]
      rw [e2]
      have h3 : ¬ (nw : Int) = (nr : Int) := by omega
      clear e2
      go_enter Try.func42, Try.ntmps42
      go_wp2
      go_ret
      exact ⟨by first | rfl | (simp [h1]; done) | (simp [h1, h3]; done), Below.refl _ _⟩

/-- A slice of rows. -/
structure Rx (w : World) (v : Value) (l : List (List Int)) : Prop where
  len : l.length ≤ 8
  is : ∃ b off cap, v = .slice (some ⟨b, off, none⟩) l.length cap ∧ l.length ≤ cap ∧ b < w.heap.size ∧ ∀ j, j < l.length → ∃ ao n c, w.cell? ⟨b, off + j, none⟩ = some (.slice ao n c) ∧ Ix w (.slice ao n c) (l.getD j [])
theorem Rx.below {w w' : World} {v : Value} {l : List (List Int)} (h : Rx w v l) (hb : Below w.heap.size w w') : Rx w' v l := by
  obtain ⟨h1, b, off, cap, hv, hc, hlt, hl⟩ := h
  refine ⟨h1, b, off, cap, hv, hc, Nat.lt_of_lt_of_le hlt hb.size, fun j hj => ?_⟩
  obtain ⟨ao, n, c, e1, e2⟩ := hl j hj
  exact ⟨ao, n, c, cell_later hb e1, e2.below hb⟩

/-- One row, two rows. -/
theorem rx_one {W : World} {ao : Option Addr} {n c : Nat} {row : List Int} (h : Ix W (.slice ao n c) row) : Rx (W.alloc (.cells #[.slice ao n c] 22)) (.slice (some ⟨W.heap.size, 0, none⟩) 1 1) [row] := by
  have hb : Below W.heap.size W (W.alloc (.cells #[.slice ao n c] 22)) := (Below.refl _ _).alloc (Nat.le_refl _) _
  refine ⟨by simp, W.heap.size, 0, 1, rfl, by simp, by simp, fun j hj => ?_⟩
  have : j = 0 := by simp at hj; omega
  subst this
  exact ⟨ao, n, c, cell_of_row _ _ _ _ _ _ (heap_alloc_new _ _), h.below hb⟩
theorem rx_two {W : World} {ao bo : Option Addr} {n c m d : Nat} {row row2 : List Int} (h : Ix W (.slice ao n c) row) (h2 : Ix W (.slice bo m d) row2) : Rx (W.alloc (.cells #[.slice ao n c, .slice bo m d] 22)) (.slice (some ⟨W.heap.size, 0, none⟩) 2 2) [row, row2] := by
  have hb : Below W.heap.size W (W.alloc (.cells #[.slice ao n c, .slice bo m d] 22)) := (Below.refl _ _).alloc (Nat.le_refl _) _
  refine ⟨by simp, W.heap.size, 0, 2, rfl, by simp, by simp, fun j hj => ?_⟩
  rcases (show j = 0 ∨ j = 1 by simp at hj; omega) with rfl | rfl
  · exact ⟨ao, n, c, cell_of_row _ _ _ _ _ _ (heap_alloc_new _ _), h.below hb⟩
  · exact ⟨bo, m, d, cell_of_row _ _ _ _ _ _ (heap_alloc_new _ _), h2.below hb⟩

theorem all_get {r : List Int} {l : List (List Int)} : (l.all (fiB r)) = true ↔ ∀ j, j < l.length → fiB r (l.getD j []) = true := by
  rw [List.all_eq_true]
  constructor
  · intro h j hj
    have := h l[j] (List.getElem_mem hj)
    simpa [List.getD, hj] using this
  · intro h x hx
    obtain ⟨k, hk, rfl⟩ := List.getElem_of_mem hx
    have := h k hk
    simpa [List.getD, hk] using this

set_option maxRecDepth 10000 in
set_option maxHeartbeats 2000000 in
theorem indexRow_any {W : World} {Bd : Nat} {kd cn cd : Int} {ar : Option Addr} {nr cr : Nat} {r : List Int} {v : Value} {l : List (List Int)} (hd : DBox W Bd kd (.slice ar nr cr) cn cd) (hr : nr = r.length) (hX : Rx W v l) :
    Calls Try.prog 55 #[v, .func (.func 42) #[] #[.pointer (some ⟨Bd, 0, none⟩)]] W fun e w' => ∃ i : Int, e = .returned (.int .i64 i) ∧ decide (i ≥ 0) = !(l.all (fiB r)) ∧ Below W.heap.size W w' := by
  have hlen := hX.len
  obtain ⟨b, off, cap, rfl, hcap, hbl, hcl⟩ := hX.is
  have HCL := Lib.hid hcl
  have HO := Lib.hid (fun W' aw nw cw row (hb : Below W.heap.size W W') (h : Ix W' (.slice aw nw cw) row) => proper1_any (hd.below hb) hr h)
  have HA := Lib.hid (all_get (r := r) (l := l))
  obtain ⟨n, hn⟩ : ∃ n, n = l.length := ⟨_, rfl⟩
  have HN := Lib.hid hn
  obtain ⟨R, hR⟩ : ∃ R, R = l.all (fiB r) := ⟨_, rfl⟩
  rw [← hR] at HA
  rw [← hR, ← hn]
  rw [← hn] at hlen hcap HCL HA
  clear hX hn hR hcl hd hr
  go_enter Try.func55, Try.ntmps55
  go_wp2
  go_loopw [5, 8] (fun _ kv wr => ∃ k : Nat, k ≤ n ∧ kv = .int .i64 (k : Nat) ∧ Hid (∀ j, j < k → fiB r (l.getD j []) = true) ∧ Hid (Below W.heap.size W wr)) (fun _ kv _ => n - (intOf kv).toNat)
  case atStart => exact ⟨0, by omega, rfl, Lib.hid (fun j h => by omega), Lib.hid (Below.refl _ _)⟩
  case round =>
    obtain ⟨k, hk, rfl, hJ, hB⟩ := hrel
    by_cases hkn : k = n
    · have E : Hid (decide ((-1 : Int) ≥ 0) = !R) := Lib.hid (by
        rw [HA.out.2 (fun j hj => hJ.out j (by omega))]; rfl)
      subst hkn
      clear hJ
      go_wp2
      go_ret
      exact ⟨_, rfl, E.out, hB.out⟩
    · have hlt : k < n := by omega
      obtain ⟨ao, m, c, hc0, hx⟩ := HCL.out k hlt
      have hc := cell_later hB.out hc0
      have HX := Lib.hid (HO.out wr ao m c _ hB.out (hx.below hB.out))
      by_cases he : fiB r (l.getD k []) = true
      · have HJ : Hid (∀ j, j < k + 1 → fiB r (l.getD j []) = true) := Lib.hid (fun j h => by
          by_cases hj : j = k
          · subst hj; exact he
          · exact hJ.out j (by omega))
        rw [he] at HX
        clear hJ hx he hc0
        go_wp2_with (go_at_call 42; (with_reducible refine HX.out.mono ?_); rintro e w2 ⟨rfl, hb2⟩; have HB2 := Lib.hid (hB.out.trans (hb2.mono hB.out.size)); clear hb2)
        go_roundw
        case rel => exact ⟨k + 1, by omega, by go_num, HJ, HB2⟩
        case measure => simp [intOf]; omega
      · have hf : fiB r (l.getD k []) = false := by simpa using he
        have E : Hid (decide ((k : Int) ≥ 0) = !R) := Lib.hid (by
          cases hR : R with
          | true => have := HA.out.1 hR k hlt; rw [hf] at this; cases this
          | false => simp)
        rw [hf] at HX
        clear hJ hx he hc0 hf
        go_wp2_with (go_at_call 42; (with_reducible refine HX.out.mono ?_); rintro e w2 ⟨rfl, hb2⟩; have HB2 := Lib.hid (hB.out.trans (hb2.mono hB.out.size)); clear hb2)
        go_ret
        exact ⟨_, rfl, E.out, HB2.out⟩

set_option maxRecDepth 10000 in
set_option maxHeartbeats 1000000 in
theorem anyRow_any {W : World} {Bd : Nat} {kd cn cd : Int} {ar : Option Addr} {nr cr : Nat} {r : List Int} {v : Value} {l : List (List Int)} (hd : DBox W Bd kd (.slice ar nr cr) cn cd) (hr : nr = r.length) (hX : Rx W v l) :
    Calls Try.prog 41 #[v, .func (.func 42) #[] #[.pointer (some ⟨Bd, 0, none⟩)]] W fun e w' => e = .returned (.bool (!(l.all (fiB r)))) ∧ Below W.heap.size W w' := by
  have HI := Lib.hid (indexRow_any hd hr hX)
  obtain ⟨R, hR⟩ : ∃ R, R = l.all (fiB r) := ⟨_, rfl⟩
  rw [← hR] at HI ⊢
  obtain ⟨b, off, cap, rfl, -⟩ := hX.is
  clear hR hX hd hr
  go_enter Try.func41, Try.ntmps41
  go_wp2_with (go_at_call 55; (with_reducible refine HI.out.mono ?_); rintro e w2 ⟨i, rfl, hi, hb⟩; have HE := Lib.hid hi; have HB := Lib.hid hb; clear hb hi)
  go_ret
  exact ⟨by rw [← HE.out]; rfl, HB.out⟩

end Go.Proofs.Ytcpgoaombabfjaa

namespace Go.Proofs.Ytcpgoaombabfjaa
open Go.RowKit Go.Shelf
attribute [local go_sem] Oper.semAt_some

/-- What proper's loop keeps. -/
def PrI (W Wx : World) (q : Nat) (r : List Int) (k : Nat) (W' : World) : Prop := Fr W Wx [q] W' ∧ Box W' q (.int .i64 (cnt r k : Nat)) 3

theorem prI_own {W Wx : World} {q : Nat} {r : List Int} (hB : W.heap.size ≤ Wx.heap.size) (hq : q < Wx.heap.size) : OwnFrom Wx.heap.size (PrI W Wx q r) := fun k => keep_and (keep_fr hB) (keep_box hq)

theorem ix_keeps {W Wx W1 : World} {ex : List Nat} {ar : Option Addr} {nr cr : Nat} {r : List Int} (hr : Ix W (.slice ar nr cr) r) (h : Fr W Wx ex W1) {k : Nat} (hk : k < nr) : ∃ b' off, ar = some ⟨b', off, none⟩ ∧ W1.cell? ⟨b', off + k, none⟩ = some (.int .i64 (r.getD k 0)) := by
  obtain ⟨b', off, e, -, -, -, hc⟩ := hr.at (by omega)
  exact ⟨b', off, e, cell_later h.b (hc k hk)⟩

theorem open_k {W : World} {kd : Int} {vr : Value} {cn cd : Int} :
    Calls Try.prog 34 #[DV kd vr cn cd] W fun e w' => ∃ bD, e = .returned (.func (.func 49) #[] #[.pointer (some ⟨bD, 0, none⟩)]) ∧ W.heap.size ≤ bD ∧ DBox w' bD kd vr cn cd ∧ Below W.heap.size W w' := by
  refine open_any.mono fun e w' ⟨h1, h2⟩ => ?_
  subst h2
  exact ⟨_, h1, Nat.le_refl _, dbox_is _ _ _ _ _, dbox_below _ _ _ _ _⟩

set_option maxRecDepth 100000 in
set_option maxHeartbeats 4000000 in
theorem proper_any {W : World} {ar : Option Addr} {nr cr : Nat} {r : List Int} (hr : Ix W (.slice ar nr cr) r) {v : Value} {l : List (List Int)} (hX : Rx W v l) (lr : r.length ≤ 8) (kd cn cd : Int) :
    Calls Try.prog 25 #[DV kd (.slice ar nr cr) cn cd, v] W fun e w' => e = .returned (.bool (prB r && l.all (fiB r))) ∧ Below W.heap.size W w' := by
  have hnr := hr.size
  have HB0 := Lib.hid (dbox_below W kd (.slice ar nr cr) cn cd)
  have HD0 := Lib.hid (dbox_is W kd (.slice ar nr cr) cn cd)
  have HW := Lib.hid (within_any (hr.below HB0.out) 8)
  have HAN := Lib.hid (fun W' Bd (hd : DBox W' Bd kd (.slice ar nr cr) cn cd) (hb : Below W.heap.size W W') => anyRow_any hd hnr (hX.below hb))
  have HNR := Lib.hid hnr
  have HX := Lib.hid hr
  unfold prB
  obtain ⟨R, hR⟩ : ∃ R, R = l.all (fiB r) := ⟨_, rfl⟩
  rw [← hR] at HAN ⊢
  have hcr := cnt_le r r.length
  obtain ⟨N, hN⟩ : ∃ N, N = cnt r r.length := ⟨_, rfl⟩
  have HN := Lib.hid hN
  rw [← hN] at hcr ⊢
  rw [← hnr] at hcr lr HN ⊢
  obtain ⟨b, off, cap, rfl, -⟩ := hX.is
  by_cases h1 : nr ≤ 6
  · rw [decide_eq_true h1, Bool.true_and]
    obtain ⟨q, hq⟩ : ∃ q, q = inB 0 8 r := ⟨_, rfl⟩
    rw [← hq] at HW ⊢
    cases q with
    | false =>
      clear hr hX hnr hR hN hcr hq
      rw [Bool.false_and, Bool.false_and]
      go_enter Try.func25, Try.ntmps25
      go_wp2_with (go_at_call 40; (with_reducible refine HW.out.mono ?_); rintro e w1 ⟨rfl, hb1⟩; have HB1 := Lib.hid (HB0.out.trans (hb1.mono HB0.out.size)); clear hb1)
      go_ret
      exact ⟨rfl, HB1.out⟩
    | true =>
      rw [Bool.true_and]
      obtain ⟨Z, hZ⟩ : ∃ Z, Z = (decide (2 ≤ N) && R) := ⟨_, rfl⟩
      rw [← hZ]
      have HZ := Lib.hid hZ
      clear hr hX hnr hR hN hq hZ
      refine (callsIn_wide (n := 6)).1 ?_
      refine callsIn_of_wp_marks Try.func25 rfl trivial ?_ rfl
      simp only [Try.ntmps25, List.size_toArray, List.length_cons, List.length_nil, Nat.reduceAdd, Nat.reduceSub, Array.replicate_succ, Array.replicate_zero, List.push_toArray, List.append_toArray, List.nil_append, List.cons_append]
      refine wpIn_wide.2 ?_
      go_wp2_with (first
        | (go_at_call 40; (with_reducible refine HW.out.mono ?_); rintro e w1 ⟨rfl, hb1⟩; have HB1 := Lib.hid (HB0.out.trans (hb1.mono HB0.out.size)); have HD1 := Lib.hid (DBox.below HD0.out hb1); obtain ⟨c0, c1, c2, c3, c4, c5⟩ := HD1.out.cells; have hl1 := (Array.getElem?_eq_some_iff.1 HD1.out).1; clear hb1)
        | (go_at_call 34; (with_reducible refine open_k.mono ?_); rintro e w2 ⟨bD, rfl, hbD, hD2, hb2⟩))
      clear c0 c1 c2 c3 c4 c5
      refine (wpIn_wide (n := 6)).1 ?_
      have HQ : Hid (Box w2 w1.heap.size (.int .i64 0) 3) := Lib.hid ((Box.new w1 (.int .i64 0) 3).below hb2)
      have hsz := hb2.size
      rw [World.size_alloc] at hsz
      have HB2 : Hid (Below W.heap.size W w2) := Lib.hid (HB1.out.trans (Below.trans (((Below.refl _ w1).alloc (Nat.le_refl _) _)) (hb2.mono (by simp)) |>.mono HB1.out.size))
      have HD := Lib.hid hD2
      have HS1 := Lib.hid hl1
      have HD1' : Hid (DBox w2 W.heap.size kd (.slice ar nr cr) cn cd) := Lib.hid (HD1.out.below (Below.trans (((Below.refl _ w1).alloc (Nat.le_refl _) _)) (hb2.mono (by simp))))
      have HSZ := Lib.hid hsz
      have HBD := Lib.hid hbD
      rw [World.size_alloc] at hbD
      have hne : bD ≠ w1.heap.size := by omega
      have HNE := Lib.hid hne
      clear hb2 hD2 hbD hl1 hsz hne
      refine' rangeFunc_steps rfl (by omega) (gf := 49) (lb := #[.pointer (some ⟨bD, 0, none⟩)]) rfl trivial (enters_of Try.func49 (by kernel_rfl) rfl)
        (open_steps Fence.wide 5 trivial rfl (by omega) bD nr cr ar r (by omega) (PrI W w2 w1.heap.size r)
          (fun k W' h => (h.1.dbox HD.out (by simpa using HNE.out)).cells.2.1)
          (fun k W' h hk => ix_keeps HX.out h.1 hk)
          (fun k W' hk hu h => ⟨h.1, by have := h.2; rw [cnt, if_neg hu]; exact this⟩)) (fun _ => rfl)
        (prI_own (by have := HB2.out.size; omega) (by have := HSZ.out; omega)) ⟨Fr.start HB2.out, HQ.out⟩ _ ?assign ?body ?done
      case assign =>
        intro y k W' K hK
        unfold opArgs
        gi_wp2
        exact hK
      case body =>
        intro y k W' hk hu hI
        have hc := hI.2.cell
        have hfr := hI.2.free
        have hlt := hI.2.lt
        have hck := cnt_le r k
        have hw : IntKind.i64.wrap ((cnt r k : Nat) + 1) = ((cnt r (k + 1) : Nat) : Int) := by rw [IntWalk.i64_in _ (by omega), cnt, if_pos hu]; omega
        have HF : Hid (PrI W w2 w1.heap.size r (k + 1) (W'.setCell ⟨w1.heap.size, 0, none⟩ (.int .i64 (cnt r (k + 1) : Nat)))) := Lib.hid ⟨hI.1.set (by simp) HB1.out.size, hI.2.set _⟩
        have HK := Lib.hid (keeps_set (KeepsFrom.refl (B := w2.heap.size) W') hI.2 (u := .int .i64 (cnt r (k + 1) : Nat)))
        obtain ⟨u, hu2⟩ : ∃ u, u = cnt r k := ⟨_, rfl⟩
        obtain ⟨u2, hu3⟩ : ∃ u2, u2 = cnt r (k + 1) := ⟨_, rfl⟩
        rw [← hu2] at hc hw
        rw [← hu3] at hw HF HK
        clear hu2 hu3 hI hu hck
        gi_wp2
        exact ⟨HK.out, HF.out⟩
      case done =>
        intro D W' hD hI hK
        have c5 := hI.2.cell
        rw [← HN.out] at c5
        have HF := Lib.hid hI.1
        have HD3 := Lib.hid (hI.1.dbox HD1'.out (by have := HS1.out; simp; omega))
        have HA := Lib.hid (HAN.out _ _ HD3.out hI.1.b)
        have HK := Lib.hid hK
        have HDD := Lib.hid hD
        clear hI hK hD
        by_cases h2 : 2 ≤ N
        · have h3 : (2 : Int) ≤ (N : Int) := by omega
          go_wp2_with (go_at_call 41; (with_reducible refine HA.out.mono ?_); rintro e w3 ⟨rfl, hb3⟩; have HB3 := Lib.hid hb3; have HK3 : Hid (w3.heap[D]? = some (.deferred (some []))) := Lib.hid ((hb3.block D (Array.getElem?_eq_some_iff.1 HK.out).1).trans HK.out); clear hb3)
          refine ⟨by simp, .inl ⟨_, _, rfl, run_takeDeferred HK3.out, ?_⟩⟩
          have hB := HF.out.b.trans (HB3.out.mono HF.out.b.size)
          exact ⟨_, results_tmp rfl _ _ _, by rw [HZ.out, decide_eq_true h2, Bool.true_and]; simp, hB.grown (grownBy_putObj' _ D _) hB.size (fun j e => by cases e; have := HDD.out; have := HB2.out.size; omega)⟩
        · have h3 : ¬ (2 : Int) ≤ (N : Int) := by omega
          go_wp2
          refine ⟨by simp, .inl ⟨_, _, rfl, run_takeDeferred HK.out, ?_⟩⟩
          exact ⟨_, results_tmp rfl _ _ _, by rw [HZ.out, decide_eq_false h2]; rfl, HF.out.b.grown (grownBy_putObj' _ D _) HF.out.b.size (fun j e => by cases e; have := HDD.out; have := HB2.out.size; omega)⟩
  · rw [decide_eq_false h1, Bool.false_and, Bool.false_and, Bool.false_and]
    clear hr hX hnr hR hN hcr
    go_enter Try.func25, Try.ntmps25
    go_wp2
    go_ret
    exact ⟨rfl, HB0.out⟩

end Go.Proofs.Ytcpgoaombabfjaa

namespace Go.Proofs.Ytcpgoaombabfjaa
open Go.RowKit Go.Shelf
attribute [local go_sem] Oper.semAt_some

theorem make_run (k : Nat) (hk : k ≤ 1000) (W : World) : (Instr.makeSlice 22 (.int .i64 (k : Int)) (.int .i64 (k : Int))).run Try.prog W = .ok (.slice (some ⟨W.heap.size, 0, none⟩) k k) (W.alloc (.cells (ints (List.replicate k 0)).toArray 3)) := by
  obtain ⟨i0, hii, hz0, hz1, hz2⟩ := info_parts Try.info3
  have h := run_makeSlice (P := Try.prog) W 22 3 i0 (.int .i64 0) Try.underlying22 hii hz0 .i64 .i64 (k : Int) (k : Int) (by omega) (Int.le_refl _) (by rw [hz1]; simp; omega) (by rw [hz2]; omega) (by omega)
  rw [hz1] at h
  simp only [Int.toNat_natCast] at h
  have e : madeCells (Value.int .i64 0).cells (k * 1) = (ints (List.replicate k 0)).toArray := by
    apply Array.ext'
    rw [show (Value.int .i64 0).cells = #[.int .i64 0] from rfl, toList_madeCells_one]
    simp [ints]
  rw [e] at h
  exact h
theorem made_own (k : Nat) (hk : k ≤ 1000) (W : World) : OwI (W.alloc (.cells (ints (List.replicate k 0)).toArray 3)) W.heap.size (.slice (some ⟨W.heap.size, 0, none⟩) k k) k (List.replicate k 0) :=
  ⟨by simp [ints], .inr ⟨W.heap.size, k, _, rfl, Nat.le_refl _, heap_alloc_new _ _, Nat.le_refl _, by unfold maxLen; omega, by simp [ints], by simp [ints]⟩⟩
theorem rep_fit (n k : Nat) : I64 ((List.replicate n (0 : Int)).getD k 0) := by
  have : (List.replicate n (0 : Int)).getD k 0 = 0 := by
    simp only [List.getD]
    by_cases hk : k < n
    · rw [List.getElem?_replicate, if_pos hk]; rfl
    · rw [List.getElem?_replicate, if_neg hk]; rfl
  rw [this]; decide

set_option maxRecDepth 10000 in
set_option maxHeartbeats 1000000 in
theorem units_any {W : World} {ar aw : Option Addr} {nr cr nw cw : Nat} {r row : List Int} (hr : nr = r.length) (hw : Ix W (.slice aw nw cw) row) (lr : r.length ≤ 8) (kd cn cd : Int) :
    Calls Try.prog 27 #[DV kd (.slice ar nr cr) cn cd, .slice aw nw cw] W fun e w' => ∃ ao n cap, e = .returned (.slice ao n cap) ∧ Ix w' (.slice ao n cap) (unV r row) ∧ Below W.heap.size W w' := by
  have hnw := hw.size
  have HB0 := Lib.hid (dbox_below W kd (.slice ar nr cr) cn cd)
  obtain ⟨c0, c1, c2, c3, c4, c5⟩ := DBox.cells (dbox_is W kd (.slice ar nr cr) cn cd)
  unfold unV
  rw [← hr, ← hnw]
  rw [← hr] at lr
  by_cases h0 : nw = 0
  · rw [if_pos h0]
    subst h0
    obtain ⟨W1, hW1⟩ : ∃ W1, W1 = dbox W kd (.slice ar nr cr) cn cd := ⟨_, rfl⟩
    have hmk := make_run nr (by omega) W1
    have HO := Lib.hid ((made_own nr (by omega) W1).ix (by omega) (rep_fit nr))
    have HB : Hid (Below W.heap.size W (W1.alloc (.cells (ints (List.replicate nr 0)).toArray 3))) := Lib.hid (by rw [hW1]; exact HB0.out.alloc (by simp) _)
    rw [hW1] at hmk HO HB
    clear hr hw hnw hW1
    go_enter Try.func27, Try.ntmps27
    go_wp2
    go_ret
    exact ⟨_, _, _, rfl, by have := HO.out; rw [dbox_size] at this; exact this, HB.out⟩
  · rw [if_neg h0]
    have HO := Lib.hid (hw.below HB0.out)
    have h1 : ¬ (nw : Int) = 0 := by omega
    clear hr hw hnw
    go_enter Try.func27, Try.ntmps27
    go_wp2
    go_ret
    exact ⟨_, _, _, rfl, HO.out, HB0.out⟩

set_option maxRecDepth 10000 in
set_option maxHeartbeats 1000000 in
theorem oneMore_any {W : World} {ao : Option Addr} {n cap : Nat} {l : List Int} (hX : Ix W (.slice ao n cap) l) {k : Nat} (hk : k < n) (hn : n ≤ 1000) (hl : 0 ≤ l.getD k 0 ∧ l.getD k 0 ≤ 1048576) :
    Calls Try.prog 32 #[.slice ao n cap, .int .i64 (k : Int)] W fun e w' => ∃ ao2 cap2, e = .returned (.slice ao2 n cap2) ∧ OwI w' W.heap.size (.slice ao2 n cap2) n (mor l k) ∧ Below W.heap.size W w' := by
  have HC := Lib.hid (clone_any hX hn)
  have hw : IntKind.i64.wrap (l.getD k 0 + 1) = l.getD k 0 + 1 := IntWalk.i64_in _ (by omega)
  unfold mor
  obtain ⟨x, hx⟩ : ∃ x, x = l.getD k 0 := ⟨_, rfl⟩
  have HX := Lib.hid hx
  rw [← hx] at hw hl ⊢
  clear hx hX
  go_enter Try.func32, Try.ntmps32
  go_wp2_with (go_at_call 48; (with_reducible refine HC.out.mono ?_); rintro e w1 ⟨ao2, cap2, rfl, ho, hb⟩; obtain ⟨g, cap3, he, h1, h2, h3, h4, h5, h6⟩ := ho.parts (by omega); obtain ⟨rfl, rfl⟩ : ao2 = some ⟨g, 0, none⟩ ∧ cap2 = cap3 := (by injection he with e1 e2 e3; exact ⟨e1, e3⟩); have hc := h4 k hk; rw [← HX.out] at hc; have hfr := h5 k; have HO := Lib.hid (h6 k (x + 1) hk); have HB : Hid (Below W.heap.size W (w1.setCell ⟨g, k, none⟩ (.int .i64 (x + 1)))) := Lib.hid (hb.setCell h2 _); have hlI : (k : Int) < (n : Int) := (by omega); clear ho hb he h1 h2 h4 h5 h6)
  go_ret
  exact ⟨_, _, rfl, HO.out, HB.out⟩

end Go.Proofs.Ytcpgoaombabfjaa

namespace Go.Proofs.Ytcpgoaombabfjaa
open Go.RowKit Go.Shelf
attribute [local go_sem] Oper.semAt_some

/-- What multiple's loop keeps. -/
def MuI (W Wx : World) (q : Nat) (r : List Int) (k : Nat) (W' : World) : Prop := Fr W Wx [q] W' ∧ Box W' q (.int .i64 (mulN r k : Nat)) 3
theorem muI_own {W Wx : World} {q : Nat} {r : List Int} (hB : W.heap.size ≤ Wx.heap.size) (hq : q < Wx.heap.size) : OwnFrom Wx.heap.size (MuI W Wx q r) := fun k => keep_and (keep_fr hB) (keep_box hq)

/-- What the inner loop keeps: a multiple of where it began, none beyond the least common one. -/
def InI (W Wx W0 : World) (q s p : Nat) (m : Nat) (W' : World) : Prop := Fr W Wx [q] W' ∧ Box W' q (.int .i64 (m : Nat)) 3 ∧ s ∣ m ∧ 0 < m ∧ m ≤ Nat.lcm s p ∧ KeepsFrom Wx.heap.size W0 W'

theorem in_end {s p m : Nat} (h1 : s ∣ m) (h2 : 0 < m) (h3 : m ≤ Nat.lcm s p) (h4 : p ∣ m) : m = Nat.lcm s p :=
  Nat.le_antisymm h3 (Nat.le_of_dvd h2 (Nat.lcm_dvd h1 h4))
theorem in_next {s p m : Nat} (hs : 0 < s) (h1 : s ∣ m) (h3 : m ≤ Nat.lcm s p) (h4 : ¬ p ∣ m) : m + s ≤ Nat.lcm s p := by
  obtain ⟨a, rfl⟩ := h1
  obtain ⟨b, hb⟩ := Nat.dvd_lcm_left s p
  rw [hb] at h3 ⊢
  have hab : a < b := by
    rcases Nat.lt_or_ge a b with h | h
    · exact h
    · have : s * a = s * b := Nat.le_antisymm h3 (Nat.mul_le_mul_left _ h)
      exact absurd (by rw [this, ← hb]; exact Nat.dvd_lcm_right s p) h4
  calc s * a + s = s * (a + 1) := by rw [Nat.mul_succ]
    _ ≤ s * b := Nat.mul_le_mul_left _ hab

set_option maxRecDepth 100000 in
set_option maxHeartbeats 4000000 in
theorem multiple_any {W : World} {ar : Option Addr} {nr cr : Nat} {r : List Int} (hr : Ix W (.slice ar nr cr) r) (lr : r.length ≤ 8) (h8 : ∀ k, r.getD k 0 ≤ 8) (kd cn cd : Int) :
    Calls Try.prog 56 #[DV kd (.slice ar nr cr) cn cd] W fun e w' => e = .returned (.int .i64 (mulN r nr : Nat)) ∧ Below W.heap.size W w' := by
  have hnr := hr.size
  have HB0 := Lib.hid (dbox_below W kd (.slice ar nr cr) cn cd)
  have HD0 := Lib.hid (dbox_is W kd (.slice ar nr cr) cn cd)
  have HX := Lib.hid hr
  have H8 := Lib.hid h8
  have HLE := Lib.hid (mulN_le h8)
  rw [← hnr] at lr
  obtain ⟨Z, hZ⟩ : ∃ Z, Z = mulN r nr := ⟨_, rfl⟩
  rw [← hZ]
  have HZ := Lib.hid hZ
  obtain ⟨c0, c1, c2, c3, c4, c5⟩ := HD0.out.cells
  clear hr hnr h8 hZ
  obtain ⟨W0, hW0⟩ : ∃ W0, W0 = dbox W kd (.slice ar nr cr) cn cd := ⟨_, rfl⟩
  rw [← hW0] at HB0 HD0
  have hl0 : W.heap.size < (dbox W kd (.slice ar nr cr) cn cd).heap.size := by simp
  refine (callsIn_wide (n := 6)).1 ?_
  refine callsIn_of_wp_marks Try.func56 rfl trivial ?_ rfl
  simp only [Try.ntmps56, List.size_toArray, List.length_cons, List.length_nil, Nat.reduceAdd, Nat.reduceSub, Array.replicate_succ, Array.replicate_zero, List.push_toArray, List.append_toArray, List.nil_append, List.cons_append]
  refine wpIn_wide.2 ?_
  go_wp2_with (go_at_call 34; (with_reducible refine open_k.mono ?_); rintro e w2 ⟨bD, rfl, hbD, hD2, hb2⟩)
  clear c0 c1 c2 c3 c4 c5 hl0
  refine (wpIn_wide (n := 6)).1 ?_
  have hsz := hb2.size
  simp only [World.size_alloc] at hsz hbD hb2
  have hb0 : Below (W.heap.size + 1) (dbox W kd (.slice ar nr cr) cn cd) w2 := Below.trans ((Below.refl _ _).alloc (by simp) _) (hb2.mono (by omega))
  have HQ : Hid (Box w2 (W.heap.size + 1) (.int .i64 1) 3) := Lib.hid (by
    have h := Box.new (dbox W kd (.slice ar nr cr) cn cd) (.int .i64 1) 3
    rw [dbox_size] at h
    exact h.below (by rw [World.size_alloc, dbox_size]; exact hb2))
  have HB2 : Hid (Below W.heap.size W w2) := Lib.hid (dbox_up1 hb0)
  have HD := Lib.hid hD2
  have HSZ := Lib.hid hsz
  have hne : bD ≠ W.heap.size + 1 := by omega
  have HNE := Lib.hid hne
  clear hb2 hD2 hbD hsz hne hb0 hW0 HB0 HD0
  refine' rangeFunc_steps rfl (by omega) (gf := 49) (lb := #[.pointer (some ⟨bD, 0, none⟩)]) rfl trivial (enters_of Try.func49 (by kernel_rfl) rfl)
    (open_steps Fence.wide 5 trivial rfl (by omega) bD nr cr ar r (by omega) (MuI W w2 (W.heap.size + 1) r)
      (fun k W' h => (h.1.dbox HD.out (by simpa using HNE.out)).cells.2.1)
      (fun k W' h hk => ix_keeps HX.out h.1 hk)
      (fun k W' hk hu h => ⟨h.1, by have := h.2; rw [mulN, if_neg hu]; exact this⟩)) (fun _ => rfl)
    (muI_own (by have := HB2.out.size; omega) (by have := HSZ.out; omega)) ⟨Fr.start HB2.out, HQ.out⟩ _ ?assign ?body ?done
  case assign =>
    intro y k W' K hK
    unfold opArgs
    gi_wp2
    exact hK
  case body =>
    intro y k W' hk hu hI
    have hc := hI.2.cell
    have h8 := H8.out k
    obtain ⟨s, hs⟩ : ∃ s, s = mulN r k := ⟨_, rfl⟩
    obtain ⟨x, hx⟩ : ∃ x, x = r.getD k 0 := ⟨_, rfl⟩
    obtain ⟨p, hp⟩ : ∃ p : Nat, (p : Int) = x := ⟨x.toNat, by omega⟩
    have e1 : mulN r (k + 1) = Nat.lcm s p := by rw [mulN, if_pos hu, ← hs, ← hx, ← hp]; simp
    have E1 := Lib.hid e1
    have hsp : 0 < s := by rw [hs]; exact mulN_pos k
    have hle := HLE.out (k + 1)
    rw [e1] at hle
    have h0 : InI W w2 W' (W.heap.size + 1) s p s W' := ⟨hI.1, by rw [hs]; exact hI.2, Nat.dvd_refl _, hsp, Nat.le_of_dvd (Nat.lcm_pos hsp (by omega)) (Nat.dvd_lcm_left _ _), KeepsFrom.refl _ _⟩
    have H0 := Lib.hid h0
    rw [← hs] at hc
    have hxg : rg r k = x := hx.symm
    rw [← hx] at hu h8
    rw [hxg]
    rw [← hp] at hu h8 ⊢
    clear hs hx hp e1 hI h0 hxg
    gi_wp2
    gi_loopw [] (fun wr => ∃ m : Nat, Hid (InI W w2 W' (W.heap.size + 1) s p m wr)) (fun wr => 1000 - (intOf ((wr.cell? ⟨W.heap.size + 1, 0, none⟩).getD undef)).toNat)
    case atStart => exact ⟨s, H0⟩
    case round =>
      obtain ⟨m, hm⟩ := hrel
      obtain ⟨hF, hb, hdv, h0, hle2, hkf⟩ := hm.out
      have hc2 := hb.cell
      have hfr := hb.free
      have hlt := hb.lt
      have hp0 : ¬ (p : Int) = 0 := by omega
      have ht : (m : Int).tmod (p : Int) = ((m % p : Nat) : Int) := by rw [Int.tmod_eq_emod_of_nonneg (by omega)]; rfl
      by_cases hd : p ∣ m
      · have hz : (m : Int).tmod (p : Int) = 0 := by rw [ht, Nat.mod_eq_zero_of_dvd hd]; rfl
        have em := in_end hdv h0 hle2 hd
        have HM : Hid (KeepsFrom w2.heap.size W' wr ∧ MuI W w2 (W.heap.size + 1) r (k + 1) wr) := Lib.hid ⟨hkf, hF, by rw [E1.out, ← em]; exact hb⟩
        have hz2 : (m : Int) % (p : Int) = 0 := by have := Nat.mod_eq_zero_of_dvd hd; omega
        clear hF hb hdv h0 hle2 hkf ht hd em hm
        gi_wp2
        exact HM.out
      · have hz : ¬ (m : Int).tmod (p : Int) = 0 := by
          rw [ht]
          intro h
          exact hd (Nat.dvd_of_mod_eq_zero (by omega))
        have hnx := in_next hsp hdv hle2 hd
        have hw : IntKind.i64.wrap ((m : Int) + (s : Int)) = ((m + s : Nat) : Int) := by rw [IntWalk.i64_in _ (by omega)]; omega
        have HN : Hid (InI W w2 W' (W.heap.size + 1) s p (m + s) (wr.setCell ⟨W.heap.size + 1, 0, none⟩ (.int .i64 ((m + s : Nat) : Int)))) := Lib.hid ⟨hF.set (by simp) (by omega), hb.set _, Nat.dvd_add hdv (Nat.dvd_refl _), by omega, hnx, keeps_set hkf hb⟩
        have hmm : m + s ≤ 840 := by omega
        have hz2 : ¬ (m : Int) % (p : Int) = 0 := by
          intro h
          exact hd (Nat.dvd_of_mod_eq_zero (by omega))
        clear hF hb hdv h0 hle2 hkf ht hd hm hnx
        gi_wp2
        go_roundw
        case rel => exact ⟨m + s, HN⟩
        case measure =>
          have c2 := HN.out.2.1.cell
          rw [show (m : Int) + (s : Int) = ((m + s : Nat) : Int) by omega, c2, hc2]
          simp only [Option.getD_some, intOf]
          omega
  case done =>
    intro D W' hD hI hK
    have c5 := hI.2.cell
    rw [← HZ.out] at c5
    have HF := Lib.hid hI.1
    have HK := Lib.hid hK
    have HDD := Lib.hid hD
    clear hI hK hD
    go_wp2
    refine ⟨by simp, .inl ⟨_, _, rfl, run_takeDeferred HK.out, ?_⟩⟩
    exact ⟨_, results_tmp rfl _ _ _, rfl, HF.out.b.grown (grownBy_putObj' _ D _) HF.out.b.size (fun j e => by cases e; have := HDD.out; have := HB2.out.size; omega)⟩

end Go.Proofs.Ytcpgoaombabfjaa

namespace Go.Proofs.Ytcpgoaombabfjaa
open Go Go.RowKit

section

variable {F : Fence} {n : Nat} {P : Program} {ops : Array Oper} {Q : Exit → Act → World → Prop} {md : Region.Mode}

def left (l : Array Bool) : Nat := (l.toList.filter (!·)).length

theorem left_zero {l : Array Bool} (h : left l = 0) (j : Nat) : l.getD j true = true := by
  have h0 : l.toList.filter (!·) = [] := List.eq_nil_of_length_eq_zero h
  by_cases hj : j < l.size
  · have hm : l[j] ∈ l.toList := by simp
    have := List.filter_eq_nil_iff.1 h0 _ hm
    simpa [Array.getD, hj] using this
  · simp [Array.getD, hj]

theorem filter_set : ∀ (l : List Bool) (i : Nat), l[i]? = some false → ((l.set i true).filter (!·)).length + 1 = (l.filter (!·)).length := by
  intro l
  induction l with
  | nil => intro i h; simp at h
  | cons b l ih =>
    intro i h
    cases i with
    | zero => simp at h; subst h; simp
    | succ i =>
      have := ih i (by simpa using h)
      cases b <;> simp only [List.set_cons_succ, List.filter_cons] <;> simp <;> omega

theorem left_set {l : Array Bool} {i : Nat} (h : l.getD i true = false) : left (l.setIfInBounds i true) + 1 = left l := by
  unfold left
  have hi : i < l.size := by
    by_cases hi : i < l.size
    · exact hi
    · simp [Array.getD, hi] at h
  rw [Array.toList_setIfInBounds]
  apply filter_set
  simp [Array.getD, hi] at h
  simp [hi, h]

theorem any_inv (R : Array Bool → Act → World → Prop)
    (hstep : ∀ l a w i, R l a w → i ∈ Region.ready md ops l → wpOpIn F n P ops Q i (R (l.setIfInBounds i true)) a w)
    (hend : ∀ l a w, R l a w → Region.ready md ops l = [] → Q .normal a w) :
    ∀ (fuel : Nat) (l : Array Bool) (a : Act) (w : World), left l ≤ fuel → R l a w → wpAnyIn F n P md ops Q fuel l a w := by
  intro fuel
  induction fuel with
  | zero =>
    intro l a w hl hr
    have hz : Region.ready md ops l = [] := by
      apply List.eq_nil_iff_forall_not_mem.2
      intro j hj
      have := (mem_ready.1 hj).1
      rw [left_zero (by omega)] at this
      cases this
    exact ⟨hz, hend l a w hr hz⟩
  | succ fuel ih =>
    intro l a w hl hr
    refine ⟨fun hz => hend l a w hr hz, fun i hi => ?_⟩
    refine wpOpIn_mono (fun a' w' hr' => ih _ a' w' ?_ hr') (hstep l a w i hr hi)
    have := left_set (mem_ready.1 hi).1
    omega

/-- **A region that draws, by what holds behind each set of its operations.** -/
theorem region_inv {id : Nat} {a : Act} {w : World} (hm : P.follows .mixedOrders = true) (R : Array Bool → Act → World → Prop)
    (h0 : R (Array.replicate ops.size false) a w.drew)
    (hstep : ∀ l a w i, R l a w → i ∈ Region.ready .any ops l → wpOpIn F n P ops Q i (R (l.setIfInBounds i true)) a w)
    (hend : ∀ l a w, R l a w → Region.ready .any ops l = [] → Q .normal a w) : (Code.region id ops true).wpIn F n P Q a w := by
  refine wpIn_region_any hm (any_inv R hstep hend _ _ _ _ ?_ h0)
  unfold left
  rw [Array.toList_replicate]
  exact Nat.le_trans (List.length_filter_le _ _) (by simp)

/-- The frame when the operations of l are done: each one's slot holds its value, whatever else is as it was. -/
structure FrT (own : Nat → Option (Nat × Value)) (T : Array Value) (l : Array Bool) (a : Act) : Prop where
  defers : a.defers = []
  size : a.tmps.size = T.size
  slot : ∀ j, j < T.size → a.tmps.getD j undef = match own j with
    | some (i, v) => if l.getD i true = true then v else T.getD j undef
    | none => T.getD j undef

theorem FrT.start (own : Nat → Option (Nat × Value)) (T : Array Value) (l : Array Bool) (h : ∀ j i v, own j = some (i, v) → l.getD i true = false) : FrT own T l ⟨T, []⟩ :=
  ⟨rfl, rfl, fun j _ => by
    cases ho : own j with
    | none => rfl
    | some p => obtain ⟨i, v⟩ := p; simp only []; rw [h j i v ho]; rfl⟩

/-- An operation with a slot of its own. -/
theorem FrT.put {own : Nat → Option (Nat × Value)} {T : Array Value} {l : Array Bool} {a : Act} (h : FrT own T l a) {i d : Nat} {v : Value} (hd : own d = some (i, v)) (hi : i < l.size) (hu : ∀ j p, own j = some p → p.1 = i → j = d) : FrT own T (l.setIfInBounds i true) (a.put (some d) v) := by
  refine ⟨h.defers, by simp [Act.put, h.size], fun j hj => ?_⟩
  have hs := h.slot j hj
  by_cases hjd : j = d
  · subst hjd
    have hsz : j < a.tmps.size := by rw [h.size]; exact hj
    simp [Act.put, Array.getD, hsz, hd, hi]
  · have e1 : (a.put (some d) v).tmps.getD j undef = a.tmps.getD j undef := by
      simp only [Act.put, Array.getD_eq_getD_getElem?]
      rw [Array.getElem?_setIfInBounds_ne (by omega)]
    rw [e1, hs]
    cases ho : own j with
    | none => rfl
    | some p =>
      obtain ⟨k, u⟩ := p
      simp only []
      have hk : k ≠ i := fun e => hjd (hu j _ ho e)
      rw [getD_set_ne true (by omega)]

/-- An operation without one. -/
theorem FrT.bare {own : Nat → Option (Nat × Value)} {T : Array Value} {l : Array Bool} {a : Act} (h : FrT own T l a) {i : Nat} (v : Value) (hu : ∀ j p, own j = some p → p.1 ≠ i) : FrT own T (l.setIfInBounds i true) (a.put none v) := by
  refine ⟨h.defers, h.size, fun j hj => ?_⟩
  show a.tmps.getD j undef = _
  rw [h.slot j hj]
  cases ho : own j with
  | none => rfl
  | some p =>
    obtain ⟨k, u⟩ := p
    simp only []
    rw [getD_set_ne true (fun e => hu j _ ho e.symm)]

/-- What a slot holds whose operation is done. -/
theorem FrT.done {own : Nat → Option (Nat × Value)} {T : Array Value} {l : Array Bool} {a : Act} (h : FrT own T l a) {i j : Nat} {v : Value} (hd : own j = some (i, v)) (hl : l.getD i false = true) (hj : j < T.size) : a.tmps.getD j undef = v := by
  have hl' : l.getD i true = true := by
    have hi : i < l.size := by
      by_cases hi : i < l.size
      · exact hi
      · simp [Array.getD, hi] at hl
    simp [Array.getD, hi] at hl ⊢
    exact hl
  rw [h.slot j hj, hd]
  simp only []
  rw [if_pos hl']

/-- What a slot holds that is none of the region's. -/
theorem FrT.kept {own : Nat → Option (Nat × Value)} {T : Array Value} {l : Array Bool} {a : Act} (h : FrT own T l a) {j : Nat} (hd : own j = none) (hj : j < T.size) : a.tmps.getD j undef = T.getD j undef := by
  rw [h.slot j hj, hd]

/-- The frame when all is done. -/
theorem FrT.all {own : Nat → Option (Nat × Value)} {T T' : Array Value} {l : Array Bool} {a : Act} (h : FrT own T l a) (hl : ∀ j i v, own j = some (i, v) → l.getD i true = true) (hs : T'.size = T.size)
    (ht : ∀ j, j < T.size → T'.getD j undef = match own j with | some (_, v) => v | none => T.getD j undef) : a = ⟨T', []⟩ := by
  obtain ⟨tmps, defers⟩ := a
  obtain ⟨h1, h2, h3⟩ := h
  simp only at h1 h2 h3
  subst h1
  congr 1
  apply Array.ext
  · rw [h2, hs]
  · intro j hj1 hj2
    have e := h3 j (by omega)
    have e' := ht j (by omega)
    have x1 : tmps.getD j undef = tmps[j] := by simp [Array.getD, hj1]
    have x2 : T'.getD j undef = T'[j] := by simp [Array.getD, hj2]
    rw [← x1, ← x2, e, e']
    cases ho : own j with
    | none => rfl
    | some p => obtain ⟨i, v⟩ := p; simp only []; rw [hl j i v ho]; rfl


end

theorem getD_true {l : Array Bool} {j : Nat} (h : l.getD j false = true) : l.getD j true = true := by
  by_cases hj : j < l.size
  · simp [Array.getD, hj] at h ⊢
    exact h
  · simp [Array.getD, hj] at h

theorem FrT.swap {own own' : Nat → Option (Nat × Value)} {T : Array Value} {l : Array Bool} {a : Act} (h : FrT own T l a)
    (h1 : ∀ j p, own' j = some p → l.getD p.1 true = true → own j = some p) (h2 : ∀ j p, own j = some p → l.getD p.1 true = true → own' j = some p) : FrT own' T l a := by
  refine ⟨h.defers, h.size, fun j hj => ?_⟩
  have hs := h.slot j hj
  cases ho' : own' j with
  | none =>
    cases ho : own j with
    | none => rw [ho] at hs; exact hs
    | some p =>
      rw [ho] at hs
      obtain ⟨i, v⟩ := p
      simp only [] at hs ⊢
      by_cases hd : l.getD i true = true
      · have := h2 j _ ho hd
        rw [ho'] at this
        cases this
      · rw [if_neg hd] at hs; exact hs
  | some p =>
    obtain ⟨i, v⟩ := p
    simp only []
    by_cases hd : l.getD i true = true
    · have := h1 j _ ho' hd
      rw [this] at hs
      simp only [] at hs
      exact hs
    · rw [if_neg hd]
      cases ho : own j with
      | none => rw [ho] at hs; exact hs
      | some q =>
        obtain ⟨i2, v2⟩ := q
        rw [ho] at hs
        simp only [] at hs
        by_cases hd2 : l.getD i2 true = true
        · have := h2 j _ ho hd2
          rw [ho'] at this
          cases this
          exact absurd hd2 hd
        · rw [if_neg hd2] at hs; exact hs

theorem gset_true {l : Array Bool} {i j : Nat} (h : (l.setIfInBounds i true).getD j true = true) : j = i ∨ l.getD j true = true := by
  by_cases e : j = i
  · exact .inl e
  · rw [getD_set_ne true (fun h => e h.symm)] at h
    exact .inr h
theorem gset_false {l : Array Bool} {i j : Nat} (h : (l.setIfInBounds i true).getD j true = false) : j ≠ i ∧ l.getD j true = false := by
  by_cases e : j = i
  · subst e
    simp [Array.getD] at h
  · rw [getD_set_ne true (fun h => e h.symm)] at h
    exact ⟨e, h⟩
theorem gset_old {l : Array Bool} {i j : Nat} (h : l.getD j true = true) : (l.setIfInBounds i true).getD j true = true := by
  by_cases e : j = i
  · subst e
    simp [Array.getD]
  · rw [getD_set_ne true (fun h => e h.symm)]; exact h

/-- The slot that each operation writes, and what it holds. -/
def tOwn (ds : List (Option Nat)) (vals : Nat → Value) (j : Nat) : Option (Nat × Value) :=
  match ds.findIdx? (fun x => x == some j) with
  | some i => some (i, vals i)
  | none => none

theorem tOwn_some {ds : List (Option Nat)} {vals : Nat → Value} {j i : Nat} (h : ds.findIdx? (fun x => x == some j) = some i) : tOwn ds vals j = some (i, vals i) := by
  unfold tOwn
  rw [h]
theorem tOwn_inv {ds : List (Option Nat)} {vals : Nat → Value} {j : Nat} {p : Nat × Value} (h : tOwn ds vals j = some p) : ds[p.1]? = some (some j) ∧ p.2 = vals p.1 := by
  unfold tOwn at h
  split at h
  · rename_i i hi
    cases h
    rw [List.findIdx?_eq_some_iff_getElem] at hi
    obtain ⟨h1, h2, _⟩ := hi
    exact ⟨by rw [List.getElem?_eq_getElem h1]; rw [beq_iff_eq] at h2; rw [h2], rfl⟩
  · cases h


section
variable {ds : List (Option Nat)} {vals : Nat → Value} {T : Array Value} {l : Array Bool} {a : Act}
theorem FrT.stepT (h : FrT (tOwn ds vals) T l a) {i d : Nat} (hd : ds.findIdx? (fun x => x == some d) = some i) (hi : i < l.size) (hl : l.getD i true = false) (v : Value) :
    FrT (tOwn ds (fun u => if u = i then v else vals u)) T (l.setIfInBounds i true) (a.put (some d) v) := by
  have hf : FrT (tOwn ds (fun u => if u = i then v else vals u)) T l a := h.swap
    (fun j p hp hq => by
      obtain ⟨h1, h2⟩ := tOwn_inv hp
      have hne : p.1 ≠ i := fun e => by rw [e, hl] at hq; cases hq
      simp only [hne, if_false] at h2
      unfold tOwn at hp ⊢
      split at hp
      · cases hp; simp only [] at h2 ⊢; rw [h2]
      · cases hp)
    (fun j p hp hq => by
      obtain ⟨h1, h2⟩ := tOwn_inv hp
      have hne : p.1 ≠ i := fun e => by rw [e, hl] at hq; cases hq
      unfold tOwn at hp ⊢
      split at hp
      · cases hp; simp only [hne, if_false]
      · cases hp)
  refine hf.put (by rw [tOwn_some hd, if_pos rfl]) hi (fun j p hp e => ?_)
  obtain ⟨h1, _⟩ := tOwn_inv hp
  rw [List.findIdx?_eq_some_iff_getElem] at hd
  obtain ⟨h2, h3, _⟩ := hd
  rw [beq_iff_eq] at h3
  rw [e, List.getElem?_eq_getElem h2, h3] at h1
  cases h1
  rfl
end


theorem dep_set {i : Nat} {ch : List (Nat × Nat)} {l : Array Bool} (h : ∀ i j, (i, j) ∈ ch → l.getD i true = true → l.getD j true = true) (hc : ∀ j, (i, j) ∈ ch → l.getD j true = true) : ∀ k j, (k, j) ∈ ch → (l.setIfInBounds i true).getD k true = true → (l.setIfInBounds i true).getD j true = true := by
  intro k j hm hk
  rcases gset_true hk with e | hk
  · subst e; exact gset_old (hc j hm)
  · exact gset_old (h k j hm hk)

/-- A region by what each operation's result is, and what the world is. -/
structure RG (ch : List (Nat × Nat)) (T : Array Value) (ds : List (Option Nat)) (Wd : Array Bool → World → Prop) (V : Nat → Value → World → Prop) (vals : Nat → Value) (l : Array Bool) (a : Act) (w : World) : Prop where
  size : l.size = ds.length
  fr : FrT (tOwn ds vals) T l a
  dep : ∀ i j, (i, j) ∈ ch → l.getD i true = true → l.getD j true = true
  wd : Wd l w
  vl : ∀ i, i < ds.length → l.getD i true = true → V i (vals i) w

section
variable {ch : List (Nat × Nat)} {T : Array Value} {ds : List (Option Nat)} {Wd : Array Bool → World → Prop} {V : Nat → Value → World → Prop} {vals : Nat → Value} {l : Array Bool} {a : Act} {w w' : World}

theorem RG.no (h : RG ch T ds Wd V vals l a w) {i s : Nat} (hl : l.getD i true = false) (hr : l.getD s true = true → l.getD i true = true) : l.getD s true = false := by
  cases hs : l.getD s true with
  | false => rfl
  | true => rw [hr hs] at hl; cases hl

theorem RG.get (h : RG ch T ds Wd V vals l a w) {i j : Nat} (hd : ds.findIdx? (fun x => x == some j) = some i) (hl : l.getD i false = true) (hj : j < T.size) : a.tmps.getD j undef = vals i := h.fr.done (tOwn_some hd) hl hj

/-- An operation that writes a slot. -/
theorem RG.op (h : RG ch T ds Wd V vals l a w) (i d : Nat) (v : Value) (hd : ds.findIdx? (fun x => x == some d) = some i) (hi : i < ds.length) (hl : l.getD i true = false) (hc : ∀ j, (i, j) ∈ ch → l.getD j true = true)
    (hW : Wd (l.setIfInBounds i true) w') (hS : ∀ j u, V j u w → V j u w') (hV : V i v w') :
    ∃ vals, RG ch T ds Wd V vals (l.setIfInBounds i true) (a.put (some d) v) w' := by
  refine ⟨fun u => if u = i then v else vals u, by rw [Array.size_setIfInBounds]; exact h.size, h.fr.stepT hd (by rw [h.size]; exact hi) hl v, dep_set h.dep hc, hW, fun j hj hs => ?_⟩
  by_cases e : j = i
  · subst e; rw [if_pos rfl]; exact hV
  · simp only [e, if_false]
    rcases gset_true hs with e2 | hs
    · exact absurd e2 e
    · exact hS _ _ (h.vl j hj hs)

/-- An operation that writes none. -/
theorem RG.bare (h : RG ch T ds Wd V vals l a w) (i : Nat) (v : Value) (hds : ds[i]? = some none) (hl : l.getD i true = false) (hc : ∀ j, (i, j) ∈ ch → l.getD j true = true)
    (hW : Wd (l.setIfInBounds i true) w') (hS : ∀ j u, V j u w → V j u w') (hV : ∀ u, V i u w') :
    ∃ vals, RG ch T ds Wd V vals (l.setIfInBounds i true) (a.put none v) w' := by
  refine ⟨vals, by rw [Array.size_setIfInBounds]; exact h.size, h.fr.bare v (fun j p hp e => ?_), dep_set h.dep hc, hW, fun j hj hs => ?_⟩
  · obtain ⟨e1, _⟩ := tOwn_inv hp
    rw [e, hds] at e1
    cases e1
  · by_cases e : j = i
    · subst e; exact hV _
    · rcases gset_true hs with e2 | hs
      · exact absurd e2 e
      · exact hS _ _ (h.vl j hj hs)

theorem RG.start (hT : l = Array.replicate ds.length false) (hch : ∀ i j, (i, j) ∈ ch → i < ds.length) (hW : Wd l w) : ∃ vals, RG ch T ds Wd V vals l ⟨T, []⟩ w := by
  have hf : ∀ j, j < ds.length → l.getD j true = false := fun j hj => by rw [hT]; simp [Array.getD, hj]
  refine ⟨fun _ => undef, by rw [hT]; simp, FrT.start _ _ _ (fun j i v h => hf i ?_), fun i j hm h => ?_, hW, fun i hi hl => ?_⟩
  · obtain ⟨h1, _⟩ := tOwn_inv h
    exact (List.getElem?_eq_some_iff.1 h1).1
  · rw [hf _ (hch _ _ hm)] at h
    cases h
  · rw [hf _ hi] at hl
    cases hl
end

theorem gset_self {l : Array Bool} {i : Nat} : (l.setIfInBounds i true).getD i true = true := by simp [Array.getD]
theorem gset_ne {l : Array Bool} {i j : Nat} (h : j ≠ i) : (l.setIfInBounds i true).getD j true = l.getD j true := getD_set_ne true (fun e => h e.symm)

theorem RG.all {ch : List (Nat × Nat)} {T : Array Value} {ds : List (Option Nat)} {Wd : Array Bool → World → Prop} {V : Nat → Value → World → Prop} {vals : Nat → Value} {l : Array Bool} {a : Act} {w : World} (h : RG ch T ds Wd V vals l a w) (hl : ∀ i, i < ds.length → l.getD i true = true) {T' : Array Value} (hT : T'.size = T.size)
    (ht : ∀ j, j < T.size → T'.getD j undef = match tOwn ds vals j with | some (_, v) => v | none => T.getD j undef) : a = ⟨T', []⟩ :=
  h.fr.all (fun j i v hj => hl i (List.getElem?_eq_some_iff.1 (tOwn_inv hj).1).1) hT ht

theorem rv_sets (T : Array Value) (i j : Nat) (v : Value) : (T.setIfInBounds i v).getD j undef = if i = j ∧ i < T.size then v else T.getD j undef := by
  by_cases h : i = j
  · subst h
    by_cases h2 : i < T.size
    · simp [Array.getD, h2]
    · simp [Array.getD, h2]
  · rw [if_neg (fun e => h e.1)]
    simp only [Array.getD_eq_getD_getElem?]
    rw [Array.getElem?_setIfInBounds_ne h]

theorem frame_namedIn {F : Fence} {n : Nat} {P : Program} {c : Code} {Q : Exit → Act → World → Prop} {T0 : Array Value} {w : World} (h : ∀ T, T = T0 → c.wpIn F n P Q ⟨T, []⟩ w) : c.wpIn F n P Q ⟨T0, []⟩ w := h T0 rfl


end Go.Proofs.Ytcpgoaombabfjaa
