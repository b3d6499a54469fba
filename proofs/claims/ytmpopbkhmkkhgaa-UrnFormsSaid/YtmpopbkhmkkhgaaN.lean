/- Contract: the law's sanity. No condition. -/
import Derived.Test.YtmpopbkhmkkhgaaM2
import Derived.Deep.CutRange
namespace Go.Proofs.Ytmpopbkhmkkhgaa
open Go.RowKit

abbrev rS : List Int := [1, 2, 0]
theorem sn_1 : balV rS 3 [] = rS := by decide
theorem sn_2 : balV rS 3 [4, 2, 7] = [4, 2, 7] := by decide
theorem sn_3 : balV rS 3 [4, 2] = [] := by decide
theorem sn_4 : balV rS 3 [4, -1, 0] = [] := by decide
theorem sn_5 : balV rS 9 [] = [] := by decide
theorem sn_6 : chV rS 3 [] = [(1, 0, 0), (2, 0, 1)] := by decide
theorem sn_7 : chV rS 3 [4, 0, 7] = [(4, 0, 0)] := by decide
theorem sn_8 : nxB rS 3 [] (1, 0, 0) = true ∧ nxV rS 3 [] (1, 0, 0) = [1, 5, 0] := by decide
theorem sn_9 : nxB rS 3 [1, 5, 0] (5, 0, 1) = true ∧ nxV rS 3 [1, 5, 0] (5, 0, 1) = [4, 5, 0] := by decide
theorem sn_10 : nxB rS 3 [] (1, 0, 1) = false := by decide
theorem sn_11 : nxB rS 3 [] (0, 0, 2) = false := by decide
theorem sn_12 : nxB rS 3 [] (2, 1, 1) = false := by decide
theorem sn_13 : nxB rS 3 [1048576, 1, 0] (1, 0, 1) = false := by decide

theorem ix_of2 {W : World} {g : Nat} {a b : Int} (h : W.heap[g]? = some (.cells #[.int .i64 a, .int .i64 b] 3 (0, 0))) (ha : I64 a) (hb : I64 b) : Ix W (.slice (some ⟨g, 0, none⟩) 2 2) [a, b] := by
  refine ⟨by simp [maxLen], fun i => ?_, .inr ⟨g, 0, 2, rfl, Nat.le_refl _, (Array.getElem?_eq_some_iff.1 h).1, fun i hi => ?_⟩⟩
  · match i with
    | 0 => exact ha
    | 1 => exact hb
    | n + 2 => simp; decide
  · rw [cell_of_row _ _ _ _ _ _ h]
    match i, hi with
    | 0, _ => rfl
    | 1, _ => rfl
theorem ix_of3 {W : World} {g : Nat} {a b c : Int} (h : W.heap[g]? = some (.cells #[.int .i64 a, .int .i64 b, .int .i64 c] 3 (0, 0))) (ha : I64 a) (hb : I64 b) (hc : I64 c) : Ix W (.slice (some ⟨g, 0, none⟩) 3 3) [a, b, c] := by
  refine ⟨by simp [maxLen], fun i => ?_, .inr ⟨g, 0, 3, rfl, Nat.le_refl _, (Array.getElem?_eq_some_iff.1 h).1, fun i hi => ?_⟩⟩
  · match i with
    | 0 => exact ha
    | 1 => exact hb
    | 2 => exact hc
    | n + 3 => simp; decide
  · rw [cell_of_row _ _ _ _ _ _ h]
    match i, hi with
    | 0, _ => rfl
    | 1, _ => rfl
    | 2, _ => rfl

theorem cx_of {W : World} {g n : Nat} {l : List Ch} (h : W.heap[g]? = some (.cells (chs l).toArray 29 (0, 0))) (hn : n = l.length) (hl : n ≤ 100) (hf : ∀ c ∈ l, I64 c.1 ∧ I64 c.2.1 ∧ I64 c.2.2) : Cx W (.slice (some ⟨g, 0, none⟩) n n) l := by
  subst hn
  exact OwC.cx (B := 0) (n := l.length) ⟨by rw [chs_len], .inr ⟨g, l.length, _, rfl, Nat.zero_le _, h, Nat.le_refl _, by unfold maxLen; omega, by simp [chs_len], by simp [← chs_len]⟩⟩ (by omega) (fit_of hf)

/-- The world when all is laid. -/
abbrev snW (W : World) : World := ((W.alloc (.cells #[.int .i64 1, .int .i64 2, .int .i64 0] 3)).alloc (.cells #[.int .i64 0, .slice (some ⟨W.heap.size, 0, none⟩) 3 3, .slice none 0 0, .int .i64 3, .int .i64 0, .int .i64 0] 27)).alloc (.cells #[.int .i64 0, .slice (some ⟨W.heap.size, 0, none⟩) 3 3, .slice none 0 0, .int .i64 9, .int .i64 0, .int .i64 0] 27)

/-- What lies there. -/
structure SnI (W W4 : World) (hr hd he : Nat) : Prop where
  r : Ix W4 (.slice (some ⟨hr, 0, none⟩) 3 3) rS
  d : DBox W4 hd 0 (.slice (some ⟨hr, 0, none⟩) 3 3) 3
  e : DBox W4 he 0 (.slice (some ⟨hr, 0, none⟩) 3 3) 9
  b : Below W.heap.size W W4

theorem sn_start (W : World) : SnI W (snW W) W.heap.size (W.heap.size + 1) (W.heap.size + 1 + 1) := by
  have e : ∀ k, (snW W).heap[k]? = if k = W.heap.size + 2 then some (.cells #[.int .i64 0, .slice (some ⟨W.heap.size, 0, none⟩) 3 3, .slice none 0 0, .int .i64 9, .int .i64 0, .int .i64 0] 27) else if k = W.heap.size + 1 then some (.cells #[.int .i64 0, .slice (some ⟨W.heap.size, 0, none⟩) 3 3, .slice none 0 0, .int .i64 3, .int .i64 0, .int .i64 0] 27) else if k = W.heap.size then some (.cells #[.int .i64 1, .int .i64 2, .int .i64 0] 3) else W.heap[k]? := fun k => by
    simp only [snW, World.alloc, Array.getElem?_push, Array.size_push]
  refine ⟨ix_of3 ?_ (by decide) (by decide) (by decide), ?_, ?_, ?_⟩
  · rw [e, if_neg (by omega), if_neg (by omega), if_pos rfl]
  · rw [DBox, e, if_neg (by omega), if_pos rfl]
  · rw [DBox, e, if_pos rfl]
  · exact (((Below.refl _ W).alloc (Nat.le_refl _) _).alloc (by simp) _).alloc (by simp; omega) _

abbrev dS (hr : Nat) (a : Int) : Value := DV 0 (.slice (some ⟨hr, 0, none⟩) 3 3) a

theorem same_yes {w : World} {va vb : Value} {a : List Ch} (ha : Cx w va a) (hb : Cx w vb a) : Calls Try.prog 16 #[va, vb] w fun e w' => e = .returned (.bool true) ∧ Below w.heap.size w w' := by
  have := same_any ha hb
  rwa [decide_eq_true rfl] at this
theorem sameInts_yes {w : World} {va vb : Value} {a : List Int} (ha : Ix w va a) (hb : Ix w vb a) : Calls Try.prog 12 #[va, vb] w fun e w' => e = .returned (.bool true) ∧ Below w.heap.size w w' := by
  have := sameInts_any ha hb
  rwa [decide_eq_true rfl] at this

theorem two_last2 (w : World) (A B : Obj) : ((w.alloc A).alloc B).heap[w.heap.size + 1]? = some B := by
  have := heap_alloc_new (w.alloc A) B
  rw [World.size_alloc] at this
  exact this
theorem two_first2 (w : World) (A B : Obj) : ((w.alloc B).alloc A).heap[w.heap.size]? = some B :=
  (Below.heap_alloc (w.alloc B) A w.heap.size (by simp)).trans (heap_alloc_new _ _)

section
variable {W W4 : World} {hr hd he : Nat} (h : SnI W W4 hr hd he)
include h

theorem sn_balls {a : Int} {W' : World} (hb : Below W4.heap.size W4 W') {aw : Option Addr} {nw cw : Nat} {row : List Int} (hx : Ix W' (.slice aw nw cw) row) (lw : row.length ≤ 8) {L : List Int} {m : Nat} (hL : balV rS a row = L) (hm : m = L.length) :
    Calls Try.prog 13 #[dS hr a, .slice aw nw cw] W' fun e w' => ∃ ao cap, e = .returned (.slice ao m cap) ∧ Ix w' (.slice ao m cap) L ∧ Below W4.heap.size W4 w' ∧ Below W'.heap.size W' w' := by
  refine (balls_any (h.r.below hb) hx (by decide) lw 0 a).mono fun e w' ⟨ao, n, cap, h1, h2, h3⟩ => ?_
  have hn := owI_len h2
  have hc := h2.bx (by decide)
  rw [hL] at hn hc
  rw [hn, ← hm] at h1 hc
  exact ⟨ao, cap, h1, hc, hb.trans (h3.mono hb.size), h3⟩
theorem sn_choices {W' : World} (hb : Below W4.heap.size W4 W') {aw : Option Addr} {nw cw : Nat} {row : List Int} (hx : Ix W' (.slice aw nw cw) row) (lw : row.length ≤ 8) {L : List Ch} {m : Nat} (hL : chV rS 3 row = L) (hm : m = L.length) :
    Calls Try.prog 17 #[dS hr 3, .slice aw nw cw] W' fun e w' => ∃ ao cap, e = .returned (.slice ao m cap) ∧ Cx w' (.slice ao m cap) L ∧ Below W4.heap.size W4 w' := by
  refine (choices_any (h.r.below hb) hx (by decide) lw 0 3).mono fun e w' ⟨ao, n, cap, h1, h2, h3⟩ => ?_
  have hn := owC_len h2
  have hc := h2.chx (by decide)
  rw [hL] at hn hc
  rw [hn, ← hm] at h1 hc
  exact ⟨ao, cap, h1, hc, hb.trans (h3.mono hb.size)⟩
theorem sn_goes {W' : World} (hb : Below W4.heap.size W4 W') {aw at' : Option Addr} {nw cw nt ct : Nat} {row want : List Int} (hx : Ix W' (.slice aw nw cw) row) (ht : Ix W' (.slice at' nt ct) want) (lw : row.length ≤ 8) {x y z : Int} (hL : nxB rS 3 row (x, y, z) = true ∧ nxV rS 3 row (x, y, z) = want) :
    Calls Try.prog 22 #[dS hr 3, .slice aw nw cw, .agg #[.int .i64 x, .int .i64 y, .int .i64 z], .slice at' nt ct] W' fun e w' => e = .returned (.bool true) ∧ Below W4.heap.size W4 w' := by
  refine (goes_any (h.r.below hb) hx ht (by decide) lw 0 3 x y z).mono fun e w' ⟨h1, h3⟩ => ?_
  rw [hL.1, decide_eq_true hL.2] at h1
  exact ⟨h1, hb.trans (h3.mono hb.size)⟩
theorem sn_refused {W' : World} (hb : Below W4.heap.size W4 W') {aw : Option Addr} {nw cw : Nat} {row : List Int} (hx : Ix W' (.slice aw nw cw) row) (lw : row.length ≤ 8) {x y z : Int} (hL : nxB rS 3 row (x, y, z) = false) :
    Calls Try.prog 23 #[dS hr 3, .slice aw nw cw, .agg #[.int .i64 x, .int .i64 y, .int .i64 z]] W' fun e w' => e = .returned (.bool true) ∧ Below W4.heap.size W4 w' := by
  refine (refused_any (h.r.below hb) hx (by decide) lw 0 3 x y z hL).mono fun e w' ⟨h1, h3⟩ => ?_
  exact ⟨h1, hb.trans (h3.mono hb.size)⟩
end

set_option maxRecDepth 100000 in
set_option maxHeartbeats 8000000 in
theorem sanity_any (W : World) : Calls Try.prog 8 #[] W fun e w' => e = .returned (.bool true) ∧ Below W.heap.size W w' := by
  obtain ⟨W4, hW4⟩ : ∃ W4, W4 = snW W := ⟨_, rfl⟩
  have hst := sn_start W
  rw [← hW4] at hst
  have HW4 := Lib.hid hW4
  have HST := Lib.hid hst
  clear hst hW4
  go_enter Try.func8, Try.ntmps8
  go_upto_region 3 with fail
  change Code.wp _ _ _ _ (snW W)
  rw [← HW4.out]
  clear HW4
  have HNW := Lib.hid HST.out.b
  revert HST
  generalize W.heap.size + 1 + 1 = he
  generalize W.heap.size + 1 = hd
  generalize W.heap.size = hr
  intro HST
  have HB := Lib.hid (Below.refl W4.heap.size W4)
  have HD := Lib.hid (fun W' (hb : Below W4.heap.size W4 W') => (HST.out.d.below hb).cells)
  have HE := Lib.hid (fun W' (hb : Below W4.heap.size W4 W') => (HST.out.e.below hb).cells)
  have HDE := Lib.hid (fun W' (hb : Below W4.heap.size W4 W') => And.intro (HD.out W' hb) (HE.out W' hb))
  have B1 := Lib.hid (fun W' (hb : Below W4.heap.size W4 W') => sn_balls HST.out hb (Ix.nil W') (by decide) (m := 3) sn_1 rfl)
  have B2 := Lib.hid (fun W' b (hb : Below W4.heap.size W4 W') (h : W'.heap[b]? = some (Obj.cells #[.int .i64 4, .int .i64 2, .int .i64 7] 3 (0, 0))) => sn_balls HST.out hb (ix_of3 h (by decide) (by decide) (by decide)) (by decide) (m := 3) sn_2 rfl)
  have B3 := Lib.hid (fun W' b (hb : Below W4.heap.size W4 W') (h : W'.heap[b]? = some (Obj.cells #[.int .i64 4, .int .i64 2] 3 (0, 0))) => sn_balls HST.out hb (ix_of2 h (by decide) (by decide)) (by decide) (m := 0) sn_3 rfl)
  have B4 := Lib.hid (fun W' b (hb : Below W4.heap.size W4 W') (h : W'.heap[b]? = some (Obj.cells #[.int .i64 4, .int .i64 (-1), .int .i64 0] 3 (0, 0))) => sn_balls HST.out hb (ix_of3 h (by decide) (by decide) (by decide)) (by decide) (m := 0) sn_4 rfl)
  have B5 := Lib.hid (fun W' (hb : Below W4.heap.size W4 W') => sn_balls HST.out hb (Ix.nil W') (by decide) (m := 0) sn_5 rfl)
  have S1 := Lib.hid (fun W' v (hb : Below W4.heap.size W4 W') (hv : Ix W' v rS) => sameInts_yes hv (HST.out.r.below hb))
  have S2 := Lib.hid (fun W' v b (hv : Ix W' v [4, 2, 7]) (h : W'.heap[b]? = some (Obj.cells #[.int .i64 4, .int .i64 2, .int .i64 7] 3 (0, 0))) => sameInts_yes hv (ix_of3 h (by decide) (by decide) (by decide)))
  go_cut [3] from 3 to 97 (fun sv wx => sv = .bool true ∧ Hid (Below W4.heap.size W4 wx))
  case first =>
    have hb0 := HB.out
    have hl4 : hd < W4.heap.size := (Array.getElem?_eq_some_iff.1 HST.out.d).1
    have hl5 : he < W4.heap.size := (Array.getElem?_eq_some_iff.1 HST.out.e).1
    obtain ⟨⟨k0, k1, k2, k3, k4, k5⟩, j0, j1, j2, j3, j4, j5⟩ := HDE.out _ hb0
    go_region_held3 (fun W' => (W'.cell? ⟨hd, 0, none⟩ = some (.int .i64 0) ∧ W'.cell? ⟨hd, 1, none⟩ = some (.slice (some ⟨hr, 0, none⟩) 3 3) ∧ W'.cell? ⟨hd, 2, none⟩ = some (.slice none 0 0) ∧ W'.cell? ⟨hd, 3, none⟩ = some (.int .i64 3) ∧ W'.cell? ⟨hd, 4, none⟩ = some (.int .i64 0) ∧ W'.cell? ⟨hd, 5, none⟩ = some (.int .i64 0)) ∧ (W'.cell? ⟨he, 0, none⟩ = some (.int .i64 0) ∧ W'.cell? ⟨he, 1, none⟩ = some (.slice (some ⟨hr, 0, none⟩) 3 3) ∧ W'.cell? ⟨he, 2, none⟩ = some (.slice none 0 0) ∧ W'.cell? ⟨he, 3, none⟩ = some (.int .i64 9) ∧ W'.cell? ⟨he, 4, none⟩ = some (.int .i64 0) ∧ W'.cell? ⟨he, 5, none⟩ = some (.int .i64 0)))
      (first | (with_reducible exact HDE.out _ hb7) | (with_reducible exact HDE.out _ hb6) | (with_reducible exact HDE.out _ (hb5.alloc hz5 _)) | (with_reducible exact HDE.out _ hb5) | (with_reducible exact HDE.out _ (hb4.alloc hz4 _)) | (with_reducible exact HDE.out _ hb4) | (with_reducible exact HDE.out _ (hb3.alloc hz3 _)) | (with_reducible exact HDE.out _ hb3) | (with_reducible exact HDE.out _ ((hb2.alloc hz2 _).alloc (hb2.alloc hz2 _).size _)) | (with_reducible exact HDE.out _ (hb2.alloc hz2 _)) | (with_reducible exact HDE.out _ hb2) | (with_reducible exact HDE.out _ hb1) | (with_reducible exact HDE.out _ hb0) | (with_reducible exact HDE.out _ hb0.drew))
      ((first
      | (go_at_call 13; (with_reducible refine (B1.out _ hb0.drew).mono ?_); rintro e w1 ⟨ao1, cap1, rfl, hx1, hb1, hg1⟩; have hz1 := hb1.size)
      | (go_at_call 12; (with_reducible refine (S1.out _ _ hb1 hx1).mono ?_); rintro e w2 ⟨rfl, hq2⟩; have hb2 := hb1.trans (hq2.mono hz1); have hz2 := hb2.size; clear hq2)
      | (go_at_call 13; (with_reducible refine (B2.out _ _ ?_ ?_).mono ?_); (focus (first | with_reducible exact (hb2.alloc hz2 _) | with_reducible exact ((hb2.alloc hz2 _).alloc (hb2.alloc hz2 _).size _))); (focus (first | exact heap_alloc_new _ _ | exact two_last2 _ _ _ | exact two_first2 _ _ _)); rintro e w3 ⟨ao3, cap3, rfl, hx3, hb3, hg3⟩; have hz3 := hb3.size)
      | (go_at_call 12; (with_reducible refine (S2.out _ _ _ ?_ ?_).mono ?_); (focus (first | exact hx3 | exact hx3.below ((Below.refl _ _).alloc (Nat.le_refl _) _))); (focus (first | exact heap_alloc_new _ _ | exact (hg3.block _ (by first | (simp; done) | (simp; omega))).trans (two_last2 _ _ _) | exact (hg3.block _ (by first | (simp; done) | (simp; omega))).trans (two_first2 _ _ _))); rintro e w4 ⟨rfl, hq4⟩; have hb4 : Below W4.heap.size W4 w4 := (by first | exact hb3.trans (hq4.mono hz3) | exact (hb3.alloc hz3 _).trans (hq4.mono (hb3.alloc hz3 _).size)); have hz4 := hb4.size; clear hq4)
      | (go_at_call 13; (with_reducible refine (B3.out _ _ ?_ ?_).mono ?_); (focus (with_reducible exact (hb4.alloc hz4 _))); (focus (exact heap_alloc_new _ _)); rintro e w5 ⟨ao5, cap5, rfl, hx5, hb5, hg5⟩; have hz5 := hb5.size)
      | (go_at_call 13; (with_reducible refine (B4.out _ _ ?_ ?_).mono ?_); (focus (with_reducible exact (hb5.alloc hz5 _))); (focus (exact heap_alloc_new _ _)); rintro e w6 ⟨ao6, cap6, rfl, hx6, hb6, hg6⟩; have hz6 := hb6.size)
      | (go_at_call 13; (with_reducible refine (B5.out _ hb6).mono ?_); rintro e w7 ⟨ao7, cap7, rfl, hx7, hb7, hg7⟩)))
    all_goals (go_wp2_with fail; go_meet; exact ⟨rfl, hb7⟩)
  case' rest =>
    obtain ⟨rfl, HB⟩ := hcut
    clear B1 B2 B3 B4 B5 S1 S2 HE
    have C1 := Lib.hid (fun W' (hb : Below W4.heap.size W4 W') => sn_choices HST.out hb (Ix.nil W') (by decide) (m := 2) sn_6 rfl)
    have C2 := Lib.hid (fun W' b (hb : Below W4.heap.size W4 W') (h : W'.heap[b]? = some (Obj.cells #[.int .i64 4, .int .i64 0, .int .i64 7] 3 (0, 0))) => sn_choices HST.out hb (ix_of3 h (by decide) (by decide) (by decide)) (by decide) (m := 1) sn_7 rfl)
    have S1 := Lib.hid (fun W' b v (hv : Cx W' v [(1, 0, 0), (2, 0, 1)]) (h : b = W'.heap.size) => same_yes (hv.below ((Below.refl _ W').alloc (Nat.le_refl _) (.cells #[.int .i64 1, .int .i64 0, .int .i64 0, .int .i64 2, .int .i64 0, .int .i64 1] 29))) (cx_of (g := b) (n := 2) (l := [(1, 0, 0), (2, 0, 1)]) (by rw [h]; exact heap_alloc_new _ _) rfl (by decide) (by decide)))
    have S2 := Lib.hid (fun W' b v (hv : Cx W' v [(4, 0, 0)]) (h : b = W'.heap.size) => same_yes (hv.below ((Below.refl _ W').alloc (Nat.le_refl _) (.cells #[.int .i64 4, .int .i64 0, .int .i64 0] 29))) (cx_of (g := b) (n := 1) (l := [(4, 0, 0)]) (by rw [h]; exact heap_alloc_new _ _) rfl (by decide) (by decide)))
    have G1 := Lib.hid (fun (X : World) (b : Nat) (hb : Below W4.heap.size W4 X) (h : X.heap[b]? = some (Obj.cells #[.int .i64 1, .int .i64 5, .int .i64 0] 3 (0, 0))) => sn_goes HST.out hb (Ix.nil X) (ix_of3 h (by decide) (by decide) (by decide)) (by decide) sn_8)
    have G2 := Lib.hid (fun (X : World) (b c : Nat) (hb : Below W4.heap.size W4 X) (h : X.heap[b]? = some (Obj.cells #[.int .i64 1, .int .i64 5, .int .i64 0] 3 (0, 0))) (k : X.heap[c]? = some (Obj.cells #[.int .i64 4, .int .i64 5, .int .i64 0] 3 (0, 0))) => sn_goes HST.out hb (ix_of3 h (by decide) (by decide) (by decide)) (ix_of3 k (by decide) (by decide) (by decide)) (by decide) sn_9)
    have R1 := Lib.hid (fun W' (hb : Below W4.heap.size W4 W') => sn_refused HST.out hb (Ix.nil W') (by decide) sn_10)
    have R2 := Lib.hid (fun W' (hb : Below W4.heap.size W4 W') => sn_refused HST.out hb (Ix.nil W') (by decide) sn_11)
    have R3 := Lib.hid (fun W' (hb : Below W4.heap.size W4 W') => sn_refused HST.out hb (Ix.nil W') (by decide) sn_12)
    have R4 := Lib.hid (fun W' b (hb : Below W4.heap.size W4 W') (h : W'.heap[b]? = some (Obj.cells #[.int .i64 1048576, .int .i64 1, .int .i64 0] 3 (0, 0))) => sn_refused HST.out hb (ix_of3 h (by decide) (by decide) (by decide)) (by decide) sn_13)
    have hl4 : hd < W4.heap.size := (Array.getElem?_eq_some_iff.1 HST.out.d).1
    have HL4 := Lib.hid hl4
    obtain ⟨k0, k1, k2, k3, k4, k5⟩ := HD.out _ HB.out
    have hlx := Nat.lt_of_lt_of_le hl4 HB.out.size
    go_wp2_with (first
      | (go_at_call 17; (with_reducible refine (C1.out _ HB.out).mono ?_); rintro e w1 ⟨ao1, cap1, rfl, hx1, hb1⟩; have HX := Lib.hid hx1; have HB := Lib.hid hb1; clear k0 k1 k2 k3 k4 k5 hlx; obtain ⟨k0, k1, k2, k3, k4, k5⟩ := HD.out _ HB.out; have hlx := Nat.lt_of_lt_of_le HL4.out HB.out.size; clear hx1 hb1)
      | (go_at_call 16; (with_reducible refine (S1.out _ _ _ HX.out rfl).mono ?_); rintro e w1 ⟨rfl, hb1⟩; have HB := Lib.hid ((HB.out.alloc HB.out.size _).trans (hb1.mono (HB.out.alloc HB.out.size _).size)); clear k0 k1 k2 k3 k4 k5 hlx; obtain ⟨k0, k1, k2, k3, k4, k5⟩ := HD.out _ HB.out; have hlx := Nat.lt_of_lt_of_le HL4.out HB.out.size; clear hb1)
      | (go_at_call 17; (with_reducible refine (C2.out _ _ (HB.out.alloc HB.out.size _) (heap_alloc_new _ _)).mono ?_); rintro e w1 ⟨ao1, cap1, rfl, hx1, hb1⟩; have HX := Lib.hid hx1; have HB := Lib.hid hb1; clear k0 k1 k2 k3 k4 k5 hlx; obtain ⟨k0, k1, k2, k3, k4, k5⟩ := HD.out _ HB.out; have hlx := Nat.lt_of_lt_of_le HL4.out HB.out.size; clear hx1 hb1)
      | (go_at_call 16; (with_reducible refine (S2.out _ _ _ HX.out rfl).mono ?_); rintro e w1 ⟨rfl, hb1⟩; have HB := Lib.hid ((HB.out.alloc HB.out.size _).trans (hb1.mono (HB.out.alloc HB.out.size _).size)); clear k0 k1 k2 k3 k4 k5 hlx; obtain ⟨k0, k1, k2, k3, k4, k5⟩ := HD.out _ HB.out; have hlx := Nat.lt_of_lt_of_le HL4.out HB.out.size; clear hb1)
      | (go_at_call 22; (with_reducible refine (G1.out _ _ (HB.out.alloc HB.out.size _) (heap_alloc_new _ _)).mono ?_); rintro e w1 ⟨rfl, hb1⟩; have HB := Lib.hid hb1; clear k0 k1 k2 k3 k4 k5 hlx; obtain ⟨k0, k1, k2, k3, k4, k5⟩ := HD.out _ HB.out; have hlx := Nat.lt_of_lt_of_le HL4.out HB.out.size; clear hb1)
      | (go_at_call 22; (refine (G2.out _ _ _ ((HB.out.alloc HB.out.size _).alloc (HB.out.alloc HB.out.size _).size _) (two_first2 _ _ _) (two_last2 _ _ _)).mono ?_); rintro e w1 ⟨rfl, hb1⟩; have HB := Lib.hid hb1; clear k0 k1 k2 k3 k4 k5 hlx; obtain ⟨k0, k1, k2, k3, k4, k5⟩ := HD.out _ HB.out; have hlx := Nat.lt_of_lt_of_le HL4.out HB.out.size; clear hb1)
      | (go_at_call 23; (with_reducible refine (R1.out _ HB.out).mono ?_); rintro e w1 ⟨rfl, hb1⟩; have HB := Lib.hid hb1; clear k0 k1 k2 k3 k4 k5 hlx; obtain ⟨k0, k1, k2, k3, k4, k5⟩ := HD.out _ HB.out; have hlx := Nat.lt_of_lt_of_le HL4.out HB.out.size; clear hb1)
      | (go_at_call 23; (with_reducible refine (R2.out _ HB.out).mono ?_); rintro e w1 ⟨rfl, hb1⟩; have HB := Lib.hid hb1; clear k0 k1 k2 k3 k4 k5 hlx; obtain ⟨k0, k1, k2, k3, k4, k5⟩ := HD.out _ HB.out; have hlx := Nat.lt_of_lt_of_le HL4.out HB.out.size; clear hb1)
      | (go_at_call 23; (with_reducible refine (R3.out _ HB.out).mono ?_); rintro e w1 ⟨rfl, hb1⟩; have HB := Lib.hid hb1; clear k0 k1 k2 k3 k4 k5 hlx; obtain ⟨k0, k1, k2, k3, k4, k5⟩ := HD.out _ HB.out; have hlx := Nat.lt_of_lt_of_le HL4.out HB.out.size; clear hb1)
      | (go_at_call 23; (with_reducible refine (R4.out _ _ (HB.out.alloc HB.out.size _) (heap_alloc_new _ _)).mono ?_); rintro e w1 ⟨rfl, hb1⟩; have HB := Lib.hid hb1; clear k0 k1 k2 k3 k4 k5 hlx; obtain ⟨k0, k1, k2, k3, k4, k5⟩ := HD.out _ HB.out; have hlx := Nat.lt_of_lt_of_le HL4.out HB.out.size; clear hb1))
    go_ret
    exact ⟨rfl, HNW.out.trans (HB.out.mono HNW.out.size)⟩

end Go.Proofs.Ytmpopbkhmkkhgaa
