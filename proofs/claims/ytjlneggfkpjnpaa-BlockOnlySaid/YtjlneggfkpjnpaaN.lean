/- Contract: the law's sanity. No condition. -/
import Derived.Test.YtjlneggfkpjnpaaL
import Derived.Deep.CutRange
namespace Go.Proofs.Ytjlneggfkpjnpaa
open Go.RowKit

abbrev rS : List Int := [2, 0, 1]
abbrev sS : List Int := [1, 2]
abbrev firstS : List Ch := [(2, 1, 0), (1, 1, 2), (2, 2, 0), (1, 2, 2)]

theorem sn_1 : chV rS sS [] = firstS := by decide
theorem sn_2 : chV rS sS [0, 0, 0] = firstS := by decide
theorem sn_3 : chV rS sS [4, 0, 1] = [(4, 0, 0), (1, 0, 2)] := by decide
theorem sn_4 : nextOk rS sS [] (1, 2, 2) = true ∧ nextV rS sS [] (1, 2, 2) = [4, 0, 1] := by decide
theorem sn_5 : nextOk rS sS [0, 0, 1] (1, 0, 2) = true ∧ nextV rS sS [0, 0, 1] (1, 0, 2) = [] := by decide
theorem sn_6 : nextOk rS sS [4, 0, 1] (1, 0, 0) = false ∧ nextV rS sS [4, 0, 1] (1, 0, 0) = [] := by decide
theorem sn_7 : chV rS sS [4, 0] = [] := by decide
theorem sn_8 : chV rS sS [4, -1, 1] = [] := by decide
theorem sn_9 : leftV [4, 0, 1] = 5 := by decide
theorem sn_10 : leftV [4, -1] = 0 := by decide

theorem ix_of2 {W : World} {g : Nat} {a b : Int} (h : W.heap[g]? = some (.cells #[.int .i64 a, .int .i64 b] 3 (0, 0))) (ha : I64 a) (hb : I64 b) : Ix W (.slice (some ⟨g, 0, none⟩) 2 2) [a, b] := by
  refine ⟨by simp [maxLen], fun i => ?_, .inr ⟨g, 0, 2, rfl, Nat.le_refl _, (Array.getElem?_eq_some_iff.1 h).1, fun i hi => ?_⟩⟩
  · match i with
    | 0 => exact ha
    | 1 => exact hb
    | n + 2 => simp; decide
  · rw [cell_of_row _ _ _ _ _ _ h]
    match i, hi with
    | 0, _ => rfl
    | 1, _ => rfl
theorem ix_of3 {W : World} {g : Nat} {a b c : Int} (h : W.heap[g]? = some (.cells #[.int .i64 a, .int .i64 b, .int .i64 c] 3 (0, 0))) (ha : I64 a) (hb : I64 b) (hc : I64 c) : Ix W (.slice (some ⟨g, 0, none⟩) 3 3) [a, b, c] := by
  refine ⟨by simp [maxLen], fun i => ?_, .inr ⟨g, 0, 3, rfl, Nat.le_refl _, (Array.getElem?_eq_some_iff.1 h).1, fun i hi => ?_⟩⟩
  · match i with
    | 0 => exact ha
    | 1 => exact hb
    | 2 => exact hc
    | n + 3 => simp; decide
  · rw [cell_of_row _ _ _ _ _ _ h]
    match i, hi with
    | 0, _ => rfl
    | 1, _ => rfl
    | 2, _ => rfl

theorem cx_of {W : World} {g n : Nat} {l : List Ch} (h : W.heap[g]? = some (.cells (chs l).toArray 28 (0, 0))) (hn : n = l.length) (hl : n ≤ 100) (hf : ∀ c ∈ l, I64 c.1 ∧ I64 c.2.1 ∧ I64 c.2.2) : Cx W (.slice (some ⟨g, 0, none⟩) n n) l := by
  subst hn
  exact OwC.cx (B := 0) (n := l.length) ⟨by rw [chs_len], .inr ⟨g, l.length, _, rfl, Nat.zero_le _, h, Nat.le_refl _, by unfold maxLen; omega, by simp [chs_len], by simp [← chs_len]⟩⟩ (by omega) (fit_of hf)

set_option maxRecDepth 10000 in
set_option maxHeartbeats 1000000 in
/-- pick, and where its choice lies. -/
theorem pick_new (x y z : Int) (W : World) : Calls Try.prog 17 #[.int .i64 x, .int .i64 y, .int .i64 z] W fun e w' => e = .returned (.agg #[.int .i64 x, .int .i64 y, .int .i64 z]) ∧ w' = W.alloc (.cells #[.int .i64 x, .int .i64 y, .int .i64 z] 28) := by
  go_enter Try.func17, Try.ntmps17
  go_wp2
  exact bodyPost_ret (results_cell28 (t := 6) rfl rfl (heap_alloc_new _ _)) rfl ⟨rfl, rfl⟩

/-- The world when all is laid. -/
abbrev snW (W : World) : World := ((((((((W.alloc (.cells #[.int .i64 2, .int .i64 0, .int .i64 1] 3)).alloc (.cells #[.int .i64 1, .int .i64 2] 3)).alloc (.cells #[.int .i64 0, .slice (some ⟨W.heap.size, 0, none⟩) 3 3, .slice (some ⟨W.heap.size + 1, 0, none⟩) 2 2, .int .i64 0, .int .i64 0, .int .i64 0] 33)).alloc (.cells #[.int .i64 2, .int .i64 1, .int .i64 0] 28)).alloc (.cells #[.int .i64 1, .int .i64 1, .int .i64 2] 28)).alloc (.cells #[.int .i64 2, .int .i64 2, .int .i64 0] 28)).alloc (.cells #[.int .i64 1, .int .i64 2, .int .i64 2] 28)).alloc (.cells #[.int .i64 2, .int .i64 1, .int .i64 0, .int .i64 1, .int .i64 1, .int .i64 2, .int .i64 2, .int .i64 2, .int .i64 0, .int .i64 1, .int .i64 2, .int .i64 2] 28)).alloc (.cells #[.int .i64 4, .int .i64 0, .int .i64 1] 3)

/-- What lies there. -/
structure SnI (W W4 : World) (hr hs hd hf hw : Nat) : Prop where
  r : Ix W4 (.slice (some ⟨hr, 0, none⟩) 3 3) rS
  s : Ix W4 (.slice (some ⟨hs, 0, none⟩) 2 2) sS
  d : DBox W4 hd (.slice (some ⟨hr, 0, none⟩) 3 3) (.slice (some ⟨hs, 0, none⟩) 2 2)
  f : Cx W4 (.slice (some ⟨hf, 0, none⟩) 4 4) firstS
  w : Ix W4 (.slice (some ⟨hw, 0, none⟩) 3 3) [4, 0, 1]
  b : Below W.heap.size W W4

theorem sn_start (W : World) : SnI W (snW W) W.heap.size (W.heap.size + 1) (W.heap.size + 1 + 1) (W.heap.size + 1 + 1 + 1 + 1 + 1 + 1 + 1) (W.heap.size + 1 + 1 + 1 + 1 + 1 + 1 + 1 + 1) := by
  have e : ∀ k, (snW W).heap[k]? = if k = W.heap.size + 8 then some (.cells #[.int .i64 4, .int .i64 0, .int .i64 1] 3) else if k = W.heap.size + 7 then some (.cells #[.int .i64 2, .int .i64 1, .int .i64 0, .int .i64 1, .int .i64 1, .int .i64 2, .int .i64 2, .int .i64 2, .int .i64 0, .int .i64 1, .int .i64 2, .int .i64 2] 28) else if k = W.heap.size + 6 then some (.cells #[.int .i64 1, .int .i64 2, .int .i64 2] 28) else if k = W.heap.size + 5 then some (.cells #[.int .i64 2, .int .i64 2, .int .i64 0] 28) else if k = W.heap.size + 4 then some (.cells #[.int .i64 1, .int .i64 1, .int .i64 2] 28) else if k = W.heap.size + 3 then some (.cells #[.int .i64 2, .int .i64 1, .int .i64 0] 28) else if k = W.heap.size + 2 then some (.cells #[.int .i64 0, .slice (some ⟨W.heap.size, 0, none⟩) 3 3, .slice (some ⟨W.heap.size + 1, 0, none⟩) 2 2, .int .i64 0, .int .i64 0, .int .i64 0] 33) else if k = W.heap.size + 1 then some (.cells #[.int .i64 1, .int .i64 2] 3) else if k = W.heap.size then some (.cells #[.int .i64 2, .int .i64 0, .int .i64 1] 3) else W.heap[k]? := fun k => by
    simp only [snW, World.alloc, Array.getElem?_push, Array.size_push]
  refine ⟨ix_of3 ?_ (by decide) (by decide) (by decide), ix_of2 ?_ (by decide) (by decide), ?_, cx_of ?_ rfl (by decide) (by decide), ix_of3 ?_ (by decide) (by decide) (by decide), ?_⟩
  · rw [e, if_neg (by omega), if_neg (by omega), if_neg (by omega), if_neg (by omega), if_neg (by omega), if_neg (by omega), if_neg (by omega), if_neg (by omega), if_pos rfl]
  · rw [e, if_neg (by omega), if_neg (by omega), if_neg (by omega), if_neg (by omega), if_neg (by omega), if_neg (by omega), if_neg (by omega), if_pos rfl]
  · rw [DBox, e, if_neg (by omega), if_neg (by omega), if_neg (by omega), if_neg (by omega), if_neg (by omega), if_neg (by omega), if_pos (by omega)]
  · rw [e, if_neg (by omega), if_pos (by omega)]; rfl
  · rw [e, if_pos (by omega)]
  · exact ((((((((Below.refl _ W).alloc (Nat.le_refl _) _).alloc (by simp) _).alloc (by simp; omega) _).alloc (by simp; omega) _).alloc (by simp; omega) _).alloc (by simp; omega) _).alloc (by simp; omega) _).alloc (by simp; omega) _ |>.alloc (by simp; omega) _

abbrev dS (hr hs : Nat) : Value := .agg #[.int .i64 0, .slice (some ⟨hr, 0, none⟩) 3 3, .slice (some ⟨hs, 0, none⟩) 2 2, .int .i64 0, .int .i64 0, .int .i64 0]

theorem same_yes {w : World} {va vb : Value} {a : List Ch} (ha : Cx w va a) (hb : Cx w vb a) : Calls Try.prog 13 #[va, vb] w fun e w' => e = .returned (.bool true) ∧ Below w.heap.size w w' := by
  have := same_any ha hb
  rwa [decide_eq_true rfl] at this

theorem two_last (w : World) (A B : Obj) : ((w.alloc A).alloc B).drew.heap[w.heap.size + 1]? = some B := by
  have := heap_alloc_new (w.alloc A) B
  rw [World.size_alloc] at this
  exact this
theorem two_first (w : World) (A B : Obj) : ((w.alloc B).alloc A).drew.heap[w.heap.size]? = some B :=
  (Below.heap_alloc (w.alloc B) A w.heap.size (by simp)).trans (heap_alloc_new _ _)

theorem two_last2 (w : World) (A B : Obj) : ((w.alloc A).alloc B).heap[w.heap.size + 1]? = some B := two_last w A B
theorem two_first2 (w : World) (A B : Obj) : ((w.alloc B).alloc A).heap[w.heap.size]? = some B := two_first w A B

section
variable {W W4 : World} {hr hs hd hf hw : Nat} (h : SnI W W4 hr hs hd hf hw)
include h

theorem sn_choices {W' : World} (hb : Below W4.heap.size W4 W') {aw : Option Addr} {nw cw : Nat} {row : List Int} (hx : Ix W' (.slice aw nw cw) row) (lw : row.length ≤ 8) {L : List Ch} {m : Nat} (hL : chV rS sS row = L) (hm : m = L.length) :
    Calls Try.prog 14 #[dS hr hs, .slice aw nw cw] W' fun e w' => ∃ ao cap, e = .returned (.slice ao m cap) ∧ Cx w' (.slice ao m cap) L ∧ Below W4.heap.size W4 w' := by
  refine (choices_any (h.r.below hb) (h.s.below hb) hx (by decide) (by decide) lw).mono fun e w' ⟨ao, n, cap, h1, h2, h3⟩ => ?_
  have hn := owC_len h2
  have hc := h2.chx (by decide) (by decide) lw
  rw [hL] at hn hc
  rw [hn, ← hm] at h1 hc
  exact ⟨ao, cap, h1, hc, hb.trans (h3.mono hb.size)⟩

theorem sn_goes {W' : World} (hb : Below W4.heap.size W4 W') {aw at' : Option Addr} {nw cw nt ct : Nat} {row want : List Int} (hx : Ix W' (.slice aw nw cw) row) (ht : Ix W' (.slice at' nt ct) want) (lw : row.length ≤ 8) {x y z : Int} (hL : nextOk rS sS row (x, y, z) = true ∧ nextV rS sS row (x, y, z) = want) :
    Calls Try.prog 27 #[dS hr hs, .slice aw nw cw, .agg #[.int .i64 x, .int .i64 y, .int .i64 z], .slice at' nt ct] W' fun e w' => e = .returned (.bool true) ∧ Below W4.heap.size W4 w' := by
  refine (goes_any (h.r.below hb) (h.s.below hb) hx ht (by decide) (by decide) lw x y z).mono fun e w' ⟨h1, h3⟩ => ?_
  rw [hL.1, decide_eq_true hL.2] at h1
  exact ⟨h1, hb.trans (h3.mono hb.size)⟩
theorem sn_next {W' : World} (hb : Below W4.heap.size W4 W') :
    Calls Try.prog 18 #[dS hr hs, .slice (some ⟨hw, 0, none⟩) 3 3, .agg #[.int .i64 1, .int .i64 0, .int .i64 0]] W' fun e w' => ∃ ao cap, e = .returned (.tuple #[.slice ao 0 cap, .bool false]) ∧ Below W4.heap.size W4 w' := by
  refine (next_any (h.r.below hb) (h.s.below hb) (h.w.below hb) (by decide) (by decide) (by decide) 1 0 0).mono fun e w' ⟨ao, n, cap, h1, h2, h3⟩ => ?_
  have hn := owI_len h2
  rw [sn_6.2] at hn
  rw [sn_6.1] at h1
  have hn0 : n = 0 := hn
  subst hn0
  exact ⟨ao, cap, h1, hb.trans (h3.mono hb.size)⟩

theorem sn_none {W' : World} (hb : Below W4.heap.size W4 W') {aw : Option Addr} {nw cw : Nat} {row : List Int} (hx : Ix W' (.slice aw nw cw) row) (lw : row.length ≤ 8) (hL : chV rS sS row = []) :
    Calls Try.prog 14 #[dS hr hs, .slice aw nw cw] W' fun e w' => ∃ ao cap, e = .returned (.slice ao 0 cap) ∧ Below W4.heap.size W4 w' :=
  (sn_choices h hb hx lw (m := 0) hL rfl).mono fun _ _ ⟨ao, cap, h1, _, h3⟩ => ⟨ao, cap, h1, h3⟩

omit h in
theorem sn_left {W' : World} (hb : Below W4.heap.size W4 W') {v : Value} {row : List Int} (hx : Ix W' v row) (lw : row.length ≤ 8) {q : Int} (hL : leftV row = q) :
    Calls Try.prog 15 #[v] W' fun e w' => e = .returned (.int .i64 q) ∧ Below W4.heap.size W4 w' := by
  refine (left_any hx (by omega)).mono fun e w' ⟨h1, h3⟩ => ?_
  rw [hL] at h1
  exact ⟨h1, hb.trans (h3.mono hb.size)⟩

theorem SnI.w2 : Ix W4 (.slice (some ⟨hw, 0, none⟩) 2 3) [4, 0] := h.w.take 2 (by decide)
end

attribute [local go_sem ↓] equal28

set_option maxRecDepth 100000 in
set_option maxHeartbeats 8000000 in
theorem sanity_any (W : World) : Calls Try.prog 8 #[] W fun e w' => e = .returned (.bool true) ∧ Below W.heap.size W w' := by
  have HPK := Lib.hid pick_new
  obtain ⟨W4, hW4⟩ : ∃ W4, W4 = snW W := ⟨_, rfl⟩
  have hst := sn_start W
  rw [← hW4] at hst
  have HW4 := Lib.hid hW4
  have HST := Lib.hid hst
  clear hst hW4
  go_enter Try.func8, Try.ntmps8
  go_upto_region 4 with ((go_at_call 17; refine (HPK.out _ _ _ _).mono ?_; rintro e w1 ⟨rfl, rfl⟩))
  change Code.wp _ _ _ _ (snW W)
  rw [← HW4.out]
  clear HW4
  have HNW := Lib.hid HST.out.b
  revert HST
  generalize W.heap.size + 1 + 1 + 1 + 1 + 1 + 1 + 1 + 1 = hw
  generalize W.heap.size + 1 + 1 + 1 + 1 + 1 + 1 + 1 = hf
  generalize W.heap.size + 1 + 1 = hd
  generalize W.heap.size + 1 = hs
  generalize W.heap.size = hr
  intro HST
  have HB := Lib.hid (Below.refl W4.heap.size W4)
  have C1 := Lib.hid (fun W' (hb : Below W4.heap.size W4 W') => sn_choices HST.out hb (Ix.nil W' none 0) (by decide) (m := 4) sn_1 rfl)
  have C2 := Lib.hid (fun W' b (hb : Below W4.heap.size W4 W') (h : b = W'.heap.size) => sn_choices HST.out (hb.alloc hb.size (.cells #[.int .i64 0, .int .i64 0, .int .i64 0] 3)) (ix_of3 (g := b) (by rw [h]; exact heap_alloc_new _ _) (by decide) (by decide) (by decide)) (by decide) (m := 4) sn_2 rfl)
  have C3 := Lib.hid (fun W' (hb : Below W4.heap.size W4 W') => sn_choices HST.out hb (HST.out.w.below hb) (by decide) (m := 2) sn_3 rfl)
  have S1 := Lib.hid (fun W' v (hb : Below W4.heap.size W4 W') (hv : Cx W' v firstS) => same_yes hv (HST.out.f.below hb))
  have S3 := Lib.hid (fun W' b v (hv : Cx W' v [(4, 0, 0), (1, 0, 2)]) (h : b = W'.heap.size) => same_yes (hv.below ((Below.refl _ W').alloc (Nat.le_refl _) (.cells #[.int .i64 4, .int .i64 0, .int .i64 0, .int .i64 1, .int .i64 0, .int .i64 2] 28))) (cx_of (g := b) (n := 2) (l := [(4, 0, 0), (1, 0, 2)]) (by rw [h]; exact heap_alloc_new _ _) rfl (by decide) (by decide)))
  have PK := Lib.hid pick_any
  have d0 := fun W' (hb : Below W4.heap.size W4 W') => (HST.out.d.below hb).cells
  have HD := Lib.hid d0
  clear d0
  obtain ⟨k0, k1, k2, k3, k4, k5⟩ := HD.out _ HB.out
  go_upto_region 5 with (first
    | (go_at_call 14; (with_reducible refine (C1.out _ HB.out).mono ?_); rintro e w1 ⟨ao, cap, rfl, hcx, hb⟩; have HCX := Lib.hid hcx; have HB := Lib.hid hb; clear hcx hb; clear k0 k1 k2 k3 k4 k5; obtain ⟨k0, k1, k2, k3, k4, k5⟩ := HD.out _ HB.out)
    | (go_at_call 14; (with_reducible refine (C2.out _ _ HB.out rfl).mono ?_); rintro e w1 ⟨ao, cap, rfl, hcx, hb⟩; have HCX := Lib.hid hcx; have HB := Lib.hid hb; clear hcx hb; clear k0 k1 k2 k3 k4 k5; obtain ⟨k0, k1, k2, k3, k4, k5⟩ := HD.out _ HB.out)
    | (go_at_call 14; (with_reducible refine (C3.out _ HB.out).mono ?_); rintro e w1 ⟨ao, cap, rfl, hcx, hb⟩; have HCX := Lib.hid hcx; have HB := Lib.hid hb; clear hcx hb; clear k0 k1 k2 k3 k4 k5; obtain ⟨k0, k1, k2, k3, k4, k5⟩ := HD.out _ HB.out)
    | (go_at_call 13; (with_reducible refine (S1.out _ _ HB.out HCX.out).mono ?_); rintro e w1 ⟨rfl, hb⟩; have HB := Lib.hid (HB.out.trans (hb.mono HB.out.size)); clear hb; clear k0 k1 k2 k3 k4 k5; obtain ⟨k0, k1, k2, k3, k4, k5⟩ := HD.out _ HB.out)
    | (go_at_call 13; (with_reducible refine (S3.out _ _ _ HCX.out rfl).mono ?_); rintro e w1 ⟨rfl, hb⟩; have HB := Lib.hid ((HB.out.alloc HB.out.size _).trans (hb.mono (HB.out.alloc HB.out.size _).size)); clear hb; clear k0 k1 k2 k3 k4 k5; obtain ⟨k0, k1, k2, k3, k4, k5⟩ := HD.out _ HB.out)
    | (go_at_call 17; (with_reducible refine (PK.out _ _ _ _).mono ?_); rintro e w1 ⟨rfl, hb⟩; have HB := Lib.hid (HB.out.trans (hb.mono HB.out.size)); have HCX := Lib.hid (HCX.out.below hb); clear hb; clear k0 k1 k2 k3 k4 k5; obtain ⟨k0, k1, k2, k3, k4, k5⟩ := HD.out _ HB.out))
  clear k0 k1 k2 k3 k4 k5 HCX C1 C2 C3 S1 S3
  have G1 := Lib.hid (fun (X : World) (b : Nat) (hb : Below W4.heap.size W4 X) (h : X.heap[b]? = some (Obj.cells #[.int .i64 4, .int .i64 0, .int .i64 1] 3 (0, 0))) => sn_goes HST.out (aw := none) (nw := 0) (cw := 0) hb (Ix.nil X none 0) (ix_of3 h (by decide) (by decide) (by decide)) (by decide) sn_4)
  have G2 := Lib.hid (fun (X : World) (b : Nat) (hb : Below W4.heap.size W4 X) (h : X.heap[b]? = some (Obj.cells #[.int .i64 0, .int .i64 0, .int .i64 1] 3 (0, 0))) => sn_goes HST.out (at' := none) (nt := 0) (ct := 0) hb (ix_of3 h (by decide) (by decide) (by decide)) (Ix.nil X none 0) (by decide) sn_5)
  go_cut [5] from 5 to 46 (fun sv wx => sv = .bool true ∧ Hid (Below W4.heap.size W4 wx))
  case first =>
    have hb5 := HB.out
    have hz5 := hb5.size
    have hl4 : hd < W4.heap.size := (Array.getElem?_eq_some_iff.1 HST.out.d).1
    have hl5 := Nat.lt_of_lt_of_le hl4 hz5
    obtain ⟨k0, k1, k2, k3, k4, k5⟩ := HD.out _ hb5
    go_region_law (go_simp; (first
      | (go_at_call 17; refine (HPK.out _ _ _ _).mono ?_; rintro e w1 ⟨rfl, rfl⟩)
      | (go_at_call 27; (with_reducible refine (G1.out _ _ ?_ ?_).mono ?_); (focus (go_grown; done)); (focus (first | exact two_last _ _ _ | exact two_first _ _ _)); rintro e w2 ⟨rfl, hb6⟩; have hz6 := hb6.size; have hl6 := Nat.lt_of_lt_of_le hl4 hz6; obtain ⟨k0, k1, k2, k3, k4, k5⟩ := HD.out _ hb6)
      | (go_at_call 27; (with_reducible refine (G2.out _ _ ?_ ?_).mono ?_); (focus (go_grown; done)); (focus (first | exact two_last2 _ _ _ | exact two_first2 _ _ _)); rintro e w3 ⟨rfl, hb7⟩)))
    all_goals (go_wp2_with fail; go_meet; exact ⟨rfl, hb7⟩)
  case' rest =>
    obtain ⟨rfl, HB⟩ := hcut
    clear G1 G2 PK
    have N6 := Lib.hid (fun (X : World) (hb : Below W4.heap.size W4 X) => sn_next HST.out hb)
    go_upto_region 6 with fail
    go_cut [6, 7] from 6 to 53 (fun sv bv wx => ∃ ao cap, sv = .slice ao 0 cap ∧ bv = .bool false ∧ Hid (Below W4.heap.size W4 wx))
    case first =>
      have hb5 := HB.out
      have hz5 := hb5.size
      have hl4 : hd < W4.heap.size := (Array.getElem?_eq_some_iff.1 HST.out.d).1
      have hl5 := Nat.lt_of_lt_of_le hl4 hz5
      obtain ⟨k0, k1, k2, k3, k4, k5⟩ := HD.out _ hb5
      go_region_law (go_simp; (first
        | (go_at_call 17; refine (HPK.out _ _ _ _).mono ?_; rintro e w1 ⟨rfl, rfl⟩)
        | (go_at_call 18; (with_reducible refine (N6.out _ ?_).mono ?_); (focus (go_grown; done)); rintro e w2 ⟨ao, cap, rfl, hb6⟩)))
      all_goals (go_wp2_with fail; go_meet; exact ⟨ao, cap, rfl, rfl, hb6⟩)
    case' rest =>
      obtain ⟨ao, cap, rfl, rfl, HB⟩ := hcut
      go_upto_region 7 with fail
      have E1 := Lib.hid (fun (X : World) (hb : Below W4.heap.size W4 X) => sn_none HST.out hb (HST.out.w2.below hb) (by decide) sn_7)
      have E2 := Lib.hid (fun (X : World) (b : Nat) (hb : Below W4.heap.size W4 X) (h : X.heap[b]? = some (Obj.cells #[.int .i64 4, .int .i64 (-1), .int .i64 1] 3 (0, 0))) => sn_none HST.out hb (ix_of3 h (by decide) (by decide) (by decide)) (by decide) sn_8)
      have L1 := Lib.hid (fun (X : World) (hb : Below W4.heap.size W4 X) => sn_left hb (HST.out.w.below hb) (by decide) sn_9)
      have L2 := Lib.hid (fun (X : World) (b : Nat) (hb : Below W4.heap.size W4 X) (h : X.heap[b]? = some (Obj.cells #[.int .i64 4, .int .i64 (-1)] 3 (0, 0))) => sn_left hb (ix_of2 h (by decide) (by decide)) (by decide) sn_10)
      have hb5 := HB.out
      have hz5 := hb5.size
      have hl4 : hd < W4.heap.size := (Array.getElem?_eq_some_iff.1 HST.out.d).1
      have hl5 := Nat.lt_of_lt_of_le hl4 hz5
      obtain ⟨k0, k1, k2, k3, k4, k5⟩ := HD.out _ hb5
      go_region_held3 (fun W' => W'.cell? ⟨hd, 0, none⟩ = some (.int .i64 0) ∧ W'.cell? ⟨hd, 1, none⟩ = some (.slice (some ⟨hr, 0, none⟩) 3 3) ∧ W'.cell? ⟨hd, 2, none⟩ = some (.slice (some ⟨hs, 0, none⟩) 2 2) ∧ W'.cell? ⟨hd, 3, none⟩ = some (.int .i64 0) ∧ W'.cell? ⟨hd, 4, none⟩ = some (.int .i64 0) ∧ W'.cell? ⟨hd, 5, none⟩ = some (.int .i64 0))
        (first | (with_reducible exact HD.out _ hb5) | (exact HD.out _ hb5.drew) | (with_reducible exact HD.out _ hb6) | (exact HD.out _ (hb6.alloc hz6 _)) | (with_reducible exact HD.out _ hb7) | (with_reducible exact HD.out _ hb8) | (with_reducible exact HD.out _ hb9) | (exact HD.out _ (hb8.alloc hz8 _)))
        ((first
        | (go_at_call 14; (with_reducible refine (E1.out _ ?_).mono ?_); (focus (go_grown; done)); rintro e w2 ⟨ao1, cap1, rfl, hb6⟩; have hz6 := hb6.size)
        | (go_at_call 14; (with_reducible refine (E2.out _ _ ?_ ?_).mono ?_); (focus (go_grown; done)); (focus (exact heap_alloc_new _ _)); rintro e w3 ⟨ao2, cap2, rfl, hb7⟩; have hz7 := hb7.size)
        | (go_at_call 15; (with_reducible refine (L1.out _ ?_).mono ?_); (focus (go_grown; done)); rintro e w4 ⟨rfl, hb8⟩; have hz8 := hb8.size)
        | (go_at_call 15; (with_reducible refine (L2.out _ _ ?_ ?_).mono ?_); (focus (go_grown; done)); (focus (exact heap_alloc_new _ _)); rintro e w5 ⟨rfl, hb9⟩)))
      all_goals (go_wp2; go_ret; exact ⟨rfl, HNW.out.trans (hb9.mono HNW.out.size)⟩)

end Go.Proofs.Ytjlneggfkpjnpaa
