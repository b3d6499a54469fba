/- Contract: the law's sanity. No condition. The law BlockWalks, walked. Condition: the arguments fit their types. The law BlockWalks, walked. Condition: the arguments fit their types. What lies in memory while BlockFair goes on. No condition beyond those that are stated. -/
import Derived.Test.YtjlneggfkpjnpaaMb4
import Derived.Deep.CutRange
import Derived.Test.YtjlneggfkpjnpaaMb10
import Derived.BigQuiet
set_option linter.unusedSimpArgs false
set_option linter.unusedVariables false
namespace Go.Proofs.Ytjlneggfkpjnpaa
open Go.RowKit

abbrev rS : List Int := [2, 0, 1]
abbrev sS : List Int := [1, 2]
abbrev firstS : List Ch := [(2, 1, 0), (1, 1, 2), (2, 2, 0), (1, 2, 2)]

theorem sn_1 : chV rS sS [] = firstS := by decide
theorem sn_2 : chV rS sS [0, 0, 0] = firstS := by decide
theorem sn_3 : chV rS sS [4, 0, 1] = [(4, 0, 0), (1, 0, 2)] := by decide
theorem sn_4 : nextOk rS sS [] (1, 2, 2) = true ∧ nextV rS sS [] (1, 2, 2) = [4, 0, 1] := by decide
theorem sn_5 : nextOk rS sS [0, 0, 1] (1, 0, 2) = true ∧ nextV rS sS [0, 0, 1] (1, 0, 2) = [] := by decide
theorem sn_6 : nextOk rS sS [4, 0, 1] (1, 0, 0) = false ∧ nextV rS sS [4, 0, 1] (1, 0, 0) = [] := by decide
theorem sn_7 : chV rS sS [4, 0] = [] := by decide
theorem sn_8 : chV rS sS [4, -1, 1] = [] := by decide
theorem sn_9 : leftV [4, 0, 1] = 5 := by decide
theorem sn_10 : leftV [4, -1] = 0 := by decide

theorem ix_of2 {W : World} {g : Nat} {a b : Int} (h : W.heap[g]? = some (.cells #[.int .i64 a, .int .i64 b] 3 (0, 0))) (ha : I64 a) (hb : I64 b) : Ix W (.slice (some ⟨g, 0, none⟩) 2 2) [a, b] := by
  refine ⟨by simp [maxLen], fun i => ?_, .inr ⟨g, 0, 2, rfl, Nat.le_refl _, (Array.getElem?_eq_some_iff.1 h).1, fun i hi => ?_⟩⟩
  · match i with
    | 0 => exact ha
    | 1 => exact hb
    | n + 2 => simp; decide
  · rw [cell_of_row _ _ _ _ _ _ h]
    match i, hi with
    | 0, _ => rfl
    | 1, _ => rfl
theorem ix_of3 {W : World} {g : Nat} {a b c : Int} (h : W.heap[g]? = some (.cells #[.int .i64 a, .int .i64 b, .int .i64 c] 3 (0, 0))) (ha : I64 a) (hb : I64 b) (hc : I64 c) : Ix W (.slice (some ⟨g, 0, none⟩) 3 3) [a, b, c] := by
  refine ⟨by simp [maxLen], fun i => ?_, .inr ⟨g, 0, 3, rfl, Nat.le_refl _, (Array.getElem?_eq_some_iff.1 h).1, fun i hi => ?_⟩⟩
  · match i with
    | 0 => exact ha
    | 1 => exact hb
    | 2 => exact hc
    | n + 3 => simp; decide
  · rw [cell_of_row _ _ _ _ _ _ h]
    match i, hi with
    | 0, _ => rfl
    | 1, _ => rfl
    | 2, _ => rfl

theorem cx_of {W : World} {g n : Nat} {l : List Ch} (h : W.heap[g]? = some (.cells (chs l).toArray 28 (0, 0))) (hn : n = l.length) (hl : n ≤ 100) (hf : ∀ c ∈ l, I64 c.1 ∧ I64 c.2.1 ∧ I64 c.2.2) : Cx W (.slice (some ⟨g, 0, none⟩) n n) l := by
  subst hn
  exact OwC.cx (B := 0) (n := l.length) ⟨by rw [chs_len], .inr ⟨g, l.length, _, rfl, Nat.zero_le _, h, Nat.le_refl _, by unfold maxLen; omega, by simp [chs_len], by simp [← chs_len]⟩⟩ (by omega) (fit_of hf)

set_option maxRecDepth 10000 in
set_option maxHeartbeats 1000000 in
/-- pick, and where its choice lies. -/
theorem pick_new (x y z : Int) (W : World) : Calls Try.prog 17 #[.int .i64 x, .int .i64 y, .int .i64 z] W fun e w' => e = .returned (.agg #[.int .i64 x, .int .i64 y, .int .i64 z]) ∧ w' = W.alloc (.cells #[.int .i64 x, .int .i64 y, .int .i64 z] 28) := by
  go_enter Try.func17, Try.ntmps17
  go_wp2
  exact bodyPost_ret (results_cell28 (t := 6) rfl rfl (heap_alloc_new _ _)) rfl ⟨rfl, rfl⟩

/-- The world when all is laid. -/
abbrev snW (W : World) : World := ((((((((W.alloc (.cells #[.int .i64 2, .int .i64 0, .int .i64 1] 3)).alloc (.cells #[.int .i64 1, .int .i64 2] 3)).alloc (.cells #[.int .i64 0, .slice (some ⟨W.heap.size, 0, none⟩) 3 3, .slice (some ⟨W.heap.size + 1, 0, none⟩) 2 2, .int .i64 0, .int .i64 0, .int .i64 0] 33)).alloc (.cells #[.int .i64 2, .int .i64 1, .int .i64 0] 28)).alloc (.cells #[.int .i64 1, .int .i64 1, .int .i64 2] 28)).alloc (.cells #[.int .i64 2, .int .i64 2, .int .i64 0] 28)).alloc (.cells #[.int .i64 1, .int .i64 2, .int .i64 2] 28)).alloc (.cells #[.int .i64 2, .int .i64 1, .int .i64 0, .int .i64 1, .int .i64 1, .int .i64 2, .int .i64 2, .int .i64 2, .int .i64 0, .int .i64 1, .int .i64 2, .int .i64 2] 28)).alloc (.cells #[.int .i64 4, .int .i64 0, .int .i64 1] 3)

/-- What lies there. -/
structure SnI (W W4 : World) (hr hs hd hf hw : Nat) : Prop where
  r : Ix W4 (.slice (some ⟨hr, 0, none⟩) 3 3) rS
  s : Ix W4 (.slice (some ⟨hs, 0, none⟩) 2 2) sS
  d : DBox W4 hd (.slice (some ⟨hr, 0, none⟩) 3 3) (.slice (some ⟨hs, 0, none⟩) 2 2)
  f : Cx W4 (.slice (some ⟨hf, 0, none⟩) 4 4) firstS
  w : Ix W4 (.slice (some ⟨hw, 0, none⟩) 3 3) [4, 0, 1]
  b : Below W.heap.size W W4

theorem sn_start (W : World) : SnI W (snW W) W.heap.size (W.heap.size + 1) (W.heap.size + 1 + 1) (W.heap.size + 1 + 1 + 1 + 1 + 1 + 1 + 1) (W.heap.size + 1 + 1 + 1 + 1 + 1 + 1 + 1 + 1) := by
  have e : ∀ k, (snW W).heap[k]? = if k = W.heap.size + 8 then some (.cells #[.int .i64 4, .int .i64 0, .int .i64 1] 3) else if k = W.heap.size + 7 then some (.cells #[.int .i64 2, .int .i64 1, .int .i64 0, .int .i64 1, .int .i64 1, .int .i64 2, .int .i64 2, .int .i64 2, .int .i64 0, .int .i64 1, .int .i64 2, .int .i64 2] 28) else if k = W.heap.size + 6 then some (.cells #[.int .i64 1, .int .i64 2, .int .i64 2] 28) else if k = W.heap.size + 5 then some (.cells #[.int .i64 2, .int .i64 2, .int .i64 0] 28) else if k = W.heap.size + 4 then some (.cells #[.int .i64 1, .int .i64 1, .int .i64 2] 28) else if k = W.heap.size + 3 then some (.cells #[.int .i64 2, .int .i64 1, .int .i64 0] 28) else if k = W.heap.size + 2 then some (.cells #[.int .i64 0, .slice (some ⟨W.heap.size, 0, none⟩) 3 3, .slice (some ⟨W.heap.size + 1, 0, none⟩) 2 2, .int .i64 0, .int .i64 0, .int .i64 0] 33) else if k = W.heap.size + 1 then some (.cells #[.int .i64 1, .int .i64 2] 3) else if k = W.heap.size then some (.cells #[.int .i64 2, .int .i64 0, .int .i64 1] 3) else W.heap[k]? := fun k => by
    simp only [snW, World.alloc, Array.getElem?_push, Array.size_push]
  refine ⟨ix_of3 ?_ (by decide) (by decide) (by decide), ix_of2 ?_ (by decide) (by decide), ?_, cx_of ?_ rfl (by decide) (by decide), ix_of3 ?_ (by decide) (by decide) (by decide), ?_⟩
  · rw [e, if_neg (by omega), if_neg (by omega), if_neg (by omega), if_neg (by omega), if_neg (by omega), if_neg (by omega), if_neg (by omega), if_neg (by omega), if_pos rfl]
  · rw [e, if_neg (by omega), if_neg (by omega), if_neg (by omega), if_neg (by omega), if_neg (by omega), if_neg (by omega), if_neg (by omega), if_pos rfl]
  · rw [DBox, e, if_neg (by omega), if_neg (by omega), if_neg (by omega), if_neg (by omega), if_neg (by omega), if_neg (by omega), if_pos (by omega)]
  · rw [e, if_neg (by omega), if_pos (by omega)]; rfl
  · rw [e, if_pos (by omega)]
  · exact ((((((((Below.refl _ W).alloc (Nat.le_refl _) _).alloc (by simp) _).alloc (by simp; omega) _).alloc (by simp; omega) _).alloc (by simp; omega) _).alloc (by simp; omega) _).alloc (by simp; omega) _).alloc (by simp; omega) _ |>.alloc (by simp; omega) _

abbrev dS (hr hs : Nat) : Value := .agg #[.int .i64 0, .slice (some ⟨hr, 0, none⟩) 3 3, .slice (some ⟨hs, 0, none⟩) 2 2, .int .i64 0, .int .i64 0, .int .i64 0]

theorem same_yes {w : World} {va vb : Value} {a : List Ch} (ha : Cx w va a) (hb : Cx w vb a) : Calls Try.prog 13 #[va, vb] w fun e w' => e = .returned (.bool true) ∧ Below w.heap.size w w' := by
  have := same_any ha hb
  rwa [decide_eq_true rfl] at this

theorem two_last (w : World) (A B : Obj) : ((w.alloc A).alloc B).drew.heap[w.heap.size + 1]? = some B := by
  have := heap_alloc_new (w.alloc A) B
  rw [World.size_alloc] at this
  exact this
theorem two_first (w : World) (A B : Obj) : ((w.alloc B).alloc A).drew.heap[w.heap.size]? = some B :=
  (Below.heap_alloc (w.alloc B) A w.heap.size (by simp)).trans (heap_alloc_new _ _)

theorem two_last2 (w : World) (A B : Obj) : ((w.alloc A).alloc B).heap[w.heap.size + 1]? = some B := two_last w A B
theorem two_first2 (w : World) (A B : Obj) : ((w.alloc B).alloc A).heap[w.heap.size]? = some B := two_first w A B

section
variable {W W4 : World} {hr hs hd hf hw : Nat} (h : SnI W W4 hr hs hd hf hw)
include h

theorem sn_choices {W' : World} (hb : Below W4.heap.size W4 W') {aw : Option Addr} {nw cw : Nat} {row : List Int} (hx : Ix W' (.slice aw nw cw) row) (lw : row.length ≤ 8) {L : List Ch} {m : Nat} (hL : chV rS sS row = L) (hm : m = L.length) :
    Calls Try.prog 14 #[dS hr hs, .slice aw nw cw] W' fun e w' => ∃ ao cap, e = .returned (.slice ao m cap) ∧ Cx w' (.slice ao m cap) L ∧ Below W4.heap.size W4 w' := by
  refine (choices_any (h.r.below hb) (h.s.below hb) hx (by decide) (by decide) lw).mono fun e w' ⟨ao, n, cap, h1, h2, h3⟩ => ?_
  have hn := owC_len h2
  have hc := h2.chx (by decide) (by decide) lw
  rw [hL] at hn hc
  rw [hn, ← hm] at h1 hc
  exact ⟨ao, cap, h1, hc, hb.trans (h3.mono hb.size)⟩

theorem sn_goes {W' : World} (hb : Below W4.heap.size W4 W') {aw at' : Option Addr} {nw cw nt ct : Nat} {row want : List Int} (hx : Ix W' (.slice aw nw cw) row) (ht : Ix W' (.slice at' nt ct) want) (lw : row.length ≤ 8) {x y z : Int} (hL : nextOk rS sS row (x, y, z) = true ∧ nextV rS sS row (x, y, z) = want) :
    Calls Try.prog 27 #[dS hr hs, .slice aw nw cw, .agg #[.int .i64 x, .int .i64 y, .int .i64 z], .slice at' nt ct] W' fun e w' => e = .returned (.bool true) ∧ Below W4.heap.size W4 w' := by
  refine (goes_any (h.r.below hb) (h.s.below hb) hx ht (by decide) (by decide) lw x y z).mono fun e w' ⟨h1, h3⟩ => ?_
  rw [hL.1, decide_eq_true hL.2] at h1
  exact ⟨h1, hb.trans (h3.mono hb.size)⟩
theorem sn_next {W' : World} (hb : Below W4.heap.size W4 W') :
    Calls Try.prog 18 #[dS hr hs, .slice (some ⟨hw, 0, none⟩) 3 3, .agg #[.int .i64 1, .int .i64 0, .int .i64 0]] W' fun e w' => ∃ ao cap, e = .returned (.tuple #[.slice ao 0 cap, .bool false]) ∧ Below W4.heap.size W4 w' := by
  refine (next_any (h.r.below hb) (h.s.below hb) (h.w.below hb) (by decide) (by decide) (by decide) 1 0 0).mono fun e w' ⟨ao, n, cap, h1, h2, h3⟩ => ?_
  have hn := owI_len h2
  rw [sn_6.2] at hn
  rw [sn_6.1] at h1
  have hn0 : n = 0 := hn
  subst hn0
  exact ⟨ao, cap, h1, hb.trans (h3.mono hb.size)⟩

theorem sn_none {W' : World} (hb : Below W4.heap.size W4 W') {aw : Option Addr} {nw cw : Nat} {row : List Int} (hx : Ix W' (.slice aw nw cw) row) (lw : row.length ≤ 8) (hL : chV rS sS row = []) :
    Calls Try.prog 14 #[dS hr hs, .slice aw nw cw] W' fun e w' => ∃ ao cap, e = .returned (.slice ao 0 cap) ∧ Below W4.heap.size W4 w' :=
  (sn_choices h hb hx lw (m := 0) hL rfl).mono fun _ _ ⟨ao, cap, h1, _, h3⟩ => ⟨ao, cap, h1, h3⟩

omit h in
theorem sn_left {W' : World} (hb : Below W4.heap.size W4 W') {v : Value} {row : List Int} (hx : Ix W' v row) (lw : row.length ≤ 8) {q : Int} (hL : leftV row = q) :
    Calls Try.prog 15 #[v] W' fun e w' => e = .returned (.int .i64 q) ∧ Below W4.heap.size W4 w' := by
  refine (left_any hx (by omega)).mono fun e w' ⟨h1, h3⟩ => ?_
  rw [hL] at h1
  exact ⟨h1, hb.trans (h3.mono hb.size)⟩

theorem SnI.w2 : Ix W4 (.slice (some ⟨hw, 0, none⟩) 2 3) [4, 0] := h.w.take 2 (by decide)
end

attribute [local go_sem ↓] equal28

set_option maxRecDepth 100000 in
set_option maxHeartbeats 8000000 in
theorem sanity_any (W : World) : Calls Try.prog 8 #[] W fun e w' => e = .returned (.bool true) ∧ Below W.heap.size W w' := by
  have HPK := Lib.hid pick_new
  obtain ⟨W4, hW4⟩ : ∃ W4, W4 = snW W := ⟨_, rfl⟩
  have hst := sn_start W
  rw [← hW4] at hst
  have HW4 := Lib.hid hW4
  have HST := Lib.hid hst
  clear hst hW4
  go_enter Try.func8, Try.ntmps8
  go_upto_region 4 with ((go_at_call 17; refine (HPK.out _ _ _ _).mono ?_; rintro e w1 ⟨rfl, rfl⟩))
  change Code.wp _ _ _ _ (snW W)
  rw [← HW4.out]
  clear HW4
  have HNW := Lib.hid HST.out.b
  revert HST
  generalize W.heap.size + 1 + 1 + 1 + 1 + 1 + 1 + 1 + 1 = hw
  generalize W.heap.size + 1 + 1 + 1 + 1 + 1 + 1 + 1 = hf
  generalize W.heap.size + 1 + 1 = hd
  generalize W.heap.size + 1 = hs
  generalize W.heap.size = hr
  intro HST
  have HB := Lib.hid (Below.refl W4.heap.size W4)
  have C1 := Lib.hid (fun W' (hb : Below W4.heap.size W4 W') => sn_choices HST.out hb (Ix.nil W' none 0) (by decide) (m := 4) sn_1 rfl)
  have C2 := Lib.hid (fun W' b (hb : Below W4.heap.size W4 W') (h : b = W'.heap.size) => sn_choices HST.out (hb.alloc hb.size (.cells #[.int .i64 0, .int .i64 0, .int .i64 0] 3)) (ix_of3 (g := b) (by rw [h]; exact heap_alloc_new _ _) (by decide) (by decide) (by decide)) (by decide) (m := 4) sn_2 rfl)
  have C3 := Lib.hid (fun W' (hb : Below W4.heap.size W4 W') => sn_choices HST.out hb (HST.out.w.below hb) (by decide) (m := 2) sn_3 rfl)
  have S1 := Lib.hid (fun W' v (hb : Below W4.heap.size W4 W') (hv : Cx W' v firstS) => same_yes hv (HST.out.f.below hb))
  have S3 := Lib.hid (fun W' b v (hv : Cx W' v [(4, 0, 0), (1, 0, 2)]) (h : b = W'.heap.size) => same_yes (hv.below ((Below.refl _ W').alloc (Nat.le_refl _) (.cells #[.int .i64 4, .int .i64 0, .int .i64 0, .int .i64 1, .int .i64 0, .int .i64 2] 28))) (cx_of (g := b) (n := 2) (l := [(4, 0, 0), (1, 0, 2)]) (by rw [h]; exact heap_alloc_new _ _) rfl (by decide) (by decide)))
  have PK := Lib.hid pick_any
  have d0 := fun W' (hb : Below W4.heap.size W4 W') => (HST.out.d.below hb).cells
  have HD := Lib.hid d0
  clear d0
  obtain ⟨k0, k1, k2, k3, k4, k5⟩ := HD.out _ HB.out
  go_upto_region 5 with (first
    | (go_at_call 14; (with_reducible refine (C1.out _ HB.out).mono ?_); rintro e w1 ⟨ao, cap, rfl, hcx, hb⟩; have HCX := Lib.hid hcx; have HB := Lib.hid hb; clear hcx hb; clear k0 k1 k2 k3 k4 k5; obtain ⟨k0, k1, k2, k3, k4, k5⟩ := HD.out _ HB.out)
    | (go_at_call 14; (with_reducible refine (C2.out _ _ HB.out rfl).mono ?_); rintro e w1 ⟨ao, cap, rfl, hcx, hb⟩; have HCX := Lib.hid hcx; have HB := Lib.hid hb; clear hcx hb; clear k0 k1 k2 k3 k4 k5; obtain ⟨k0, k1, k2, k3, k4, k5⟩ := HD.out _ HB.out)
    | (go_at_call 14; (with_reducible refine (C3.out _ HB.out).mono ?_); rintro e w1 ⟨ao, cap, rfl, hcx, hb⟩; have HCX := Lib.hid hcx; have HB := Lib.hid hb; clear hcx hb; clear k0 k1 k2 k3 k4 k5; obtain ⟨k0, k1, k2, k3, k4, k5⟩ := HD.out _ HB.out)
    | (go_at_call 13; (with_reducible refine (S1.out _ _ HB.out HCX.out).mono ?_); rintro e w1 ⟨rfl, hb⟩; have HB := Lib.hid (HB.out.trans (hb.mono HB.out.size)); clear hb; clear k0 k1 k2 k3 k4 k5; obtain ⟨k0, k1, k2, k3, k4, k5⟩ := HD.out _ HB.out)
    | (go_at_call 13; (with_reducible refine (S3.out _ _ _ HCX.out rfl).mono ?_); rintro e w1 ⟨rfl, hb⟩; have HB := Lib.hid ((HB.out.alloc HB.out.size _).trans (hb.mono (HB.out.alloc HB.out.size _).size)); clear hb; clear k0 k1 k2 k3 k4 k5; obtain ⟨k0, k1, k2, k3, k4, k5⟩ := HD.out _ HB.out)
    | (go_at_call 17; (with_reducible refine (PK.out _ _ _ _).mono ?_); rintro e w1 ⟨rfl, hb⟩; have HB := Lib.hid (HB.out.trans (hb.mono HB.out.size)); have HCX := Lib.hid (HCX.out.below hb); clear hb; clear k0 k1 k2 k3 k4 k5; obtain ⟨k0, k1, k2, k3, k4, k5⟩ := HD.out _ HB.out))
  clear k0 k1 k2 k3 k4 k5 HCX C1 C2 C3 S1 S3
  have G1 := Lib.hid (fun (X : World) (b : Nat) (hb : Below W4.heap.size W4 X) (h : X.heap[b]? = some (Obj.cells #[.int .i64 4, .int .i64 0, .int .i64 1] 3 (0, 0))) => sn_goes HST.out (aw := none) (nw := 0) (cw := 0) hb (Ix.nil X none 0) (ix_of3 h (by decide) (by decide) (by decide)) (by decide) sn_4)
  have G2 := Lib.hid (fun (X : World) (b : Nat) (hb : Below W4.heap.size W4 X) (h : X.heap[b]? = some (Obj.cells #[.int .i64 0, .int .i64 0, .int .i64 1] 3 (0, 0))) => sn_goes HST.out (at' := none) (nt := 0) (ct := 0) hb (ix_of3 h (by decide) (by decide) (by decide)) (Ix.nil X none 0) (by decide) sn_5)
  go_cut [5] from 5 to 46 (fun sv wx => sv = .bool true ∧ Hid (Below W4.heap.size W4 wx))
  case first =>
    have hb5 := HB.out
    have hz5 := hb5.size
    have hl4 : hd < W4.heap.size := (Array.getElem?_eq_some_iff.1 HST.out.d).1
    have hl5 := Nat.lt_of_lt_of_le hl4 hz5
    obtain ⟨k0, k1, k2, k3, k4, k5⟩ := HD.out _ hb5
    go_region_law (go_simp; (first
      | (go_at_call 17; refine (HPK.out _ _ _ _).mono ?_; rintro e w1 ⟨rfl, rfl⟩)
      | (go_at_call 27; (with_reducible refine (G1.out _ _ ?_ ?_).mono ?_); (focus (go_grown; done)); (focus (first | exact two_last _ _ _ | exact two_first _ _ _)); rintro e w2 ⟨rfl, hb6⟩; have hz6 := hb6.size; have hl6 := Nat.lt_of_lt_of_le hl4 hz6; obtain ⟨k0, k1, k2, k3, k4, k5⟩ := HD.out _ hb6)
      | (go_at_call 27; (with_reducible refine (G2.out _ _ ?_ ?_).mono ?_); (focus (go_grown; done)); (focus (first | exact two_last2 _ _ _ | exact two_first2 _ _ _)); rintro e w3 ⟨rfl, hb7⟩)))
    all_goals (go_wp2_with fail; go_meet; exact ⟨rfl, hb7⟩)
  case' rest =>
    obtain ⟨rfl, HB⟩ := hcut
    clear G1 G2 PK
    have N6 := Lib.hid (fun (X : World) (hb : Below W4.heap.size W4 X) => sn_next HST.out hb)
    go_upto_region 6 with fail
    go_cut [6, 7] from 6 to 53 (fun sv bv wx => ∃ ao cap, sv = .slice ao 0 cap ∧ bv = .bool false ∧ Hid (Below W4.heap.size W4 wx))
    case first =>
      have hb5 := HB.out
      have hz5 := hb5.size
      have hl4 : hd < W4.heap.size := (Array.getElem?_eq_some_iff.1 HST.out.d).1
      have hl5 := Nat.lt_of_lt_of_le hl4 hz5
      obtain ⟨k0, k1, k2, k3, k4, k5⟩ := HD.out _ hb5
      go_region_law (go_simp; (first
        | (go_at_call 17; refine (HPK.out _ _ _ _).mono ?_; rintro e w1 ⟨rfl, rfl⟩)
        | (go_at_call 18; (with_reducible refine (N6.out _ ?_).mono ?_); (focus (go_grown; done)); rintro e w2 ⟨ao, cap, rfl, hb6⟩)))
      all_goals (go_wp2_with fail; go_meet; exact ⟨ao, cap, rfl, rfl, hb6⟩)
    case' rest =>
      obtain ⟨ao, cap, rfl, rfl, HB⟩ := hcut
      go_upto_region 7 with fail
      have E1 := Lib.hid (fun (X : World) (hb : Below W4.heap.size W4 X) => sn_none HST.out hb (HST.out.w2.below hb) (by decide) sn_7)
      have E2 := Lib.hid (fun (X : World) (b : Nat) (hb : Below W4.heap.size W4 X) (h : X.heap[b]? = some (Obj.cells #[.int .i64 4, .int .i64 (-1), .int .i64 1] 3 (0, 0))) => sn_none HST.out hb (ix_of3 h (by decide) (by decide) (by decide)) (by decide) sn_8)
      have L1 := Lib.hid (fun (X : World) (hb : Below W4.heap.size W4 X) => sn_left hb (HST.out.w.below hb) (by decide) sn_9)
      have L2 := Lib.hid (fun (X : World) (b : Nat) (hb : Below W4.heap.size W4 X) (h : X.heap[b]? = some (Obj.cells #[.int .i64 4, .int .i64 (-1)] 3 (0, 0))) => sn_left hb (ix_of2 h (by decide) (by decide)) (by decide) sn_10)
      have hb5 := HB.out
      have hz5 := hb5.size
      have hl4 : hd < W4.heap.size := (Array.getElem?_eq_some_iff.1 HST.out.d).1
      have hl5 := Nat.lt_of_lt_of_le hl4 hz5
      obtain ⟨k0, k1, k2, k3, k4, k5⟩ := HD.out _ hb5
      go_region_held3 (fun W' => W'.cell? ⟨hd, 0, none⟩ = some (.int .i64 0) ∧ W'.cell? ⟨hd, 1, none⟩ = some (.slice (some ⟨hr, 0, none⟩) 3 3) ∧ W'.cell? ⟨hd, 2, none⟩ = some (.slice (some ⟨hs, 0, none⟩) 2 2) ∧ W'.cell? ⟨hd, 3, none⟩ = some (.int .i64 0) ∧ W'.cell? ⟨hd, 4, none⟩ = some (.int .i64 0) ∧ W'.cell? ⟨hd, 5, none⟩ = some (.int .i64 0))
        (first | (with_reducible exact HD.out _ hb5) | (exact HD.out _ hb5.drew) | (with_reducible exact HD.out _ hb6) | (exact HD.out _ (hb6.alloc hz6 _)) | (with_reducible exact HD.out _ hb7) | (with_reducible exact HD.out _ hb8) | (with_reducible exact HD.out _ hb9) | (exact HD.out _ (hb8.alloc hz8 _)))
        ((first
        | (go_at_call 14; (with_reducible refine (E1.out _ ?_).mono ?_); (focus (go_grown; done)); rintro e w2 ⟨ao1, cap1, rfl, hb6⟩; have hz6 := hb6.size)
        | (go_at_call 14; (with_reducible refine (E2.out _ _ ?_ ?_).mono ?_); (focus (go_grown; done)); (focus (exact heap_alloc_new _ _)); rintro e w3 ⟨ao2, cap2, rfl, hb7⟩; have hz7 := hb7.size)
        | (go_at_call 15; (with_reducible refine (L1.out _ ?_).mono ?_); (focus (go_grown; done)); rintro e w4 ⟨rfl, hb8⟩; have hz8 := hb8.size)
        | (go_at_call 15; (with_reducible refine (L2.out _ _ ?_ ?_).mono ?_); (focus (go_grown; done)); (focus (exact heap_alloc_new _ _)); rintro e w5 ⟨rfl, hb9⟩)))
      all_goals (go_wp2; go_ret; exact ⟨rfl, HNW.out.trans (hb9.mono HNW.out.size)⟩)

end Go.Proofs.Ytjlneggfkpjnpaa

namespace Go.Proofs.Ytjlneggfkpjnpaa
open Go.RowKit

theorem walk_ix {W : World} {ar az : Option Addr} {nr cr ns cs : Nat} {r s l : List Int} {vl : Value} (hr : Ix W (.slice ar nr cr) r) (hs : Ix W (.slice az ns cs) s) (lr : r.length ≤ 8) (ls : s.length ≤ 8) (hBl : hasB r s = true) (hl : Hx W vl l) :
    Calls Try.prog 21 #[.agg #[.int .i64 0, .slice ar nr cr, .slice az ns cs, .int .i64 0, .int .i64 0, .int .i64 0], vl] W fun e w' => ∃ aT cT aR cR m, e = .returned (.tuple #[.slice aT m cT, .slice aR m cR, .bool true]) ∧ m ≤ 400 ∧ Cx w' (.slice aT m cT) (takeC r s l m) ∧ (∀ j, j < m → ∃ g ao n cap, aR = some ⟨g, 0, none⟩ ∧ m ≤ cR ∧ w'.cell? ⟨g, j, none⟩ = some (.slice ao n cap) ∧ Ix w' (.slice ao n cap) (wRow r s l (j + 1))) ∧ Below W.heap.size W w' := by
  refine (walk_own hr hs lr ls hBl hl).mono fun e w' ⟨aT, cT, aR, cR, vals, W0, h1, h2, h3⟩ => ⟨aT, cT, aR, cR, min l.length 400, h1, by omega, ?_, fun j hj => ?_, h3⟩
  · refine h2.ft.cx (by omega) (fit_of fun c hc => ?_)
    unfold takeC at hc
    rw [List.mem_map] at hc
    obtain ⟨k, _, rfl⟩ := hc
    obtain ⟨a, b, c⟩ := chV_fit (wCh_mem hBl (fun k => (hl.fit k).1) k) lr
    exact ⟨⟨by omega, by omega⟩, ⟨by omega, by omega⟩, ⟨by omega, by omega⟩⟩
  · obtain ⟨ao, n, cap, g1, g2⟩ := h2.fv j hj
    rcases h2.fr.2 with ⟨_, h0⟩ | ⟨g, cap2, cur, hv, hB, hg, hc, hm, hsz, ht⟩
    · omega
    · injection hv with q1 q2 q3
      subst q3
      refine ⟨g, ao, n, cap, q1, hc, ?_, wRow_ix g2 lr⟩
      rw [cell_of_row _ _ _ _ _ _ hg, ← Array.getElem?_toList]
      rw [← ht, List.getElem?_take_of_lt (by omega)] at g1
      exact g1

/-- What each choice is, and what it leaves. -/
theorem w_facts {r s l : List Int} (hB : hasB r s = true) (hl : ∀ k, 0 ≤ l.getD k 0) (k : Nat) :
    ((wCh r s l k).2.1 = 0 ∧ (wRow r s l k).length = r.length ∨ (1 ≤ (wCh r s l k).2.1 ∧ (wCh r s l k).2.1 ≤ 4) ∧ wRow r s l k = []) ∧ (∃ a : Nat, a < r.length ∧ (wCh r s l k).2.2 = (a : Int) ∧ 1 ≤ (blockV r (wRow r s l k) (wCh r s l k).2.1).getD a 0) ∧ inB 0 1048576 (blockV r (wRow r s l k) (wCh r s l k).2.1) = true ∧ (blockV r (wRow r s l k) (wCh r s l k).2.1).length = r.length ∧ wRow r s l (k + 1) = if leftV (lessV (blockV r (wRow r s l k) (wCh r s l k).2.1) (wCh r s l k).2.2) = 0 then [] else lessV (blockV r (wRow r s l k) (wCh r s l k).2.1) (wCh r s l k).2.2 := by
  have hm := wCh_mem hB hl k
  have hne : ∀ k, wRow r s l k ≠ [] → leftV (wRow r s l k) ≠ 0 := fun k hk => by
    cases k with
    | zero => exact absurd rfl hk
    | succ k =>
      have e : wRow r s l (k + 1) = nextV r s (wRow r s l k) (pickC r s (wRow r s l k) (l.getD k 0)) := rfl
      rw [e] at hk ⊢
      unfold nextV at hk ⊢
      split at hk
      · split at hk
        · exact absurd rfl hk
        · rename_i h1 h2
          rw [if_pos h1, if_neg h2]; exact h2
      · exact absurd rfl hk
  have hrow : wRow r s l (k + 1) = if leftV (lessV (blockV r (wRow r s l k) (wCh r s l k).2.1) (wCh r s l k).2.2) = 0 then [] else lessV (blockV r (wRow r s l k) (wCh r s l k).2.1) (wCh r s l k).2.2 := by
    show nextV r s (wRow r s l k) (wCh r s l k) = _
    unfold nextV nextOk
    rw [decide_eq_true hm, if_pos rfl]
  generalize hc : wCh r s l k = c at hm hrow ⊢
  obtain ⟨x, y, z⟩ := c
  obtain ⟨_, hy, hin, hlen, a, ha, hz, h1, _⟩ := ch_facts hm
  refine ⟨?_, ⟨a, ha, hz, h1⟩, hin, hlen, hrow⟩
  by_cases he : wRow r s l k = []
  · right
    refine ⟨?_, he⟩
    rcases hy with ⟨h0, h2⟩ | h2
    · rw [he] at h2
      have := (hasB_iff.1 hB).1.1
      simp at h2; omega
    · exact h2
  · left
    have hl1 := hne k he
    unfold chV at hm
    split at hm
    · split at hm
      · obtain ⟨j, hj, h0, hq⟩ := mem_coll.1 hm
        injection hq with q1 q2
        injection q2 with q2 q3
        refine ⟨q2, ?_⟩
        rcases hy with ⟨_, h2⟩ | h2
        · exact h2
        · omega
      · rename_i hx
        have hin2 := wRow_in r s l k
        have := (sum_in hin2 (wRow r s l k).length (Nat.le_refl _)).1
        rw [List.take_length] at this
        unfold leftV at hx hl1
        rw [if_pos hin2] at hx hl1
        omega
    · simp at hm

end Go.Proofs.Ytjlneggfkpjnpaa

namespace Go.Proofs.Ytjlneggfkpjnpaa
open Go.RowKit

/-- The box of the bytes. -/
abbrev bW (W : World) (va vb : Value) : World := W.alloc (.cells #[va, vb] 24)
theorem b_box {W W' : World} {va vb : Value} (h : Below (bW W va vb).heap.size (bW W va vb) W') : W'.cell? ⟨W.heap.size, 0, none⟩ = some va ∧ W'.cell? ⟨W.heap.size, 1, none⟩ = some vb := by
  have h1 : W'.heap[W.heap.size]? = some (.cells #[va, vb] 24 (0, 0)) := (h.block W.heap.size (by simp)).trans (heap_alloc_new _ _)
  exact ⟨cell_of_row _ _ _ _ _ _ h1, cell_of_row _ _ _ _ _ _ h1⟩
theorem b_up (W : World) (va vb : Value) : Below W.heap.size W (bW W va vb) := (Below.refl _ W).alloc (Nat.le_refl _) _

attribute [local go_sem ↓] appI_rw

set_option maxRecDepth 100000 in
set_option maxHeartbeats 8000000 in
theorem blockWalks_any {W : World} {va vb vl : Value} {la lb l : List Int} (ha : Ux W va la) (hb : Ux W vb lb) (hl : Hx W vl l) :
    Calls Try.prog 4 #[.agg #[va, vb], vl] W fun e w' => e = .returned (.bool true) ∧ Below W.heap.size W w' := by
  have HSA := Lib.hid (fun W' => sanity_any W')
  obtain ⟨P0, hP0⟩ : ∃ P0, P0 = bW W va vb := ⟨_, rfl⟩
  have HB : Hid (Below P0.heap.size P0 (bW W va vb)) := Lib.hid (by rw [hP0]; exact Below.refl _ _)
  have HBX := Lib.hid (fun W' (h : Below P0.heap.size P0 W') => b_box (W' := W') (W := W) (va := va) (vb := vb) (by rw [← hP0]; exact h))
  have hup : Below W.heap.size W P0 := by rw [hP0]; exact b_up W va vb
  have HUP := Lib.hid (fun W' (h : Below P0.heap.size P0 W') => hup.trans (h.mono hup.size))
  have HMA := Lib.hid (fun W' (h : Below P0.heap.size P0 W') => made_ix (ha.below (HUP.out _ h)) (hb.below (HUP.out _ h)))
  have HLX := Lib.hid (fun W' (h : Below P0.heap.size P0 W') => hl.below (HUP.out _ h))
  have HFIT := Lib.hid (fun k => (hl.fit k).1)
  clear ha hb hl hup hP0
  go_enter Try.func4, Try.ntmps4
  go_upto_region 3 with (first
    | (go_at_call 8; (with_reducible refine (HSA.out _).mono ?_); rintro e w1 ⟨rfl, hb⟩; have HB := Lib.hid (HB.out.trans (hb.mono HB.out.size)); obtain ⟨b0, b1⟩ := HBX.out _ HB.out; clear hb)
    | (go_at_call 9; (with_reducible refine (HMA.out _ HB.out).mono ?_); rintro e w2 ⟨ar, nr, cr, az, ns, cs, rfl, hr, hs, hb⟩; have HR := Lib.hid hr; have HS := Lib.hid hs; have HB2 := Lib.hid (HB.out.trans (hb.mono HB.out.size)); clear hb hr hs))
  change Code.wp _ _ _ _ (dbox w2 (.slice ar nr cr) (.slice az ns cs))
  have hD := dbox_is w2 (.slice ar nr cr) (.slice az ns cs)
  have hR := HR.out.below (dbox_below w2 (.slice ar nr cr) (.slice az ns cs))
  have hS := HS.out.below (dbox_below w2 (.slice ar nr cr) (.slice az ns cs))
  have hB3 := HB2.out.trans ((dbox_below w2 (.slice ar nr cr) (.slice az ns cs)).mono HB2.out.size)
  generalize dbox w2 (.slice ar nr cr) (.slice az ns cs) = W3 at hD hR hS hB3 ⊢
  generalize w2.heap.size = g6 at hD ⊢
  have hnr : nr ≤ 5 := by have := hR.size; have := ratV_len la; omega
  have hlr : (ratV la 4).length ≤ 8 := by have := ratV_len la; omega
  have hls : (sizD lb).length ≤ 8 := by have := sizD_len lb; omega
  have hnr2 := hR.size
  have HWK := Lib.hid (walk_ix hR hS hlr hls (has_made la lb) (HLX.out _ hB3))
  have HF := Lib.hid (fun k => w_facts (has_made la lb) HFIT.out k)
  obtain ⟨k0, k1, k2, k3, k4, k5⟩ := hD.cells
  have HD := Lib.hid hD
  have HR3 := Lib.hid hR
  have HB3 := Lib.hid hB3
  revert HWK HF HR3 hlr hnr2
  generalize ratV la 4 = r
  generalize sizD lb = s
  intro hlr hnr2 HWK HF HR3
  have HNR := Lib.hid hnr2
  clear hD hR hS hB3 HB2 HR HS HB HSA HMA hls HLX HFIT hnr2
  go_upto_region 8 with ((go_at_call 21; (with_reducible refine HWK.out.mono ?_); rintro e w4 ⟨aT, cT, aR, cR, m, rfl, hm, hT, hRo, hb⟩; have HT := Lib.hid hT; have HRO := Lib.hid hRo; have HB4 := Lib.hid hb; clear hT hRo hb))
  clear k0 k1 k2 k3 k4 k5
  have HB5 := Lib.hid (HB3.out.trans (HB4.out.mono HB3.out.size))
  have HD5 := Lib.hid (HD.out.below HB4.out)
  have HR5 := Lib.hid (HR3.out.below HB4.out)
  have HTL := Lib.hid (takeC_len r s l m)
  go_loopw [10, 30] (fun lv kv wr => ∃ (k : Nat) (aL : Option Addr) (nL cL : Nat), k ≤ m ∧ kv = .int .i64 (k : Nat) ∧ lv = .slice aL nL cL ∧ Hid (OwI wr w4.heap.size (.slice aL nL cL) nL (wRow r s l k)) ∧ Hid (nL = 0 → aL = none ∧ cL = 0) ∧ Hid (Below w4.heap.size w4 wr)) (fun _ kv _ => m - (intOf kv).toNat)
  case atStart => exact ⟨0, none, 0, 0, by omega, rfl, rfl, Lib.hid (World.ownsRow_nil _ _ _ _), Lib.hid (fun _ => ⟨rfl, rfl⟩), Lib.hid (Below.refl _ _)⟩
  case round =>
    obtain ⟨k, aL, nL, cL, hk, rfl, rfl, hO, hNI, hB⟩ := hrel
    by_cases hkm : k = m
    · subst hkm
      go_wp2
      go_ret
      exact ⟨rfl, HUP.out _ (HB5.out.trans (hB.out.mono HB5.out.size))⟩
    · have hlt : k < m := by omega
      obtain ⟨hcase, ⟨a, ha, hz, h1⟩, hin, hbl, hnext⟩ := HF.out k
      have hnL := owI_len hO.out
      obtain ⟨bT, oT, rfl, hcapT, hbT, hclT⟩ := HT.out.at (by omega)
      obtain ⟨f0, f1, f2⟩ := hclT k hlt
      rw [takeC_get hlt] at f0 f1 f2
      have f0 := cell_later hB.out f0
      have f1 := cell_later hB.out f1
      have f2 := cell_later hB.out f2
      have hbT2 : bT < wr.heap.size := Nat.lt_of_lt_of_le hbT hB.out.size
      revert hcase ha hz h1 hin hbl hnext f0 f1 f2
      generalize wCh r s l k = c
      obtain ⟨cx, cy, cz⟩ := c
      intro hcase ha hz h1 hin hbl hnext f0 f1 f2
      simp only at hcase hz h1 hin hbl hnext f0 f1 f2
      subst hz
      go_upto_region 10 with fail
      change Code.wp _ _ _ _ (cbox wr (cx, cy, (a : Int)))
      have hCB := cbox_is wr (cx, cy, (a : Int))
      have hO5 := owns_later hO.out (cbox_below wr (cx, cy, (a : Int)))
      have hb5 := hB.out.trans ((cbox_below wr (cx, cy, (a : Int))).mono hB.out.size)
      clear f0 f1 f2
      revert hCB hO5 hb5
      generalize cbox wr (cx, cy, (a : Int)) = W5
      generalize wr.heap.size = g12
      intro hCB hO5 hb5
      obtain ⟨f0, f1, f2⟩ := hCB.cells
      obtain ⟨k0, k1, k2, k3, k4, k5⟩ := (HD5.out.below hb5).cells
      have HCB := Lib.hid hCB
      have HO5 := Lib.hid hO5
      have HB6 := Lib.hid hb5
      have HBLEN := Lib.hid hbl
      have hanr : a < nr := by have := HNR.out; omega
      have HIN := Lib.hid hin
      have HNEXT := Lib.hid hnext
      have HCASE := Lib.hid hcase
      have HNL := Lib.hid hnL
      have hnn : ¬ (nr : Int) ≤ (a : Int) := by omega
      have hq : (cy = 0 ∧ nL = nr) ∨ (1 ≤ cy ∧ cy ≤ 4 ∧ nL = 0) := by
        have := HNR.out
        rcases hcase with ⟨h2, h3⟩ | ⟨⟨h2, h3⟩, h4⟩
        · exact .inl ⟨h2, by omega⟩
        · rw [h4] at hnL; exact .inr ⟨h2, h3, hnL⟩
      clear hCB hO5 hb5 hbl hin hnext hcase hnL hO hB ha
      go_upto_if 54 with fail
      go_cut [10] from 35 to 54 (fun sv wx => sv = .slice aL nL cL ∧ wx = W5)
      case first =>
        rcases hq with ⟨hy, hn⟩ | ⟨hy1, hy4, hn⟩
        · subst hy hn
          have hn0 : ¬ nL = 0 := by omega
          go_wp2_with fail
          all_goals first | (go_meet; exact ⟨rfl, rfl⟩) | (exfalso; rename_i h9; simp [hn0] at h9; omega)
        · subst hn
          have hy0 : ¬ cy = 0 := by omega
          go_wp2_with fail
          all_goals first | (go_meet; exact ⟨rfl, rfl⟩) | (exfalso; rename_i h9; simp [hy0] at h9; omega)
      case' rest =>
        obtain ⟨rfl, rfl⟩ := hcut
        go_upto_if 57 with fail
        go_cut [10] from 55 to 75 (fun lv wx => ∃ (aB : Option Addr) (cB : Nat), lv = .slice aB nr cB ∧ Hid (OwI wx w4.heap.size (.slice aB nr cB) nr (blockV r (wRow r s l k) cy)) ∧ Hid (Below wc.heap.size wc wx))
        case first =>
          rcases hq with ⟨hy, hn⟩ | ⟨hy1, hy4, hn⟩
          · subst hy hn
            go_wp2_with fail
            go_meet
            exact ⟨aL, cL, rfl, Lib.hid (by unfold blockV; rw [if_pos rfl]; exact HO5.out), Lib.hid (Below.refl _ _)⟩
          · obtain ⟨rfl, rfl⟩ := hNI.out hn
            subst hn
            have hy0 : ¬ cy = 0 := by omega
            have HMP : Hid (blockV r (wRow r s l k) cy = r.map fun x => cy * x) := Lib.hid (by unfold blockV; rw [if_neg hy0])
            have HRX := Lib.hid (HR5.out.below HB6.out)
            have HBD : Hid (∀ j, j < nr → 0 ≤ cy * r.getD j 0 ∧ cy * r.getD j 0 ≤ 1048576) := Lib.hid fun j hj => by
              have := (inB_iff.1 HIN.out) j (by rw [HBLEN.out, ← HNR.out]; exact hj)
              rw [HMP.out, getD_map (by rw [← HNR.out]; exact hj)] at this
              exact this
            go_wp2_with fail
            clear k0 k1 k2 k3 k4 k5 f0 f1 f2
            go_loopw [10, 61] (fun lv kv wr => ∃ (j : Nat) (aB : Option Addr) (cB : Nat), j ≤ nr ∧ kv = .int .i64 (j : Nat) ∧ lv = .slice aB j cB ∧ Hid (OwI wr wc.heap.size (.slice aB j cB) j ((r.map fun x => cy * x).take j)) ∧ Hid (Below wc.heap.size wc wr)) (fun _ kv _ => nr - (intOf kv).toNat)
            case atStart => exact ⟨0, none, 0, by omega, rfl, rfl, Lib.hid (World.ownsRow_nil _ _ _ _), Lib.hid (Below.refl _ _)⟩
            case round =>
              obtain ⟨j, aB, cB, hj, rfl, rfl, hO, hB⟩ := hrel
              by_cases hjn : j = nr
              · have HOF : Hid (OwI wr wc.heap.size (.slice aB nr cB) nr (r.map fun x => cy * x)) := Lib.hid (by
                  have h9 := hO.out
                  rw [hjn] at h9
                  rwa [List.take_of_length_le (by rw [List.length_map, ← HNR.out]; exact Nat.le_refl _)] at h9)
                subst hjn
                go_wp2_with fail
                go_meet
                exact ⟨aB, cB, rfl, Lib.hid (by rw [HMP.out]; exact owns_mono HOF.out HB6.out.size), hB⟩
              · have hjlt : j < nr := by omega
                obtain ⟨f0, f1, f2⟩ := CBox.cells (HCB.out.below hB.out)
                obtain ⟨k0, k1, k2, k3, k4, k5⟩ := (HD5.out.below (HB6.out.trans (hB.out.mono HB6.out.size))).cells
                obtain ⟨br, ofr, rfl, hqr, hcapr, hblr, hclr⟩ := HRX.out.at (by omega)
                have hcr := cell_later hB.out (hclr j hjlt)
                have hbd := HBD.out j hjlt
                obtain ⟨g, cap3, w7, hrun, hown, hb7, -, -, -⟩ := push_int (W := wr.drew) (hO.out : OwI wr.drew _ _ _ _) (by omega) hB.out.size (cy * r.getD j 0)
                have e : (r.map fun x => cy * x).take (j + 1) = (r.map fun x => cy * x).take j ++ [cy * r.getD j 0] := by
                  rw [take_next (by rw [List.length_map, ← HNR.out]; exact hjlt), getD_map (by rw [← HNR.out]; exact hjlt)]
                rw [← e] at hown
                obtain ⟨x, hx⟩ : ∃ x, x = r.getD j 0 := ⟨_, rfl⟩
                rw [← hx] at hcr hbd hrun
                have hrun : Sem.run Try.prog (appI 25 #[.slice aB j cB, .slice (some ⟨wr.heap.size, 0, none⟩) 1 1]) (wr.alloc (.cells #[.int .i64 (cy * x)] 3)).drew = .ok (.slice (some ⟨g, 0, none⟩) (j + 1) cap3) w7 := hrun
                have hw2 : IntKind.i64.wrap (cy * x) = cy * x := IntWalk.i64_in _ (by omega)
                have HO7 := Lib.hid hown
                have HB7 := Lib.hid (hB.out.drew.trans hb7)
                clear hx hqr hclr hown hb7 e hO hbd hblr
                go_wp2
                go_region_law (fail)
                all_goals (go_wp2; go_roundw; all_goals first | exact ⟨j + 1, some ⟨g, 0, none⟩, cap3, by omega, by go_num, rfl, HO7, HB7⟩ | (simp [intOf]; done) | (simp [intOf]; omega))
        case' rest =>
          obtain ⟨aB, cB, rfl, HOB, HBc⟩ := hcut
          have HBX2 := Lib.hid (HB6.out.trans (HBc.out.mono HB6.out.size))
          obtain ⟨f0, f1, f2⟩ := CBox.cells (HCB.out.below HBc.out)
          have hI1 := HIN.out
          have hl1 : (blockV r (wRow r s l k) cy).length = nr := by rw [HBLEN.out, HNR.out]
          have hLin := less_in hI1 (by rw [hl1]; exact hanr) h1
          have hLlen : (lessV (blockV r (wRow r s l k) cy) (a : Int)).length = nr := by unfold lessV; rw [List.length_set]; exact hl1
          obtain ⟨g, cap, e, hcap, hg, hgl, hgc, hfr, hset⟩ := OwI.parts HOB.out (by omega)
          injection e with e e7 e8
          subst e
          clear e7 e8 hcap
          have hca := hgc a hanr
          have hfa := hfr a
          have hst := hset a ((blockV r (wRow r s l k) cy).getD a 0 - 1) hanr
          have hst2 : OwI (wc.setCell ⟨g, a, none⟩ (.int .i64 ((blockV r (wRow r s l k) cy).getD a 0 - 1))) w4.heap.size (.slice (some ⟨g, 0, none⟩) nr cB) nr (lessV (blockV r (wRow r s l k) cy) (a : Int)) := hst
          have hq1 := (inB_iff.1 hI1) a (by rw [hl1]; exact hanr)
          have hb7 := HBX2.out.setCell (p := ⟨g, a, none⟩) (by simp only; exact hg) (.int .i64 ((blockV r (wRow r s l k) cy).getD a 0 - 1))
          have HNX : Hid (wRow r s l (k + 1) = if leftV (lessV (blockV r (wRow r s l k) cy) (a : Int)) = 0 then [] else lessV (blockV r (wRow r s l k) cy) (a : Int)) := Lib.hid HNEXT.out
          have hTv : leftV (lessV (blockV r (wRow r s l k) cy) (a : Int)) = (lessV (blockV r (wRow r s l k) cy) (a : Int)).sum := by unfold leftV; rw [if_pos hLin]
          have HTV := Lib.hid hTv
          clear hTv hset hst hgc hfr hgl hI1 hl1 h1
          revert hca hst2 hq1 hb7 hLin hLlen HNX HTV
          generalize lessV (blockV r (wRow r s l k) cy) (a : Int) = Lv
          generalize (blockV r (wRow r s l k) cy).getD a 0 = q
          intro hLin hLlen hca hst2 hq1 hb7 HNX HTV
          have HLI := Lib.hid hLin
          have HLL := Lib.hid hLlen
          have HOY := Lib.hid hst2
          have HB7 := Lib.hid hb7
          clear hst2 hb7 hLin hLlen
          go_upto_region 21 with fail
          change Code.wp _ _ _ _ (World.setCell wc ⟨g, a, none⟩ (.int .i64 (q - 1)))
          revert HOY HB7
          generalize World.setCell wc ⟨g, a, none⟩ (.int .i64 (q - 1)) = WY
          intro HOY HB7
          have HCY := Lib.hid (OwI.parts HOY.out (by omega))
          clear hca hfa hq1 f0 f1 f2 k0 k1 k2 k3 k4 k5
          go_loop [14, 85] (fun sv kv => ∃ (j : Nat) (S : Int), j ≤ nr ∧ 0 ≤ S ∧ S ≤ 1048576 * 1000 ∧ kv = .int .i64 (j : Nat) ∧ sv = .int .i64 S ∧ Hid (S = (Lv.take j).sum)) (fun _ kv => nr - (intOf kv).toNat)
          case atStart => exact ⟨0, 0, by omega, by omega, by omega, rfl, rfl, Lib.hid (by simp)⟩
          case round =>
            obtain ⟨j, S, hj, hS0, hS1, rfl, rfl, hJ⟩ := hrel
            by_cases hjn : j = nr
            · have hS : S = leftV Lv := by rw [hJ.out, HTV.out, hjn, ← HLL.out, List.take_length]
              have hjn2 : ¬ j < nr := by omega
              obtain ⟨gR, aoR, nR, cpR, rfl, hmR, hcR, hiR⟩ := HRO.out k hlt
              have hcR2 := cell_later HB7.out hcR
              have hiR2 := hiR.below HB7.out
              have HIR := Lib.hid hiR2
              have hlen : (wRow r s l (k + 1)).length ≤ 8 := wRow_len hlr (k + 1)
              have HLE := Lib.hid (fun W' (hb : Below WY.heap.size WY W') => left_any (hiR2.below hb) (by omega))
              by_cases hT : leftV Lv = 0
              · have hnx : wRow r s l (k + 1) = [] := by rw [HNX.out, if_pos hT]
                rw [hT] at hS
                subst hS
                have HSI := Lib.hid (sameInts_yes hiR2 (by rw [hnx]; exact Ix.nil WY none 0))
                have HLE2 := Lib.hid (fun W' (hb : Below WY.heap.size WY W') => by have := HLE.out W' hb; rw [hnx] at this; exact this)
                have HNX2 := Lib.hid hnx
                clear hjn hcR hiR hiR2 hlen hnx hT hJ HLE
                go_wp2_with (first
                  | (go_at_call 20; (with_reducible refine HSI.out.mono ?_); rintro e w8 ⟨rfl, hb8⟩; have hcR2 := cell_later hb8 hcR2; have HB8 := Lib.hid hb8; clear hb8)
                  | (go_at_call 15; (with_reducible refine (HLE2.out _ HB8.out).mono ?_); rintro e w9 ⟨rfl, hb9⟩; have HB9 := Lib.hid (HB8.out.trans (hb9.mono HB8.out.size)); clear hb9))
                go_roundw
                case rel => exact ⟨k + 1, none, 0, 0, by omega, by go_num, rfl, Lib.hid (by rw [HNX2.out]; exact World.ownsRow_nil _ _ _ _), Lib.hid (fun _ => ⟨rfl, rfl⟩), Lib.hid (HB7.out.trans (HB9.out.mono HB7.out.size))⟩
                case measure => simp [intOf]; omega
              · have hnx : wRow r s l (k + 1) = Lv := by rw [HNX.out, if_neg hT]
                have HOI := Lib.hid (OwI.ix HOY.out (by omega) (fit_in HLI.out))
                have HSI := Lib.hid (sameInts_yes hiR2 (by rw [hnx]; exact HOI.out))
                have HLE2 := Lib.hid (fun W' (hb : Below WY.heap.size WY W') => by have := HLE.out W' hb; rw [hnx, ← hS] at this; exact this)
                have HNX2 := Lib.hid hnx
                have hS3 : ¬ S = 0 := by omega
                clear hjn hcR hiR hiR2 hlen hnx hT hJ HLE hS
                go_wp2_with (first
                  | (go_at_call 20; (with_reducible refine HSI.out.mono ?_); rintro e w8 ⟨rfl, hb8⟩; have hcR2 := cell_later hb8 hcR2; have HB8 := Lib.hid hb8; clear hb8)
                  | (go_at_call 15; (with_reducible refine (HLE2.out _ HB8.out).mono ?_); rintro e w9 ⟨rfl, hb9⟩; have HB9 := Lib.hid (HB8.out.trans (hb9.mono HB8.out.size)); clear hb9))
                go_roundw
                case rel => exact ⟨k + 1, _, nr, cB, by omega, by go_num, rfl, Lib.hid (by rw [HNX2.out]; exact owns_later HOY.out HB9.out), Lib.hid (fun h => by omega), Lib.hid (HB7.out.trans (HB9.out.mono HB7.out.size))⟩
                case measure => simp [intOf]; omega
            · have hjlt : j < nr := by omega
              obtain ⟨gg, capp, ee, -, -, -, hgc2, -, -⟩ := HCY.out
              injection ee with ee _ ee2
              injection ee with ee
              injection ee with ee
              subst ee
              have hcj := hgc2 j hjlt
              have hs := sum_in HLI.out (j + 1) (by rw [HLL.out]; omega)
              have e := sum_take (l := Lv) (k := j) (by rw [HLL.out]; omega)
              have hbd := (inB_iff.1 HLI.out) j (by rw [HLL.out]; omega)
              rw [e, ← hJ.out] at hs
              rw [← hJ.out] at e
              obtain ⟨x, hx⟩ : ∃ x, x = Lv.getD j 0 := ⟨_, rfl⟩
              rw [← hx] at hcj hs e hbd
              obtain ⟨hs1, hs2⟩ := hs
              obtain ⟨hb1, hb2⟩ := hbd
              have hs3 : S + x ≤ 1048576 * 1000 := by omega
              have E := Lib.hid e
              clear hx hgc2 e hs2 hJ ee2
              go_wp2
              go_round
              case rel => exact ⟨j + 1, S + x, by omega, hs1, hs3, by go_num, rfl, Lib.hid E.out.symm⟩
              case measure => simp [intOf]; omega

end Go.Proofs.Ytjlneggfkpjnpaa

namespace Go.Proofs.Ytjlneggfkpjnpaa
set_option linter.unusedSimpArgs false
set_option linter.unusedVariables false
open Go Go.RowKit

/-- Ints do not lie in a box of a number. -/
theorem ix_nset {w : World} {v : Value} {l : List Int} (h : Ix w v l) {g i : Nat} {d : Bool} {ao : Option Addr} {k cap : Nat} (hb : NBx w g d (.slice ao k cap)) (u : Value) : Ix (w.setCell ⟨g, i, none⟩ u) v l := by
  obtain ⟨h1, h2, h3⟩ := h
  refine ⟨h1, h2, ?_⟩
  rcases h3 with h3 | ⟨b, off, cap2, hv, hc, hlt, hl⟩
  · exact .inl h3
  · by_cases h0 : l = []
    · subst h0
      exact .inl ⟨rfl, some ⟨b, off, none⟩, cap2, hv⟩
    · have hn : 0 < l.length := List.length_pos_iff.2 h0
      have hbq : b ≠ g := fun e => by
        subst e
        have c := hl 0 hn
        rw [cell_of_row _ _ _ _ _ _ hb] at c
        by_cases ho : off = 0
        · subst ho; simp at c
        · by_cases ho1 : off = 1
          · subst ho1; simp at c
          · rw [show (#[Value.bool d, Value.slice ao k cap] : Array Value)[off + 0]? = none by simp; omega] at c
            cases c
      refine .inr ⟨b, off, cap2, hv, hc, by simp only [World.setCell, Array.size_modify]; exact hlt, fun j hj => ?_⟩
      exact (World.cell?_of_block (Below.heap_setCell _ _ _ _ (by simpa using hbq))).trans (hl j hj)
theorem ix_nput {w : World} {v : Value} {l : List Int} (h : Ix w v l) {g : Nat} {d d' : Bool} {ao ao' : Option Addr} {k k' cap cap' : Nat} (hb : NBx w g d (.slice ao k cap)) : Ix ((w.setCell ⟨g, 0, none⟩ (.bool d')).setCell ⟨g, 1, none⟩ (.slice ao' k' cap')) v l :=
  ix_nset (ix_nset h hb _) (nbx_put0 hb) _

theorem fa_made (la : List Int) (lb : List Int) {s : Nat} (h1 : 1 ≤ s) (h4 : s ≤ 4) : FaOk (ratV la 4) s := by
  have hl := ratV_len la
  have hh := has_made la lb
  have hrr : ∀ k, 0 ≤ (ratV la 4).getD k 0 ∧ (ratV la 4).getD k 0 ≤ 2 := fun k => by
    unfold ratV
    cases k with
    | zero => simp
    | succ k =>
      by_cases hk : k < (la.take 4).length
      · have e : (1 :: (la.take 4).map fun x => x % 3).getD (k + 1) 0 = (la.take 4).getD k 0 % 3 := by
          simp only [List.getD_cons_succ]
          exact getD_map hk
        rw [e]; omega
      · have e : (1 :: (la.take 4).map fun x => x % 3).getD (k + 1) 0 = 0 := by
          simp only [List.getD_cons_succ]
          simp only [List.getD, List.getElem?_eq_none (show ((la.take 4).map fun x => x % 3).length ≤ k by simp only [List.length_map]; omega)]
          rfl
        rw [e]; omega
  refine ⟨hl.1, hl.2, h1, h4, hrr, rfl, ?_⟩
  unfold hasB at hh ⊢
  rw [Bool.and_eq_true] at hh
  rw [hh.1, Bool.true_and]
  unfold hasS inB
  simp
  omega

/-- What lies in memory while BlockFair goes on. -/
structure FrI (w2 w : World) (Bd gS gW gA : Nat) (vr : Value) (s nw na : Nat) : Prop where
  b : Below w2.heap.size w2 w
  d : DBox w Bd vr (.slice (some ⟨gS, 0, none⟩) 1 1)
  z : w.heap[gS]? = some (.cells #[.int .i64 (s : Int)] 3 (0, 0))
  nW : NB w gW nw
  nA : NB w gA na
structure FrG (w2 : World) (Bd gS gW gA : Nat) : Prop where
  w : w2.heap.size ≤ gW
  a : w2.heap.size ≤ gA
  wa : gW ≠ gA
  dw : Bd ≠ gW
  da : Bd ≠ gA
  sw : gS ≠ gW
  sa : gS ≠ gA
theorem dbox_lt {w : World} {B : Nat} {vr vs : Value} (h : DBox w B vr vs) : B < w.heap.size := (Array.getElem?_eq_some_iff.1 h).1
theorem FrI.later {w2 w w' : World} {Bd gS gW gA : Nat} {vr : Value} {s nw na : Nat} (h : FrI w2 w Bd gS gW gA vr s nw na) (hb : Below w.heap.size w w') : FrI w2 w' Bd gS gW gA vr s nw na :=
  ⟨h.b.trans (hb.mono h.b.size), h.d.below hb, (hb.block gS (Array.getElem?_eq_some_iff.1 h.z).1).trans h.z, h.nW.later hb, h.nA.later hb⟩
theorem FrI.putW {w2 w : World} {Bd gS gW gA : Nat} {vr : Value} {s nw na m : Nat} {d : Bool} {ao : Option Addr} {k cap : Nat} (h : FrI w2 w Bd gS gW gA vr s nw na) (hg : FrG w2 Bd gS gW gA) (hm : NuA w d (.slice ao k cap) m) : FrI w2 ((w.setCell ⟨gW, 0, none⟩ (.bool d)).setCell ⟨gW, 1, none⟩ (.slice ao k cap)) Bd gS gW gA vr s m na :=
  ⟨(h.b.setCell hg.w _).setCell hg.w _, (Below.heap_setCell _ _ _ _ (by simpa using hg.dw)).trans ((Below.heap_setCell _ _ _ _ (by simpa using hg.dw)).trans h.d), (Below.heap_setCell _ _ _ _ (by simpa using hg.sw)).trans ((Below.heap_setCell _ _ _ _ (by simpa using hg.sw)).trans h.z), h.nW.put hm, h.nA.other h.nW (fun e => hg.wa e.symm)⟩
theorem FrI.putA {w2 w : World} {Bd gS gW gA : Nat} {vr : Value} {s nw na m : Nat} {d : Bool} {ao : Option Addr} {k cap : Nat} (h : FrI w2 w Bd gS gW gA vr s nw na) (hg : FrG w2 Bd gS gW gA) (hm : NuA w d (.slice ao k cap) m) : FrI w2 ((w.setCell ⟨gA, 0, none⟩ (.bool d)).setCell ⟨gA, 1, none⟩ (.slice ao k cap)) Bd gS gW gA vr s nw m :=
  ⟨(h.b.setCell hg.a _).setCell hg.a _, (Below.heap_setCell _ _ _ _ (by simpa using hg.da)).trans ((Below.heap_setCell _ _ _ _ (by simpa using hg.da)).trans h.d), (Below.heap_setCell _ _ _ _ (by simpa using hg.sa)).trans ((Below.heap_setCell _ _ _ _ (by simpa using hg.sa)).trans h.z), h.nW.other h.nA hg.wa, h.nA.put hm⟩
theorem FrI.six {w2 w : World} {Bd gS gW gA : Nat} {vr : Value} {s nw na : Nat} (h : FrI w2 w Bd gS gW gA vr s nw na) : Ix w (.slice (some ⟨gS, 0, none⟩) 1 1) [(s : Int)] ∨ ¬ s ≤ 1000 := by
  by_cases hs : s ≤ 1000
  · left
    refine ⟨by unfold maxLen; simp, fun k => ?_, .inr ⟨gS, 0, 1, rfl, by simp, (Array.getElem?_eq_some_iff.1 h.z).1, fun j hj => ?_⟩⟩
    · cases k with
      | zero => simp only [List.getD_cons_zero]; exact ⟨by omega, by omega⟩
      | succ k => simp; decide
    · have : j = 0 := by simpa using hj
      subst this
      exact cell_of_row _ _ _ _ _ _ h.z
  · exact .inr hs

end Go.Proofs.Ytjlneggfkpjnpaa
