/- The law BlockFair, walked. Condition: the arguments fit their types. -/
import Derived.Test.YtjlneggfkpjnpaaMb11
set_option linter.unusedSimpArgs false
set_option linter.unusedVariables false
namespace Go.Proofs.Ytjlneggfkpjnpaa
set_option linter.unusedSimpArgs false
set_option linter.unusedVariables false
open Go Go.RowKit
/-- A region that ends by writing a number into a box. -/
structure F1W (X : World) (g p si : Nat) (l : Array Bool) (vals : Nat → Value) (w : World) : Prop where
  a : l.getD si true = false → Below X.heap.size X w
  b : l.getD si true = true → ∃ w1 d ao k cap, Below X.heap.size X w1 ∧ NuA w1 d (.slice ao k cap) p ∧ w = (w1.setCell ⟨g, 0, none⟩ (.bool d)).setCell ⟨g, 1, none⟩ (.slice ao k cap)
theorem F1W.const {X w : World} {g p si i : Nat} {l : Array Bool} {vals vals' : Nat → Value} (h : F1W X g p si l vals w) (hi : si ≠ i) : F1W X g p si (l.setIfInBounds i true) vals' w := ⟨by rw [gset_ne hi]; exact h.a, by rw [gset_ne hi]; exact h.b⟩
theorem F1W.later {X w w' : World} {g p si : Nat} {l : Array Bool} {vals : Nat → Value} (h : F1W X g p si l vals w) (hn : l.getD si true = false) (hb : Below w.heap.size w w') : F1W X g p si l vals w' := ⟨fun _ => (h.a hn).trans (hb.mono (h.a hn).size), fun h2 => (by rw [hn] at h2; cases h2)⟩
theorem F1W.put {X w : World} {g p si : Nat} {l : Array Bool} {vals vals' : Nat → Value} {d : Bool} {ao : Option Addr} {k cap : Nat} (h : F1W X g p si l vals w) (hn : l.getD si true = false) (hi : NuA w d (.slice ao k cap) p) : F1W X g p si (l.setIfInBounds si true) vals' ((w.setCell ⟨g, 0, none⟩ (.bool d)).setCell ⟨g, 1, none⟩ (.slice ao k cap)) :=
  ⟨fun h2 => (by rw [gset_self] at h2; cases h2), fun _ => ⟨w, d, ao, k, cap, h.a hn, hi, rfl⟩⟩
def F11 (dq : Bool) (aq : Option Addr) (nq cq : Nat) (s : Nat) (Bd rb ro nr cr k : Nat) (x : Int) (y p : Nat) : Nat → Value → World → Prop
  | 0, u, _ => u = .agg #[.bool dq, .slice aq nq cq]
  | 1, u, _ => u = .int .i64 (s : Int)
  | 2, u, _ => u = .pointer (some ⟨Bd, 1, none⟩)
  | 3, u, _ => u = .slice (some ⟨rb, ro, none⟩) nr cr
  | 4, u, _ => u = .int .i64 (k : Int)
  | 5, u, _ => u = .pointer (some ⟨rb, ro + k, none⟩)
  | 6, u, _ => u = .int .i64 x
  | 7, u, _ => u = .int .i64 (y : Int)
  | 8, u, w => ∃ d ao k cap, u = .agg #[.bool d, .slice ao k cap] ∧ NuA w d (.slice ao k cap) (facN y)
  | 9, u, w => ∃ d ao k cap, u = .tuple #[.agg #[.bool d, .slice ao k cap], .bool true] ∧ NuA w d (.slice ao k cap) p
  | 10, u, w => ∃ d ao k cap, u = .tuple #[.agg #[.bool d, .slice ao k cap], .bool true] ∧ NuA w d (.slice ao k cap) p
  | 11, u, w => ∃ d ao k cap, u = .agg #[.bool d, .slice ao k cap] ∧ NuA w d (.slice ao k cap) p
  | 12, u, _ => u = .bool true
  | 13, _, _ => True
  | _, _, _ => True
theorem F11.keep {dq : Bool} {aq : Option Addr} {nq cq : Nat} {s : Nat} {Bd rb ro nr cr k : Nat} {x : Int} {y p : Nat} {w w' : World} (hk : ∀ d s n, NuA w d s n → NuA w' d s n) : ∀ i u9, F11 dq aq nq cq s Bd rb ro nr cr k x y p i u9 w → F11 dq aq nq cq s Bd rb ro nr cr k x y p i u9 w'
  | 0, _, h => h
  | 1, _, h => h
  | 2, _, h => h
  | 3, _, h => h
  | 4, _, h => h
  | 5, _, h => h
  | 6, _, h => h
  | 7, _, h => h
  | 8, _, ⟨d, a, k, c, e, h⟩ => ⟨d, a, k, c, e, hk _ _ _ h⟩
  | 9, _, ⟨d, a, k, c, e, h⟩ => ⟨d, a, k, c, e, hk _ _ _ h⟩
  | 10, _, ⟨d, a, k, c, e, h⟩ => ⟨d, a, k, c, e, hk _ _ _ h⟩
  | 11, _, ⟨d, a, k, c, e, h⟩ => ⟨d, a, k, c, e, hk _ _ _ h⟩
  | 12, _, h => h
  | 13, _, h => h
  | _ + 14, _, h => h
def f1Ch : List (Nat × Nat) := [(3, 2), (5, 3), (5, 4), (6, 5), (7, 1), (7, 6), (8, 7), (9, 0), (9, 8), (10, 9), (11, 10), (12, 10), (13, 11)]
/-- A region that ends by writing two numbers into boxes. -/
structure F3W (X : World) (gC gA p q : Nat) (l : Array Bool) (vals : Nat → Value) (w : World) : Prop where
  a : l.getD 10 true = false → Below X.heap.size X w
  b : l.getD 10 true = true → l.getD 11 true = false → ∃ w1 d ao k cap, Below X.heap.size X w1 ∧ NuA w1 d (.slice ao k cap) p ∧ w = (w1.setCell ⟨gC, 0, none⟩ (.bool d)).setCell ⟨gC, 1, none⟩ (.slice ao k cap)
  c : l.getD 11 true = true → ∃ w1 d ao k cap d2 ao2 k2 cap2, Below X.heap.size X w1 ∧ NuA w1 d (.slice ao k cap) p ∧ NuA ((w1.setCell ⟨gC, 0, none⟩ (.bool d)).setCell ⟨gC, 1, none⟩ (.slice ao k cap)) d2 (.slice ao2 k2 cap2) q ∧ w = (((w1.setCell ⟨gC, 0, none⟩ (.bool d)).setCell ⟨gC, 1, none⟩ (.slice ao k cap)).setCell ⟨gA, 0, none⟩ (.bool d2)).setCell ⟨gA, 1, none⟩ (.slice ao2 k2 cap2)
theorem F3W.const {X w : World} {gC gA p q i : Nat} {l : Array Bool} {vals vals' : Nat → Value} (h : F3W X gC gA p q l vals w) (hi : 10 ≠ i) (hj : 11 ≠ i) : F3W X gC gA p q (l.setIfInBounds i true) vals' w := ⟨by rw [gset_ne hi]; exact h.a, by rw [gset_ne hi, gset_ne hj]; exact h.b, by rw [gset_ne hj]; exact h.c⟩
theorem F3W.later {X w w' : World} {gC gA p q : Nat} {l : Array Bool} {vals : Nat → Value} (h : F3W X gC gA p q l vals w) (hn : l.getD 10 true = false) (hm : l.getD 11 true = false) (hb : Below w.heap.size w w') : F3W X gC gA p q l vals w' := ⟨fun _ => (h.a hn).trans (hb.mono (h.a hn).size), fun h2 => (by rw [hn] at h2; cases h2), fun h2 => (by rw [hm] at h2; cases h2)⟩
theorem F3W.putC {X w : World} {gC gA p q : Nat} {l : Array Bool} {vals vals' : Nat → Value} {d : Bool} {ao : Option Addr} {k cap : Nat} (h : F3W X gC gA p q l vals w) (hn : l.getD 10 true = false) (hm : l.getD 11 true = false) (hi : NuA w d (.slice ao k cap) p) : F3W X gC gA p q (l.setIfInBounds 10 true) vals' ((w.setCell ⟨gC, 0, none⟩ (.bool d)).setCell ⟨gC, 1, none⟩ (.slice ao k cap)) :=
  ⟨fun h2 => (by rw [gset_self] at h2; cases h2), fun _ _ => ⟨w, d, ao, k, cap, h.a hn, hi, rfl⟩, fun h2 => (by rw [gset_ne (by decide), hm] at h2; cases h2)⟩
theorem F3W.putA {X w : World} {gC gA p q : Nat} {l : Array Bool} {vals vals' : Nat → Value} {d : Bool} {ao : Option Addr} {k cap : Nat} (h : F3W X gC gA p q l vals w) (hn : l.getD 10 true = true) (hm : l.getD 11 true = false) (hi : NuA w d (.slice ao k cap) q) : F3W X gC gA p q (l.setIfInBounds 11 true) vals' ((w.setCell ⟨gA, 0, none⟩ (.bool d)).setCell ⟨gA, 1, none⟩ (.slice ao k cap)) := by
  obtain ⟨w1, d1, a1, k1, c1, h1, h2, h3⟩ := h.b hn hm
  subst h3
  exact ⟨fun h2 => (by rw [gset_ne (by decide), hn] at h2; cases h2), fun _ h2 => (by rw [gset_self] at h2; cases h2), fun _ => ⟨w1, d1, a1, k1, c1, d, ao, k, cap, h1, h2, hi, rfl⟩⟩
theorem nbx_other {w : World} {g q : Nat} {d d' : Bool} {s s' : Value} (h : NBx w q d s) (hq : q ≠ g) : NBx ((w.setCell ⟨g, 0, none⟩ (.bool d')).setCell ⟨g, 1, none⟩ s') q d s := (Below.heap_setCell _ _ _ _ (by simpa using hq)).trans ((Below.heap_setCell _ _ _ _ (by simpa using hq)).trans h)
theorem FrI.putC {w2 w : World} {Bd gS gW gA : Nat} {vr : Value} {s nw na gC n : Nat} {d : Bool} {ao : Option Addr} {k cap : Nat} (h : FrI w2 w Bd gS gW gA vr s nw na) (hc : NB w gC n) (hg : w2.heap.size ≤ gC ∧ gC ≠ gW ∧ gC ≠ gA ∧ gC ≠ Bd ∧ gC ≠ gS) : FrI w2 ((w.setCell ⟨gC, 0, none⟩ (.bool d)).setCell ⟨gC, 1, none⟩ (.slice ao k cap)) Bd gS gW gA vr s nw na :=
  ⟨(h.b.setCell hg.1 _).setCell hg.1 _, (Below.heap_setCell _ _ _ _ (by simpa using (fun e => hg.2.2.2.1 e.symm : Bd ≠ gC))).trans ((Below.heap_setCell _ _ _ _ (by simpa using (fun e => hg.2.2.2.1 e.symm : Bd ≠ gC))).trans h.d), (Below.heap_setCell _ _ _ _ (by simpa using (fun e => hg.2.2.2.2 e.symm : gS ≠ gC))).trans ((Below.heap_setCell _ _ _ _ (by simpa using (fun e => hg.2.2.2.2 e.symm : gS ≠ gC))).trans h.z), h.nW.other hc (fun e => hg.2.1 e.symm), h.nA.other hc (fun e => hg.2.2.1 e.symm)⟩
def F33 (dc : Bool) (ac : Option Addr) (kc cc : Nat) (db : Bool) (ab : Option Addr) (kb cb : Nat) (bC oC mC cC n x sm p q : Nat) : Nat → Value → World → Prop
  | 0, u, _ => u = .agg #[.bool dc, .slice ac kc cc]
  | 1, u, _ => u = .slice (some ⟨bC, oC, none⟩) mC cC
  | 2, u, _ => u = .int .i64 (n : Int)
  | 3, u, _ => u = .pointer (some ⟨bC, oC + n * 3, none⟩)
  | 4, u, _ => u = .pointer (some ⟨bC, oC + n * 3, none⟩)
  | 5, u, _ => u = .int .i64 (x : Int)
  | 6, u, w => ∃ d ao k cap, u = .agg #[.bool d, .slice ao k cap] ∧ NuA w d (.slice ao k cap) p
  | 7, u, _ => u = .agg #[.bool db, .slice ab kb cb]
  | 8, u, _ => u = .int .i64 (sm : Int)
  | 9, u, w => ∃ d ao k cap, u = .agg #[.bool d, .slice ao k cap] ∧ NuA w d (.slice ao k cap) q
  | 10, _, _ => True
  | 11, _, _ => True
  | _, _, _ => True
theorem F33.keep {dc : Bool} {ac : Option Addr} {kc cc : Nat} {db : Bool} {ab : Option Addr} {kb cb : Nat} {bC oC mC cC n x sm p q : Nat} {w w' : World} (hk : ∀ d s n, NuA w d s n → NuA w' d s n) : ∀ i u9, F33 dc ac kc cc db ab kb cb bC oC mC cC n x sm p q i u9 w → F33 dc ac kc cc db ab kb cb bC oC mC cC n x sm p q i u9 w'
  | 0, _, h => h
  | 1, _, h => h
  | 2, _, h => h
  | 3, _, h => h
  | 4, _, h => h
  | 5, _, h => h
  | 6, _, ⟨d, a, k, c, e, h⟩ => ⟨d, a, k, c, e, hk _ _ _ h⟩
  | 7, _, h => h
  | 8, _, h => h
  | 9, _, ⟨d, a, k, c, e, h⟩ => ⟨d, a, k, c, e, hk _ _ _ h⟩
  | 10, _, h => h
  | 11, _, h => h
  | _ + 12, _, h => h
def f3Ch : List (Nat × Nat) := [(3, 1), (3, 2), (4, 3), (5, 4), (6, 0), (6, 5), (9, 7), (9, 8), (10, 0), (10, 1), (10, 2), (10, 3), (10, 4), (10, 5), (10, 6), (10, 9), (11, 0), (11, 1), (11, 2), (11, 3), (11, 4), (11, 5), (11, 6), (11, 7), (11, 8), (11, 9), (11, 10)]
def F35 (dc : Bool) (ac : Option Addr) (kc cc j P : Nat) : Nat → Value → World → Prop
  | 0, u, _ => u = .agg #[.bool dc, .slice ac kc cc]
  | 1, u, _ => u = .int .i64 (j : Int)
  | 2, u, w => ∃ d ao k cap, u = .agg #[.bool d, .slice ao k cap] ∧ NuA w d (.slice ao k cap) (facN j)
  | 3, u, w => ∃ d ao k cap, u = .tuple #[.agg #[.bool d, .slice ao k cap], .bool true] ∧ NuA w d (.slice ao k cap) P
  | 4, u, w => ∃ d ao k cap, u = .tuple #[.agg #[.bool d, .slice ao k cap], .bool true] ∧ NuA w d (.slice ao k cap) P
  | 5, u, w => ∃ d ao k cap, u = .agg #[.bool d, .slice ao k cap] ∧ NuA w d (.slice ao k cap) P
  | 6, u, _ => u = .bool true
  | 7, _, _ => True
  | 8, _, _ => True
  | 9, u, _ => u = .bool true
  | _, _, _ => True
theorem F35.keep {dc : Bool} {ac : Option Addr} {kc cc j P : Nat} {w w' : World} (hk : ∀ d s n, NuA w d s n → NuA w' d s n) : ∀ i u9, F35 dc ac kc cc j P i u9 w → F35 dc ac kc cc j P i u9 w'
  | 0, _, h => h
  | 1, _, h => h
  | 2, _, ⟨d, a, k, c, e, h⟩ => ⟨d, a, k, c, e, hk _ _ _ h⟩
  | 3, _, ⟨d, a, k, c, e, h⟩ => ⟨d, a, k, c, e, hk _ _ _ h⟩
  | 4, _, ⟨d, a, k, c, e, h⟩ => ⟨d, a, k, c, e, hk _ _ _ h⟩
  | 5, _, ⟨d, a, k, c, e, h⟩ => ⟨d, a, k, c, e, hk _ _ _ h⟩
  | 6, _, h => h
  | 7, _, h => h
  | 8, _, h => h
  | 9, _, h => h
  | _ + 10, _, h => h
def f5Ch : List (Nat × Nat) := [(2, 1), (3, 0), (3, 2), (4, 3), (5, 4), (6, 4), (8, 7), (8, 5), (9, 6)]

set_option maxRecDepth 100000 in
set_option maxHeartbeats 8000000 in
theorem blockFair_any {W : World} {va vb vl : Value} {la lb l : List Int} (ha : Ux W va la) (hb : Ux W vb lb) {a : Int} (haw : 0 ≤ a ∧ a ≤ 255) (hl : Hx W vl l) :
    Calls Try.prog 6 #[.agg #[va, vb], .int .u8 a, vl] W fun e w' => e = .returned (.bool true) ∧ Below W.heap.size W w' := by
  obtain ⟨al, nl, cl, rfl⟩ : ∃ ao n c, vl = .slice ao n c := by obtain ⟨ao, c, e⟩ := hl.mk'; exact ⟨_, _, _, e⟩
  have HSA := Lib.hid (fun W' => sanity_any W')
  obtain ⟨P0, hP0⟩ : ∃ P0, P0 = bW W va vb := ⟨_, rfl⟩
  have HB : Hid (Below P0.heap.size P0 (bW W va vb)) := Lib.hid (by rw [hP0]; exact Below.refl _ _)
  have HBX := Lib.hid (fun W' (h : Below P0.heap.size P0 W') => b_box (W' := W') (W := W) (va := va) (vb := vb) (by rw [← hP0]; exact h))
  have hup : Below W.heap.size W P0 := by rw [hP0]; exact b_up W va vb
  have HUP := Lib.hid (fun W' (h : Below P0.heap.size P0 W') => hup.trans (h.mono hup.size))
  have HMA := Lib.hid (fun W' (h : Below P0.heap.size P0 W') => made_ix (ha.below (HUP.out _ h)) (hb.below (HUP.out _ h)))
  have HLX := Lib.hid (fun W' (h : Below W.heap.size W W') => hl.below h)
  have HFIT := Lib.hid (fun k => hl.fit k)
  obtain ⟨s, hs⟩ : ∃ s : Nat, (s : Int) = 1 + a % 4 := ⟨(1 + a % 4).toNat, by omega⟩
  have hs1 : 1 ≤ s ∧ s ≤ 4 := by omega
  have wa : IntKind.i64.wrap a = a := IntWalk.i64_in _ (by omega)
  obtain ⟨q, hq⟩ : ∃ q, q = a % 4 := ⟨_, rfl⟩
  have hq4 : a.tmod 4 = q := by rw [Int.tmod_eq_emod_of_nonneg haw.1, hq]
  have hq4b : a % 4 = q := hq.symm
  have hqs : 1 + q = (s : Int) := by omega
  have wq : IntKind.i64.wrap (1 + q) = (s : Int) := by rw [hqs]; exact IntWalk.i64_in _ (by omega)
  have hqb : 0 ≤ q ∧ q ≤ 3 := by omega
  clear ha hb hl hup hP0 hs hq hqs haw
  go_enter Try.func6, Try.ntmps6
  go_upto_region 3 with (first
    | (go_at_call 8; (with_reducible refine (HSA.out _).mono ?_); rintro e w1 ⟨rfl, hb⟩; have HB := Lib.hid (HB.out.trans (hb.mono HB.out.size)); obtain ⟨b0, b1⟩ := HBX.out _ HB.out; clear hb)
    | (go_at_call 9; (with_reducible refine (HMA.out _ HB.out).mono ?_); rintro e w2 ⟨ar, nr, cr, az, ns, cs, rfl, hr, hs, hb⟩; have HR := Lib.hid hr; have HB2 := Lib.hid (HB.out.trans (hb.mono HB.out.size)); clear hb hr hs))
  change Code.wp _ _ _ _ (dbox w2 (.slice ar nr cr) (.slice az ns cs))
  have hD := dbox_is w2 (.slice ar nr cr) (.slice az ns cs)
  have HBW := Lib.hid (HUP.out _ HB2.out)
  have HOK := Lib.hid (fa_made la lb hs1.1 hs1.2)
  have HW3 := Lib.hid (dbox_below w2 (.slice ar nr cr) (.slice az ns cs))
  have hg6 : w2.heap.size < (dbox w2 (.slice ar nr cr) (.slice az ns cs)).heap.size := dbox_lt hD
  generalize dbox w2 (.slice ar nr cr) (.slice az ns cs) = W3 at hD HW3 hg6 ⊢
  obtain ⟨Bd, hBd⟩ : ∃ B, B = w2.heap.size := ⟨_, rfl⟩
  rw [← hBd] at hD hg6
  have hG : w2.heap.size = Bd := hBd.symm
  rw [hG]
  have HBd : Hid (w2.heap.size = Bd) := Lib.hid hG
  clear hBd hG HSA HMA HBX HUP HB HB2
  obtain ⟨X, hX⟩ : ∃ X, X = W3.alloc (.cells #[.int .i64 (s : Int)] 3) := ⟨_, rfl⟩
  have hbX : Below W3.heap.size W3 X := by rw [hX]; exact (Below.refl _ _).alloc (Nat.le_refl _) _
  have hDX := hD.below hbX
  obtain ⟨k0, k1, k2, k3, k4, k5⟩ := hDX.cells
  have f2 := frozen_of_row _ _ 2 _ _ hDX
  have l2 := dbox_lt hDX
  have hzX : X.heap[W3.heap.size]? = some (.cells #[.int .i64 (s : Int)] 3 (0, 0)) := by rw [hX]; exact heap_alloc_new _ _
  have hd4 : DBox (X.setCell ⟨Bd, 2, none⟩ (.slice (some ⟨W3.heap.size, 0, none⟩) 1 1)) Bd (.slice ar nr cr) (.slice (some ⟨W3.heap.size, 0, none⟩) 1 1) := heap_setCell_same _ Bd 2 _ 33 (.slice (some ⟨W3.heap.size, 0, none⟩) 1 1) hDX
  have hz4 : (X.setCell ⟨Bd, 2, none⟩ (.slice (some ⟨W3.heap.size, 0, none⟩) 1 1)).heap[W3.heap.size]? = some (.cells #[.int .i64 (s : Int)] 3 (0, 0)) := (Below.heap_setCell _ _ _ _ (by simp only; omega)).trans hzX
  have hb4 : Below w2.heap.size w2 (X.setCell ⟨Bd, 2, none⟩ (.slice (some ⟨W3.heap.size, 0, none⟩) 1 1)) := (HW3.out.trans (hbX.mono HW3.out.size)).setCell (by have := HBd.out; simp only; omega) _
  have H4 := Lib.hid (And.intro hd4 (And.intro hz4 hb4))
  have HGS : Hid (w2.heap.size ≤ Bd ∧ Bd < W3.heap.size ∧ W3.heap.size < X.heap.size) := Lib.hid ⟨by have := HBd.out; omega, hg6, (Array.getElem?_eq_some_iff.1 hzX).1⟩
  rw [hX] at k0 k1 k2 k3 k4 k5 f2 l2 H4 HGS
  clear hd4 hz4 hb4 hzX hDX hbX hX X hD hg6 HW3
  go_upto_region 5 with fail
  clear k0 k1 k2 k3 k4 k5 f2 l2 b0 b1
  generalize ((W3.alloc (.cells #[.int .i64 (s : Int)] 3)).setCell ⟨Bd, 2, none⟩ (.slice (some ⟨W3.heap.size, 0, none⟩) 1 1)) = W4 at H4 ⊢
  generalize W3.heap.size = gS at H4 HGS ⊢
  clear wa hq4 hq4b wq hqb
  have HOF : Hid (∀ w', Calls Try.prog 22 #[.int .i64 1] w' fun e w'' => ∃ b ao k cap, e = .returned (.agg #[.bool b, .slice ao k cap]) ∧ NuA w'' b (.slice ao k cap) 1 ∧ Below w'.heap.size w' w'') := Lib.hid (fun w' => of_num 1 (by omega) w')
  go_upto_region 7 with (first
    | (go_at_call 22; (with_reducible refine (HOF.out W4).mono ?_); rintro e w5 ⟨b5, a5, n5, c5, rfl, hn, hb⟩; have HN5 := Lib.hid hn; have HB5 := Lib.hid hb; clear hn hb)
    | (go_at_call 22; (with_reducible refine (HOF.out w5).mono ?_); rintro e w6 ⟨b6, a6, n6, c6, rfl, hn, hb⟩; have HN6 := Lib.hid hn; have HB6 := Lib.hid hb; have HN5 := Lib.hid (HN5.out.below hb); clear hn hb))
  have HG : Hid (FrG w2 Bd gS w6.heap.size (w6.heap.size + 1)) := Lib.hid (by
    have h1 := H4.out.2.2.size
    have h2 := HB5.out.size
    have h3 := HB6.out.size
    have h4 := dbox_lt H4.out.1
    have h5 := (Array.getElem?_eq_some_iff.1 H4.out.2.1).1
    exact ⟨by omega, by omega, by omega, by omega, by omega, by omega, by omega⟩)
  have HFI : Hid (FrI w2 ((w6.alloc (.cells #[.bool b5, .slice a5 n5 c5] 54)).alloc (.cells #[.bool b6, .slice a6 n6 c6] 54)) Bd gS w6.heap.size (w6.heap.size + 1) (.slice ar nr cr) s 1 1) := Lib.hid (by
    have h46 : Below W4.heap.size W4 w6 := HB5.out.trans (HB6.out.mono HB5.out.size)
    have ha : Below w6.heap.size w6 (w6.alloc (.cells #[.bool b5, .slice a5 n5 c5] 54)) := (Below.refl _ _).alloc (Nat.le_refl _) _
    have hb : Below (w6.alloc (.cells #[.bool b5, .slice a5 n5 c5] 54)).heap.size (w6.alloc (.cells #[.bool b5, .slice a5 n5 c5] 54)) ((w6.alloc (.cells #[.bool b5, .slice a5 n5 c5] 54)).alloc (.cells #[.bool b6, .slice a6 n6 c6] 54)) := (Below.refl _ _).alloc (Nat.le_refl _) _
    have hc := h46.trans ((ha.trans (hb.mono ha.size)).mono h46.size)
    have hab := ha.trans (hb.mono ha.size)
    refine ⟨H4.out.2.2.trans (hc.mono H4.out.2.2.size), H4.out.1.below hc, (hc.block gS (Array.getElem?_eq_some_iff.1 H4.out.2.1).1).trans H4.out.2.1, ⟨b5, a5, n5, c5, ?_, HN5.out.below hab⟩, ⟨b6, a6, n6, c6, ?_, HN6.out.below hab⟩⟩
    · exact (hb.block _ (by simp)).trans (heap_alloc_new _ _)
    · have h := heap_alloc_new (w6.alloc (.cells #[.bool b5, .slice a5 n5 c5] 54)) (.cells #[.bool b6, .slice a6 n6 c6] 54)
      rw [World.size_alloc] at h; exact h)
  generalize ((w6.alloc (.cells #[.bool b5, .slice a5 n5 c5] 54)).alloc (.cells #[.bool b6, .slice a6 n6 c6] 54)) = X0 at HFI ⊢
  generalize w6.heap.size + 1 = gA at HG HFI ⊢
  generalize w6.heap.size = gW at HG HFI ⊢
  revert HR HOK
  generalize ratV la 4 = r
  intro HR HOK
  have HNR := Lib.hid HR.out.size
  have hnr5 : nr ≤ 5 := by have := HNR.out; have := HOK.out.l5; omega
  have hnr1 : 1 ≤ nr := by have := HNR.out; have := HOK.out.l1; omega
  clear HN5 HN6 HB5 HB6 H4 HGS HBd
  obtain ⟨k0, k1, k2, k3, k4, k5⟩ := HFI.out.d.cells
  go_wp2
  clear k0 k1 k2 k3 k4 k5
  go_loopw [10, 13, 42] (fun tv _ iv wr => ∃ (k : Nat) (t : Int), k ≤ nr ∧ iv = .int .i64 (k : Nat) ∧ tv = .int .i64 t ∧ Hid (t = ((fulV r s).take k).sum) ∧ Hid (FrI w2 wr Bd gS gW gA (.slice ar nr cr) s (facP ((fulV r s).take k)) 1)) (fun _ _ iv _ => nr - (intOf iv).toNat)
  case atStart => exact ⟨0, 0, by omega, rfl, rfl, Lib.hid (by simp), Lib.hid (by simpa [facP] using HFI.out)⟩
  case round =>
    obtain ⟨w, hw⟩ : ∃ w, w = wr := ⟨_, rfl⟩
    subst hw
    obtain ⟨k, t, hk, rfl, rfl, HT, HI⟩ := hrel
    by_cases hkn : k = nr
    · subst hkn
      have hfl : (fulV r s).take k = fulV r s := List.take_of_length_le (by rw [ful_len, ← HNR.out]; exact Nat.le_refl _)
      have hwq := wh_is HOK.out
      have htw : t = ((whN r s : Nat) : Int) := by
        rw [HT.out, hfl]
        have := (sum_get (fulV r s) (fun j => (ful_in HOK.out j).1)).1
        unfold whN; omega
      have hI2 := HI.out
      rw [hfl] at hI2
      have HI2 := Lib.hid hI2
      obtain ⟨wh, hwh⟩ : ∃ n, n = whN r s := ⟨_, rfl⟩
      have HWH := Lib.hid hwh
      rw [← hwh] at htw hwq
      have hwb : 1 ≤ wh ∧ wh ≤ 36 := hwq.2
      subst htw
      clear hfl hwq hI2 HI HT hwh
      go_wp2_with (go_at_call 22; (with_reducible refine (HOF.out w).mono ?_); rintro e w7 ⟨b7, a7, n7, c7, rfl, hn, hb⟩; have HN7 := Lib.hid hn; have HB7 := Lib.hid hb; clear hn hb)
      have ha7 : Below w7.heap.size w7 (w7.alloc (.cells #[.bool b7, .slice a7 n7 c7] 54)) := (Below.refl _ _).alloc (Nat.le_refl _) _
      have HI7 : Hid (FrI w2 (w7.alloc (.cells #[.bool b7, .slice a7 n7 c7] 54)) Bd gS gW gA (.slice ar k cr) s (facP (fulV r s)) 1) := Lib.hid ((HI2.out.later HB7.out).later ha7)
      have HC7 : Hid (NB (w7.alloc (.cells #[.bool b7, .slice a7 n7 c7] 54)) w7.heap.size 1 ∧ Ix (w7.alloc (.cells #[.bool b7, .slice a7 n7 c7] 54)) (.slice none 0 0) []) := Lib.hid ⟨⟨b7, a7, n7, c7, heap_alloc_new _ _, HN7.out.below ha7⟩, ⟨by simp, fun k => by simp; decide, .inl ⟨rfl, _, _, rfl⟩⟩⟩
      have HGC : Hid (w2.heap.size ≤ w7.heap.size ∧ w7.heap.size ≠ gW ∧ w7.heap.size ≠ gA ∧ w7.heap.size ≠ Bd ∧ w7.heap.size ≠ gS) := Lib.hid (by
        have h := HI2.out.later HB7.out
        have h1 := h.b.size
        have h2 := dbox_lt h.d
        have h3 := (Array.getElem?_eq_some_iff.1 h.z).1
        obtain ⟨d1, x1, y1, z1, g1, -⟩ := h.nW
        obtain ⟨d2, x2, y2, z2, g2, -⟩ := h.nA
        have h4 := g1.lt
        have h5 := g2.lt
        exact ⟨h1, by omega, by omega, by omega, by omega⟩)
      generalize (w7.alloc (.cells #[.bool b7, .slice a7 n7 c7] 54)) = X7 at HI7 HC7 ⊢
      generalize w7.heap.size = gC at HC7 HGC ⊢
      have HF0 : Hid (FairI r s 0 [] (fulV r s) 1 1) := Lib.hid (FairI.start HOK.out)
      clear ha7 HN7 HB7 HI2 HFI HOF
      go_loopw [14, 16, 17, 18, 19, 20, 21, 22, 82] (fun rv kv _ _ _ _ _ _ _ wr => ∃ (j : Nat) (R V : List Int) (A B : Nat) (ro : Option Addr) (nR cR : Nat), j ≤ wh ∧ kv = .int .i64 (j : Nat) ∧ rv = .slice ro nR cR ∧ Hid (FairI r s j R V A B) ∧ Hid (FrI w2 wr Bd gS gW gA (.slice ar k cr) s (facP (fulV r s)) B) ∧ Hid (NB wr gC A ∧ Ix wr (.slice ro nR cR) R)) (fun _ kv _ _ _ _ _ _ _ _ => wh - (intOf kv).toNat)
      case atStart => exact ⟨0, [], fulV r s, 1, 1, none, 0, 0, by omega, rfl, rfl, HF0, HI7, HC7⟩
      case round =>
        obtain ⟨w, hw⟩ : ∃ w, w = wr := ⟨_, rfl⟩
        subst hw
        obtain ⟨j, R, V, A, B, ro, nR, cR, hj, rfl, rfl, HF, HI, HC⟩ := hrel
        by_cases hjw : j = wh
        · subst hjw
          obtain ⟨hR0, hAB⟩ := fair_end HF.out HOK.out HWH.out
          have hwj := HWH.out
          have hfs := fair_small HF.out HOK.out
          have hft := wt_small HOK.out
          rw [← hwj] at hAB hfs hft
          have hsA : SmallN (A * facN j) := small_mono (Nat.mul_le_mul_right _ hfs.1) hft
          have hsB : SmallN (facP (fulV r s) * B) := small_mono (Nat.mul_le_mul_left _ hfs.2) hft
          obtain ⟨P, hP⟩ : ∃ P, P = A * facN j := ⟨_, rfl⟩
          obtain ⟨Q, hQ⟩ : ∃ Q, Q = facP (fulV r s) := ⟨_, rfl⟩
          have HPJ := Lib.hid hP
          rw [← hP] at hsA hAB
          have HI2 := HI.out
          rw [← hQ] at hsB hAB HI2
          rw [← hAB] at hsB
          have HAB := Lib.hid hAB
          have HSB := Lib.hid hsB
          subst hR0
          have hnR := HC.out.2.size
          obtain rfl : nR = 0 := hnR
          obtain ⟨dc, ac, kc, cc, hnbC, hnuC⟩ := HC.out.1
          obtain ⟨db, ab, kb, cb, hnbA, hnuA⟩ := HI2.nA
          obtain ⟨dw, aw, kw, cw, hnbW, hnuW⟩ := HI2.nW
          have hdr : ∀ w', Below w.drew.heap.size w.drew w' → Below w.heap.size w w' := fun w' hb => (Below.refl w.heap.size w).drew.trans hb
          have HDR := Lib.hid hdr
          have HKB : Hid (∀ w', Below w.drew.heap.size w.drew w' → NBx w' gC dc (.slice ac kc cc)) := Lib.hid (fun w' hb => hnbC.later (hdr w' hb))
          have HKA : Hid (∀ w', Below w.drew.heap.size w.drew w' → NBx w' gA db (.slice ab kb cb) ∧ NuA w' db (.slice ab kb cb) B) := Lib.hid (fun w' hb => ⟨hnbA.later (hdr w' hb), hnuA.below (hdr w' hb)⟩)
          have HKW : Hid (∀ w', Below w.drew.heap.size w.drew w' → NBx w' gW dw (.slice aw kw cw) ∧ NuA w' dw (.slice aw kw cw) Q) := Lib.hid (fun w' hb => ⟨hnbW.later (hdr w' hb), hnuW.below (hdr w' hb)⟩)
          have HFA : Hid (∀ w', Calls Try.prog 24 #[.int .i64 (j : Int)] w' fun e w'' => ∃ d ao k cap, e = .returned (.agg #[.bool d, .slice ao k cap]) ∧ NuA w'' d (.slice ao k cap) (facN j) ∧ Below w'.heap.size w' w'') := Lib.hid (fun w' => factorial_any j (by omega))
          have HMU : Hid (∀ w', Below w.drew.heap.size w.drew w' → ∀ c t', NuA w' c t' (facN j) → Calls Try.prog 23 #[.agg #[.bool dc, .slice ac kc cc], .agg #[.bool c, t']] w' fun e w'' => ∃ d ao k cap, e = .returned (.tuple #[.agg #[.bool d, .slice ao k cap], .bool true]) ∧ NuA w'' d (.slice ao k cap) P ∧ Below w'.heap.size w' w'') := Lib.hid (fun w' hb c t' hc => by
            have h := mul_num (hnuC.below (hdr w' hb)) hc (by rw [← hP]; exact hsA)
            rwa [← hP] at h)
          have HUPW := Lib.hid (HBW.out.trans (HI.out.b.mono HBW.out.size))
          clear hfs hft hsA hsB hP hAB hnbC hnuC hnbA hnuA hnbW hnuW hdr HI2 hwj hQ
          go_upto_region 35 with fail
          refine (wpIn_wide (n := 6)).1 ?_
          refine frame_namedIn ?_
          intro T hT
          obtain ⟨R, hRd⟩ : ∃ R : Array Bool → Act → World → Prop, R = (fun l a w' => ∃ vals, RH f5Ch T [some 129, some 130, some 131, some 132, some 128, some 133, some 134, some 23, none, some 24] (PDW w.drew P) (F35 dc ac kc cc j P) vals l a w') := ⟨_, rfl⟩
          refine region_inv (by kernel_rfl) R ?h0r3 ?stepr3 ?finr3
          case h0r3 => rw [hRd]; exact RH.start rfl (fun i j h => by simp [f5Ch] at h; simp only [List.length_cons, List.length_nil]; omega) (by exact ⟨Below.refl _ _, fun h => absurd h (by decide)⟩)
          case stepr3 =>
            rintro l a w' i' hR0 hi'
            have hR1 := hR0
            rw [hRd] at hR1
            obtain ⟨vals, hR⟩ := hR1
            obtain ⟨hl0, o, ho, hdep⟩ := mem_ready.1 hi'
            have h15 : i' < 10 := by
              have := (Array.getElem?_eq_some_iff.1 ho).1
              simpa using this
            rcases (show i' = 0 ∨ i' = 1 ∨ i' = 2 ∨ i' = 3 ∨ i' = 4 ∨ i' = 5 ∨ i' = 6 ∨ i' = 7 ∨ i' = 8 ∨ i' = 9 by omega) with rfl | rfl | rfl | rfl | rfl | rfl | rfl | rfl | rfl | rfl
            · simp at ho
              subst ho
              simp [Region.binds] at hdep
              have k0 : a.tmps.getD 15 undef = .pointer (some ⟨gC, 0, none⟩) := (hR.fr.kept rfl (by simp [hT])).trans (by rw [hT]; try rfl)
              have hc : ∀ j, (0, j) ∈ f5Ch → l.getD j true = true := by intro j hj; simp [f5Ch] at hj
              clear hi' hdep
              obtain ⟨q0, q1⟩ := (HKB.out _ hR.wd.b).cells
              have k0g := k0
              rw [Array.getD_eq_getD_getElem?] at k0g
              unfold wpOpIn
              simp [Region.wanted]
              unfold Oper.wpIn
              simp [Oper.about, execOp, go_sem, Act.eval, k0, k0g, q0, q1]
              rw [hRd]
              exact hR.op 0 129 _ rfl (by decide) hl0 hc (PDW.const hR.wd (by decide) (by decide) _) (fun _ _ h => h) (rfl)
            · simp at ho
              subst ho
              simp [Region.binds] at hdep
              have k0 : a.tmps.getD 10 undef = .int .i64 (j : Int) := (hR.fr.kept rfl (by simp [hT])).trans (by rw [hT]; try rfl)
              have hc : ∀ j, (1, j) ∈ f5Ch → l.getD j true = true := by intro j hj; simp [f5Ch] at hj
              clear hi' hdep
              have k0g := k0
              rw [Array.getD_eq_getD_getElem?] at k0g
              unfold wpOpIn
              simp [Region.wanted]
              unfold Oper.wpIn
              simp [Oper.about, execOp, go_sem, Act.eval, k0, k0g]
              rw [hRd]
              exact hR.op 1 130 _ rfl (by decide) hl0 hc (PDW.const hR.wd (by decide) (by decide) _) (fun _ _ h => h) (rfl)
            · simp at ho
              subst ho
              simp [Region.binds] at hdep
              have d0 : l.getD 1 true = true := getD_true (by simp_all)
              have k0 : a.tmps.getD 130 undef = vals 1 := hR.get rfl (by simp_all) (by simp [hT])
              have e0 : vals 1 = .int .i64 (j : Int) := hR.vl 1 (by decide) d0
              rw [e0] at k0
              have hc : ∀ j, (2, j) ∈ f5Ch → l.getD j true = true := by intro j hj; simp [f5Ch] at hj; rcases hj with rfl <;> exact getD_true (by simp_all)
              clear hi' hdep
              have k0g := k0
              rw [Array.getD_eq_getD_getElem?] at k0g
              unfold wpOpIn
              simp [Region.wanted]
              unfold Oper.wpIn
              simp [Oper.about, execOp, go_sem, Act.eval, k0, k0g]
              refine ⟨trivial, (callsIn_wide.2 (HFA.out _)).mono ?_⟩
              rintro e w'' ⟨d9, a9, k9, c9, rfl, hi, hb⟩
              rw [hRd]
              exact hR.op 2 131 _ rfl (by decide) hl0 hc (PDW.const (PDW.later hR.wd hb) (by decide) (by decide) _) (F35.keep (fun _ _ _ h => h.below hb)) (⟨_, _, _, _, rfl, hi⟩)
            · simp at ho
              subst ho
              simp [Region.binds] at hdep
              have d0 : l.getD 0 true = true := getD_true (by simp_all)
              have k0 : a.tmps.getD 129 undef = vals 0 := hR.get rfl (by simp_all) (by simp [hT])
              have e0 : vals 0 = .agg #[.bool dc, .slice ac kc cc] := hR.vl 0 (by decide) d0
              rw [e0] at k0
              have d1 : l.getD 2 true = true := getD_true (by simp_all)
              have k1 : a.tmps.getD 131 undef = vals 2 := hR.get rfl (by simp_all) (by simp [hT])
              obtain ⟨d1x, a1x, k1x, c1x, e1, hi1⟩ : ∃ d ao k cap, vals 2 = .agg #[.bool d, .slice ao k cap] ∧ NuA w' d (.slice ao k cap) (facN j) := hR.vl 2 (by decide) d1
              rw [e1] at k1
              have hc : ∀ j, (3, j) ∈ f5Ch → l.getD j true = true := by intro j hj; simp [f5Ch] at hj; rcases hj with rfl | rfl <;> exact getD_true (by simp_all)
              clear hi' hdep
              have k0g := k0
              rw [Array.getD_eq_getD_getElem?] at k0g
              have k1g := k1
              rw [Array.getD_eq_getD_getElem?] at k1g
              unfold wpOpIn
              simp [Region.wanted]
              unfold Oper.wpIn
              simp [Oper.about, execOp, go_sem, Act.eval, k0, k1, k0g, k1g]
              refine ⟨trivial, (callsIn_wide.2 (HMU.out _ hR.wd.b _ _ hi1)).mono ?_⟩
              rintro e w'' ⟨d9, a9, k9, c9, rfl, hi, hb⟩
              rw [hRd]
              exact hR.op 3 132 _ rfl (by decide) hl0 hc (PDW.const (PDW.later hR.wd hb) (by decide) (by decide) _) (F35.keep (fun _ _ _ h => h.below hb)) (⟨_, _, _, _, rfl, hi⟩)
            · simp at ho
              subst ho
              simp [Region.binds] at hdep
              have d0 : l.getD 3 true = true := getD_true (by simp_all)
              have k0 : a.tmps.getD 132 undef = vals 3 := hR.get rfl (by simp_all) (by simp [hT])
              obtain ⟨d0x, a0x, k0x, c0x, e0, hi0⟩ : ∃ d ao k cap, vals 3 = .tuple #[.agg #[.bool d, .slice ao k cap], .bool true] ∧ NuA w' d (.slice ao k cap) P := hR.vl 3 (by decide) d0
              rw [e0] at k0
              have hc : ∀ j, (4, j) ∈ f5Ch → l.getD j true = true := by intro j hj; simp [f5Ch] at hj; rcases hj with rfl <;> exact getD_true (by simp_all)
              clear hi' hdep
              have k0g := k0
              rw [Array.getD_eq_getD_getElem?] at k0g
              unfold wpOpIn
              simp [Region.wanted]
              unfold Oper.wpIn
              simp [Oper.about, execOp, go_sem, Act.eval, k0, k0g]
              rw [hRd]
              exact hR.op 4 128 _ rfl (by decide) hl0 hc (PDW.const hR.wd (by decide) (by decide) _) (fun _ _ h => h) (⟨_, _, _, _, rfl, hi0⟩)
            · simp at ho
              subst ho
              simp [Region.binds] at hdep
              have d0 : l.getD 4 true = true := getD_true (by simp_all)
              have k0 : a.tmps.getD 128 undef = vals 4 := hR.get rfl (by simp_all) (by simp [hT])
              obtain ⟨d0x, a0x, k0x, c0x, e0, hi0⟩ : ∃ d ao k cap, vals 4 = .tuple #[.agg #[.bool d, .slice ao k cap], .bool true] ∧ NuA w' d (.slice ao k cap) P := hR.vl 4 (by decide) d0
              rw [e0] at k0
              have hc : ∀ j, (5, j) ∈ f5Ch → l.getD j true = true := by intro j hj; simp [f5Ch] at hj; rcases hj with rfl <;> exact getD_true (by simp_all)
              clear hi' hdep
              have k0g := k0
              rw [Array.getD_eq_getD_getElem?] at k0g
              unfold wpOpIn
              simp [Region.wanted]
              unfold Oper.wpIn
              simp [Oper.about, execOp, go_sem, Act.eval, k0, k0g]
              rw [hRd]
              exact hR.op 5 133 _ rfl (by decide) hl0 hc (PDW.const hR.wd (by decide) (by decide) _) (fun _ _ h => h) (⟨_, _, _, _, rfl, hi0⟩)
            · simp at ho
              subst ho
              simp [Region.binds] at hdep
              have d0 : l.getD 4 true = true := getD_true (by simp_all)
              have k0 : a.tmps.getD 128 undef = vals 4 := hR.get rfl (by simp_all) (by simp [hT])
              obtain ⟨d0x, a0x, k0x, c0x, e0, hi0⟩ : ∃ d ao k cap, vals 4 = .tuple #[.agg #[.bool d, .slice ao k cap], .bool true] ∧ NuA w' d (.slice ao k cap) P := hR.vl 4 (by decide) d0
              rw [e0] at k0
              have hc : ∀ j, (6, j) ∈ f5Ch → l.getD j true = true := by intro j hj; simp [f5Ch] at hj; rcases hj with rfl <;> exact getD_true (by simp_all)
              clear hi' hdep
              have k0g := k0
              rw [Array.getD_eq_getD_getElem?] at k0g
              unfold wpOpIn
              simp [Region.wanted]
              unfold Oper.wpIn
              simp [Oper.about, execOp, go_sem, Act.eval, k0, k0g]
              rw [hRd]
              exact hR.op 6 134 _ rfl (by decide) hl0 hc (PDW.const hR.wd (by decide) (by decide) _) (fun _ _ h => h) (rfl)
            · simp at ho
              subst ho
              simp [Region.binds] at hdep
              have hc : ∀ j, (7, j) ∈ f5Ch → l.getD j true = true := by intro j hj; simp [f5Ch] at hj
              have n8 := hR.no (s := 8) hl0 (fun hs => (hR.dep 8 7 (by decide) hs))
              clear hi' hdep
              unfold wpOpIn
              simp [Region.wanted]
              unfold Oper.wpIn
              simp [Oper.about, execOp, go_sem, Act.eval, ]
              rw [hRd]
              exact hR.op 7 23 _ rfl (by decide) hl0 hc (PDW.made hR.wd n8) (F35.keep (fun _ _ _ h => h.below ((Below.refl _ _).alloc (Nat.le_refl _) _))) (trivial)
            · simp at ho
              subst ho
              simp [Region.binds] at hdep
              have d0 : l.getD 7 true = true := getD_true (by simp_all)
              have k0 : a.tmps.getD 23 undef = vals 7 := hR.get rfl (by simp_all) (by simp [hT])
              obtain ⟨g0x, e0, hg0, ⟨dd0, aa0, kk0, cc0, hx0⟩, -⟩ := hR.wd.g d0
              rw [e0] at k0
              have d1 : l.getD 5 true = true := getD_true (by simp_all)
              have k1 : a.tmps.getD 133 undef = vals 5 := hR.get rfl (by simp_all) (by simp [hT])
              obtain ⟨d1x, a1x, k1x, c1x, e1, hi1⟩ : ∃ d ao k cap, vals 5 = .agg #[.bool d, .slice ao k cap] ∧ NuA w' d (.slice ao k cap) P := hR.vl 5 (by decide) d1
              rw [e1] at k1
              have hc : ∀ j, (8, j) ∈ f5Ch → l.getD j true = true := by intro j hj; simp [f5Ch] at hj; rcases hj with rfl | rfl <;> exact getD_true (by simp_all)
              clear hi' hdep
              obtain ⟨y0, y1⟩ := hx0.cells
              have f0 := hx0.free 0
              have f1 := hx0.free 1
              have l0 := hx0.lt
              have k0g := k0
              rw [Array.getD_eq_getD_getElem?] at k0g
              have k1g := k1
              rw [Array.getD_eq_getD_getElem?] at k1g
              unfold wpOpIn
              simp [Region.wanted]
              unfold Oper.wpIn
              simp [Oper.about, execOp, go_sem, Act.eval, k0, k1, k0g, k1g, y0, y1, f0, f1, l0]
              rw [hRd]
              exact hR.bare 8 undef rfl hl0 hc (PDW.put hR.wd e0 d0 hi1) (F35.keep (fun _ _ _ h => nu_put h hx0)) (fun _ => trivial)
            · simp at ho
              subst ho
              simp [Region.binds] at hdep
              have d0 : l.getD 6 true = true := getD_true (by simp_all)
              have k0 : a.tmps.getD 134 undef = vals 6 := hR.get rfl (by simp_all) (by simp [hT])
              have e0 : vals 6 = .bool true := hR.vl 6 (by decide) d0
              rw [e0] at k0
              have hc : ∀ j, (9, j) ∈ f5Ch → l.getD j true = true := by intro j hj; simp [f5Ch] at hj; rcases hj with rfl <;> exact getD_true (by simp_all)
              clear hi' hdep
              have k0g := k0
              rw [Array.getD_eq_getD_getElem?] at k0g
              unfold wpOpIn
              simp [Region.wanted]
              unfold Oper.wpIn
              simp [Oper.about, execOp, go_sem, Act.eval, k0, k0g]
              rw [hRd]
              exact hR.op 9 24 _ rfl (by decide) hl0 hc (PDW.const hR.wd (by decide) (by decide) _) (fun _ _ h => h) (rfl)
          case' finr3 =>
            rintro l a w' hR0 hz
            rw [hRd] at hR0
            obtain ⟨vals, hR⟩ := hR0
            clear hRd R
            have hnot := List.eq_nil_iff_forall_not_mem.1 hz
            have hk : ∀ k, k < 10 → (l.getD k true = false → False) → l.getD k false = true := fun k h12 h => by
              have hs := hR.size
              cases h' : l.getD k true with
              | false => exact (h h').elim
              | true => simp at hs; simp [Array.getD, hs, h12] at h' ⊢; exact h'
            have st0 := hk 0 (by omega) (fun h => hnot 0 (mem_ready.2 ⟨h, _, rfl, by simp [Region.binds]⟩))
            have st1 := hk 1 (by omega) (fun h => hnot 1 (mem_ready.2 ⟨h, _, rfl, by simp [Region.binds]⟩))
            have st2 := hk 2 (by omega) (fun h => hnot 2 (mem_ready.2 ⟨h, _, rfl, by simp [Region.binds] <;> simp_all⟩))
            have st3 := hk 3 (by omega) (fun h => hnot 3 (mem_ready.2 ⟨h, _, rfl, by simp [Region.binds] <;> simp_all⟩))
            have st4 := hk 4 (by omega) (fun h => hnot 4 (mem_ready.2 ⟨h, _, rfl, by simp [Region.binds] <;> simp_all⟩))
            have st5 := hk 5 (by omega) (fun h => hnot 5 (mem_ready.2 ⟨h, _, rfl, by simp [Region.binds] <;> simp_all⟩))
            have st6 := hk 6 (by omega) (fun h => hnot 6 (mem_ready.2 ⟨h, _, rfl, by simp [Region.binds] <;> simp_all⟩))
            have st7 := hk 7 (by omega) (fun h => hnot 7 (mem_ready.2 ⟨h, _, rfl, by simp [Region.binds]⟩))
            have st8 := hk 8 (by omega) (fun h => hnot 8 (mem_ready.2 ⟨h, _, rfl, by simp [Region.binds] <;> simp_all⟩))
            have st9 := hk 9 (by omega) (fun h => hnot 9 (mem_ready.2 ⟨h, _, rfl, by simp [Region.binds] <;> simp_all⟩))
            have hall : ∀ i, i < 10 → l.getD i true = true := fun i hi => by
              rcases (show i = 0 ∨ i = 1 ∨ i = 2 ∨ i = 3 ∨ i = 4 ∨ i = 5 ∨ i = 6 ∨ i = 7 ∨ i = 8 ∨ i = 9 by omega) with rfl | rfl | rfl | rfl | rfl | rfl | rfl | rfl | rfl | rfl
              · exact getD_true st0
              · exact getD_true st1
              · exact getD_true st2
              · exact getD_true st3
              · exact getD_true st4
              · exact getD_true st5
              · exact getD_true st6
              · exact getD_true st7
              · exact getD_true st8
              · exact getD_true st9
            clear st0 st1 st2 st3 st4 st5 st6 st7 st8 st9 hk hnot hz
            have hTs : T.size = 159 := by rw [hT]; rfl
            have ha := hR.all (T' := (((((((((T.setIfInBounds 129 (vals 0)).setIfInBounds 130 (vals 1)).setIfInBounds 131 (vals 2)).setIfInBounds 132 (vals 3)).setIfInBounds 128 (vals 4)).setIfInBounds 133 (vals 5)).setIfInBounds 134 (vals 6)).setIfInBounds 23 (vals 7)).setIfInBounds 24 (vals 9))) (fun i hi => hall i (by simpa using hi)) (by simp) (fun j hj => by
              by_cases h1 : j = 129 ∨ j = 130 ∨ j = 131 ∨ j = 132 ∨ j = 128 ∨ j = 133 ∨ j = 134 ∨ j = 23 ∨ j = 24
              · rcases h1 with rfl | rfl | rfl | rfl | rfl | rfl | rfl | rfl | rfl <;> simp [rv_sets, tOwn, List.findIdx?, List.findIdx?.go, hTs]
              · simp only [not_or] at h1
                obtain ⟨m129, m130, m131, m132, m128, m133, m134, m23, m24⟩ := h1
                have e : tOwn [some 129, some 130, some 131, some 132, some 128, some 133, some 134, some 23, none, some 24] vals j = none := by
                  unfold tOwn
                  simp [List.findIdx?, List.findIdx?.go, Ne.symm m129, Ne.symm m130, Ne.symm m131, Ne.symm m132, Ne.symm m128, Ne.symm m133, Ne.symm m134, Ne.symm m23, Ne.symm m24]
                rw [e]
                simp only [rv_sets]
                repeat rw [if_neg (by omega)])
            have v0 : vals 0 = .agg #[.bool dc, .slice ac kc cc] := hR.vl 0 (by decide) (hall 0 (by decide))
            have v1 : vals 1 = .int .i64 (j : Int) := hR.vl 1 (by decide) (hall 1 (by decide))
            have v6 : vals 6 = .bool true := hR.vl 6 (by decide) (hall 6 (by decide))
            have v9 : vals 9 = .bool true := hR.vl 9 (by decide) (hall 9 (by decide))
            obtain ⟨gN, e7, hgN, -, hNB⟩ := hR.wd.g (hall 7 (by decide))
            have hNB2 := hNB (hall 8 (by decide))
            have HNB := Lib.hid (And.intro hR.wd.b (And.intro hgN hNB2))
            clear hNB hNB2 hgN
            subst ha
            clear hR hall hTs
            rw [v0, v1, v6, v9, hT]
            simp only [List.setIfInBounds_toArray, List.set_cons_succ, List.set_cons_zero]
            clear v0 v1 v6 v9 hT T
          rw [e7]
          generalize vals 2 = y2
          generalize vals 3 = y3
          generalize vals 4 = y4
          generalize vals 5 = y5
          obtain ⟨dN, aN, kN, cN, hN1, hN2⟩ := HNB.out.2.2
          have hgNlt := hN1.lt
          obtain ⟨y0, y1⟩ := hN1.cells
          obtain ⟨q0, q1⟩ := (HKW.out _ HNB.out.1).1.cells
          obtain ⟨q2, q3⟩ := (HKA.out _ HNB.out.1).1.cells
          have hml := mul_num (HKW.out _ HNB.out.1).2 (HKA.out _ HNB.out.1).2 (by rw [← HAB.out]; exact HSB.out)
          rw [← HAB.out] at hml
          have HML := Lib.hid hml
          have HN1 := Lib.hid hN1
          have HN2 := Lib.hid hN2
          have HUQ := Lib.hid (HUPW.out.trans ((HDR.out _ HNB.out.1).mono HUPW.out.size))
          clear hN1 hN2 hml e7 HKB HKA HKW HFA HMU
          go_upto_region 37 with (go_at_call 23; (with_reducible refine HML.out.mono ?_); rintro e w8 ⟨dM, aM, kM, cM, rfl, hn, hb⟩; have HM := Lib.hid hn; have HBM := Lib.hid hb; clear hn hb)
          have ha8 : Below w8.heap.size w8 (w8.alloc (.cells #[.bool dM, .slice aM kM cM] 54)) := (Below.refl _ _).alloc (Nat.le_refl _) _
          have h8 : NBx (w8.alloc (.cells #[.bool dM, .slice aM kM cM] 54)) w8.heap.size dM (.slice aM kM cM) := heap_alloc_new _ _
          have hb8 := HBM.out.trans (ha8.mono HBM.out.size)
          clear y0 y1 q0 q1 q2 q3
          obtain ⟨y0, y1⟩ := (HN1.out.later hb8).cells
          obtain ⟨z0, z1⟩ := h8.cells
          have HUR := Lib.hid (HUQ.out.trans (hb8.mono HUQ.out.size))
          have HCM := Lib.hid (cmp_num (HN2.out.below hb8) (HM.out.below ha8))
          generalize w8.alloc (.cells #[.bool dM, .slice aM kM cM] 54) = wz at y0 y1 z0 z1 HUR HCM ⊢
          generalize w8.heap.size = gM at z0 z1 ⊢
          clear ha8 h8 hb8 HML HNB HN1 HN2 HM HBM HUQ
          go_wp2_with (go_at_call 26; (with_reducible refine HCM.out.mono ?_); rintro e w11 ⟨rfl, hb⟩; have HBZ := Lib.hid hb; clear hb)
          go_ret
          exact ⟨rfl, HUR.out.trans (HBZ.out.mono HUR.out.size)⟩
        · have hjl : j < wh := by omega
          have hjlI : (j : Int) < (wh : Int) := by omega
          have hjw2 : j < whN r s := by rw [← HWH.out]; exact hjl
          have hRl : R.length ≤ 8 := by
            rw [HF.out.hR]
            split
            · simp
            · rw [HF.out.lv]; have := HOK.out.l5; omega
          have hr8 : r.length ≤ 8 := by have := HOK.out.l5; omega
          have hsx := (HI.out.six).resolve_right (by have := HOK.out.s4; omega)
          obtain ⟨C, hC⟩ : ∃ C, C = chV r [(s : Int)] R := ⟨_, rfl⟩
          have hcc := fair_ch HF.out HOK.out hjw2
          have hws := wt_sum HF.out HOK.out hjw2
          have hwn := wt_nn HF.out HOK.out
          have hsw : sumW C = (wtI r V j).sum := by
            rw [hC, hcc, coll_sum hwn, ← hws.1, psum_all]
          have hcn : C.length ≠ 0 := fun h0 => by
            rw [List.eq_nil_of_length_eq_zero h0] at hsw
            simp [sumW] at hsw; omega
          have hcl : C.length ≤ 64 := by rw [hC]; exact chV_len hr8 (by simp) hRl
          have HNXT : Hid (∀ c ∈ C, ∃ a : Nat, a < r.length ∧ c.2.2 = (a : Int) ∧ 1 ≤ c.1 ∧ c.1 ≤ 36 ∧ (∃ V', FairI r s (j + 1) (nextV r [(s : Int)] R c) V' (A * c.1.toNat) (B * (wtI r V j).sum.toNat))) := Lib.hid (fun c hc => fair_next HF.out HOK.out hjw2 (by rw [← hC]; exact hc))
          have HSW := Lib.hid (And.intro hsw (And.intro hws.2.1 hws.2.2.1))
          have HCM : Hid (∀ i, 0 ≤ sumW (C.take i) ∧ sumW (C.take i) ≤ sumW C) := Lib.hid (sumW_in (fun c hc => by have := (HNXT.out c hc); obtain ⟨a, -, -, h, -⟩ := this; omega))
          have hdrw : ∀ w', Below w.heap.size w w' → Ix w' (.slice ar k cr) r ∧ Ix w' (.slice (some ⟨gS, 0, none⟩) 1 1) [(s : Int)] ∧ Ix w' (.slice ro nR cR) R := fun w' hb => ⟨HR.out.below ((HI.out.later hb).b), hsx.below hb, HC.out.2.below hb⟩
          have HCH : Hid (∀ w', Below w.heap.size w w' → Calls Try.prog 14 #[.agg #[.int .i64 0, .slice ar k cr, .slice (some ⟨gS, 0, none⟩) 1 1, .int .i64 0, .int .i64 0, .int .i64 0], .slice ro nR cR] w' fun e w'' => ∃ ao n cap, e = .returned (.slice ao n cap) ∧ Cx w'' (.slice ao n cap) C ∧ Below w'.heap.size w' w'') := Lib.hid (fun w' hb => by
            obtain ⟨g1, g2, g3⟩ := hdrw w' hb
            refine (choices_any g1 g2 g3 hr8 (by simp) hRl).mono fun e w'' h => ?_
            obtain ⟨ao, n, cap, h1, h2, h3⟩ := h
            exact ⟨ao, n, cap, h1, by rw [hC]; exact h2.chx hr8 (by simp) hRl, h3⟩)
          have HNE : Hid (∀ w' (c : Ch), Below w.heap.size w w' → c ∈ C → Calls Try.prog 18 #[.agg #[.int .i64 0, .slice ar k cr, .slice (some ⟨gS, 0, none⟩) 1 1, .int .i64 0, .int .i64 0, .int .i64 0], .slice ro nR cR, .agg #[.int .i64 c.1, .int .i64 c.2.1, .int .i64 c.2.2]] w' fun e w'' => ∃ ao n cap, e = .returned (.tuple #[.slice ao n cap, .bool true]) ∧ Ix w'' (.slice ao n cap) (nextV r [(s : Int)] R c) ∧ Below w'.heap.size w' w'') := Lib.hid (fun w' c hb hc => by
            obtain ⟨g1, g2, g3⟩ := hdrw w' hb
            refine (next_any g1 g2 g3 hr8 (by simp) hRl c.1 c.2.1 c.2.2).mono fun e w'' h => ?_
            obtain ⟨ao, n, cap, h1, h2, h3⟩ := h
            have hok : nextOk r [(s : Int)] R (c.1, c.2.1, c.2.2) = true := by unfold nextOk; rw [decide_eq_true]; rw [← hC]; exact hc
            rw [hok] at h1
            obtain ⟨a, -, -, -, -, V', hV'⟩ := HNXT.out c hc
            refine ⟨ao, n, cap, h1, h2.ix ?_ ?_, h3⟩
            · have := owI_len h2; have h8 := nextV_len (r := r) (s := [(s : Int)]) (row := R) (c := (c.1, c.2.1, c.2.2)) hr8; omega
            · intro q
              have hR2 := hV'.hR
              show I64 ((nextV r [(s : Int)] R c).getD q 0)
              rw [hR2]
              split
              · simp; decide
              · have h1 := hV'.nn q
                have h2 := (sum_get V' hV'.nn).2 q
                have h3 := hV'.sm
                have h4 := (wh_is HOK.out).2.2
                exact ⟨by omega, by omega⟩)
          obtain ⟨k0, k1, k2, k3, k4, k5⟩ := HI.out.d.cells
          clear hRl hr8 hsx hC hcc hws hwn hsw hdrw hjw2
          go_wp2_with (go_at_call 14; (with_reducible refine (HCH.out w (Below.refl _ _)).mono ?_); rintro e w8 ⟨aC, m, cC, rfl, hc, hb⟩; have HCX := Lib.hid hc; have HB8 := Lib.hid hb; have hm0 : ((m : Int) == 0) = false := (by have := hc.size; simp; omega); clear k0 k1 k2 k3 k4 k5 hc hb)
          go_loopw [18, 19, 82] (fun sv _ iv wr => ∃ (i : Nat), i ≤ m ∧ iv = .int .i64 (i : Nat) ∧ sv = .int .i64 (sumW (C.take i)) ∧ Hid (Below w8.heap.size w8 wr)) (fun _ _ iv _ => m - (intOf iv).toNat)
          case atStart => exact ⟨0, by omega, rfl, by simp [sumW], Lib.hid (Below.refl _ _)⟩
          case round =>
            obtain ⟨i, hi, rfl, rfl, HB9⟩ := hrel
            have HMC := Lib.hid HCX.out.size
            obtain ⟨bC, oC, rfl, hcapC, hbC, hclC⟩ := HCX.out.at (by have := HMC.out; omega)
            have hm64 : m ≤ 64 := by have := HMC.out; omega
            by_cases him : i = m
            · subst him
              have hmC := HMC.out
              have hti : C.take i = C := List.take_of_length_le (by omega)
              obtain ⟨sm, hsm⟩ : ∃ sm : Nat, (sm : Int) = sumW C := ⟨(sumW C).toNat, by have := HSW.out; omega⟩
              rw [hti, ← hsm]
              have HSM := Lib.hid hsm
              have hsmn : (wtI r V j).sum.toNat = sm := by have := HSW.out.1; omega
              have hsm36 : 1 ≤ sm ∧ sm ≤ 36 := by have := HSW.out; omega
              have hin : 1 ≤ i ∧ i ≤ 64 := by omega
              have hbw9 := HB8.out.trans (HB9.out.mono HB8.out.size)
              have HLY := Lib.hid (HLX.out wr (HBW.out.trans ((HI.out.b.trans (hbw9.mono HI.out.b.size)).mono HBW.out.size)))
              have HCL := Lib.hid hclC
              clear hti hcapC hclC hbw9 HCM HCH hmC hsm
              go_upto_if 96 with fail
              go_cut [20] from 93 to 104 (fun nv wx => ∃ n : Nat, n < i ∧ nv = .int .i64 (n : Nat) ∧ Hid (Below w8.heap.size w8 wx))
              case first =>
                by_cases hjn : (j : Int) < (nl : Int)
                · obtain ⟨bL, oL, rfl, hcL, hbL, hclL⟩ := HLY.out.at (by omega)
                  have f0 := hclL j (by omega)
                  have hfit := HFIT.out j
                  obtain ⟨y, hy⟩ : ∃ y : Nat, (y : Int) = l.getD j 0 := ⟨(l.getD j 0).toNat, by omega⟩
                  rw [← hy] at f0 hfit
                  have hyn := Nat.mod_lt y (show 0 < i by omega)
                  obtain ⟨n, hn⟩ : ∃ n, n = y % i := ⟨_, rfl⟩
                  have e1 : (y : Int).tmod (i : Int) = (n : Int) := by rw [Int.tmod_eq_emod_of_nonneg (by omega), hn]; rfl
                  rw [← hn] at hyn
                  have e2 : IntKind.i64.wrap (y : Int) = (y : Int) := IntWalk.i64_in _ (by omega)
                  have e3 : IntKind.i64.wrap (n : Int) = (n : Int) := IntWalk.i64_in _ (by omega)
                  have hjn2 : j < nl := by omega
                  clear hclL hy hn hcL hbL
                  go_wp2_with fail
                  go_meet
                  exact ⟨n, hyn, by go_num, HB9⟩
                · go_wp2_with fail
                  go_meet
                  exact ⟨0, by omega, rfl, HB9⟩
              case' rest =>
                obtain ⟨n, hn, rfl, HBc⟩ := hcut
                have hnI : (n : Int) < (i : Int) := by omega
                have hbwc := HB8.out.trans (HBc.out.mono HB8.out.size)
                obtain ⟨c, hc⟩ : ∃ c, c = C.getD n (0, 0, 0) := ⟨_, rfl⟩
                have hcm : c ∈ C := by rw [hc]; exact getD_mem (by rw [← HMC.out]; exact hn)
                obtain ⟨f0, f1, f2⟩ := HCL.out n hn
                rw [← hc] at f0 f1 f2
                obtain ⟨cx, cy, cz⟩ := c
                obtain ⟨aa, -, -, hc1, hc36, V', hV'⟩ := HNXT.out _ hcm
                simp only at f0 f1 f2 hc1 hc36 hV'
                obtain ⟨x, rfl⟩ : ∃ x : Nat, cx = (x : Int) := ⟨cx.toNat, by omega⟩
                rw [Int.toNat_natCast, hsmn] at hV'
                have HFN := Lib.hid hV'
                have hx36 : 1 ≤ x ∧ x ≤ 36 := by omega
                have HKF := Lib.hid (fun W' (h : Below wc.heap.size wc W') => And.intro (cell_later h (cell_later HBc.out f0)) (And.intro (cell_later h (cell_later HBc.out f1)) (And.intro (cell_later h (cell_later HBc.out f2)) (HI.out.d.below (hbwc.trans (h.mono hbwc.size))).cells)))
                have HNK := Lib.hid (fun W' (h : Below wc.heap.size wc W') => HNE.out W' _ (hbwc.trans (h.mono hbwc.size)) hcm)
                have HBN := Lib.hid ((Below.refl wc.heap.size wc).drew)
                have HF0 := Lib.hid (cell_later HBc.out f0)
                have HWC := Lib.hid hbwc
                clear f0 f1 f2 hc1 hc36 hV' hcm hc hbwc HCL HNE HNXT HLY
                go_upto_region 30 with fail
                go_region_held3 (fun W' => W'.cell? ⟨bC, oC + n * 3, none⟩ = some (.int .i64 (x : Int)) ∧ W'.cell? ⟨bC, oC + n * 3 + 1, none⟩ = some (.int .i64 cy) ∧ W'.cell? ⟨bC, oC + n * 3 + 2, none⟩ = some (.int .i64 cz) ∧ W'.cell? ⟨Bd, 0, none⟩ = some (.int .i64 0) ∧ W'.cell? ⟨Bd, 1, none⟩ = some (.slice ar k cr) ∧ W'.cell? ⟨Bd, 2, none⟩ = some (.slice (some ⟨gS, 0, none⟩) 1 1) ∧ W'.cell? ⟨Bd, 3, none⟩ = some (.int .i64 0) ∧ W'.cell? ⟨Bd, 4, none⟩ = some (.int .i64 0) ∧ W'.cell? ⟨Bd, 5, none⟩ = some (.int .i64 0))
                  (with_reducible exact HKF.out _ HBN.out)
                  ((go_at_call 18; (with_reducible refine (HNK.out _ HBN.out).mono ?_); rintro e w9 ⟨aN, nN, cN, rfl, hx, hb⟩; have HXN := Lib.hid hx; have HBN := Lib.hid (HBN.out.trans (hb.mono HBN.out.size)); clear hb hx))
                obtain ⟨dc, ac, kc, cc, hnbC, hnuC⟩ := HC.out.1
                obtain ⟨db, ab, kb, cb, hnbA, hnuA⟩ := HI.out.nA
                have hdr : ∀ w', Below w9.drew.heap.size w9.drew w' → Below w.heap.size w w' := fun w' hb => (HWC.out.trans (HBN.out.mono HWC.out.size)).drew.trans (hb.mono (HWC.out.trans (HBN.out.mono HWC.out.size)).drew.size)
                have hsm2 := fair_small HFN.out HOK.out
                have hft := wt_small HOK.out
                have hsA : SmallN (A * x) := small_mono (Nat.le_trans hsm2.1 (Nat.le_mul_of_pos_right _ (facN_pos _))) hft
                have hsB : SmallN (B * sm) := small_mono (Nat.le_trans hsm2.2 (Nat.le_mul_of_pos_left _ (facP_pos _))) hft
                have HPC : Hid (∀ w', Below w9.drew.heap.size w9.drew w' → Calls Try.prog 25 #[.agg #[.bool dc, .slice ac kc cc], .int .i64 (x : Int)] w' fun e w'' => ∃ d ao k cap, e = .returned (.agg #[.bool d, .slice ao k cap]) ∧ NuA w'' d (.slice ao k cap) (A * x) ∧ Below w'.heap.size w' w'') := Lib.hid (fun w' hb => product_any (hnuC.below (hdr w' hb)) (by omega) hsA)
                have HPA : Hid (∀ w', Below w9.drew.heap.size w9.drew w' → Calls Try.prog 25 #[.agg #[.bool db, .slice ab kb cb], .int .i64 (sm : Int)] w' fun e w'' => ∃ d ao k cap, e = .returned (.agg #[.bool d, .slice ao k cap]) ∧ NuA w'' d (.slice ao k cap) (B * sm) ∧ Below w'.heap.size w' w'') := Lib.hid (fun w' hb => product_any (hnuA.below (hdr w' hb)) (by omega) hsB)
                have HKB : Hid (∀ w', Below w9.drew.heap.size w9.drew w' → NBx w' gC dc (.slice ac kc cc) ∧ NBx w' gA db (.slice ab kb cb) ∧ w'.cell? ⟨bC, oC + n * 3, none⟩ = some (.int .i64 (x : Int))) := Lib.hid (fun w' hb => ⟨hnbC.later (hdr w' hb), hnbA.later (hdr w' hb), cell_later (HBN.out.drew.trans (hb.mono HBN.out.drew.size)) HF0.out⟩)
                have HAC : Hid (gA ≠ gC) := Lib.hid (fun e => HGC.out.2.2.1 e.symm)
                have HIX := Lib.hid (fun w' (hb : Below w9.drew.heap.size w9.drew w') => HI.out.later (hdr w' hb))
                have HCX2 := Lib.hid (fun w' (hb : Below w9.drew.heap.size w9.drew w') => HC.out.1.later (hdr w' hb))
                have HRX := Lib.hid (fun w' (hb : Below w9.drew.heap.size w9.drew w') => HXN.out.below ((Below.refl w9.heap.size w9).drew.trans hb))
                clear hnbC hnuC hnbA hnuA hdr hsm2 hft hsA hsB
                go_upto_region 33 with fail
                refine (wpIn_wide (n := 6)).1 ?_
                refine frame_namedIn ?_
                intro T hT
                obtain ⟨R, hRd⟩ : ∃ R : Array Bool → Act → World → Prop, R = (fun l a w' => ∃ vals, RH f3Ch T [some 117, some 118, some 119, some 120, some 121, some 122, some 123, some 124, some 125, some 126, none, none] (F3W w9.drew gC gA (A * x) (B * sm)) (F33 dc ac kc cc db ab kb cb bC oC i cC n x sm (A * x) (B * sm)) vals l a w') := ⟨_, rfl⟩
                refine region_inv (by kernel_rfl) R ?h0r2 ?stepr2 ?finr2
                case h0r2 => rw [hRd]; exact RH.start rfl (fun i j h => by simp [f3Ch] at h; simp only [List.length_cons, List.length_nil]; omega) (by exact ⟨fun _ => Below.refl _ _, fun h => absurd h (by decide), fun h => absurd h (by decide)⟩)
                case stepr2 =>
                  rintro l a w' i' hR0 hi'
                  have hR1 := hR0
                  rw [hRd] at hR1
                  obtain ⟨vals, hR⟩ := hR1
                  obtain ⟨hl0, o, ho, hdep⟩ := mem_ready.1 hi'
                  have h15 : i' < 12 := by
                    have := (Array.getElem?_eq_some_iff.1 ho).1
                    simpa using this
                  rcases (show i' = 0 ∨ i' = 1 ∨ i' = 2 ∨ i' = 3 ∨ i' = 4 ∨ i' = 5 ∨ i' = 6 ∨ i' = 7 ∨ i' = 8 ∨ i' = 9 ∨ i' = 10 ∨ i' = 11 by omega) with rfl | rfl | rfl | rfl | rfl | rfl | rfl | rfl | rfl | rfl | rfl | rfl
                  · simp at ho
                    subst ho
                    simp [Region.binds] at hdep
                    have k0 : a.tmps.getD 15 undef = .pointer (some ⟨gC, 0, none⟩) := (hR.fr.kept rfl (by simp [hT])).trans (by rw [hT]; try rfl)
                    have hc : ∀ j, (0, j) ∈ f3Ch → l.getD j true = true := by intro j hj; simp [f3Ch] at hj
                    have n10 := hR.no (s := 10) hl0 (fun hs => (hR.dep 10 0 (by decide) hs))
                    clear hi' hdep
                    obtain ⟨q0, q1⟩ := (HKB.out _ (hR.wd.a n10)).1.cells
                    have k0g := k0
                    rw [Array.getD_eq_getD_getElem?] at k0g
                    unfold wpOpIn
                    simp [Region.wanted]
                    unfold Oper.wpIn
                    simp [Oper.about, execOp, go_sem, Act.eval, k0, k0g, q0, q1]
                    rw [hRd]
                    exact hR.op 0 117 _ rfl (by decide) hl0 hc (F3W.const hR.wd (by decide) (by decide)) (fun _ _ h => h) (rfl)
                  · simp at ho
                    subst ho
                    simp [Region.binds] at hdep
                    have k0 : a.tmps.getD 17 undef = .slice (some ⟨bC, oC, none⟩) i cC := (hR.fr.kept rfl (by simp [hT])).trans (by rw [hT]; try rfl)
                    have hc : ∀ j, (1, j) ∈ f3Ch → l.getD j true = true := by intro j hj; simp [f3Ch] at hj
                    clear hi' hdep
                    have k0g := k0
                    rw [Array.getD_eq_getD_getElem?] at k0g
                    unfold wpOpIn
                    simp [Region.wanted]
                    unfold Oper.wpIn
                    simp [Oper.about, execOp, go_sem, Act.eval, k0, k0g]
                    rw [hRd]
                    exact hR.op 1 118 _ rfl (by decide) hl0 hc (F3W.const hR.wd (by decide) (by decide)) (fun _ _ h => h) (rfl)
                  · simp at ho
                    subst ho
                    simp [Region.binds] at hdep
                    have k0 : a.tmps.getD 20 undef = .int .i64 (n : Int) := (hR.fr.kept rfl (by simp [hT])).trans (by rw [hT]; try rfl)
                    have hc : ∀ j, (2, j) ∈ f3Ch → l.getD j true = true := by intro j hj; simp [f3Ch] at hj
                    clear hi' hdep
                    have k0g := k0
                    rw [Array.getD_eq_getD_getElem?] at k0g
                    unfold wpOpIn
                    simp [Region.wanted]
                    unfold Oper.wpIn
                    simp [Oper.about, execOp, go_sem, Act.eval, k0, k0g]
                    rw [hRd]
                    exact hR.op 2 119 _ rfl (by decide) hl0 hc (F3W.const hR.wd (by decide) (by decide)) (fun _ _ h => h) (rfl)
                  · simp at ho
                    subst ho
                    simp [Region.binds] at hdep
                    have d0 : l.getD 1 true = true := getD_true (by simp_all)
                    have k0 : a.tmps.getD 118 undef = vals 1 := hR.get rfl (by simp_all) (by simp [hT])
                    have e0 : vals 1 = .slice (some ⟨bC, oC, none⟩) i cC := hR.vl 1 (by decide) d0
                    rw [e0] at k0
                    have d1 : l.getD 2 true = true := getD_true (by simp_all)
                    have k1 : a.tmps.getD 119 undef = vals 2 := hR.get rfl (by simp_all) (by simp [hT])
                    have e1 : vals 2 = .int .i64 (n : Int) := hR.vl 2 (by decide) d1
                    rw [e1] at k1
                    have hc : ∀ j, (3, j) ∈ f3Ch → l.getD j true = true := by intro j hj; simp [f3Ch] at hj; rcases hj with rfl | rfl <;> exact getD_true (by simp_all)
                    clear hi' hdep
                    have k0g := k0
                    rw [Array.getD_eq_getD_getElem?] at k0g
                    have k1g := k1
                    rw [Array.getD_eq_getD_getElem?] at k1g
                    unfold wpOpIn
                    simp [Region.wanted]
                    unfold Oper.wpIn
                    simp [Oper.about, execOp, go_sem, Act.eval, k0, k1, k0g, k1g, hnI]
                    rw [hRd]
                    exact hR.op 3 120 _ rfl (by decide) hl0 hc (F3W.const hR.wd (by decide) (by decide)) (fun _ _ h => h) (rfl)
                  · simp at ho
                    subst ho
                    simp [Region.binds] at hdep
                    have d0 : l.getD 3 true = true := getD_true (by simp_all)
                    have k0 : a.tmps.getD 120 undef = vals 3 := hR.get rfl (by simp_all) (by simp [hT])
                    have e0 : vals 3 = .pointer (some ⟨bC, oC + n * 3, none⟩) := hR.vl 3 (by decide) d0
                    rw [e0] at k0
                    have hc : ∀ j, (4, j) ∈ f3Ch → l.getD j true = true := by intro j hj; simp [f3Ch] at hj; rcases hj with rfl <;> exact getD_true (by simp_all)
                    clear hi' hdep
                    have k0g := k0
                    rw [Array.getD_eq_getD_getElem?] at k0g
                    unfold wpOpIn
                    simp [Region.wanted]
                    unfold Oper.wpIn
                    simp [Oper.about, execOp, go_sem, Act.eval, k0, k0g]
                    rw [hRd]
                    exact hR.op 4 121 _ rfl (by decide) hl0 hc (F3W.const hR.wd (by decide) (by decide)) (fun _ _ h => h) (rfl)
                  · simp at ho
                    subst ho
                    simp [Region.binds] at hdep
                    have d0 : l.getD 4 true = true := getD_true (by simp_all)
                    have k0 : a.tmps.getD 121 undef = vals 4 := hR.get rfl (by simp_all) (by simp [hT])
                    have e0 : vals 4 = .pointer (some ⟨bC, oC + n * 3, none⟩) := hR.vl 4 (by decide) d0
                    rw [e0] at k0
                    have hc : ∀ j, (5, j) ∈ f3Ch → l.getD j true = true := by intro j hj; simp [f3Ch] at hj; rcases hj with rfl <;> exact getD_true (by simp_all)
                    have n10 := hR.no (s := 10) hl0 (fun hs => (hR.dep 10 5 (by decide) hs))
                    clear hi' hdep
                    have hcx := (HKB.out _ (hR.wd.a n10)).2.2
                    have k0g := k0
                    rw [Array.getD_eq_getD_getElem?] at k0g
                    unfold wpOpIn
                    simp [Region.wanted]
                    unfold Oper.wpIn
                    simp [Oper.about, execOp, go_sem, Act.eval, k0, k0g, hcx]
                    rw [hRd]
                    exact hR.op 5 122 _ rfl (by decide) hl0 hc (F3W.const hR.wd (by decide) (by decide)) (fun _ _ h => h) (rfl)
                  · simp at ho
                    subst ho
                    simp [Region.binds] at hdep
                    have d0 : l.getD 0 true = true := getD_true (by simp_all)
                    have k0 : a.tmps.getD 117 undef = vals 0 := hR.get rfl (by simp_all) (by simp [hT])
                    have e0 : vals 0 = .agg #[.bool dc, .slice ac kc cc] := hR.vl 0 (by decide) d0
                    rw [e0] at k0
                    have d1 : l.getD 5 true = true := getD_true (by simp_all)
                    have k1 : a.tmps.getD 122 undef = vals 5 := hR.get rfl (by simp_all) (by simp [hT])
                    have e1 : vals 5 = .int .i64 (x : Int) := hR.vl 5 (by decide) d1
                    rw [e1] at k1
                    have hc : ∀ j, (6, j) ∈ f3Ch → l.getD j true = true := by intro j hj; simp [f3Ch] at hj; rcases hj with rfl | rfl <;> exact getD_true (by simp_all)
                    have n10 := hR.no (s := 10) hl0 (fun hs => (hR.dep 10 6 (by decide) hs))
                    have n11 := hR.no (s := 11) hl0 (fun hs => (hR.dep 11 6 (by decide) hs))
                    clear hi' hdep
                    have k0g := k0
                    rw [Array.getD_eq_getD_getElem?] at k0g
                    have k1g := k1
                    rw [Array.getD_eq_getD_getElem?] at k1g
                    unfold wpOpIn
                    simp [Region.wanted]
                    unfold Oper.wpIn
                    simp [Oper.about, execOp, go_sem, Act.eval, k0, k1, k0g, k1g]
                    refine ⟨trivial, (callsIn_wide.2 (HPC.out _ (hR.wd.a n10))).mono ?_⟩
                    rintro e w'' ⟨d9, a9, k9, c9, rfl, hi, hb⟩
                    rw [hRd]
                    exact hR.op 6 123 _ rfl (by decide) hl0 hc (F3W.const (F3W.later hR.wd n10 n11 hb) (by decide) (by decide)) (F33.keep (fun _ _ _ h => h.below hb)) (⟨_, _, _, _, rfl, hi⟩)
                  · simp at ho
                    subst ho
                    simp [Region.binds] at hdep
                    have k0 : a.tmps.getD 12 undef = .pointer (some ⟨gA, 0, none⟩) := (hR.fr.kept rfl (by simp [hT])).trans (by rw [hT]; try rfl)
                    have hc : ∀ j, (7, j) ∈ f3Ch → l.getD j true = true := by intro j hj; simp [f3Ch] at hj
                    have n10 := hR.no (s := 10) hl0 (fun hs => (hR.dep 9 7 (by decide) (hR.dep 10 9 (by decide) hs)))
                    clear hi' hdep
                    obtain ⟨q0, q1⟩ := (HKB.out _ (hR.wd.a n10)).2.1.cells
                    have k0g := k0
                    rw [Array.getD_eq_getD_getElem?] at k0g
                    unfold wpOpIn
                    simp [Region.wanted]
                    unfold Oper.wpIn
                    simp [Oper.about, execOp, go_sem, Act.eval, k0, k0g, q0, q1]
                    rw [hRd]
                    exact hR.op 7 124 _ rfl (by decide) hl0 hc (F3W.const hR.wd (by decide) (by decide)) (fun _ _ h => h) (rfl)
                  · simp at ho
                    subst ho
                    simp [Region.binds] at hdep
                    have k0 : a.tmps.getD 18 undef = .int .i64 (sm : Int) := (hR.fr.kept rfl (by simp [hT])).trans (by rw [hT]; try rfl)
                    have hc : ∀ j, (8, j) ∈ f3Ch → l.getD j true = true := by intro j hj; simp [f3Ch] at hj
                    clear hi' hdep
                    have k0g := k0
                    rw [Array.getD_eq_getD_getElem?] at k0g
                    unfold wpOpIn
                    simp [Region.wanted]
                    unfold Oper.wpIn
                    simp [Oper.about, execOp, go_sem, Act.eval, k0, k0g]
                    rw [hRd]
                    exact hR.op 8 125 _ rfl (by decide) hl0 hc (F3W.const hR.wd (by decide) (by decide)) (fun _ _ h => h) (rfl)
                  · simp at ho
                    subst ho
                    simp [Region.binds] at hdep
                    have d0 : l.getD 7 true = true := getD_true (by simp_all)
                    have k0 : a.tmps.getD 124 undef = vals 7 := hR.get rfl (by simp_all) (by simp [hT])
                    have e0 : vals 7 = .agg #[.bool db, .slice ab kb cb] := hR.vl 7 (by decide) d0
                    rw [e0] at k0
                    have d1 : l.getD 8 true = true := getD_true (by simp_all)
                    have k1 : a.tmps.getD 125 undef = vals 8 := hR.get rfl (by simp_all) (by simp [hT])
                    have e1 : vals 8 = .int .i64 (sm : Int) := hR.vl 8 (by decide) d1
                    rw [e1] at k1
                    have hc : ∀ j, (9, j) ∈ f3Ch → l.getD j true = true := by intro j hj; simp [f3Ch] at hj; rcases hj with rfl | rfl <;> exact getD_true (by simp_all)
                    have n10 := hR.no (s := 10) hl0 (fun hs => (hR.dep 10 9 (by decide) hs))
                    have n11 := hR.no (s := 11) hl0 (fun hs => (hR.dep 11 9 (by decide) hs))
                    clear hi' hdep
                    have k0g := k0
                    rw [Array.getD_eq_getD_getElem?] at k0g
                    have k1g := k1
                    rw [Array.getD_eq_getD_getElem?] at k1g
                    unfold wpOpIn
                    simp [Region.wanted]
                    unfold Oper.wpIn
                    simp [Oper.about, execOp, go_sem, Act.eval, k0, k1, k0g, k1g]
                    refine ⟨trivial, (callsIn_wide.2 (HPA.out _ (hR.wd.a n10))).mono ?_⟩
                    rintro e w'' ⟨d9, a9, k9, c9, rfl, hi, hb⟩
                    rw [hRd]
                    exact hR.op 9 126 _ rfl (by decide) hl0 hc (F3W.const (F3W.later hR.wd n10 n11 hb) (by decide) (by decide)) (F33.keep (fun _ _ _ h => h.below hb)) (⟨_, _, _, _, rfl, hi⟩)
                  · simp at ho
                    subst ho
                    simp [Region.binds] at hdep
                    have k0 : a.tmps.getD 15 undef = .pointer (some ⟨gC, 0, none⟩) := (hR.fr.kept rfl (by simp [hT])).trans (by rw [hT]; try rfl)
                    have d1 : l.getD 6 true = true := getD_true (by simp_all)
                    have k1 : a.tmps.getD 123 undef = vals 6 := hR.get rfl (by simp_all) (by simp [hT])
                    obtain ⟨d1x, a1x, k1x, c1x, e1, hi1⟩ : ∃ d ao k cap, vals 6 = .agg #[.bool d, .slice ao k cap] ∧ NuA w' d (.slice ao k cap) (A * x) := hR.vl 6 (by decide) d1
                    rw [e1] at k1
                    have hc : ∀ j, (10, j) ∈ f3Ch → l.getD j true = true := by intro j hj; simp [f3Ch] at hj; rcases hj with rfl | rfl | rfl | rfl | rfl | rfl | rfl | rfl <;> exact getD_true (by simp_all)
                    have n11 := hR.no (s := 11) hl0 (fun hs => (hR.dep 11 10 (by decide) hs))
                    clear hi' hdep
                    have hbx := (HKB.out _ (hR.wd.a hl0)).1
                    obtain ⟨y0, y1⟩ := hbx.cells
                    have f0 := hbx.free 0
                    have f1 := hbx.free 1
                    have l0 := hbx.lt
                    have k0g := k0
                    rw [Array.getD_eq_getD_getElem?] at k0g
                    have k1g := k1
                    rw [Array.getD_eq_getD_getElem?] at k1g
                    unfold wpOpIn
                    simp [Region.wanted]
                    unfold Oper.wpIn
                    simp [Oper.about, execOp, go_sem, Act.eval, k0, k1, k0g, k1g, y0, y1, f0, f1, l0]
                    rw [hRd]
                    exact hR.bare 10 undef rfl hl0 hc (F3W.putC hR.wd hl0 n11 hi1) (F33.keep (fun _ _ _ h => nu_put h hbx)) (fun _ => trivial)
                  · simp at ho
                    subst ho
                    simp [Region.binds] at hdep
                    have k0 : a.tmps.getD 12 undef = .pointer (some ⟨gA, 0, none⟩) := (hR.fr.kept rfl (by simp [hT])).trans (by rw [hT]; try rfl)
                    have d1 : l.getD 9 true = true := getD_true (by simp_all)
                    have k1 : a.tmps.getD 126 undef = vals 9 := hR.get rfl (by simp_all) (by simp [hT])
                    obtain ⟨d1x, a1x, k1x, c1x, e1, hi1⟩ : ∃ d ao k cap, vals 9 = .agg #[.bool d, .slice ao k cap] ∧ NuA w' d (.slice ao k cap) (B * sm) := hR.vl 9 (by decide) d1
                    rw [e1] at k1
                    have hc : ∀ j, (11, j) ∈ f3Ch → l.getD j true = true := by intro j hj; simp [f3Ch] at hj; rcases hj with rfl | rfl | rfl | rfl | rfl | rfl | rfl | rfl | rfl | rfl | rfl <;> exact getD_true (by simp_all)
                    clear hi' hdep
                    have n10 := hc 10 (by decide)
                    have hbx : NBx w' gA db (.slice ab kb cb) := by obtain ⟨wy, dy, ay, ky, cy, hby, -, hwy⟩ := hR.wd.b n10 hl0; rw [hwy]; exact nbx_other (HKB.out _ hby).2.1 HAC.out
                    obtain ⟨y0, y1⟩ := hbx.cells
                    have f0 := hbx.free 0
                    have f1 := hbx.free 1
                    have l0 := hbx.lt
                    have k0g := k0
                    rw [Array.getD_eq_getD_getElem?] at k0g
                    have k1g := k1
                    rw [Array.getD_eq_getD_getElem?] at k1g
                    unfold wpOpIn
                    simp [Region.wanted]
                    unfold Oper.wpIn
                    simp [Oper.about, execOp, go_sem, Act.eval, k0, k1, k0g, k1g, y0, y1, f0, f1, l0]
                    rw [hRd]
                    exact hR.bare 11 undef rfl hl0 hc (F3W.putA hR.wd n10 hl0 hi1) (F33.keep (fun _ _ _ h => nu_put h hbx)) (fun _ => trivial)
                case' finr2 =>
                  rintro l a w' hR0 hz
                  rw [hRd] at hR0
                  obtain ⟨vals, hR⟩ := hR0
                  clear hRd R
                  have hnot := List.eq_nil_iff_forall_not_mem.1 hz
                  have hk : ∀ k, k < 12 → (l.getD k true = false → False) → l.getD k false = true := fun k h12 h => by
                    have hs := hR.size
                    cases h' : l.getD k true with
                    | false => exact (h h').elim
                    | true => simp at hs; simp [Array.getD, hs, h12] at h' ⊢; exact h'
                  have st0 := hk 0 (by omega) (fun h => hnot 0 (mem_ready.2 ⟨h, _, rfl, by simp [Region.binds]⟩))
                  have st1 := hk 1 (by omega) (fun h => hnot 1 (mem_ready.2 ⟨h, _, rfl, by simp [Region.binds]⟩))
                  have st2 := hk 2 (by omega) (fun h => hnot 2 (mem_ready.2 ⟨h, _, rfl, by simp [Region.binds]⟩))
                  have st3 := hk 3 (by omega) (fun h => hnot 3 (mem_ready.2 ⟨h, _, rfl, by simp [Region.binds] <;> simp_all⟩))
                  have st4 := hk 4 (by omega) (fun h => hnot 4 (mem_ready.2 ⟨h, _, rfl, by simp [Region.binds] <;> simp_all⟩))
                  have st5 := hk 5 (by omega) (fun h => hnot 5 (mem_ready.2 ⟨h, _, rfl, by simp [Region.binds] <;> simp_all⟩))
                  have st6 := hk 6 (by omega) (fun h => hnot 6 (mem_ready.2 ⟨h, _, rfl, by simp [Region.binds] <;> simp_all⟩))
                  have st7 := hk 7 (by omega) (fun h => hnot 7 (mem_ready.2 ⟨h, _, rfl, by simp [Region.binds]⟩))
                  have st8 := hk 8 (by omega) (fun h => hnot 8 (mem_ready.2 ⟨h, _, rfl, by simp [Region.binds]⟩))
                  have st9 := hk 9 (by omega) (fun h => hnot 9 (mem_ready.2 ⟨h, _, rfl, by simp [Region.binds] <;> simp_all⟩))
                  have st10 := hk 10 (by omega) (fun h => hnot 10 (mem_ready.2 ⟨h, _, rfl, by simp [Region.binds] <;> simp_all⟩))
                  have st11 := hk 11 (by omega) (fun h => hnot 11 (mem_ready.2 ⟨h, _, rfl, by simp [Region.binds] <;> simp_all⟩))
                  have hall : ∀ i, i < 12 → l.getD i true = true := fun i hi => by
                    rcases (show i = 0 ∨ i = 1 ∨ i = 2 ∨ i = 3 ∨ i = 4 ∨ i = 5 ∨ i = 6 ∨ i = 7 ∨ i = 8 ∨ i = 9 ∨ i = 10 ∨ i = 11 by omega) with rfl | rfl | rfl | rfl | rfl | rfl | rfl | rfl | rfl | rfl | rfl | rfl
                    · exact getD_true st0
                    · exact getD_true st1
                    · exact getD_true st2
                    · exact getD_true st3
                    · exact getD_true st4
                    · exact getD_true st5
                    · exact getD_true st6
                    · exact getD_true st7
                    · exact getD_true st8
                    · exact getD_true st9
                    · exact getD_true st10
                    · exact getD_true st11
                  clear st0 st1 st2 st3 st4 st5 st6 st7 st8 st9 st10 st11 hk hnot hz
                  have hTs : T.size = 159 := by rw [hT]; rfl
                  have ha := hR.all (T' := ((((((((((T.setIfInBounds 117 (vals 0)).setIfInBounds 118 (vals 1)).setIfInBounds 119 (vals 2)).setIfInBounds 120 (vals 3)).setIfInBounds 121 (vals 4)).setIfInBounds 122 (vals 5)).setIfInBounds 123 (vals 6)).setIfInBounds 124 (vals 7)).setIfInBounds 125 (vals 8)).setIfInBounds 126 (vals 9))) (fun i hi => hall i (by simpa using hi)) (by simp) (fun j hj => by
                    by_cases h1 : j = 117 ∨ j = 118 ∨ j = 119 ∨ j = 120 ∨ j = 121 ∨ j = 122 ∨ j = 123 ∨ j = 124 ∨ j = 125 ∨ j = 126
                    · rcases h1 with rfl | rfl | rfl | rfl | rfl | rfl | rfl | rfl | rfl | rfl <;> simp [rv_sets, tOwn, List.findIdx?, List.findIdx?.go, hTs]
                    · simp only [not_or] at h1
                      obtain ⟨m117, m118, m119, m120, m121, m122, m123, m124, m125, m126⟩ := h1
                      have e : tOwn [some 117, some 118, some 119, some 120, some 121, some 122, some 123, some 124, some 125, some 126, none, none] vals j = none := by
                        unfold tOwn
                        simp [List.findIdx?, List.findIdx?.go, Ne.symm m117, Ne.symm m118, Ne.symm m119, Ne.symm m120, Ne.symm m121, Ne.symm m122, Ne.symm m123, Ne.symm m124, Ne.symm m125, Ne.symm m126]
                      rw [e]
                      simp only [rv_sets]
                      repeat rw [if_neg (by omega)])
                  have v0 : vals 0 = .agg #[.bool dc, .slice ac kc cc] := hR.vl 0 (by decide) (hall 0 (by decide))
                  have v1 : vals 1 = .slice (some ⟨bC, oC, none⟩) i cC := hR.vl 1 (by decide) (hall 1 (by decide))
                  have v2 : vals 2 = .int .i64 (n : Int) := hR.vl 2 (by decide) (hall 2 (by decide))
                  have v3 : vals 3 = .pointer (some ⟨bC, oC + n * 3, none⟩) := hR.vl 3 (by decide) (hall 3 (by decide))
                  have v4 : vals 4 = .pointer (some ⟨bC, oC + n * 3, none⟩) := hR.vl 4 (by decide) (hall 4 (by decide))
                  have v5 : vals 5 = .int .i64 (x : Int) := hR.vl 5 (by decide) (hall 5 (by decide))
                  have v7 : vals 7 = .agg #[.bool db, .slice ab kb cb] := hR.vl 7 (by decide) (hall 7 (by decide))
                  have v8 : vals 8 = .int .i64 (sm : Int) := hR.vl 8 (by decide) (hall 8 (by decide))
                  obtain ⟨w1q, d9, a9, k9, c9, d8, a8, k8, c8, hb9, hn9, hn8, hw9⟩ := hR.wd.c (hall 11 (by decide))
                  have HW9 := Lib.hid (And.intro hb9 (And.intro hn9 hn8))
                  clear hb9 hn9 hn8
                  subst hw9
                  subst ha
                  clear hR hall hTs
                  rw [v0, v1, v2, v3, v4, v5, v7, v8, hT]
                  simp only [List.setIfInBounds_toArray, List.set_cons_succ, List.set_cons_zero]
                  clear v0 v1 v2 v3 v4 v5 v7 v8 hT T
                generalize vals 6 = y6
                generalize vals 9 = y9
                have HNX : Hid (FrI w2 ((((w1q.setCell ⟨gC, 0, none⟩ (.bool d9)).setCell ⟨gC, 1, none⟩ (.slice a9 k9 c9)).setCell ⟨gA, 0, none⟩ (.bool d8)).setCell ⟨gA, 1, none⟩ (.slice a8 k8 c8)) Bd gS gW gA (.slice ar k cr) s (facP (fulV r s)) (B * sm)) := Lib.hid (((HIX.out _ HW9.out.1).putC (HCX2.out _ HW9.out.1) HGC.out).putA HG.out HW9.out.2.2)
                have HNC : Hid (NB ((((w1q.setCell ⟨gC, 0, none⟩ (.bool d9)).setCell ⟨gC, 1, none⟩ (.slice a9 k9 c9)).setCell ⟨gA, 0, none⟩ (.bool d8)).setCell ⟨gA, 1, none⟩ (.slice a8 k8 c8)) gC (A * x) ∧ Ix ((((w1q.setCell ⟨gC, 0, none⟩ (.bool d9)).setCell ⟨gC, 1, none⟩ (.slice a9 k9 c9)).setCell ⟨gA, 0, none⟩ (.bool d8)).setCell ⟨gA, 1, none⟩ (.slice a8 k8 c8)) (.slice aN nN cN) (nextV r [(s : Int)] R ((x : Int), cy, cz))) := Lib.hid (by
                  have hA := (HIX.out _ HW9.out.1).putC (d := d9) (ao := a9) (k := k9) (cap := c9) (HCX2.out _ HW9.out.1) HGC.out
                  have hC := (HCX2.out _ HW9.out.1).put HW9.out.2.1
                  have hX := ix_nput (d' := d9) (ao' := a9) (k' := k9) (cap' := c9) (HRX.out _ HW9.out.1) (HKB.out _ HW9.out.1).1
                  obtain ⟨dz, az9, kz, cz9, gz, -⟩ := hA.nA
                  exact ⟨hC.other hA.nA (fun e => HAC.out e.symm), ix_nput hX gz⟩)
                generalize ((((w1q.setCell ⟨gC, 0, none⟩ (.bool d9)).setCell ⟨gC, 1, none⟩ (.slice a9 k9 c9)).setCell ⟨gA, 0, none⟩ (.bool d8)).setCell ⟨gA, 1, none⟩ (.slice a8 k8 c8)) = wz at HNX HNC ⊢
                clear HKB HPC HPA HIX HCX2 HRX HW9 HF0 HWC HBN HXN HNK HKF
                go_wp2
                go_roundw
                case rel => exact ⟨j + 1, _, V', A * x, B * sm, aN, nN, cN, by omega, by go_num, rfl, HFN, HNX, HNC⟩
                case measure => simp [intOf]; omega
            · have hlt : i < m := by omega
              have hltI : (i : Int) < (m : Int) := by omega
              have f0 := cell_later HB9.out (hclC i hlt).1
              have hst := sumW_step (C := C) (i := i) (by rw [← HMC.out]; exact hlt)
              have hs1 := HCM.out i
              have hs2 := HCM.out (i + 1)
              have hs3 := HSW.out
              obtain ⟨cx, hcx⟩ : ∃ cx, cx = (C.getD i (0, 0, 0)).1 := ⟨_, rfl⟩
              rw [← hcx] at f0 hst
              obtain ⟨t, ht⟩ : ∃ t, t = sumW (C.take i) := ⟨_, rfl⟩
              rw [← ht] at hst hs1 ⊢
              have HST := Lib.hid hst
              have wt : IntKind.i64.wrap (t + cx) = t + cx := IntWalk.i64_in _ (by omega)
              clear hclC hst hs1 hs2 hs3 hcx ht
              go_wp2
              go_roundw
              case rel => exact ⟨i + 1, by omega, by go_num, by rw [HST.out], HB9⟩
              case measure => simp [intOf]; omega
    · have hlt : k < nr := by omega
      have hltI : (k : Int) < (nr : Int) := by omega
      have hkI := hltI
      obtain ⟨rb, ro, rfl, -, -, -, hcr⟩ := (HR.out.below HI.out.b).at (by omega)
      obtain ⟨k0, k1, k2, k3, k4, k5⟩ := HI.out.d.cells
      have c1 := hcr k hlt
      obtain ⟨x, hx⟩ : ∃ x, x = r.getD k 0 := ⟨_, rfl⟩
      rw [← hx] at c1
      have hfk := ful_get (r := r) (s := s) k
      rw [← hx] at hfk
      have hfin := ful_in HOK.out k
      obtain ⟨y, hy⟩ : ∃ y : Nat, (y : Int) = (s : Int) * x := ⟨((s : Int) * x).toNat, by omega⟩
      have hy8 : y ≤ 8 := by omega
      have wy : IntKind.i64.wrap ((s : Int) * x) = (y : Int) := by rw [← hy]; exact IntWalk.i64_in _ (by omega)
      have hkl : k < (fulV r s).length := by rw [ful_len, ← HNR.out]; exact hlt
      have htk : (fulV r s).take (k + 1) = (fulV r s).take k ++ [(y : Int)] := by
        rw [List.take_add_one, List.getElem?_eq_getElem hkl]
        have e : (fulV r s)[k] = (y : Int) := by rw [hy, ← hfk]; simp [List.getD, hkl]
        rw [e]; rfl
      have hsb := (sum_le ((fulV r s).take k) (b := 8) (fun j => by
        by_cases hj : j < k
        · have := (ful_in HOK.out j).2
          simp only [List.getD, List.getElem?_take_of_lt hj] at *
          exact this
        · rw [show ((fulV r s).take k).getD j 0 = 0 by simp only [List.getD, List.getElem?_eq_none (show ((fulV r s).take k).length ≤ j by rw [List.length_take]; omega)]; rfl]; omega) (by omega))
      have hs0 := (sum_get ((fulV r s).take k) (fun j => by
        by_cases hj : j < k
        · have := (ful_in HOK.out j).1
          simp only [List.getD, List.getElem?_take_of_lt hj] at *
          exact this
        · rw [show ((fulV r s).take k).getD j 0 = 0 by simp only [List.getD, List.getElem?_eq_none (show ((fulV r s).take k).length ≤ j by rw [List.length_take]; omega)]; rfl]; omega)).1
      rw [List.length_take, ← HT.out] at hsb
      rw [← HT.out] at hs0
      have htb : 0 ≤ t ∧ t ≤ 40 := by omega
      have wt : IntKind.i64.wrap (t + (y : Int)) = t + (y : Int) := IntWalk.i64_in _ (by omega)
      have HTN : Hid (t + (y : Int) = ((fulV r s).take (k + 1)).sum) := Lib.hid (by rw [htk, List.sum_append, ← HT.out]; simp)
      obtain ⟨p, hp⟩ : ∃ p, p = facP ((fulV r s).take k) * facN y := ⟨_, rfl⟩
      have HP : Hid (p = facP ((fulV r s).take (k + 1))) := Lib.hid (by rw [htk, facP_snoc, hp]; simp)
      have hsm : SmallN p := by
        have h1 : p ≤ facP (fulV r s) * facN (whN r s) := by
          rw [HP.out]
          have h2 := List.take_append_drop (k + 1) (fulV r s)
          have h3 : ∀ a b : List Int, facP (a ++ b) = facP a * facP b := fun a b => by
            induction a with
            | nil => simp [facP]
            | cons z a ih => show facN z.toNat * facP (a ++ b) = facN z.toNat * facP a * facP b; rw [ih, Nat.mul_assoc]
          have h4 : facP (fulV r s) = facP ((fulV r s).take (k + 1)) * facP ((fulV r s).drop (k + 1)) := by rw [← h3, h2]
          rw [h4, Nat.mul_assoc]
          exact Nat.le_mul_of_pos_right _ (Nat.mul_pos (facP_pos _) (facN_pos _))
        exact small_mono h1 (wt_small HOK.out)
      obtain ⟨dq, aq, nq, cq, hnb, hnu⟩ := HI.out.nW
      have hdr : ∀ w', Below w.drew.heap.size w.drew w' → Below w.heap.size w w' := fun w' hb => (Below.refl w.heap.size w).drew.trans hb
      have HKB : Hid (∀ w', Below w.drew.heap.size w.drew w' → NBx w' gW dq (.slice aq nq cq) ∧ w'.cell? ⟨Bd, 1, none⟩ = some (.slice (some ⟨rb, ro, none⟩) nr cr) ∧ w'.cell? ⟨rb, ro + k, none⟩ = some (.int .i64 x)) := Lib.hid (fun w' hb => ⟨hnb.later (hdr w' hb), (HI.out.d.below (hdr w' hb)).cells.2.1, cell_later (hdr w' hb) c1⟩)
      have HFA : Hid (∀ w', Calls Try.prog 24 #[.int .i64 (y : Int)] w' fun e w'' => ∃ d ao k cap, e = .returned (.agg #[.bool d, .slice ao k cap]) ∧ NuA w'' d (.slice ao k cap) (facN y) ∧ Below w'.heap.size w' w'') := Lib.hid (fun w' => factorial_any y (by omega))
      have HMU : Hid (∀ w', Below w.drew.heap.size w.drew w' → ∀ c t', NuA w' c t' (facN y) → Calls Try.prog 23 #[.agg #[.bool dq, .slice aq nq cq], .agg #[.bool c, t']] w' fun e w'' => ∃ d ao k cap, e = .returned (.tuple #[.agg #[.bool d, .slice ao k cap], .bool true]) ∧ NuA w'' d (.slice ao k cap) p ∧ Below w'.heap.size w' w'') := Lib.hid (fun w' hb c t' hc => by
        have h := mul_num (hnu.below (hdr w' hb)) hc (by rw [← hp]; exact hsm)
        rwa [← hp] at h)
      have HIX := Lib.hid (fun w' (hb : Below w.drew.heap.size w.drew w') => HI.out.later (hdr w' hb))
      clear hcr hx hfk hfin hy hkl htk hsb hs0 hp hsm hnb hnu hdr
      go_upto_region 11 with fail
      clear k0 k1 k2 k3 k4 k5 c1
      refine (wpIn_wide (n := 6)).1 ?_
      refine frame_namedIn ?_
      intro T hT
      obtain ⟨R, hRd⟩ : ∃ R : Array Bool → Act → World → Prop, R = (fun l a w' => ∃ vals, RH f1Ch T [some 55, some 56, some 57, some 58, some 59, some 60, some 61, some 62, some 63, some 64, some 54, some 65, some 66, none] (F1W w.drew gW p 13) (F11 dq aq nq cq s Bd rb ro nr cr k x y p) vals l a w') := ⟨_, rfl⟩
      refine region_inv (by kernel_rfl) R ?h0r1 ?stepr1 ?finr1
      case h0r1 => rw [hRd]; exact RH.start rfl (fun i j h => by simp [f1Ch] at h; simp only [List.length_cons, List.length_nil]; omega) (by exact ⟨fun _ => Below.refl _ _, fun h => absurd h (by decide)⟩)
      case stepr1 =>
        rintro l a w' i' hR0 hi'
        have hR1 := hR0
        rw [hRd] at hR1
        obtain ⟨vals, hR⟩ := hR1
        obtain ⟨hl0, o, ho, hdep⟩ := mem_ready.1 hi'
        have h15 : i' < 14 := by
          have := (Array.getElem?_eq_some_iff.1 ho).1
          simpa using this
        rcases (show i' = 0 ∨ i' = 1 ∨ i' = 2 ∨ i' = 3 ∨ i' = 4 ∨ i' = 5 ∨ i' = 6 ∨ i' = 7 ∨ i' = 8 ∨ i' = 9 ∨ i' = 10 ∨ i' = 11 ∨ i' = 12 ∨ i' = 13 by omega) with rfl | rfl | rfl | rfl | rfl | rfl | rfl | rfl | rfl | rfl | rfl | rfl | rfl | rfl
        · simp at ho
          subst ho
          simp [Region.binds] at hdep
          have k0 : a.tmps.getD 11 undef = .pointer (some ⟨gW, 0, none⟩) := (hR.fr.kept rfl (by simp [hT])).trans (by rw [hT]; try rfl)
          have hc : ∀ j, (0, j) ∈ f1Ch → l.getD j true = true := by intro j hj; simp [f1Ch] at hj
          have n13 := hR.no (s := 13) hl0 (fun hs => (hR.dep 9 0 (by decide) (hR.dep 10 9 (by decide) (hR.dep 11 10 (by decide) (hR.dep 13 11 (by decide) hs)))))
          clear hi' hdep
          obtain ⟨q0, q1⟩ := (HKB.out _ (hR.wd.a n13)).1.cells
          have k0g := k0
          rw [Array.getD_eq_getD_getElem?] at k0g
          unfold wpOpIn
          simp [Region.wanted]
          unfold Oper.wpIn
          simp [Oper.about, execOp, go_sem, Act.eval, k0, k0g, q0, q1]
          rw [hRd]
          exact hR.op 0 55 _ rfl (by decide) hl0 hc (F1W.const hR.wd (by decide)) (fun _ _ h => h) (rfl)
        · simp at ho
          subst ho
          simp [Region.binds] at hdep
          have k0 : a.tmps.getD 9 undef = .int .i64 (s : Int) := (hR.fr.kept rfl (by simp [hT])).trans (by rw [hT]; try rfl)
          have hc : ∀ j, (1, j) ∈ f1Ch → l.getD j true = true := by intro j hj; simp [f1Ch] at hj
          clear hi' hdep
          have k0g := k0
          rw [Array.getD_eq_getD_getElem?] at k0g
          unfold wpOpIn
          simp [Region.wanted]
          unfold Oper.wpIn
          simp [Oper.about, execOp, go_sem, Act.eval, k0, k0g]
          rw [hRd]
          exact hR.op 1 56 _ rfl (by decide) hl0 hc (F1W.const hR.wd (by decide)) (fun _ _ h => h) (rfl)
        · simp at ho
          subst ho
          simp [Region.binds] at hdep
          have k0 : a.tmps.getD 8 undef = .pointer (some ⟨Bd, 0, none⟩) := (hR.fr.kept rfl (by simp [hT])).trans (by rw [hT]; try rfl)
          have hc : ∀ j, (2, j) ∈ f1Ch → l.getD j true = true := by intro j hj; simp [f1Ch] at hj
          clear hi' hdep
          have k0g := k0
          rw [Array.getD_eq_getD_getElem?] at k0g
          unfold wpOpIn
          simp [Region.wanted]
          unfold Oper.wpIn
          simp [Oper.about, execOp, go_sem, Act.eval, k0, k0g]
          rw [hRd]
          exact hR.op 2 57 _ rfl (by decide) hl0 hc (F1W.const hR.wd (by decide)) (fun _ _ h => h) (rfl)
        · simp at ho
          subst ho
          simp [Region.binds] at hdep
          have d0 : l.getD 2 true = true := getD_true (by simp_all)
          have k0 : a.tmps.getD 57 undef = vals 2 := hR.get rfl (by simp_all) (by simp [hT])
          have e0 : vals 2 = .pointer (some ⟨Bd, 1, none⟩) := hR.vl 2 (by decide) d0
          rw [e0] at k0
          have hc : ∀ j, (3, j) ∈ f1Ch → l.getD j true = true := by intro j hj; simp [f1Ch] at hj; rcases hj with rfl <;> exact getD_true (by simp_all)
          have n13 := hR.no (s := 13) hl0 (fun hs => (hR.dep 5 3 (by decide) (hR.dep 6 5 (by decide) (hR.dep 7 6 (by decide) (hR.dep 8 7 (by decide) (hR.dep 9 8 (by decide) (hR.dep 10 9 (by decide) (hR.dep 11 10 (by decide) (hR.dep 13 11 (by decide) hs)))))))))
          clear hi' hdep
          have hd1 := (HKB.out _ (hR.wd.a n13)).2.1
          have k0g := k0
          rw [Array.getD_eq_getD_getElem?] at k0g
          unfold wpOpIn
          simp [Region.wanted]
          unfold Oper.wpIn
          simp [Oper.about, execOp, go_sem, Act.eval, k0, k0g, hd1]
          rw [hRd]
          exact hR.op 3 58 _ rfl (by decide) hl0 hc (F1W.const hR.wd (by decide)) (fun _ _ h => h) (rfl)
        · simp at ho
          subst ho
          simp [Region.binds] at hdep
          have k0 : a.tmps.getD 13 undef = .int .i64 (k : Int) := (hR.fr.kept rfl (by simp [hT])).trans (by rw [hT]; try rfl)
          have hc : ∀ j, (4, j) ∈ f1Ch → l.getD j true = true := by intro j hj; simp [f1Ch] at hj
          clear hi' hdep
          have k0g := k0
          rw [Array.getD_eq_getD_getElem?] at k0g
          unfold wpOpIn
          simp [Region.wanted]
          unfold Oper.wpIn
          simp [Oper.about, execOp, go_sem, Act.eval, k0, k0g]
          rw [hRd]
          exact hR.op 4 59 _ rfl (by decide) hl0 hc (F1W.const hR.wd (by decide)) (fun _ _ h => h) (rfl)
        · simp at ho
          subst ho
          simp [Region.binds] at hdep
          have d0 : l.getD 3 true = true := getD_true (by simp_all)
          have k0 : a.tmps.getD 58 undef = vals 3 := hR.get rfl (by simp_all) (by simp [hT])
          have e0 : vals 3 = .slice (some ⟨rb, ro, none⟩) nr cr := hR.vl 3 (by decide) d0
          rw [e0] at k0
          have d1 : l.getD 4 true = true := getD_true (by simp_all)
          have k1 : a.tmps.getD 59 undef = vals 4 := hR.get rfl (by simp_all) (by simp [hT])
          have e1 : vals 4 = .int .i64 (k : Int) := hR.vl 4 (by decide) d1
          rw [e1] at k1
          have hc : ∀ j, (5, j) ∈ f1Ch → l.getD j true = true := by intro j hj; simp [f1Ch] at hj; rcases hj with rfl | rfl <;> exact getD_true (by simp_all)
          clear hi' hdep
          have k0g := k0
          rw [Array.getD_eq_getD_getElem?] at k0g
          have k1g := k1
          rw [Array.getD_eq_getD_getElem?] at k1g
          unfold wpOpIn
          simp [Region.wanted]
          unfold Oper.wpIn
          simp [Oper.about, execOp, go_sem, Act.eval, k0, k1, k0g, k1g, hkI]
          rw [hRd]
          exact hR.op 5 60 _ rfl (by decide) hl0 hc (F1W.const hR.wd (by decide)) (fun _ _ h => h) (rfl)
        · simp at ho
          subst ho
          simp [Region.binds] at hdep
          have d0 : l.getD 5 true = true := getD_true (by simp_all)
          have k0 : a.tmps.getD 60 undef = vals 5 := hR.get rfl (by simp_all) (by simp [hT])
          have e0 : vals 5 = .pointer (some ⟨rb, ro + k, none⟩) := hR.vl 5 (by decide) d0
          rw [e0] at k0
          have hc : ∀ j, (6, j) ∈ f1Ch → l.getD j true = true := by intro j hj; simp [f1Ch] at hj; rcases hj with rfl <;> exact getD_true (by simp_all)
          have n13 := hR.no (s := 13) hl0 (fun hs => (hR.dep 7 6 (by decide) (hR.dep 8 7 (by decide) (hR.dep 9 8 (by decide) (hR.dep 10 9 (by decide) (hR.dep 11 10 (by decide) (hR.dep 13 11 (by decide) hs)))))))
          clear hi' hdep
          have hcx := (HKB.out _ (hR.wd.a n13)).2.2
          have k0g := k0
          rw [Array.getD_eq_getD_getElem?] at k0g
          unfold wpOpIn
          simp [Region.wanted]
          unfold Oper.wpIn
          simp [Oper.about, execOp, go_sem, Act.eval, k0, k0g, hcx]
          rw [hRd]
          exact hR.op 6 61 _ rfl (by decide) hl0 hc (F1W.const hR.wd (by decide)) (fun _ _ h => h) (rfl)
        · simp at ho
          subst ho
          simp [Region.binds] at hdep
          have d0 : l.getD 1 true = true := getD_true (by simp_all)
          have k0 : a.tmps.getD 56 undef = vals 1 := hR.get rfl (by simp_all) (by simp [hT])
          have e0 : vals 1 = .int .i64 (s : Int) := hR.vl 1 (by decide) d0
          rw [e0] at k0
          have d1 : l.getD 6 true = true := getD_true (by simp_all)
          have k1 : a.tmps.getD 61 undef = vals 6 := hR.get rfl (by simp_all) (by simp [hT])
          have e1 : vals 6 = .int .i64 x := hR.vl 6 (by decide) d1
          rw [e1] at k1
          have hc : ∀ j, (7, j) ∈ f1Ch → l.getD j true = true := by intro j hj; simp [f1Ch] at hj; rcases hj with rfl | rfl <;> exact getD_true (by simp_all)
          clear hi' hdep
          have k0g := k0
          rw [Array.getD_eq_getD_getElem?] at k0g
          have k1g := k1
          rw [Array.getD_eq_getD_getElem?] at k1g
          unfold wpOpIn
          simp [Region.wanted]
          unfold Oper.wpIn
          simp [Oper.about, execOp, go_sem, Act.eval, k0, k1, k0g, k1g, wy]
          rw [hRd]
          exact hR.op 7 62 _ rfl (by decide) hl0 hc (F1W.const hR.wd (by decide)) (fun _ _ h => h) (rfl)
        · simp at ho
          subst ho
          simp [Region.binds] at hdep
          have d0 : l.getD 7 true = true := getD_true (by simp_all)
          have k0 : a.tmps.getD 62 undef = vals 7 := hR.get rfl (by simp_all) (by simp [hT])
          have e0 : vals 7 = .int .i64 (y : Int) := hR.vl 7 (by decide) d0
          rw [e0] at k0
          have hc : ∀ j, (8, j) ∈ f1Ch → l.getD j true = true := by intro j hj; simp [f1Ch] at hj; rcases hj with rfl <;> exact getD_true (by simp_all)
          have n13 := hR.no (s := 13) hl0 (fun hs => (hR.dep 9 8 (by decide) (hR.dep 10 9 (by decide) (hR.dep 11 10 (by decide) (hR.dep 13 11 (by decide) hs)))))
          clear hi' hdep
          have k0g := k0
          rw [Array.getD_eq_getD_getElem?] at k0g
          unfold wpOpIn
          simp [Region.wanted]
          unfold Oper.wpIn
          simp [Oper.about, execOp, go_sem, Act.eval, k0, k0g]
          refine ⟨trivial, (callsIn_wide.2 (HFA.out _)).mono ?_⟩
          rintro e w'' ⟨d9, a9, k9, c9, rfl, hi, hb⟩
          rw [hRd]
          exact hR.op 8 63 _ rfl (by decide) hl0 hc (F1W.const (F1W.later hR.wd n13 hb) (by decide)) (F11.keep (fun _ _ _ h => h.below hb)) (⟨_, _, _, _, rfl, hi⟩)
        · simp at ho
          subst ho
          simp [Region.binds] at hdep
          have d0 : l.getD 0 true = true := getD_true (by simp_all)
          have k0 : a.tmps.getD 55 undef = vals 0 := hR.get rfl (by simp_all) (by simp [hT])
          have e0 : vals 0 = .agg #[.bool dq, .slice aq nq cq] := hR.vl 0 (by decide) d0
          rw [e0] at k0
          have d1 : l.getD 8 true = true := getD_true (by simp_all)
          have k1 : a.tmps.getD 63 undef = vals 8 := hR.get rfl (by simp_all) (by simp [hT])
          obtain ⟨d1x, a1x, k1x, c1x, e1, hi1⟩ : ∃ d ao k cap, vals 8 = .agg #[.bool d, .slice ao k cap] ∧ NuA w' d (.slice ao k cap) (facN y) := hR.vl 8 (by decide) d1
          rw [e1] at k1
          have hc : ∀ j, (9, j) ∈ f1Ch → l.getD j true = true := by intro j hj; simp [f1Ch] at hj; rcases hj with rfl | rfl <;> exact getD_true (by simp_all)
          have n13 := hR.no (s := 13) hl0 (fun hs => (hR.dep 10 9 (by decide) (hR.dep 11 10 (by decide) (hR.dep 13 11 (by decide) hs))))
          clear hi' hdep
          have k0g := k0
          rw [Array.getD_eq_getD_getElem?] at k0g
          have k1g := k1
          rw [Array.getD_eq_getD_getElem?] at k1g
          unfold wpOpIn
          simp [Region.wanted]
          unfold Oper.wpIn
          simp [Oper.about, execOp, go_sem, Act.eval, k0, k1, k0g, k1g]
          refine ⟨trivial, (callsIn_wide.2 (HMU.out _ (hR.wd.a n13) _ _ hi1)).mono ?_⟩
          rintro e w'' ⟨d9, a9, k9, c9, rfl, hi, hb⟩
          rw [hRd]
          exact hR.op 9 64 _ rfl (by decide) hl0 hc (F1W.const (F1W.later hR.wd n13 hb) (by decide)) (F11.keep (fun _ _ _ h => h.below hb)) (⟨_, _, _, _, rfl, hi⟩)
        · simp at ho
          subst ho
          simp [Region.binds] at hdep
          have d0 : l.getD 9 true = true := getD_true (by simp_all)
          have k0 : a.tmps.getD 64 undef = vals 9 := hR.get rfl (by simp_all) (by simp [hT])
          obtain ⟨d0x, a0x, k0x, c0x, e0, hi0⟩ : ∃ d ao k cap, vals 9 = .tuple #[.agg #[.bool d, .slice ao k cap], .bool true] ∧ NuA w' d (.slice ao k cap) p := hR.vl 9 (by decide) d0
          rw [e0] at k0
          have hc : ∀ j, (10, j) ∈ f1Ch → l.getD j true = true := by intro j hj; simp [f1Ch] at hj; rcases hj with rfl <;> exact getD_true (by simp_all)
          clear hi' hdep
          have k0g := k0
          rw [Array.getD_eq_getD_getElem?] at k0g
          unfold wpOpIn
          simp [Region.wanted]
          unfold Oper.wpIn
          simp [Oper.about, execOp, go_sem, Act.eval, k0, k0g]
          rw [hRd]
          exact hR.op 10 54 _ rfl (by decide) hl0 hc (F1W.const hR.wd (by decide)) (fun _ _ h => h) (⟨_, _, _, _, rfl, hi0⟩)
        · simp at ho
          subst ho
          simp [Region.binds] at hdep
          have d0 : l.getD 10 true = true := getD_true (by simp_all)
          have k0 : a.tmps.getD 54 undef = vals 10 := hR.get rfl (by simp_all) (by simp [hT])
          obtain ⟨d0x, a0x, k0x, c0x, e0, hi0⟩ : ∃ d ao k cap, vals 10 = .tuple #[.agg #[.bool d, .slice ao k cap], .bool true] ∧ NuA w' d (.slice ao k cap) p := hR.vl 10 (by decide) d0
          rw [e0] at k0
          have hc : ∀ j, (11, j) ∈ f1Ch → l.getD j true = true := by intro j hj; simp [f1Ch] at hj; rcases hj with rfl <;> exact getD_true (by simp_all)
          clear hi' hdep
          have k0g := k0
          rw [Array.getD_eq_getD_getElem?] at k0g
          unfold wpOpIn
          simp [Region.wanted]
          unfold Oper.wpIn
          simp [Oper.about, execOp, go_sem, Act.eval, k0, k0g]
          rw [hRd]
          exact hR.op 11 65 _ rfl (by decide) hl0 hc (F1W.const hR.wd (by decide)) (fun _ _ h => h) (⟨_, _, _, _, rfl, hi0⟩)
        · simp at ho
          subst ho
          simp [Region.binds] at hdep
          have d0 : l.getD 10 true = true := getD_true (by simp_all)
          have k0 : a.tmps.getD 54 undef = vals 10 := hR.get rfl (by simp_all) (by simp [hT])
          obtain ⟨d0x, a0x, k0x, c0x, e0, hi0⟩ : ∃ d ao k cap, vals 10 = .tuple #[.agg #[.bool d, .slice ao k cap], .bool true] ∧ NuA w' d (.slice ao k cap) p := hR.vl 10 (by decide) d0
          rw [e0] at k0
          have hc : ∀ j, (12, j) ∈ f1Ch → l.getD j true = true := by intro j hj; simp [f1Ch] at hj; rcases hj with rfl <;> exact getD_true (by simp_all)
          clear hi' hdep
          have k0g := k0
          rw [Array.getD_eq_getD_getElem?] at k0g
          unfold wpOpIn
          simp [Region.wanted]
          unfold Oper.wpIn
          simp [Oper.about, execOp, go_sem, Act.eval, k0, k0g]
          rw [hRd]
          exact hR.op 12 66 _ rfl (by decide) hl0 hc (F1W.const hR.wd (by decide)) (fun _ _ h => h) (rfl)
        · simp at ho
          subst ho
          simp [Region.binds] at hdep
          have k0 : a.tmps.getD 11 undef = .pointer (some ⟨gW, 0, none⟩) := (hR.fr.kept rfl (by simp [hT])).trans (by rw [hT]; try rfl)
          have d1 : l.getD 11 true = true := getD_true (by simp_all)
          have k1 : a.tmps.getD 65 undef = vals 11 := hR.get rfl (by simp_all) (by simp [hT])
          obtain ⟨d1x, a1x, k1x, c1x, e1, hi1⟩ : ∃ d ao k cap, vals 11 = .agg #[.bool d, .slice ao k cap] ∧ NuA w' d (.slice ao k cap) p := hR.vl 11 (by decide) d1
          rw [e1] at k1
          have hc : ∀ j, (13, j) ∈ f1Ch → l.getD j true = true := by intro j hj; simp [f1Ch] at hj; rcases hj with rfl <;> exact getD_true (by simp_all)
          clear hi' hdep
          have hbx := (HKB.out _ (hR.wd.a hl0)).1
          obtain ⟨y0, y1⟩ := hbx.cells
          have f0 := hbx.free 0
          have f1 := hbx.free 1
          have l0 := hbx.lt
          have k0g := k0
          rw [Array.getD_eq_getD_getElem?] at k0g
          have k1g := k1
          rw [Array.getD_eq_getD_getElem?] at k1g
          unfold wpOpIn
          simp [Region.wanted]
          unfold Oper.wpIn
          simp [Oper.about, execOp, go_sem, Act.eval, k0, k1, k0g, k1g, y0, y1, f0, f1, l0]
          rw [hRd]
          exact hR.bare 13 undef rfl hl0 hc (F1W.put hR.wd hl0 hi1) (F11.keep (fun _ _ _ h => nu_put h hbx)) (fun _ => trivial)
      case' finr1 =>
        rintro l a w' hR0 hz
        rw [hRd] at hR0
        obtain ⟨vals, hR⟩ := hR0
        clear hRd R
        have hnot := List.eq_nil_iff_forall_not_mem.1 hz
        have hk : ∀ k, k < 14 → (l.getD k true = false → False) → l.getD k false = true := fun k h12 h => by
          have hs := hR.size
          cases h' : l.getD k true with
          | false => exact (h h').elim
          | true => simp at hs; simp [Array.getD, hs, h12] at h' ⊢; exact h'
        have st0 := hk 0 (by omega) (fun h => hnot 0 (mem_ready.2 ⟨h, _, rfl, by simp [Region.binds]⟩))
        have st1 := hk 1 (by omega) (fun h => hnot 1 (mem_ready.2 ⟨h, _, rfl, by simp [Region.binds]⟩))
        have st2 := hk 2 (by omega) (fun h => hnot 2 (mem_ready.2 ⟨h, _, rfl, by simp [Region.binds]⟩))
        have st3 := hk 3 (by omega) (fun h => hnot 3 (mem_ready.2 ⟨h, _, rfl, by simp [Region.binds] <;> simp_all⟩))
        have st4 := hk 4 (by omega) (fun h => hnot 4 (mem_ready.2 ⟨h, _, rfl, by simp [Region.binds]⟩))
        have st5 := hk 5 (by omega) (fun h => hnot 5 (mem_ready.2 ⟨h, _, rfl, by simp [Region.binds] <;> simp_all⟩))
        have st6 := hk 6 (by omega) (fun h => hnot 6 (mem_ready.2 ⟨h, _, rfl, by simp [Region.binds] <;> simp_all⟩))
        have st7 := hk 7 (by omega) (fun h => hnot 7 (mem_ready.2 ⟨h, _, rfl, by simp [Region.binds] <;> simp_all⟩))
        have st8 := hk 8 (by omega) (fun h => hnot 8 (mem_ready.2 ⟨h, _, rfl, by simp [Region.binds] <;> simp_all⟩))
        have st9 := hk 9 (by omega) (fun h => hnot 9 (mem_ready.2 ⟨h, _, rfl, by simp [Region.binds] <;> simp_all⟩))
        have st10 := hk 10 (by omega) (fun h => hnot 10 (mem_ready.2 ⟨h, _, rfl, by simp [Region.binds] <;> simp_all⟩))
        have st11 := hk 11 (by omega) (fun h => hnot 11 (mem_ready.2 ⟨h, _, rfl, by simp [Region.binds] <;> simp_all⟩))
        have st12 := hk 12 (by omega) (fun h => hnot 12 (mem_ready.2 ⟨h, _, rfl, by simp [Region.binds] <;> simp_all⟩))
        have st13 := hk 13 (by omega) (fun h => hnot 13 (mem_ready.2 ⟨h, _, rfl, by simp [Region.binds] <;> simp_all⟩))
        have hall : ∀ i, i < 14 → l.getD i true = true := fun i hi => by
          rcases (show i = 0 ∨ i = 1 ∨ i = 2 ∨ i = 3 ∨ i = 4 ∨ i = 5 ∨ i = 6 ∨ i = 7 ∨ i = 8 ∨ i = 9 ∨ i = 10 ∨ i = 11 ∨ i = 12 ∨ i = 13 by omega) with rfl | rfl | rfl | rfl | rfl | rfl | rfl | rfl | rfl | rfl | rfl | rfl | rfl | rfl
          · exact getD_true st0
          · exact getD_true st1
          · exact getD_true st2
          · exact getD_true st3
          · exact getD_true st4
          · exact getD_true st5
          · exact getD_true st6
          · exact getD_true st7
          · exact getD_true st8
          · exact getD_true st9
          · exact getD_true st10
          · exact getD_true st11
          · exact getD_true st12
          · exact getD_true st13
        clear st0 st1 st2 st3 st4 st5 st6 st7 st8 st9 st10 st11 st12 st13 hk hnot hz
        have hTs : T.size = 159 := by rw [hT]; rfl
        have ha := hR.all (T' := (((((((((((((T.setIfInBounds 55 (vals 0)).setIfInBounds 56 (vals 1)).setIfInBounds 57 (vals 2)).setIfInBounds 58 (vals 3)).setIfInBounds 59 (vals 4)).setIfInBounds 60 (vals 5)).setIfInBounds 61 (vals 6)).setIfInBounds 62 (vals 7)).setIfInBounds 63 (vals 8)).setIfInBounds 64 (vals 9)).setIfInBounds 54 (vals 10)).setIfInBounds 65 (vals 11)).setIfInBounds 66 (vals 12))) (fun i hi => hall i (by simpa using hi)) (by simp) (fun j hj => by
          by_cases h1 : j = 55 ∨ j = 56 ∨ j = 57 ∨ j = 58 ∨ j = 59 ∨ j = 60 ∨ j = 61 ∨ j = 62 ∨ j = 63 ∨ j = 64 ∨ j = 54 ∨ j = 65 ∨ j = 66
          · rcases h1 with rfl | rfl | rfl | rfl | rfl | rfl | rfl | rfl | rfl | rfl | rfl | rfl | rfl <;> simp [rv_sets, tOwn, List.findIdx?, List.findIdx?.go, hTs]
          · simp only [not_or] at h1
            obtain ⟨m55, m56, m57, m58, m59, m60, m61, m62, m63, m64, m54, m65, m66⟩ := h1
            have e : tOwn [some 55, some 56, some 57, some 58, some 59, some 60, some 61, some 62, some 63, some 64, some 54, some 65, some 66, none] vals j = none := by
              unfold tOwn
              simp [List.findIdx?, List.findIdx?.go, Ne.symm m55, Ne.symm m56, Ne.symm m57, Ne.symm m58, Ne.symm m59, Ne.symm m60, Ne.symm m61, Ne.symm m62, Ne.symm m63, Ne.symm m64, Ne.symm m54, Ne.symm m65, Ne.symm m66]
            rw [e]
            simp only [rv_sets]
            repeat rw [if_neg (by omega)])
        have v0 : vals 0 = .agg #[.bool dq, .slice aq nq cq] := hR.vl 0 (by decide) (hall 0 (by decide))
        have v1 : vals 1 = .int .i64 (s : Int) := hR.vl 1 (by decide) (hall 1 (by decide))
        have v2 : vals 2 = .pointer (some ⟨Bd, 1, none⟩) := hR.vl 2 (by decide) (hall 2 (by decide))
        have v3 : vals 3 = .slice (some ⟨rb, ro, none⟩) nr cr := hR.vl 3 (by decide) (hall 3 (by decide))
        have v4 : vals 4 = .int .i64 (k : Int) := hR.vl 4 (by decide) (hall 4 (by decide))
        have v5 : vals 5 = .pointer (some ⟨rb, ro + k, none⟩) := hR.vl 5 (by decide) (hall 5 (by decide))
        have v6 : vals 6 = .int .i64 x := hR.vl 6 (by decide) (hall 6 (by decide))
        have v7 : vals 7 = .int .i64 (y : Int) := hR.vl 7 (by decide) (hall 7 (by decide))
        have v12 : vals 12 = .bool true := hR.vl 12 (by decide) (hall 12 (by decide))
        obtain ⟨w9, d9, a9, k9, c9, hb9, hn9, hw9⟩ := hR.wd.b (hall 13 (by decide))
        have HW9 := Lib.hid (And.intro hb9 hn9)
        clear hb9 hn9
        subst hw9
        subst ha
        clear hR hall hTs
        rw [v0, v1, v2, v3, v4, v5, v6, v7, v12, hT]
        simp only [List.setIfInBounds_toArray, List.set_cons_succ, List.set_cons_zero]
        clear v0 v1 v2 v3 v4 v5 v6 v7 v12 hT T
      generalize vals 8 = y8
      generalize vals 9 = y9
      generalize vals 10 = y10
      generalize vals 11 = y11
      have HNX : Hid (FrI w2 ((w9.setCell ⟨gW, 0, none⟩ (.bool d9)).setCell ⟨gW, 1, none⟩ (.slice a9 k9 c9)) Bd gS gW gA (.slice (some ⟨rb, ro, none⟩) nr cr) s (facP ((fulV r s).take (k + 1))) 1) := Lib.hid (by
        have h := (HIX.out _ HW9.out.1).putW HG.out HW9.out.2
        rwa [HP.out] at h)
      generalize ((w9.setCell ⟨gW, 0, none⟩ (.bool d9)).setCell ⟨gW, 1, none⟩ (.slice a9 k9 c9)) = wz at HNX ⊢
      clear HKB HFA HMU HIX HW9 HP HI HT
      go_wp2
      go_roundw
      case rel => exact ⟨k + 1, _, by omega, by go_num, rfl, HTN, HNX⟩
      case measure => simp [intOf]; omega

end Go.Proofs.Ytjlneggfkpjnpaa
