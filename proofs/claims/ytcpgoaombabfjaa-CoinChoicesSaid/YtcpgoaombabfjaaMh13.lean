/- Contracts of ratio: ofInts, right, Right, Fit, for a numerator and a denominator from 0 to 1000. Contract of coin: tossable; a slice of choices of one's own in a box. Condition: a numerator and a denominator from 0 to 1000. Contract of coin: Choices. Condition: the slices read as ints, at most eight arms; the coin's numbers from 0 to 1000. -/
import Derived.Test.YtcpgoaombabfjaaMh12
import Derived.Test.YtcpgoaombabfjaaMh7
namespace Go.Proofs.Ytcpgoaombabfjaa
open Go.RowKit

theorem no_ints4 (b d : Bool) (ao bo : Option Addr) (n c m e : Nat) (i : Nat) (k : IntKind) (x : Int) : (#[Value.bool b, .slice ao n c, .bool d, .slice bo m e] : Array Value)[i]? ≠ some (.int k x) := by
  rcases (show i = 0 ∨ i = 1 ∨ i = 2 ∨ i = 3 ∨ 4 ≤ i by omega) with rfl | rfl | rfl | rfl | h
  · simp
  · simp
  · simp
  · simp
  · rw [show (#[Value.bool b, .slice ao n c, .bool d, .slice bo m e] : Array Value)[i]? = none by simp; omega]; simp

set_option maxRecDepth 10000 in
set_option maxHeartbeats 2000000 in
theorem ofInts_num {W : World} (n p : Nat) (h1 : n ≤ 1000) (h2 : p ≤ 1000) :
    Calls Try.prog 59 #[.int .i64 (n : Int), .int .i64 (p : Int)] W fun e w' => ∃ ao k c bo m d, e = .returned (.agg #[.bool false, .slice ao k c, .bool false, .slice bo m d]) ∧ Ns w' (.slice ao k c) n ∧ Ns w' (.slice bo m d) p ∧ Below W.heap.size W w' := by
  have HB : Hid (Below W.heap.size W (W.alloc (.cells #[.bool false, .slice none 0 0, .bool false, .slice none 0 0] 90))) := Lib.hid ((Below.refl _ _).alloc (Nat.le_refl _) _)
  have HX : Hid (RBox (W.alloc (.cells #[.bool false, .slice none 0 0, .bool false, .slice none 0 0] 90)) W.heap.size (.slice none 0 0) (.slice none 0 0)) := Lib.hid (heap_alloc_new _ _)
  have HN := Lib.hid (fun W' => of_num n h1 W')
  have HP := Lib.hid (fun W' => of_num p h2 W')
  clear h1 h2
  obtain ⟨N, hN⟩ : ∃ N : Int, N = (n : Int) := ⟨_, rfl⟩
  obtain ⟨P, hP⟩ : ∃ P : Int, P = (p : Int) := ⟨_, rfl⟩
  rw [← hN] at HN ⊢
  rw [← hP] at HP ⊢
  clear hN hP
  go_enter Try.func59, Try.ntmps59
  go_wp2_with (first
    | (go_at_call_of 65 (Value.int .i64 N); (with_reducible refine (HN.out _).mono ?_); rintro e w1 ⟨ao, k, c, rfl, hs, hb⟩; have HS1 := Lib.hid hs; have HX1 := Lib.hid (HX.out.below hb); have HB1 := Lib.hid (HB.out.trans (hb.mono HB.out.size)); clear hs hb)
    | (go_at_call_of 65 (Value.int .i64 P); (with_reducible refine (HP.out _).mono ?_); rintro e w2 ⟨bo, m, d, rfl, ht, hb⟩; have HT2 := Lib.hid ht; have HS2 := Lib.hid (HS1.out.below hb); have HB2 := Lib.hid (HB1.out.trans (hb.mono HB1.out.size)); have hx := HX1.out.below hb; have HX2 := Lib.hid hx; obtain ⟨d0, d1, d2, d3⟩ := hx.cells; have f0 := frozen_of_row _ _ 0 _ _ hx; have f1 := frozen_of_row _ _ 1 _ _ hx; have f2 := frozen_of_row _ _ 2 _ _ hx; have f3 := frozen_of_row _ _ 3 _ _ hx; have lx := (Array.getElem?_eq_some_iff.1 hx).1; clear ht hb hx))
  have k1 := heap_setCell_same _ W.heap.size 0 _ 90 (.bool false) HX2.out
  have k2 := heap_setCell_same _ W.heap.size 1 _ 90 (.slice ao k c) k1
  have k3 := heap_setCell_same _ W.heap.size 2 _ 90 (.bool false) k2
  have k4 := heap_setCell_same _ W.heap.size 3 _ 90 (.slice bo m d) k3
  have n1 := fun {s : Value} {n : Nat} (h : Ns w2 s n) => ns_set (ns_set (ns_set (ns_set h HX2.out (no_ints4 _ _ _ _ _ _ _ _) 0 (.bool false)) k1 (no_ints4 _ _ _ _ _ _ _ _) 1 (.slice ao k c)) k2 (no_ints4 _ _ _ _ _ _ _ _) 2 (.bool false)) k3 (no_ints4 _ _ _ _ _ _ _ _) 3 (.slice bo m d)
  exact bodyPost_ret (results_cell90 (t := 4) rfl rfl k4) rfl ⟨_, _, _, _, _, _, rfl, n1 HS2.out, n1 HT2.out, (((HB2.out.setCell (Nat.le_refl _) _).setCell (Nat.le_refl _) _).setCell (Nat.le_refl _) _).setCell (Nat.le_refl _) _⟩

/-- Two numbers in a row. -/
abbrev TwoN (W : World) (B : Nat) (s t : Value) : Prop := W.heap[B]? = some (.cells #[.bool false, s, .bool false, t] 88 (0, 0))
theorem TwoN.below {W W' : World} {B : Nat} {s t : Value} (h : TwoN W B s t) (hb : Below W.heap.size W W') : TwoN W' B s t := (hb.block B (Array.getElem?_eq_some_iff.1 h).1).trans h

set_option maxRecDepth 10000 in
set_option maxHeartbeats 2000000 in
theorem right2_num {W : World} {B : Nat} {ao bo : Option Addr} {k c m d : Nat} {n p : Nat} (h : TwoN W B (.slice ao k c) (.slice bo m d)) (hn : Ns W (.slice ao k c) n) (hp : Ns W (.slice bo m d) p) :
    Calls Try.prog 61 #[.slice (some ⟨B, 0, none⟩) 2 2] W fun e w' => e = .returned (.bool true) ∧ Below W.heap.size W w' := by
  have HC : Hid (∀ W', Below W.heap.size W W' → ∀ j : Nat, j < 2 → ∃ o n c, W'.cell? ⟨B, 0 + j * 2, none⟩ = some (.bool false) ∧ W'.cell? ⟨B, 0 + j * 2 + 1, none⟩ = some (.slice o n c) ∧ ∃ x, Ns W' (.slice o n c) x) := Lib.hid (fun W' hb j hj => by
    have h2 := h.below hb
    rcases (show j = 0 ∨ j = 1 by omega) with rfl | rfl
    · exact ⟨ao, k, c, cell_of_row _ _ _ _ _ _ h2, cell_of_row _ _ _ _ _ _ h2, n, hn.below hb⟩
    · exact ⟨bo, m, d, cell_of_row _ _ _ _ _ _ h2, cell_of_row _ _ _ _ _ _ h2, p, hp.below hb⟩)
  have hBl := (Array.getElem?_eq_some_iff.1 h).1
  clear h hn hp
  go_enter Try.func61, Try.ntmps61
  go_wp2
  go_loopw [4, 7] (fun _ kv wr => ∃ k : Nat, k ≤ 2 ∧ kv = .int .i64 (k : Nat) ∧ Hid (Below W.heap.size W wr)) (fun _ kv _ => 2 - (intOf kv).toNat)
  case atStart => exact ⟨0, by omega, rfl, Lib.hid (Below.refl _ _)⟩
  case round =>
    obtain ⟨j, hj, rfl, hB⟩ := hrel
    by_cases hj2 : j = 2
    · subst hj2
      go_wp2
      go_ret
      exact ⟨rfl, hB.out⟩
    · obtain ⟨o, x, y, c0, c1, v, hv⟩ := HC.out wr hB.out j (by omega)
      rw [Nat.zero_add] at c0 c1
      have hal : Below wr.heap.size wr (wr.alloc (.cells #[.bool false, .slice o x y] 88)) := (Below.refl _ _).alloc (Nat.le_refl _) _
      have HV := Lib.hid (right_num (hv.below hal))
      have HBA := Lib.hid (hB.out.trans (hal.mono hB.out.size))
      have hjI : (j : Int) < 2 := by omega
      have hbw : B < wr.heap.size := Nat.lt_of_lt_of_le hBl hB.out.size
      clear hv hal hj2
      go_wp2_with (go_at_call 66; (with_reducible refine HV.out.mono ?_); rintro e w2 ⟨rfl, hb⟩; have HB2 := Lib.hid (HBA.out.trans (hb.mono HBA.out.size)); clear hb)
      go_roundw
      case rel => exact ⟨j + 1, by omega, by go_num, HB2⟩
      case measure => simp [intOf]; omega

set_option maxRecDepth 10000 in
set_option maxHeartbeats 4000000 in
theorem right_ratio {W : World} {ao bo : Option Addr} {k c m d : Nat} {n p : Nat} (hn : Ns W (.slice ao k c) n) (hp : Ns W (.slice bo m d) p) (h1 : n ≤ 1000) (h2 : p ≤ 1000) :
    Calls Try.prog 58 #[.agg #[.bool false, .slice ao k c, .bool false, .slice bo m d]] W fun e w' => e = .returned (.bool (fitF (n : Int) (p : Int))) ∧ Below W.heap.size W w' := by
  obtain ⟨W1, hW1⟩ : ∃ W1, W1 = W.alloc (.cells #[.bool false, .slice ao k c, .bool false, .slice bo m d] 90) := ⟨_, rfl⟩
  have hb : Below W.heap.size W W1 := by rw [hW1]; exact (Below.refl _ _).alloc (Nat.le_refl _) _
  have hs1 : W1.heap.size = W.heap.size + 1 := by rw [hW1]; simp
  have x0 : RBox W1 W.heap.size (.slice ao k c) (.slice bo m d) := by rw [hW1]; exact heap_alloc_new _ _
  obtain ⟨W2, hW2⟩ : ∃ W2, W2 = W1.alloc (.cells #[.bool false, .slice ao k c, .bool false, .slice bo m d] 88) := ⟨_, rfl⟩
  have hb12 : Below W1.heap.size W1 W2 := by rw [hW2]; exact (Below.refl _ _).alloc (Nat.le_refl _) _
  have x1 : TwoN W2 (W.heap.size + 1) (.slice ao k c) (.slice bo m d) := by rw [hW2, ← hs1]; exact heap_alloc_new _ _
  have hb2 : Below W.heap.size W W2 := hb.trans (hb12.mono hb.size)
  have HB2 := Lib.hid hb2
  have HX := Lib.hid (x0.below hb12)
  have HN := Lib.hid (hn.below hb2)
  have HP := Lib.hid (hp.below hb2)
  have HR := Lib.hid (right2_num x1 HN.out HP.out)
  have HSG := Lib.hid (fun W' (hb : Below W2.heap.size W2 W') => sign_num (HP.out.below hb))
  have HCO := Lib.hid (fun W' (hb : Below W2.heap.size W2 W') => common_num (HN.out.below hb) (HP.out.below hb) (by omega) (by omega))
  obtain ⟨g, hg⟩ : ∃ g, g = Nat.gcd n p := ⟨_, rfl⟩
  have hF : fitF (n : Int) (p : Int) = (decide (1 ≤ p) && decide (g = 1)) := by
    unfold fitF
    simp only [Int.natAbs_natCast]
    have e : decide (Nat.gcd n p = 1) = decide (g = 1) := by rw [decide_eq_decide, hg]
    rw [e]
    by_cases h : 1 ≤ p
    · rw [decide_eq_true h, decide_eq_true (by omega)]
    · rw [decide_eq_false h, decide_eq_false (by omega)]
  rw [hF]
  rw [← hg] at HCO
  obtain ⟨R, hRR⟩ : ∃ R, R = decide (g = 1) := ⟨_, rfl⟩
  have HIO : Hid (∀ W' ao k c, Ns W' (.slice ao k c) g → Calls Try.prog 63 #[.agg #[.bool false, .slice ao k c]] W' fun e w' => e = .returned (.bool R) ∧ Below W'.heap.size W' w') := Lib.hid (fun W' ao k c h => by rw [hRR]; exact isOne_num h)
  rw [← hRR]
  obtain ⟨c0, c1, c2, c3⟩ := x0.cells
  have hl0 := (Array.getElem?_eq_some_iff.1 x0).1
  have hcm : Nums.cmpZ (p : Int) 0 = if 1 ≤ p then 1 else 0 := by
    unfold Nums.cmpZ
    rw [if_neg (by omega)]
    by_cases h : 1 ≤ p
    · rw [if_neg (by omega), if_pos h]
    · rw [if_pos (by omega), if_neg h]
  have HBX := Lib.hid (Below.refl W2.heap.size W2)
  rw [hcm] at HSG
  rw [hW2, hW1] at HR HSG HCO HX HBX HB2
  rw [hW1] at c0 c1 c2 c3 hl0
  clear hb hs1 x0 hb12 x1 hb2 hF hg hRR hn hp HN HP hcm h1 h2 hW2 W2 hW1 W1
  by_cases hp1 : 1 ≤ p
  · rw [decide_eq_true hp1, Bool.true_and]
    rw [if_pos hp1] at HSG
    clear hp1
    go_enter Try.func58, Try.ntmps58
    go_wp2_with (first
      | (go_at_call 61; (with_reducible refine HR.out.mono ?_); rintro e w1 ⟨rfl, hb⟩; have HBX := Lib.hid (HBX.out.trans (hb.mono HBX.out.size)); have HX := Lib.hid (HX.out.below hb); clear c0 c1 c2 c3; obtain ⟨c0, c1, c2, c3⟩ := HX.out.cells; clear hb)
      | (go_at_call 62; (with_reducible refine (HSG.out _ HBX.out).mono ?_); rintro e w2 ⟨rfl, hb⟩; have HBX := Lib.hid (HBX.out.trans (hb.mono HBX.out.size)); have HX := Lib.hid (HX.out.below hb); clear c0 c1 c2 c3; obtain ⟨c0, c1, c2, c3⟩ := HX.out.cells; clear hb)
      | (go_at_call 64; (with_reducible refine (HCO.out _ HBX.out).mono ?_); rintro e w3 ⟨ro, rk, rc, rfl, hs, hb⟩; have HS := Lib.hid hs; have HBX := Lib.hid (HBX.out.trans (hb.mono HBX.out.size)); clear hb hs)
      | (go_at_call 63; (with_reducible refine (HIO.out _ _ _ _ HS.out).mono ?_); rintro e w4 ⟨rfl, hb⟩; have HBX := Lib.hid (HBX.out.trans (hb.mono HBX.out.size)); clear hb))
    go_ret
    exact ⟨by first | rfl | (simp; done), HB2.out.trans (HBX.out.mono HB2.out.size)⟩
  · rw [decide_eq_false hp1, Bool.false_and]
    rw [if_neg hp1] at HSG
    clear hp1
    go_enter Try.func58, Try.ntmps58
    go_wp2_with (first
      | (go_at_call 61; (with_reducible refine HR.out.mono ?_); rintro e w1 ⟨rfl, hb⟩; have HBX := Lib.hid (HBX.out.trans (hb.mono HBX.out.size)); have HX := Lib.hid (HX.out.below hb); clear c0 c1 c2 c3; obtain ⟨c0, c1, c2, c3⟩ := HX.out.cells; clear hb)
      | (go_at_call 62; (with_reducible refine (HSG.out _ HBX.out).mono ?_); rintro e w2 ⟨rfl, hb⟩; have HBX := Lib.hid (HBX.out.trans (hb.mono HBX.out.size)); clear hb))
    go_ret
    exact ⟨by first | rfl | (simp; done), HB2.out.trans (HBX.out.mono HB2.out.size)⟩

set_option maxRecDepth 10000 in
set_option maxHeartbeats 4000000 in
theorem fit_any {W : World} (n p : Nat) (h1 : n ≤ 1000) (h2 : p ≤ 1000) :
    Calls Try.prog 50 #[.agg #[.int .i64 (n : Int), .int .i64 (p : Int)]] W fun e w' => e = .returned (.bool (fitF (n : Int) (p : Int))) ∧ Below W.heap.size W w' := by
  have hb : Below W.heap.size W (W.alloc (.cells #[.int .i64 (n : Int), .int .i64 (p : Int)] 28)) := (Below.refl _ _).alloc (Nat.le_refl _) _
  have HB := Lib.hid hb
  have HO := Lib.hid (ofInts_num (W := W.alloc (.cells #[.int .i64 (n : Int), .int .i64 (p : Int)] 28)) n p h1 h2)
  have HR := Lib.hid (fun W' ao k c bo m d (hn : Ns W' (.slice ao k c) n) (hp : Ns W' (.slice bo m d) p) => right_ratio hn hp h1 h2)
  obtain ⟨R, hR⟩ : ∃ R, R = fitF (n : Int) (p : Int) := ⟨_, rfl⟩
  rw [← hR] at HR ⊢
  have c0 : (W.alloc (.cells #[.int .i64 (n : Int), .int .i64 (p : Int)] 28)).cell? ⟨W.heap.size, 0, none⟩ = some (.int .i64 (n : Int)) := cell_of_row _ _ _ _ _ _ (heap_alloc_new _ _)
  have c1 : (W.alloc (.cells #[.int .i64 (n : Int), .int .i64 (p : Int)] 28)).cell? ⟨W.heap.size, 1, none⟩ = some (.int .i64 (p : Int)) := cell_of_row _ _ _ _ _ _ (heap_alloc_new _ _)
  obtain ⟨N, hN⟩ : ∃ N : Int, N = (n : Int) := ⟨_, rfl⟩
  obtain ⟨P, hP⟩ : ∃ P : Int, P = (p : Int) := ⟨_, rfl⟩
  have e1 : N ≤ 1048576 := by omega
  have e2 : P ≤ 1048576 := by omega
  have e3 : -1048576 ≤ N := by omega
  rw [← hN, ← hP] at HO HB c0 c1 ⊢
  clear hb h1 h2 hR hN hP
  go_enter Try.func50, Try.ntmps50
  go_wp2_with (first
    | (go_at_call 59; (with_reducible refine HO.out.mono ?_); rintro e w1 ⟨ao, k, c, bo, m, d, rfl, hs, ht, hb⟩; have HS := Lib.hid hs; have HT := Lib.hid ht; have HB := Lib.hid (HB.out.trans (hb.mono HB.out.size)); clear hs ht hb)
    | (go_at_call 58; (with_reducible refine (HR.out _ _ _ _ _ _ _ HS.out HT.out).mono ?_); rintro e w2 ⟨rfl, hb⟩; have HB := Lib.hid (HB.out.trans (hb.mono HB.out.size)); clear hb))
  go_ret
  exact ⟨by first | rfl | (simp; done), HB.out⟩

end Go.Proofs.Ytcpgoaombabfjaa

namespace Go.Proofs.Ytcpgoaombabfjaa
open Go.RowKit Go.Shelf

/-- A slice of one's own in a box: choices. -/
structure OcBox (W Wx : World) (q g0 : Nat) (ex : List Nat) (L : List Ch) (W' : World) (ao : Option Addr) (n cap : Nat) : Prop where
  fr : Fr W Wx ex W'
  box : Box W' q (.slice ao n cap) 46
  own : OwC W' W.heap.size (.slice ao n cap) n L
  at' : ∀ g, (Value.slice ao n cap).ownBlock = some g → g = g0 ∨ Wx.heap.size ≤ g

theorem keep_ocbox {W Wx : World} {q g0 : Nat} {ex : List Nat} {L : List Ch} {ao : Option Addr} {n cap : Nat} (hB : W.heap.size ≤ Wx.heap.size) (hq : q < Wx.heap.size) : Keep Wx.heap.size (fun W' => OcBox W Wx q g0 ex L W' ao n cap) := fun W1 W2 row h hg hr =>
  ⟨keep_fr hB W1 W2 row h.fr hg hr, keep_box hq W1 W2 row h.box hg hr, keep_own W1 W2 row h.own hg hr, h.at'⟩

theorem OcBox.drew {W Wx W' : World} {q g0 : Nat} {ex : List Nat} {L : List Ch} {ao : Option Addr} {n cap : Nat} (h : OcBox W Wx q g0 ex L W' ao n cap) : OcBox W Wx q g0 ex L W'.drew ao n cap := ⟨h.fr.drew, h.box, h.own, h.at'⟩

/-- One more is appended. -/
theorem OcBox.push2 {W Wx W' : World} {q g0 : Nat} {ex : List Nat} {L : List Ch} {ao : Option Addr} {n cap : Nat} (h : OcBox W Wx q g0 ex L W' ao n cap) (hn : n ≤ 1000) (hB : W.heap.size ≤ Wx.heap.size) (hq : q ∈ ex) (hwq : W.heap.size ≤ q) (hqx : q < Wx.heap.size) (hg0 : g0 ∈ ex) (hne : q ≠ g0) (x y z : Int) :
    ∃ g cap2 w2, Sem.run Try.prog (appC 46 #[.slice ao n cap, .slice (some ⟨W'.heap.size, 0, none⟩) 1 1]) (W'.alloc (.cells #[.int .i64 x, .int .i64 y, .int .i64 z] 51)) = .ok (.slice (some ⟨g, 0, none⟩) (n + 1) cap2) w2 ∧ Box w2 q (.slice ao n cap) 46 ∧ OcBox W Wx q g0 ex (L ++ [(x, y, z)]) (w2.setCell ⟨q, 0, none⟩ (.slice (some ⟨g, 0, none⟩) (n + 1) cap2)) (some ⟨g, 0, none⟩) (n + 1) cap2 ∧ (∀ W0, KeepsFrom Wx.heap.size W0 W' → KeepsFrom Wx.heap.size W0 (w2.setCell ⟨q, 0, none⟩ (.slice (some ⟨g, 0, none⟩) (n + 1) cap2))) ∧ (∀ p v ty, p < Wx.heap.size → p ≠ g0 → Box W' p v ty → Box w2 p v ty) := by
  obtain ⟨g, cap2, w2, hrun, hown, hbl, hgr, hg, hgl⟩ := push_choice h.own hn h.fr.b.size x y z
  have hblk : ∀ r, (Value.slice ao n cap).ownBlock = some r → W.heap.size ≤ r ∧ (r ∈ ex ∨ Wx.heap.size ≤ r) := fun r e => ⟨(own_lt h.own e).1, (h.at' r e).imp (fun e => by subst e; exact hg0) id⟩
  have hqne : (Value.slice ao n cap).ownBlock ≠ some q := fun e => by
    rcases h.at' q e with e | e
    · exact hne e
    · omega
  have hqw : q < W'.heap.size := h.box.lt
  have hbq : Box w2 q (.slice ao n cap) 46 := (grown_block hgr (by rw [World.size_alloc]; omega) hqne).trans (h.box.alloc _)
  have hgq : g ≠ q := fun e => by
    rcases hg with e2 | e2
    · rw [e] at e2; exact hqne e2
    · omega
  have hf2 : Fr W Wx ex w2 := (h.fr.below ((Below.refl _ _).alloc (Nat.le_refl _) _)).own' hgr hblk
  have hgw : W.heap.size ≤ g := (own_lt hown (g := g) rfl).1
  refine ⟨g, cap2, w2, hrun, hbq, ⟨hf2.set hq hwq, hbq.set _, owns_same hown fun k hk => Below.heap_setCell _ _ _ _ (by
    have e : g = k := by simpa [Value.ownBlock] using hk
    simp only; omega), fun k hk => ?_⟩, fun W0 hk0 => keeps_set ?_ hbq, fun p v ty hp hpg hbp => ?_⟩
  · have e : g = k := by simpa [Value.ownBlock] using hk
    subst e
    rcases hg with e2 | e2
    · exact h.at' g e2
    · right; have := h.fr.s; omega
  · have hk := keeps_own (B := Wx.heap.size) h.own hgr
    exact ⟨Nat.le_trans hk0.1 hk.1, fun j o hj ho hc => hk.2 j o hj (hk0.2 j o hj ho hc) hc⟩
  · exact (grown_block hgr (by rw [World.size_alloc]; have := hbp.lt; omega) (fun e => by
      rcases h.at' p e with e | e
      · exact hpg e
      · omega)).trans (hbp.alloc _)


set_option maxRecDepth 10000 in
set_option maxHeartbeats 4000000 in
theorem tossable_any {W : World} (n p : Nat) (h1 : n ≤ 1000) (h2 : p ≤ 1000) :
    Calls Try.prog 35 #[.agg #[.int .i64 (n : Int), .int .i64 (p : Int)]] W fun e w' => e = .returned (.bool (tosB (n : Int) (p : Int))) ∧ Below W.heap.size W w' := by
  have hb : Below W.heap.size W (W.alloc (.cells #[.int .i64 (n : Int), .int .i64 (p : Int)] 28)) := (Below.refl _ _).alloc (Nat.le_refl _) _
  have HB := Lib.hid hb
  have HF := Lib.hid (fit_any (W := W.alloc (.cells #[.int .i64 (n : Int), .int .i64 (p : Int)] 28)) n p h1 h2)
  have HC : Hid (∀ W', Below (W.alloc (.cells #[.int .i64 (n : Int), .int .i64 (p : Int)] 28)).heap.size (W.alloc (.cells #[.int .i64 (n : Int), .int .i64 (p : Int)] 28)) W' → W'.cell? ⟨W.heap.size, 0, none⟩ = some (.int .i64 (n : Int)) ∧ W'.cell? ⟨W.heap.size, 1, none⟩ = some (.int .i64 (p : Int))) := Lib.hid (fun W' hb => ⟨cell_later hb (cell_of_row _ _ _ _ _ _ (heap_alloc_new _ _)), cell_later hb (cell_of_row _ _ _ _ _ _ (heap_alloc_new _ _))⟩)
  obtain ⟨c0, c1⟩ := HC.out _ (Below.refl _ _)
  unfold tosB
  obtain ⟨F, hF⟩ : ∃ F, F = fitF (n : Int) (p : Int) := ⟨_, rfl⟩
  rw [← hF] at HF ⊢
  obtain ⟨N, hN⟩ : ∃ N : Int, N = (n : Int) := ⟨_, rfl⟩
  obtain ⟨P, hP⟩ : ∃ P : Int, P = (p : Int) := ⟨_, rfl⟩
  have hw : IntKind.i64.wrap (2 * N) = 2 * N := IntWalk.i64_in _ (by omega)
  rw [← hN, ← hP] at HF HB HC c0 c1 ⊢
  clear hb h1 h2 hF hN hP
  cases F with
  | false =>
    rw [Bool.false_and, Bool.false_and, Bool.false_and]
    go_enter Try.func35, Try.ntmps35
    go_wp2_with (go_at_call 50; (with_reducible refine HF.out.mono ?_); rintro e w1 ⟨rfl, hb⟩; have HB := Lib.hid (HB.out.trans (hb.mono HB.out.size)); clear hb)
    go_ret
    exact ⟨rfl, HB.out⟩
  | true =>
    rw [Bool.true_and]
    by_cases h3 : P ≤ 100
    · rw [decide_eq_true h3, Bool.true_and]
      by_cases h4 : 2 * N ≥ P
      · rw [decide_eq_true h4, Bool.true_and]
        by_cases h5 : N ≤ P
        · rw [decide_eq_true h5]
          go_enter Try.func35, Try.ntmps35
          go_wp2_with (go_at_call 50; (with_reducible refine HF.out.mono ?_); rintro e w1 ⟨rfl, hb⟩; clear c0 c1; obtain ⟨c0, c1⟩ := HC.out _ hb; have HB := Lib.hid (HB.out.trans (hb.mono HB.out.size)); clear hb)
          all_goals (go_ret; exact ⟨by first | rfl | (simp [h3, h4, h5]; done) | (simp [h3, h5]; omega), HB.out⟩)
        · rw [decide_eq_false h5]
          go_enter Try.func35, Try.ntmps35
          go_wp2_with (go_at_call 50; (with_reducible refine HF.out.mono ?_); rintro e w1 ⟨rfl, hb⟩; clear c0 c1; obtain ⟨c0, c1⟩ := HC.out _ hb; have HB := Lib.hid (HB.out.trans (hb.mono HB.out.size)); clear hb)
          all_goals (go_ret; exact ⟨by first | rfl | (simp [h3, h4, h5]; done) | (simp [h3, h5]; omega), HB.out⟩)
      · rw [decide_eq_false h4, Bool.false_and]
        go_enter Try.func35, Try.ntmps35
        go_wp2_with (go_at_call 50; (with_reducible refine HF.out.mono ?_); rintro e w1 ⟨rfl, hb⟩; clear c0 c1; obtain ⟨c0, c1⟩ := HC.out _ hb; have HB := Lib.hid (HB.out.trans (hb.mono HB.out.size)); clear hb)
        all_goals (go_ret; exact ⟨by first | rfl | (simp [h3, h4]; done) | (simp [h3]; omega), HB.out⟩)
    · rw [decide_eq_false h3, Bool.false_and, Bool.false_and]
      go_enter Try.func35, Try.ntmps35
      go_wp2_with (go_at_call 50; (with_reducible refine HF.out.mono ?_); rintro e w1 ⟨rfl, hb⟩; clear c0 c1; obtain ⟨c0, c1⟩ := HC.out _ hb; have HB := Lib.hid (HB.out.trans (hb.mono HB.out.size)); clear hb)
      all_goals (go_ret; exact ⟨by first | rfl | (simp [h3]; done) | (simp; omega), HB.out⟩)

end Go.Proofs.Ytcpgoaombabfjaa

namespace Go.Proofs.Ytcpgoaombabfjaa
open Go.RowKit Go.Shelf
attribute [local go_sem] Oper.semAt_some
attribute [local go_sem ↓] appC_rw

/-- What the first loop of Choices keeps. -/
def SuI (W Wx : World) (q p : Nat) (r P : List Int) (k : Nat) (W' : World) : Prop := Fr W Wx [q, p] W' ∧ Box W' q (.int .i64 (sumF r P k)) 3 ∧ Box W' p (.int .i64 (sumG r P k)) 3
theorem suI_own {W Wx : World} {q p : Nat} {r P : List Int} (hB : W.heap.size ≤ Wx.heap.size) (hq : q < Wx.heap.size) (hp : p < Wx.heap.size) : OwnFrom Wx.heap.size (SuI W Wx q p r P) := fun k => keep_and (keep_fr hB) (keep_and (keep_box hq) (keep_box hp))
/-- What the second one keeps. -/
def CoI (W Wx : World) (q : Nat) (r P : List Int) (cn cd f g : Int) (k : Nat) (W' : World) : Prop :=
  ∃ ao n cap, OcBox W Wx q Wx.heap.size [q, Wx.heap.size] (chN r P cn cd f g k) W' ao n cap
theorem coI_own {W Wx : World} {q : Nat} {r P : List Int} {cn cd f g : Int} (hB : W.heap.size ≤ Wx.heap.size) (hq : q < Wx.heap.size) : OwnFrom Wx.heap.size (CoI W Wx q r P cn cd f g) := fun k => keep_ex fun ao => keep_ex fun n => keep_ex fun cap => keep_ocbox hB hq
theorem OcBox.below {W Wx W' W2 : World} {q g0 : Nat} {ex : List Nat} {L : List Ch} {ao : Option Addr} {n cap : Nat} (h : OcBox W Wx q g0 ex L W' ao n cap) (hb : Below W'.heap.size W' W2) : OcBox W Wx q g0 ex L W2 ao n cap :=
  ⟨h.fr.below hb, h.box.below hb, owns_later h.own hb, h.at'⟩

theorem prfV_fit {r s t : List Int} (k : Nat) : I64 ((prfV r s t).getD k 0) := by
  by_cases hk : k < (prfV r s t).length
  · have hm := getI_mem hk
    revert hm
    generalize (prfV r s t).getD k 0 = x
    unfold prfV
    split
    · rename_i hp
      intro hm
      obtain ⟨j, h1, _, h2⟩ := best_mem hm
      have : r.length ≤ 6 := by unfold prfB at hp; simp at hp; exact (prB_iff.1 hp.1.1).1
      exact ⟨by omega, by omega⟩
    · intro hm; simp at hm
  · rw [out_zero (by omega)]; decide
theorem prfV_len {r s t : List Int} (h : r.length ≤ 8) : (prfV r s t).length ≤ 8 := by
  unfold prfV
  split
  · have := best_len r (unV r s) (unV r t) r.length; omega
  · simp
theorem prfV_pr {r s t : List Int} (h : prfV r s t ≠ []) : prB r = true := by
  unfold prfV at h
  split at h
  · rename_i hp
    unfold prfB at hp; simp at hp; exact hp.1.1
  · exact absurd rfl h

theorem mul_box {a f : Int} (h : -1000 ≤ a ∧ a ≤ 1000) (hf : 0 ≤ f ∧ f ≤ 8000) : a * f ≤ 8000000 ∧ -8000000 ≤ a * f := by
  have h1 : a * f ≤ 1000 * f := Int.mul_le_mul_of_nonneg_right h.2 hf.1
  have h2 : -1000 * f ≤ a * f := Int.mul_le_mul_of_nonneg_right h.1 hf.1
  omega
theorem mul_box2 {x a : Int} (hx : 0 ≤ x ∧ x ≤ 8) (h : a ≤ 8000000 ∧ -8000000 ≤ a) : x * a ≤ 64000000 ∧ -64000000 ≤ x * a := by
  have h1 : x * a ≤ x * 8000000 := Int.mul_le_mul_of_nonneg_left h.1 hx.1
  have h2 : x * -8000000 ≤ x * a := Int.mul_le_mul_of_nonneg_left h.2 hx.1
  omega

set_option maxRecDepth 100000 in
set_option maxHeartbeats 8000000 in
theorem choices_any {W : World} {ar aw bw : Option Addr} {nr cr nw cw mw dw : Nat} {r s t : List Int} (hr : Ix W (.slice ar nr cr) r) (hs : Ix W (.slice aw nw cw) s) (ht : Ix W (.slice bw mw dw) t) (lr : r.length ≤ 8) (kd : Int) (n p : Nat) (h1 : n ≤ 1000) (h2 : p ≤ 1000) :
    Calls Try.prog 21 #[DV kd (.slice ar nr cr) n p, .slice aw nw cw, .slice bw mw dw] W fun e w' => ∃ ao m cap, e = .returned (.slice ao m cap) ∧ OwC w' W.heap.size (.slice ao m cap) m (chV r s t n p) ∧ Below W.heap.size W w' := by
  have hB0 := dbox_below W kd (.slice ar nr cr) n p
  have HB0 := Lib.hid hB0
  have HD0 := Lib.hid (dbox_is W kd (.slice ar nr cr) n p)
  have HPF := Lib.hid (preferred_any (hr.below hB0) (hs.below hB0) (ht.below hB0) lr kd n p)
  have HTO := Lib.hid (fun W' => tossable_any (W := W') n p h1 h2)
  have hfit := fun k => prfV_fit (r := r) (s := s) (t := t) k
  have hlen := prfV_len (s := s) (t := t) lr
  have hpr := prfV_pr (r := r) (s := s) (t := t)
  have HR := Lib.hid hr
  have hnr := hr.size
  obtain ⟨Z, hZ⟩ : ∃ Z, Z = chV r s t n p := ⟨_, rfl⟩
  rw [← hZ]
  unfold chV at hZ
  obtain ⟨P, hP⟩ : ∃ P, P = prfV r s t := ⟨_, rfl⟩
  rw [← hP] at hZ HPF hfit hlen hpr
  have HOX : Hid (∀ W' B ao m cap, OwI W' B (.slice ao m cap) m P → Ix W' (.slice ao m cap) P ∧ m = P.length) := Lib.hid (fun W' B ao m cap h => ⟨h.ix (by have := owI_len h; omega) hfit, owI_len h⟩)
  obtain ⟨c0, c1, c2, c3, c4, c5⟩ := HD0.out.cells
  have hl0 : W.heap.size < (dbox W kd (.slice ar nr cr) n p).heap.size := by simp
  by_cases hP0 : P = []
  · have hz : Z = [] := by rw [hZ, if_neg (fun h => h.1 hP0)]
    subst hz
    have HP0 : Hid (P.length = 0) := Lib.hid (by rw [hP0]; rfl)
    clear hr hs ht lr h1 h2 hB0 hfit hlen hpr hZ hP hP0 hnr
    go_enter Try.func21, Try.ntmps21
    go_wp2_with (go_at_call 18; (with_reducible refine HPF.out.mono ?_); rintro e w1 ⟨ao, m, cap, rfl, ho, hb⟩; obtain ⟨-, hm⟩ := HOX.out _ _ _ _ _ ho; rw [HP0.out] at hm; subst hm; have HB1 := Lib.hid (HB0.out.trans (hb.mono HB0.out.size)); clear ho hb)
    go_ret
    exact ⟨_, _, _, rfl, World.ownsRow_nil _ _ _ _, HB1.out.alloc HB1.out.size _⟩
  · by_cases hT : tosB (n : Int) (p : Int) = true
    · rw [if_pos ⟨hP0, hT⟩] at hZ
      rw [hT] at HTO
      have hp := hpr hP0
      have hP1 : P.length ≠ 0 := fun h => hP0 (List.eq_nil_of_length_eq_zero h)
      have HP0 := Lib.hid hP1
      have h6 := (prB_iff.1 hp).1
      have HALL := Lib.hid (prB_all hp)
      have HCI := Lib.hid (And.intro h1 (And.intro h2 (And.intro hnr h6)))
      have hnr8 : nr ≤ 1000 := by omega
      have HFI := Lib.hid (sumF_in (p := P) (prB_all hp))
      have HGI := Lib.hid (sumG_in (p := P) (prB_all hp))
      have HZ := Lib.hid hZ
      rw [← hnr] at HZ
      clear hr hs ht lr h1 h2 hB0 hfit hlen hpr hZ hP hP0 hnr hT hp hP1 h6
      obtain ⟨N, hN⟩ : ∃ N : Int, N = (n : Int) := ⟨_, rfl⟩
      obtain ⟨M, hM⟩ : ∃ M : Int, M = (p : Int) := ⟨_, rfl⟩
      have HNM : Hid ((0 ≤ N ∧ N ≤ 1000) ∧ 0 ≤ M ∧ M ≤ 1000) := Lib.hid (by have := HCI.out; omega)
      rw [← hN, ← hM] at HB0 HD0 HPF HTO c0 c1 c2 c3 c4 c5 hl0 HZ ⊢
      clear hN hM
      refine (callsIn_wide (n := 6)).1 ?_
      refine callsIn_of_wp_marks Try.func21 rfl trivial ?_ rfl
      rw [Try.ntmps21, fr3_81]
      refine wpIn_wide.2 ?_
      go_wp2_with (first
        | (go_at_call 18; (with_reducible refine HPF.out.mono ?_); rintro e w1 ⟨ao, m, cap, rfl, ho, hb⟩; obtain ⟨hi, hm⟩ := HOX.out _ _ _ _ _ ho; have HIX := Lib.hid hi; have HM := Lib.hid hm; have hm0 : ¬ (m : Int) = 0 := (by have := HP0.out; omega); have HB1 := Lib.hid (HB0.out.trans (hb.mono HB0.out.size)); have hd1 := HD0.out.below hb; have HD1 := Lib.hid hd1; have hl1 := (Array.getElem?_eq_some_iff.1 hd1).1; clear c0 c1 c2 c3 c4 c5; obtain ⟨c0, c1, c2, c3, c4, c5⟩ := hd1.cells; clear ho hi hb hm hd1)
        | (go_at_call 35; (with_reducible refine (HTO.out _).mono ?_); rintro e w2 ⟨rfl, hb⟩; rw [World.size_alloc] at hb; have hba : Below w1.heap.size w1 w2 := ((Below.refl w1.heap.size w1).alloc (Nat.le_refl _) (.cells #[.slice ao m cap] 22)).trans (hb.mono (by omega)); have HB2 := Lib.hid (HB1.out.trans (hba.mono HB1.out.size)); have HQ7 : Hid (Box w2 w1.heap.size (.slice ao m cap) 22) := Lib.hid ((Box.new w1 (.slice ao m cap) 22).below (by rw [World.size_alloc]; exact hb)); have HIX := Lib.hid (HIX.out.below hba); have hd2 := HD1.out.below hba; have HD2 := Lib.hid hd2; have hl2 := (Array.getElem?_eq_some_iff.1 hd2).1; clear c0 c1 c2 c3 c4 c5; obtain ⟨c0, c1, c2, c3, c4, c5⟩ := hd2.cells; clear hb hba hd2)
        | (go_at_call 34; (with_reducible refine open_k.mono ?_); rintro e w4 ⟨bD, rfl, hbD, hD4, hb4⟩))
      clear c0 c1 c2 c3 c4 c5
      refine (wpIn_wide (n := 6)).1 ?_
      have hs4 : ((w2.alloc (.cells #[.int .i64 0] 3)).alloc (.cells #[.int .i64 0] 3)).heap.size = w2.heap.size + 2 := by simp
      rw [hs4] at hbD hb4
      have hsz := hb4.size
      rw [hs4] at hsz
      have hb24 : Below w2.heap.size w2 w4 := ((Below.refl _ w2).alloc (Nat.le_refl _) _).alloc (by simp) _ |>.trans (hb4.mono (by omega))
      have HQ8 : Hid (Box w4 w2.heap.size (.int .i64 0) 3) := Lib.hid (((Box.new w2 (.int .i64 0) 3).alloc _).below (by rw [hs4]; exact hb4))
      have HQ9 : Hid (Box w4 (w2.heap.size + 1) (.int .i64 0) 3) := Lib.hid (by
        have h := Box.new (w2.alloc (.cells #[.int .i64 0] 3)) (.int .i64 0) 3
        rw [World.size_alloc] at h
        exact h.below (by rw [hs4]; exact hb4))
      have HB24 := Lib.hid hb24
      have HB4 : Hid (Below W.heap.size W w4) := Lib.hid (HB2.out.trans (hb24.mono HB2.out.size))
      have HD4 := Lib.hid hD4
      have HSZ := Lib.hid (And.intro hsz (And.intro hbD hl2))
      clear hb4 hb24 hsz hbD hs4 hD4 hl1 hl2 hl0 HPF HTO
      have HI0 : Hid (SuI W w4 w2.heap.size (w2.heap.size + 1) r P 0 w4) := Lib.hid ⟨Fr.start HB4.out, HQ8.out, HQ9.out⟩
      refine' rangeFunc_steps rfl (by omega) (gf := 49) (lb := #[.pointer (some ⟨bD, 0, none⟩)]) rfl trivial (enters_of Try.func49 (by kernel_rfl) rfl)
        (open_steps Fence.wide 5 trivial rfl (by omega) bD nr cr ar r hnr8 (SuI W w4 w2.heap.size (w2.heap.size + 1) r P)
          (fun k W' h => (h.1.dbox HD4.out (by have := HSZ.out; simp; omega)).cells.2.1)
          (fun k W' h hk => ix_keeps HR.out h.1 hk)
          (fun k W' hk hu h => ⟨h.1, by have := h.2.1; rw [sumF, if_neg (fun hc => hu hc.1), Int.add_zero]; exact this, by have := h.2.2; rw [sumG, if_neg (fun hc => hu hc.1), Int.add_zero]; exact this⟩)) (fun _ => rfl)
        (suI_own (by have := HB4.out.size; omega) (by have := HSZ.out; omega) (by have := HSZ.out; omega)) HI0.out _ ?assign ?body ?done
      case assign =>
        intro y k W' K hK
        unfold opArgs
        gi_wp2
        exact hK
      case body =>
        intro y k W' hk hu hI
        have hUP := hI.1.up HB2.out HB24.out (by intro j hj; simp at hj; omega)
        have c7 := (HQ7.out.below hUP).cell
        have HCT : Hid (∀ d, CallsIn Fence.wide d Try.prog 36 #[.slice ao m cap, .int .i64 (k : Int)] W' fun e w' => e = .returned (.bool (decide ((k : Int) ∈ P))) ∧ w' = W') := Lib.hid (fun d => callsIn_wide.2 (contains_any (HIX.out.below hUP) (k : Int)))
        have c8 := hI.2.1.cell
        have f8 := hI.2.1.free
        have l8 := hI.2.1.lt
        have c9 := hI.2.2.cell
        have f9 := hI.2.2.free
        have l9 := hI.2.2.lt
        have hzf := HFI.out k
        have hzg := HGI.out k
        have hrk := HALL.out k
        have hN := HCI.out
        have hin : w2.heap.size ≠ w2.heap.size + 1 := by omega
        have hws := HB2.out.size
        obtain ⟨x, hx⟩ : ∃ x, x = r.getD k 0 := ⟨_, rfl⟩
        have hxg : rg r k = x := hx.symm
        rw [hxg]
        by_cases hin2 : (k : Int) ∈ P
        · rw [decide_eq_true hin2] at HCT
          have e1 : sumF r P (k + 1) = sumF r P k + x := by rw [sumF, if_pos ⟨hu, hin2⟩, hx]
          have e2 : sumG r P (k + 1) = sumG r P k := by rw [sumG, if_neg (fun h => h.2 hin2), Int.add_zero]
          have hw : IntKind.i64.wrap (sumF r P k + x) = sumF r P (k + 1) := by rw [e1]; exact IntWalk.i64_in _ (by omega)
          have HEND : Hid (KeepsFrom w4.heap.size W' (W'.setCell ⟨w2.heap.size, 0, none⟩ (.int .i64 (sumF r P (k + 1)))) ∧ SuI W w4 w2.heap.size (w2.heap.size + 1) r P (k + 1) (W'.setCell ⟨w2.heap.size, 0, none⟩ (.int .i64 (sumF r P (k + 1))))) := Lib.hid ⟨keeps_set (KeepsFrom.refl _ _) hI.2.1, hI.1.set (by simp) hws, hI.2.1.set _, by rw [e2]; exact hI.2.2.other hin⟩
          obtain ⟨u, hu2⟩ : ∃ u, u = sumF r P k := ⟨_, rfl⟩
          obtain ⟨v, hv2⟩ : ∃ v, v = sumF r P (k + 1) := ⟨_, rfl⟩
          rw [← hu2, ← hv2] at hw
          rw [← hu2] at c8
          rw [← hv2] at HEND
          clear hI hUP hzf hzg hrk hN hin hws hx hxg hin2 e1 e2 hu2 hv2 hu c9 f9 l9
          gi_wp2
          refine ⟨trivial, (CallsIn.inRound y (HCT.out _)).mono ?_⟩
          rintro e w5 ⟨rfl, rfl⟩
          gi_wp2
          exact HEND.out
        · rw [decide_eq_false hin2] at HCT
          have e1 : sumG r P (k + 1) = sumG r P k + x := by rw [sumG, if_pos ⟨hu, hin2⟩, hx]
          have e2 : sumF r P (k + 1) = sumF r P k := by rw [sumF, if_neg (fun h => hin2 h.2), Int.add_zero]
          have hw : IntKind.i64.wrap (sumG r P k + x) = sumG r P (k + 1) := by rw [e1]; exact IntWalk.i64_in _ (by omega)
          have HEND : Hid (KeepsFrom w4.heap.size W' (W'.setCell ⟨w2.heap.size + 1, 0, none⟩ (.int .i64 (sumG r P (k + 1)))) ∧ SuI W w4 w2.heap.size (w2.heap.size + 1) r P (k + 1) (W'.setCell ⟨w2.heap.size + 1, 0, none⟩ (.int .i64 (sumG r P (k + 1))))) := Lib.hid ⟨keeps_set (KeepsFrom.refl _ _) hI.2.2, hI.1.set (by simp) (by omega), by rw [e2]; exact hI.2.1.other (by omega), hI.2.2.set _⟩
          obtain ⟨u, hu2⟩ : ∃ u, u = sumG r P k := ⟨_, rfl⟩
          obtain ⟨v, hv2⟩ : ∃ v, v = sumG r P (k + 1) := ⟨_, rfl⟩
          rw [← hu2, ← hv2] at hw
          rw [← hu2] at c9
          rw [← hv2] at HEND
          clear hI hUP hzf hzg hrk hN hin hws hx hxg hin2 e1 e2 hu2 hv2 hu c8 f8 l8
          gi_wp2
          refine ⟨trivial, (CallsIn.inRound y (HCT.out _)).mono ?_⟩
          rintro e w5 ⟨rfl, rfl⟩
          gi_wp2
          exact HEND.out
      case done =>
        intro D wa hD hI hK
        have hUP := hI.1.up HB2.out HB24.out (by intro j hj; simp at hj; omega)
        have HUA := Lib.hid hUP
        have HIA := Lib.hid hI
        have HKA := Lib.hid hK
        have HDA := Lib.hid hD
        have hda := HD2.out.below hUP
        obtain ⟨c0, c1, c2, c3, c4, c5⟩ := hda.cells
        have hla := (Array.getElem?_eq_some_iff.1 hda).1
        clear hI hK hD hUP hda
        go_wp2_with (go_at_call 34; (with_reducible refine open_k.mono ?_); rintro e w6 ⟨bE, rfl, hbE, hE6, hb6⟩)
        clear c0 c1 c2 c3 c4 c5
        refine (wpIn_wide (n := 6)).1 ?_
        have hsa : (wa.alloc (.cells #[.slice none 0 0] 46)).heap.size = wa.heap.size + 1 := by simp
        rw [hsa] at hbE hb6
        have hsz := hb6.size
        rw [hsa] at hsz
        have hba6 : Below wa.heap.size wa w6 := ((Below.refl _ wa).alloc (Nat.le_refl _) _).trans (hb6.mono (by omega))
        have HQ12 : Hid (Box w6 wa.heap.size (.slice none 0 0) 46) := Lib.hid ((Box.new wa (.slice none 0 0) 46).below (by rw [hsa]; exact hb6))
        have HBA : Hid (Below W.heap.size W wa) := Lib.hid HIA.out.1.b
        have HB6 : Hid (Below W.heap.size W w6) := Lib.hid (HBA.out.trans (hba6.mono HBA.out.size))
        have HBA6 := Lib.hid hba6
        have HE6 := Lib.hid hE6
        have HSZ6 := Lib.hid (And.intro hsz hbE)
        obtain ⟨f, hf⟩ : ∃ f, f = sumF r P nr := ⟨_, rfl⟩
        obtain ⟨g, hg⟩ : ∃ g, g = sumG r P nr := ⟨_, rfl⟩
        have HF8 : Hid ((0 ≤ f ∧ f ≤ 8000) ∧ 0 ≤ g ∧ g ≤ 8000) := Lib.hid (by have h1 := HFI.out nr; have h2 := HGI.out nr; have h3 := HCI.out; rw [← hf] at h1; rw [← hg] at h2; omega)
        have HB8 : Hid (Box wa w2.heap.size (.int .i64 f) 3 ∧ Box wa (w2.heap.size + 1) (.int .i64 g) 3) := Lib.hid (by rw [hf, hg]; exact HIA.out.2)
        rw [← hf, ← hg] at HZ
        have HK6 : Hid (w6.heap[D]? = some (.deferred (some [])) ∧ D < wa.heap.size) := Lib.hid ⟨(hba6.block D (Array.getElem?_eq_some_iff.1 HKA.out).1).trans HKA.out, (Array.getElem?_eq_some_iff.1 HKA.out).1⟩
        clear hb6 hba6 hsz hbE hsa hE6 hf hg hla
        have HI06 : Hid (CoI W w6 wa.heap.size r P N M f g 0 w6) := Lib.hid ⟨none, 0, 0, Fr.start HB6.out, HQ12.out, World.ownsRow_nil _ _ _ _, fun g e => by cases e⟩
        refine' rangeFunc_steps rfl (by omega) (gf := 49) (lb := #[.pointer (some ⟨bE, 0, none⟩)]) rfl trivial (enters_of Try.func49 (by kernel_rfl) rfl)
          (open_steps Fence.wide 5 trivial rfl (by omega) bE nr cr ar r hnr8 (CoI W w6 wa.heap.size r P N M f g)
            (fun k W' h => by obtain ⟨eo, en, ec, h⟩ := h; exact (h.fr.dbox HE6.out (by have := HSZ6.out; simp; have := (Array.getElem?_eq_some_iff.1 HE6.out).1; omega)).cells.2.1)
            (fun k W' h hk => by obtain ⟨eo, en, ec, h⟩ := h; exact ix_keeps HR.out h.fr hk)
            (fun k W' hk hu h => by obtain ⟨eo, en, ec, h⟩ := h; exact ⟨eo, en, ec, by rw [chN, if_neg (fun hc => hu hc.1), List.append_nil]; exact h⟩)) (fun _ => rfl)
          (coI_own (by have := HB6.out.size; omega) (by have := HSZ6.out; omega)) HI06.out _ ?assign2 ?body2 ?done2
        case assign2 =>
          intro y k W' K hK
          unfold opArgs
          gi_wp2
          exact hK
        case body2 =>
          intro y k W' hk hu hI
          obtain ⟨eo, en, ecap, hJ⟩ := hI
          have hUP := hJ.fr.up HBA.out HBA6.out (by have := HSZ6.out; intro j hj; simp at hj; omega)
          have hU2 := HUA.out.trans (hUP.mono HUA.out.size)
          have c7 := (HQ7.out.below hU2).cell
          have HCT : Hid (∀ d, CallsIn Fence.wide d Try.prog 36 #[.slice ao m cap, .int .i64 (k : Int)] W' fun e w' => e = .returned (.bool (decide ((k : Int) ∈ P))) ∧ w' = W') := Lib.hid (fun d => callsIn_wide.2 (contains_any (HIX.out.below hU2) (k : Int)))
          have c8 := (HB8.out.1.below hUP).cell
          have c9 := (HB8.out.2.below hUP).cell
          obtain ⟨-, -, -, -, e4, e5⟩ := (HD2.out.below hU2).cells
          have c12 := hJ.box.cell
          have f12 := hJ.box.free
          have l12 := hJ.box.lt
          have hen := owC_len hJ.own
          have hle := chN_len r P N M f g k
          have hz3 : W.heap.size ≤ w6.heap.size := HB6.out.size
          have hz2 : W.heap.size ≤ wa.heap.size := HBA.out.size
          have hqz : wa.heap.size < w6.heap.size := by have := HSZ6.out; omega
          have hrk := HALL.out k
          obtain ⟨x, hx⟩ : ∃ x, x = r.getD k 0 := ⟨_, rfl⟩
          have hxg : rg r k = x := hx.symm
          rw [hxg]
          rw [← hx] at hrk
          have hx8 : 0 ≤ x ∧ x ≤ 8 := hrk
          have hf8 := HF8.out.1
          have hg8 := HF8.out.2
          have hnm := HNM.out
          clear hUP hU2 hrk hxg
          have hk8 : k ≤ 1000 := by omega
          by_cases hg0 : g = 0
          · skip
            have c9' := c9
            rw [hg0] at c9'
            clear c9
            have hwg : wgt r P N M f g k = x := by unfold wgt; rw [if_pos hg0, hx]
            by_cases hw0 : 0 < x
            · obtain ⟨g2, cap2, w7, hrun, hbq, hJ7, hkf, -⟩ := hJ.push2 (by omega) hz3 (by simp) hz2 (by omega) (by simp) (by omega) (x) 0 (k : Int)
              have HEND : Hid (KeepsFrom w6.heap.size W' (w7.setCell ⟨wa.heap.size, 0, none⟩ (.slice (some ⟨g2, 0, none⟩) (en + 1) cap2)) ∧ CoI W w6 wa.heap.size r P N M f g (k + 1) (w7.setCell ⟨wa.heap.size, 0, none⟩ (.slice (some ⟨g2, 0, none⟩) (en + 1) cap2))) := Lib.hid ⟨hkf W' (KeepsFrom.refl _ _), _, _, _, by rw [chN, if_pos ⟨hu, by rw [hwg]; exact hw0⟩, hwg]; exact hJ7⟩
              have c97 := hbq.cell
              have f97 := hbq.free
              clear hJ hJ7 hkf hbq hen hle hu hz3 hz2 hqz hwg hx hg0
              gi_wp2
              exact HEND.out
            · have HEND : Hid (KeepsFrom w6.heap.size W' W' ∧ CoI W w6 wa.heap.size r P N M f g (k + 1) W') := Lib.hid ⟨KeepsFrom.refl _ _, _, _, _, by rw [chN, if_neg (fun h => hw0 (by rw [← hwg]; exact h.2)), List.append_nil]; exact hJ⟩
              clear hJ hen hle hu hz3 hz2 hqz hwg hx hg0
              gi_wp2
              exact HEND.out
          · by_cases hin2 : (k : Int) ∈ P
            · skip
              have hb1 : N * g ≤ 1000 * 8000 ∧ 0 ≤ N * g := ⟨Int.mul_le_mul (by omega) (by omega) (by omega) (by omega), Int.mul_nonneg (by omega) (by omega)⟩
              have hb2 : x * (N * g) ≤ 8 * (1000 * 8000) ∧ 0 ≤ x * (N * g) := ⟨Int.mul_le_mul (by omega) hb1.1 hb1.2 (by omega), Int.mul_nonneg (by omega) hb1.2⟩
              have hw1 : IntKind.i64.wrap (N * g) = N * g := IntWalk.i64_in _ (by omega)
              have hw2 : IntKind.i64.wrap (x * (N * g)) = x * (N * g) := IntWalk.i64_in _ (by omega)
              rw [decide_eq_true hin2] at HCT
              have hwg : wgt r P N M f g k = x * (N * g) := by unfold wgt; rw [if_neg hg0, if_pos hin2, hx]
              by_cases hw0 : 0 < x * (N * g)
              · obtain ⟨g2, cap2, w7, hrun, hbq, hJ7, hkf, -⟩ := hJ.push2 (by omega) hz3 (by simp) hz2 (by omega) (by simp) (by omega) (x * (N * g)) 0 (k : Int)
                have HEND : Hid (KeepsFrom w6.heap.size W' (w7.setCell ⟨wa.heap.size, 0, none⟩ (.slice (some ⟨g2, 0, none⟩) (en + 1) cap2)) ∧ CoI W w6 wa.heap.size r P N M f g (k + 1) (w7.setCell ⟨wa.heap.size, 0, none⟩ (.slice (some ⟨g2, 0, none⟩) (en + 1) cap2))) := Lib.hid ⟨hkf W' (KeepsFrom.refl _ _), _, _, _, by rw [chN, if_pos ⟨hu, by rw [hwg]; exact hw0⟩, hwg]; exact hJ7⟩
                have c97 := hbq.cell
                have f97 := hbq.free
                clear hJ hJ7 hkf hbq hen hle hu hz3 hz2 hqz hwg hx hin2 hb1 hb2
                gi_wp2
                refine ⟨trivial, (CallsIn.inRound y (HCT.out _)).mono ?_⟩
                rintro e w5 ⟨rfl, rfl⟩
                gi_wp2
                exact HEND.out
              · have HEND : Hid (KeepsFrom w6.heap.size W' W' ∧ CoI W w6 wa.heap.size r P N M f g (k + 1) W') := Lib.hid ⟨KeepsFrom.refl _ _, _, _, _, by rw [chN, if_neg (fun h => hw0 (by rw [← hwg]; exact h.2)), List.append_nil]; exact hJ⟩
                clear hJ hen hle hu hz3 hz2 hqz hwg hx hin2 hb1 hb2
                gi_wp2
                refine ⟨trivial, (CallsIn.inRound y (HCT.out _)).mono ?_⟩
                rintro e w5 ⟨rfl, rfl⟩
                gi_wp2
                exact HEND.out
            · skip
              have hb0 : -1000 ≤ M - N ∧ M - N ≤ 1000 := by omega
              have hb1 : (M - N) * f ≤ 8000000 ∧ -8000000 ≤ (M - N) * f := mul_box hb0 hf8
              have hb2 : x * ((M - N) * f) ≤ 64000000 ∧ -64000000 ≤ x * ((M - N) * f) := mul_box2 hx8 hb1
              have hw0' : IntKind.i64.wrap (M - N) = M - N := IntWalk.i64_in _ (by omega)
              have hw1 : IntKind.i64.wrap ((M - N) * f) = (M - N) * f := IntWalk.i64_in _ (by omega)
              have hw2 : IntKind.i64.wrap (x * ((M - N) * f)) = x * ((M - N) * f) := IntWalk.i64_in _ (by omega)
              rw [decide_eq_false hin2] at HCT
              have hwg : wgt r P N M f g k = x * ((M - N) * f) := by unfold wgt; rw [if_neg hg0, if_neg hin2, hx]
              by_cases hw0 : 0 < x * ((M - N) * f)
              · obtain ⟨g2, cap2, w7, hrun, hbq, hJ7, hkf, -⟩ := hJ.push2 (by omega) hz3 (by simp) hz2 (by omega) (by simp) (by omega) (x * ((M - N) * f)) 0 (k : Int)
                have HEND : Hid (KeepsFrom w6.heap.size W' (w7.setCell ⟨wa.heap.size, 0, none⟩ (.slice (some ⟨g2, 0, none⟩) (en + 1) cap2)) ∧ CoI W w6 wa.heap.size r P N M f g (k + 1) (w7.setCell ⟨wa.heap.size, 0, none⟩ (.slice (some ⟨g2, 0, none⟩) (en + 1) cap2))) := Lib.hid ⟨hkf W' (KeepsFrom.refl _ _), _, _, _, by rw [chN, if_pos ⟨hu, by rw [hwg]; exact hw0⟩, hwg]; exact hJ7⟩
                have c97 := hbq.cell
                have f97 := hbq.free
                clear hJ hJ7 hkf hbq hen hle hu hz3 hz2 hqz hwg hx hin2 hb0 hb1 hb2
                gi_wp2
                refine ⟨trivial, (CallsIn.inRound y (HCT.out _)).mono ?_⟩
                rintro e w5 ⟨rfl, rfl⟩
                gi_wp2
                exact HEND.out
              · have HEND : Hid (KeepsFrom w6.heap.size W' W' ∧ CoI W w6 wa.heap.size r P N M f g (k + 1) W') := Lib.hid ⟨KeepsFrom.refl _ _, _, _, _, by rw [chN, if_neg (fun h => hw0 (by rw [← hwg]; exact h.2)), List.append_nil]; exact hJ⟩
                clear hJ hen hle hu hz3 hz2 hqz hwg hx hin2 hb0 hb1 hb2
                gi_wp2
                refine ⟨trivial, (CallsIn.inRound y (HCT.out _)).mono ?_⟩
                rintro e w5 ⟨rfl, rfl⟩
                gi_wp2
                exact HEND.out
        case done2 =>
          intro E W' hE hI hK
          obtain ⟨eo, en, ecap, hJ⟩ := hI
          have c12 := hJ.box.cell
          rw [← HZ.out] at hJ
          have HJ := Lib.hid hJ
          have HK := Lib.hid hK
          have HEE := Lib.hid hE
          clear hJ hK hE
          go_wp2
          have hDw : W'.heap[D]? = some (.deferred (some [])) := (HJ.out.fr.k D (by have := HK6.out.2; have := HSZ6.out; omega) (by have := HK6.out.2; have := HSZ6.out; simp; omega)).trans HK6.out.1
          have hDE : D ≠ E := by have := HK6.out.2; have := HSZ6.out; have := HEE.out; omega
          refine ⟨by simp, .inl ⟨_, _, rfl, run_takeDeferred HK.out, ?_⟩⟩
          have hD2 := (World.putObj_heap_other (w := W') (o := .deferred none) hDE).trans hDw
          refine ⟨by simp, .inl ⟨_, _, rfl, run_takeDeferred hD2, ?_⟩⟩
          have hz6 := HB6.out.size
          have hzD : W.heap.size ≤ D := by have := HDA.out; have := HB4.out.size; omega
          have hzE : W.heap.size ≤ E := by have := HEE.out; omega
          have hB := HJ.out.fr.b.grown (grownBy_putObj' _ E (.deferred none)) HJ.out.fr.b.size (fun j e => by cases e; exact hzE)
          exact ⟨_, results_tmp rfl _ _ _, eo, en, ecap, rfl, owns_put (owns_put HJ.out.own HK.out) hD2, hB.grown (grownBy_putObj' _ D _) hB.size (fun j e => by cases e; exact hzD)⟩
    · have hT0 : tosB (n : Int) (p : Int) = false := by simpa using hT
      have hz : Z = [] := by rw [hZ, if_neg (fun h => hT h.2)]
      subst hz
      rw [hT0] at HTO
      have HP0 : Hid (P.length ≠ 0) := Lib.hid (fun h => hP0 (List.eq_nil_of_length_eq_zero h))
      clear hr hs ht lr h1 h2 hB0 hfit hlen hpr hZ hP hP0 hnr hT hT0
      obtain ⟨N, hN⟩ : ∃ N : Int, N = (n : Int) := ⟨_, rfl⟩
      obtain ⟨M, hM⟩ : ∃ M : Int, M = (p : Int) := ⟨_, rfl⟩
      rw [← hN, ← hM] at HB0 HD0 HPF HTO c0 c1 c2 c3 c4 c5 hl0 ⊢
      clear hN hM
      go_enter Try.func21, Try.ntmps21
      go_wp2_with (first
        | (go_at_call 18; (with_reducible refine HPF.out.mono ?_); rintro e w1 ⟨ao, m, cap, rfl, ho, hb⟩; obtain ⟨-, hm⟩ := HOX.out _ _ _ _ _ ho; have hm0 : ¬ (m : Int) = 0 := (by have := HP0.out; omega); have HB1 := Lib.hid (HB0.out.trans (hb.mono HB0.out.size)); have hd1 := HD0.out.below hb; have hl1 := (Array.getElem?_eq_some_iff.1 hd1).1; clear c0 c1 c2 c3 c4 c5; obtain ⟨c0, c1, c2, c3, c4, c5⟩ := hd1.cells; clear ho hb hm hd1)
        | (go_at_call 35; (with_reducible refine (HTO.out _).mono ?_); rintro e w2 ⟨rfl, hb⟩; have HB2 := Lib.hid ((HB1.out.alloc HB1.out.size _).trans (Below.mono hb (by have := HB1.out.size; simp; omega))); clear hb))
      go_ret
      exact ⟨_, _, _, rfl, World.ownsRow_nil _ _ _ _, HB2.out⟩

end Go.Proofs.Ytcpgoaombabfjaa
