/- Contract: Prove of digest. Condition: at most 2^20 strings, of lengths that Go permits. -/
import Derived.Stop.RegionWithIn
import Derived.Laws.Bits64
import Derived.Test.YtkkbjkjmhjgaiaaS
namespace Go.Proofs.Ytkkbjkjmhjgaiaa
open Go.RowKit Go.Shelf
attribute [local go_sem] Oper.semAt_some

theorem xor_one (x : Nat) : x ^^^ 1 = nbr x := by
  unfold nbr
  have h1 : (x ^^^ 1) / 2 = x / 2 := by
    have := Nat.xor_div_two (a := x) (b := 1)
    simpa using this
  have h2 : (x ^^^ 1) % 2 = (x % 2) ^^^ 1 := by
    have := Nat.xor_mod_two_pow (a := x) (b := 1) (n := 1)
    rw [Nat.pow_one] at this
    exact this
  rcases (show x % 2 = 0 ∨ x % 2 = 1 by omega) with h | h
  · rw [h] at h2
    rw [if_pos h]
    have h3 : (x ^^^ 1) % 2 = 1 := h2
    omega
  · rw [h] at h2
    rw [if_neg (by omega)]
    have h3 : (x ^^^ 1) % 2 = 0 := h2
    omega

theorem bits_nbr (x : Nat) (h : x < 4294967296) : bits .xor .i64 (x : Int) 1 = ((nbr x : Nat) : Int) := by
  have hx : x ^^^ 1 < 2 ^ 33 := Nat.xor_lt_two_pow (by omega) (by omega)
  have h1 : (BitVec.ofInt 64 (x : Int)).toNat = x := by
    rw [BitVec.ofInt_natCast, BitVec.toNat_ofNat]; exact Nat.mod_eq_of_lt (by omega)
  show IntKind.i64.wrap ((BitVec.ofInt 64 (x : Int) ^^^ BitVec.ofInt 64 1).toNat : Int) = _
  rw [BitVec.toNat_xor, h1, show (BitVec.ofInt 64 1).toNat = 1 from rfl, IntKind.wrap_i64, xor_one]
  rw [xor_one] at hx
  omega

/-- Digests as strings. -/
def strs (L : List Dg) : List Value := L.map fun d => .string (sA d)
theorem strs_append (a b : List Dg) : strs (a ++ b) = strs a ++ strs b := by simp [strs]

theorem owns_kept {W W' : World} {B n : Nat} {v : Value} {xs : List Value} (h : W.ownsRow B 9 1 v n xs) (hk : KeptC W W') : W'.ownsRow B 9 1 v n xs := by
  refine ⟨h.1, ?_⟩
  rcases h.2 with h | ⟨g, cap, cur, h1, h2, h3, h4⟩
  · exact .inl h
  · exact .inr ⟨g, cap, cur, h1, h2, hk _ _ h3 rfl, h4⟩

theorem slice_of_owns {W : World} {B : Nat} {e : TypeId} {size n : Nat} {v : Value} {xs : List Value} (h : W.ownsRow B e size v n xs) : ∃ ao m cap, v = .slice ao m cap := by
  rcases h.2 with ⟨hv, _⟩ | ⟨g, cap, cur, hv, _⟩
  · exact ⟨_, _, _, hv⟩
  · exact ⟨_, _, _, hv⟩

/-- What holds when k levels have come. -/
structure PrI (w : World) (sv : Value) (L0 : List Dg) (i m k : Nat) (W : World) : Prop where
  bi : W.heap[w.heap.size]? = some (.cells #[.int .i64 ((i / 2 ^ min k m : Nat) : Int)] 3 (0, 0))
  pf : ∃ v, W.heap[w.heap.size + 1]? = some (.cells #[v] 29 (0, 0)) ∧ W.ownsRow w.heap.size 9 1 v (min k m) (strs (proofD (min k m) L0 i))
  box : W.heap[w.heap.size + 1 + 1]? = some (.cells #[sv] 29 (0, 0))
  bl : Below w.heap.size w W

theorem PrI.kept {w W W' : World} {sv : Value} {L0 : List Dg} {i m k : Nat} (h : PrI w sv L0 i m k W) (hk : KeptC W W') (hb : Below w.heap.size w W') : PrI w sv L0 i m k W' := by
  obtain ⟨v, h1, h2⟩ := h.pf
  exact ⟨hk _ _ h.bi rfl, ⟨v, hk _ _ h1 rfl, owns_kept h2 hk⟩, hk _ _ h.box rfl, hb⟩

theorem prI_own {w : World} {sv : Value} {L0 : List Dg} {i m B : Nat} (hB : w.heap.size ≤ B) : OwnFrom B (PrI w sv L0 i m) := fun _ _ _ _ hs hg hr =>
  hs.kept (KeptC.of_grown hg fun r e => (hr r e).2) (hs.bl.grown hg hs.bl.size (fun r e => Nat.le_trans hB (hr r e).1))

theorem PrI.below {w W W' : World} {sv : Value} {L0 : List Dg} {i m k : Nat} (h : PrI w sv L0 i m k W) (hb : Below W.heap.size W W') : PrI w sv L0 i m k W' := h.kept (KeptC.of_below hb) (h.bl.trans (hb.mono h.bl.size))

theorem Try.info9 : (Try.prog.info? 9).map (fun i => (i.zero, i.size, i.bytes)) = some (some (.string ⟨#[]⟩), 1, 16) := by kernel_rfl

/-- The world behind a round: the proof has one element more, the index is halved. -/
theorem PrI.next {w W W2 : World} {sv v v' : Value} {L0 : List Dg} {i m k : Nat} (h : PrI w sv L0 i m k W) (hk : k < m) (hv : W.heap[w.heap.size + 1]? = some (.cells #[v] 29 (0, 0)))
    (hg : ∀ (g : Nat) (o : Obj), W.heap[g]? = some o → (∀ cs f, o ≠ Obj.cells cs 9 f) → W2.heap[g]? = some o) (hb : Below w.heap.size W W2)
    (ho : W2.ownsRow w.heap.size 9 1 v' (k + 1) (strs (proofD k L0 i) ++ [.string (sA ((lvl k L0).getD (nbr (i / 2 ^ k)) []))])) :
    PrI w sv L0 i m (k + 1) ((W2.setCell ⟨w.heap.size + 1, 0, none⟩ v').setCell ⟨w.heap.size, 0, none⟩ (.int .i64 ((i / 2 ^ k / 2 : Nat) : Int))) := by
  have e1 : min (k + 1) m = k + 1 := by omega
  have e2 : i / 2 ^ k / 2 = i / 2 ^ (k + 1) := by rw [Nat.div_div_eq_div_mul, Nat.pow_succ]
  have hv2 := hg _ _ hv (fun cs f e => by cases e)
  have hb2 := hg _ _ h.bi (fun cs f e => by cases e)
  have hx2 := hg _ _ h.box (fun cs f e => by cases e)
  have hbl := (h.bl.trans hb)
  refine ⟨?_, ⟨v', ?_, ?_⟩, ?_, (hbl.setCell (by simp) _).setCell (Nat.le_refl _) _⟩
  · rw [e1, ← e2]
    exact heap_setCell_same _ w.heap.size 0 #[_] 3 _ ((heap_setCell_other _ _ _ _ (by simp)).trans hb2)
  · rw [heap_setCell_other _ _ _ _ (by simp)]
    exact heap_setCell_same _ (w.heap.size + 1) 0 #[v] 29 v' hv2
  · rw [e1, proofD_snoc, strs_append]
    refine ⟨ho.1, ?_⟩
    rcases ho.2 with h0 | ⟨g, cap, cur, q1, q2, q3, q4⟩
    · exact .inl h0
    · refine .inr ⟨g, cap, cur, q1, q2, ?_, q4⟩
      rw [heap_setCell_other _ _ _ _ (fun e => by simp at e; subst e; rw [hb2] at q3; cases q3), heap_setCell_other _ _ _ _ (fun e => by simp at e; subst e; rw [hv2] at q3; cases q3)]
      exact q3
  · rw [heap_setCell_other _ _ _ _ (by simp; omega), heap_setCell_other _ _ _ _ (by simp)]
    exact hx2

theorem append_step {W w1 w3 : World} {B kk : Nat} {v : Value} {xs : List Value} {o : Obj} (hbw : Below W.heap.size W w1) (hB : B ≤ W.heap.size) (hown : w1.ownsRow B 9 1 v kk xs) (hgrow : (w1.alloc o).grownBy w3 v.ownBlock) :
    (∀ (g : Nat) (o : Obj), W.heap[g]? = some o → (∀ cs f, o ≠ Obj.cells cs 9 f) → w3.heap[g]? = some o) ∧ Below B W w3 ∧ KeepsOthers W w3 := by
  have hown2 : (w1.alloc o).ownsRow B 9 1 v kk xs := owns_kept hown (KeptC.of_below ((Below.refl _ _).alloc (Nat.le_refl _) _))
  have hb2 : Below W.heap.size W (w1.alloc o) := hbw.alloc hbw.size _
  refine ⟨fun g q h1 h2 => ?_, (hb2.mono hB).grown hgrow (Nat.le_trans hB hb2.size) (fun j hj => (hown2.lt j hj).1), ?_⟩
  · have h3 := (hb2.block g (Array.getElem?_eq_some_iff.1 h1).1).trans h1
    refine (hgrow.block g (Array.getElem?_eq_some_iff.1 h3).1 fun e => ?_).trans h3
    rcases hown2.2 with ⟨rfl, _⟩ | ⟨g', cap, cur, rfl, _, hgg, _⟩
    · simp [Value.ownBlock] at e
    · simp only [Value.ownBlock, Option.some.injEq] at e
      subst e
      rw [h3] at hgg
      cases hgg
      exact h2 _ _ rfl
  · have k1 : KeepsOthers W (w1.alloc o) := ⟨hb2.size, fun g q h _ => (hb2.block g (Array.getElem?_eq_some_iff.1 h).1).trans h⟩
    refine k1.trans (KeepsOthers.of_grownBy hgrow fun j q hj hq => ?_)
    rcases hown2.2 with ⟨rfl, _⟩ | ⟨g', cap, cur, rfl, _, hgg, _⟩
    · simp [Value.ownBlock] at hj
    · simp only [Value.ownBlock, Option.some.injEq] at hj
      subst hj
      rw [hgg] at hq
      cases hq
      rfl

theorem dx_round {W w3 : World} {v pv u1 u2 : Value} {L : List Dg} {A B : Nat} {z : Value} (hx : Dx W v L) (hg : ∀ (g : Nat) (o : Obj), W.heap[g]? = some o → (∀ cs f, o ≠ Obj.cells cs 9 f) → w3.heap[g]? = some o)
    (hpv : W.heap[A]? = some (.cells #[pv] 29 (0, 0))) (hbi : W.heap[B]? = some (.cells #[z] 3 (0, 0))) : Dx ((w3.setCell ⟨A, 0, none⟩ u1).setCell ⟨B, 0, none⟩ u2) v L :=
  hx.kept fun b off n cap e cs fr hh => by
    rw [heap_setCell_other _ _ _ _ (fun e => by simp at e; subst e; rw [hbi] at hh; cases hh), heap_setCell_other _ _ _ _ (fun e => by simp at e; subst e; rw [hpv] at hh; cases hh)]
    exact hg _ _ hh (fun cs f e => by cases e)

/-- append of strings, folded. -/
def appX (ty : TypeId) (vs : Array Value) : Sem Value := Builtin.append_ #[29, 29] ty vs
theorem appX_rw (ty : TypeId) (vs : Array Value) : Builtin.append_ #[29, 29] ty vs = appX ty vs := rfl
attribute [local go_sem ↓] appX_rw

set_option maxRecDepth 100000 in
set_option maxHeartbeats 4000000 in
theorem prove_yes {w : World} {v : Value} {l : List ByteArray} (hX : Sx w v l) (hlen : l.length ≤ 1048576) (hsz : ∀ k, (l.getD k ⟨#[]⟩).size ≤ 140737488355000) (m : Nat) (hm : wid l.length = 2 ^ m) (i : Nat) (hi : i < l.length) :
    Calls Try.prog 24 #[v, .int .i64 i] w fun e w' => ∃ pv, e = .returned (.tuple #[pv, .bool true]) ∧ w'.ownsRow w.heap.size 9 1 pv m (strs (proofD m (leavesD (l.map by')) i)) ∧ Below w.heap.size w w' := by
  obtain ⟨ao, cap, rfl⟩ := hX.mk'
  refine (callsIn_wide (n := 5)).1 ?_
  have w40 : Fence.wide.fn 40 := trivial
  have w33 : Fence.wide.fn 33 := trivial
  have H40 : Hid (∀ k W, CallsIn Fence.wide k Try.prog 40 #[.slice ao l.length cap] W fun e w' => e = .returned (.func (.func 45) #[] #[.pointer (some ⟨W.heap.size, 0, none⟩)]) ∧ w' = W.alloc (.cells #[.slice ao l.length cap] 29)) := fun k W => callsIn_wide.2 (levels_any ao l.length cap W)
  obtain ⟨sv, hsv⟩ : ∃ sv, sv = Value.slice ao l.length cap := ⟨_, rfl⟩
  obtain ⟨L0, hL0⟩ : ∃ L0, L0 = leavesD (l.map by') := ⟨_, rfl⟩
  have hl0 : L0.length = 2 ^ m := by rw [hL0, leavesD_len, List.length_map, hm]
  have ha0 : All8 L0 := by rw [hL0]; exact all8_leaves _
  have him : i < 2 ^ m := by rw [← hm]; have := (wid_le hlen).1; omega
  have hm20 : 2 ^ m ≤ 1048576 := by rw [← hm]; exact (wid_le hlen).2.1
  have hm21 : m ≤ 20 := by
    by_cases h : m ≤ 20
    · exact h
    · have h5 : 2 ^ 21 ≤ 2 ^ m := Nat.pow_le_pow_right (by omega) (by omega)
      omega
  have hc := levels_counts 4 (by omega) (w.heap.size + 1 + 1) m sv l hlen hsz hm (PrI w sv L0 i m) (fun W h => ⟨by rw [cell_of_row _ _ _ _ _ _ h.box]; rfl, by rw [← hsv] at hX; exact hX.below h.bl⟩) (fun k W W' h hb => h.below hb)
  rw [← hL0] at hc ⊢
  have HL0 := Lib.hid hL0
  clear hL0
  refine callsIn_of_wp_marks Try.func24 rfl trivial ?_ rfl
  simp only [Try.ntmps24, List.size_toArray, List.length_cons, List.length_nil, Nat.reduceAdd, Nat.reduceSub, Array.replicate_succ, Array.replicate_zero, List.push_toArray, List.append_toArray, List.nil_append, List.cons_append]
  gi_wp2_with (gi_at_call 40; refine (H40.out _ _).mono ?_; rintro e w' ⟨rfl, rfl⟩)
  have hB0 : Below w.heap.size w (((w.alloc (.cells #[.int .i64 (i : Nat)] 3)).alloc (.cells #[.slice none 0 0] 29)).alloc (.cells #[.slice ao l.length cap] 29)) := by go_grown
  have hI0 : PrI w sv L0 i m 0 (((w.alloc (.cells #[.int .i64 (i : Nat)] 3)).alloc (.cells #[.slice none 0 0] 29)).alloc (.cells #[.slice ao l.length cap] 29)) := by
    refine ⟨?_, ⟨.slice none 0 0, ?_, ?_⟩, ?_, hB0⟩
    · rw [Nat.zero_min, Nat.pow_zero, Nat.div_one]
      exact (Below.heap_alloc _ _ _ (by simp; omega)).trans ((Below.heap_alloc _ _ _ (by simp)).trans (heap_alloc_new _ _))
    · refine (Below.heap_alloc _ _ _ (by simp)).trans ?_
      have := heap_alloc_new (w.alloc (.cells #[.int .i64 (i : Nat)] 3)) (.cells #[.slice none 0 0] 29)
      rwa [World.size_alloc] at this
    · rw [Nat.zero_min]
      exact ⟨rfl, .inl ⟨rfl, rfl⟩⟩
    · have := heap_alloc_new ((w.alloc (.cells #[.int .i64 (i : Nat)] 3)).alloc (.cells #[.slice none 0 0] 29)) (.cells #[.slice ao l.length cap] 29)
      rw [World.size_alloc, World.size_alloc] at this
      rw [hsv]; exact this
  obtain ⟨i0, hii, hz0, hz1, hz2⟩ := info_parts Try.info9
  refine rangeFunc_countsL rfl (by omega) (gf := 45) (lb := #[.pointer (some ⟨w.heap.size + 1 + 1, 0, none⟩)]) rfl trivial (enters_of Try.func45 (by kernel_rfl) rfl) hc rfl (prI_own (by simp; omega)) (fun v => dx_own _ v (fun k => lvl k L0)) hI0
    (fun v => { tmps := #[.slice ao l.length cap, .int .i64 (i : Nat), undef, .pointer (some ⟨w.heap.size, 0, none⟩), .slice none 0 0, .bool false, .pointer (some ⟨w.heap.size + 1, 0, none⟩), v, .int .i64 (i : Nat), .bool (decide ((i : Int) < 0)), .bool (decide ((i : Int) < 0)), .int .i64 (i : Nat), .slice ao l.length cap, .int .i64 (l.length : Nat), .bool false, .bool (decide ((i : Int) < 0)), .slice ao l.length cap, .func (.func 45) #[] #[.pointer (some ⟨w.heap.size + 1 + 1, 0, none⟩)], v, undef, undef, undef, undef, undef, undef, undef, undef, undef, undef, undef, undef, undef, undef, undef], defers := [] }) ?assign ?body ?done
  case assign =>
    intro y v W K hK
    gi_wp2
    exact hK
  case body =>
    intro y k v W hk hI hx
    obtain ⟨N, hN⟩ : ∃ N, N = (lvl k L0).length := ⟨_, rfl⟩
    have hNm : N = 2 ^ (m - k) := by rw [hN, lvl_len k m L0 hl0 (by omega)]
    obtain ⟨pv, hpv, hown⟩ := hI.pf
    have hbi := hI.bi
    by_cases hkm : k = m
    · have hX2 := hx
      obtain ⟨ha, b, off, cap2, cs, fr, rfl, _⟩ := hx
      rw [← hN] at hX2 ⊢
      have hN1 : N = 1 := by rw [hNm, hkm, Nat.sub_self]
      subst hN1
      have HI : Hid (PrI w sv L0 i m (k + 1) W) := Lib.hid ⟨by rw [show min (k + 1) m = min k m by omega]; exact hbi, ⟨pv, hpv, by rw [show min (k + 1) m = min k m by omega]; exact hown⟩, hI.box, hI.bl⟩
      have HX2 := Lib.hid hX2
      clear hX2 hN hNm hI hpv hown hbi hX hc hI0 hB0 ha
      gi_wp2
      exact ⟨KeepsFrom.refl _ _, HI.out, HX2.out⟩
    · have hkm2 : k < m := by omega
      rw [show min k m = k by omega] at hbi hown
      have hp : 2 ^ (m - k) = 2 * 2 ^ (m - (k + 1)) := by rw [show m - k = m - (k + 1) + 1 by omega, Nat.pow_succ, Nat.mul_comm]
      have hp1 : 1 ≤ 2 ^ (m - (k + 1)) := Nat.one_le_two_pow
      have hxlt : i / 2 ^ k < 2 ^ (m - k) := by
        rw [Nat.div_lt_iff_lt_mul (Nat.two_pow_pos k), ← Nat.pow_add, show m - k + k = m by omega]
        exact him
      have hple : 2 ^ (m - k) ≤ 1048576 := Nat.le_trans (Nat.pow_le_pow_right (by omega) (by omega)) hm20
      have hjlt : nbr (i / 2 ^ k) < N := by
        rw [hNm, show m - k = m - (k + 1) + 1 by omega]
        exact nbr_lt (by rw [← show m - k = m - (k + 1) + 1 by omega]; exact hxlt)
      obtain ⟨x, hxd⟩ : ∃ x, x = i / 2 ^ k := ⟨_, rfl⟩
      obtain ⟨j, hj⟩ : ∃ j, j = nbr x := ⟨_, rfl⟩
      rw [← hxd] at hbi hxlt hjlt
      rw [← hj] at hjlt
      have hxb : x < 4294967296 := by omega
      have hxor := bits_nbr x (by omega)
      rw [← hj] at hxor
      have hX2 := hx
      obtain ⟨ha, b, off, cap2, cs, fr, rfl, hcap2, hh, hcl⟩ := hx
      rw [← hN] at hX2 hcap2 ⊢
      obtain ⟨ao2, pn, pcap, rfl⟩ := slice_of_owns hown
      have hd8 : ((lvl k L0).getD j []).length = 8 := by
        rw [show (lvl k L0).getD j [] = (lvl k L0)[j] by simp [List.getD, ← hN, hjlt]]
        exact ha _ (List.getElem_mem _)
      obtain ⟨d0, d1, d2, d3, d4, d5, d6, d7, ed⟩ := dval_eight hd8
      obtain ⟨q, hq⟩ : ∃ q, q = off + j * 8 := ⟨_, rfl⟩
      have hi1 := run_at57 b off N cap2 j hjlt (j : Int) rfl q hq
      obtain ⟨s, hs⟩ : ∃ s, s = sA ((lvl k L0).getD j []) := ⟨_, rfl⟩
      have HT : Hid (∀ k W, CallsIn Fence.wide k Try.prog 33 #[.agg #[.int .u8 d0, .int .u8 d1, .int .u8 d2, .int .u8 d3, .int .u8 d4, .int .u8 d5, .int .u8 d6, .int .u8 d7]] W fun e w' => e = .returned (.string s) ∧ Below W.heap.size W w') := fun k W => callsIn_wide.2 (by rw [← ed, hs]; exact text_any _ hd8 W)
      have HCL : Hid (∀ W', Below W.heap.size W W' → W'.cell? ⟨b, q, none⟩ = some (.int .u8 d0) ∧ W'.cell? ⟨b, q + 1, none⟩ = some (.int .u8 d1) ∧ W'.cell? ⟨b, q + 2, none⟩ = some (.int .u8 d2) ∧ W'.cell? ⟨b, q + 3, none⟩ = some (.int .u8 d3) ∧ W'.cell? ⟨b, q + 4, none⟩ = some (.int .u8 d4) ∧ W'.cell? ⟨b, q + 5, none⟩ = some (.int .u8 d5) ∧ W'.cell? ⟨b, q + 6, none⟩ = some (.int .u8 d6) ∧ W'.cell? ⟨b, q + 7, none⟩ = some (.int .u8 d7)) := fun W' hb' => dx_cells (fun j hj i hi => cell_later hb' (hcl j hj i hi)) (by rw [← hN]; exact hjlt) hq ed
      obtain ⟨k0, k1, k2, k3, k4, k5, k6, k7⟩ := HCL.out W (Below.refl _ _)
      have c0 : W.cell? ⟨w.heap.size, 0, none⟩ = some (.int .i64 (x : Nat)) := by rw [cell_of_row _ _ _ _ _ _ hbi]; rfl
      have c1 : W.cell? ⟨w.heap.size + 1, 0, none⟩ = some (.slice ao2 pn pcap) := by rw [cell_of_row _ _ _ _ _ _ hpv]; rfl
      have hN1 : 1 < N := by rw [hNm]; omega
      have HI := Lib.hid hI
      have HX2 := Lib.hid hX2
      have HO := Lib.hid hown
      have HPV := Lib.hid hpv
      have HBI := Lib.hid hbi
      have HS := Lib.hid hs
      have HXD := Lib.hid hxd
      have HJ := Lib.hid hj
      clear hI hX2 hown hpv hbi hs hxd hj hq hN hNm hp hp1 hple hX hc hI0 hB0 ha hh hcl hd8 ed hcap2 hl0 ha0 hm him
      have hk20 : k < 20 := by omega
      gi_wp2_with fail
      gi_region_with (gi_at_call 33; refine (CallsIn.inRound y (HT.out _ _)).mono ?_; rintro e w1 ⟨rfl, hb⟩; have hbw : Below W.heap.size W w1 := (show Below W.heap.size W W.drew by go_grown).trans hb; have c1' : w1.cell? ⟨w.heap.size + 1, 0, none⟩ = some (.slice ao2 pn pcap) := cell_later hbw c1; have c1'' : (w1.alloc (.cells #[.string s] 9)).cell? ⟨w.heap.size + 1, 0, none⟩ = some (.slice ao2 pn pcap) := cell_later (hbw.alloc hbw.size _) c1; have hO1 := owns_kept HO.out (KeptC.of_below hbw); obtain ⟨v', w3, hrun, hown', hgrow, hnil⟩ := run_append_own (P := Try.prog) (w1.alloc (.cells #[.string s] 9)) w.heap.size 29 29 9 i0 (.string ⟨#[]⟩) 1 16 Try.underlying29 hii hz0 hz1 hz2 rfl (by decide) (.slice ao2 pn pcap) k _ (hO1.alloc _) ⟨w1.heap.size, 0, none⟩ 1 1 [.string s] rfl (cell_one_new _ _ _) (fun x hx => by simp at hx; subst hx; rfl) (by unfold maxLen; omega) (by omega) (by have := hbw.size; have := HI.out.bl.size; simp; omega); rw [appX_rw] at hrun; obtain ⟨ao3, n3, cap3, rfl⟩ := slice_of_owns hown'; have HOWN := Lib.hid hown'; have HAS := Lib.hid (append_step hbw HI.out.bl.size hO1 hgrow); have r1 := HAS.out.1 _ _ HPV.out (fun cs f e => by cases e); have r0 := HAS.out.1 _ _ HBI.out (fun cs f e => by cases e); have c13 : w3.cell? ⟨w.heap.size + 1, 0, none⟩ = some (.slice ao2 pn pcap) := (cell_of_row _ _ _ _ _ _ r1).trans rfl; have c03 : w3.cell? ⟨w.heap.size, 0, none⟩ = some (.int .i64 (x : Nat)) := (cell_of_row _ _ _ _ _ _ r0).trans rfl; have f13 := frozen_of_row _ _ 0 _ _ r1; have f03 := frozen_of_row _ _ 0 _ _ r0; clear hown' hgrow hnil r1 r0 hb hbw hO1)
      all_goals
        have hn := HI.out.next hkm2 HPV.out HAS.out.1 HAS.out.2.1 (by rw [← HXD.out, ← HJ.out, ← HS.out]; exact HOWN.out)
        rw [← HXD.out, show ((x / 2 : Nat) : Int) = (x : Int) / 2 by omega] at hn
        have HN := Lib.hid hn
        clear hn
        gi_wp2
        exact ⟨((HAS.out.2.2.trans (KeepsOthers.setCell _ _ _)).trans (KeepsOthers.setCell _ _ _)).from _, HN.out, dx_round HX2.out HAS.out.1 HPV.out HBI.out⟩
  case done =>
    intro D W hD hI hK
    obtain ⟨pv, hpv, hown⟩ := hI.pf
    rw [show min (m + 1) m = m by omega] at hown
    obtain ⟨ao2, pn, pcap, rfl⟩ := slice_of_owns hown
    have c1 : W.cell? ⟨w.heap.size + 1, 0, none⟩ = some (.slice ao2 pn pcap) := by rw [cell_of_row _ _ _ _ _ _ hpv]; rfl
    have HO := Lib.hid hown
    have HBL := Lib.hid hI.bl
    clear hown hI hpv hX hc hI0 hB0 hl0 ha0 hm him
    gi_wp2
    refine ⟨by simp, .inl ⟨_, _, rfl, run_takeDeferred hK, ?_⟩⟩
    refine ⟨_, results_tmp2 rfl _ _ _, ⟨_, rfl, ?_, ?_⟩⟩
    · exact owns_kept HO.out (KeptC.of_grown (grownBy_putObj' W D (.deferred none)) (fun r e => by cases e; exact ⟨_, hK, rfl⟩))
    · exact HBL.out.grown (grownBy_putObj' W D _) (by have := HBL.out.size; omega) (fun k e => by cases e; simp at hD; omega)

end Go.Proofs.Ytkkbjkjmhjgaiaa
