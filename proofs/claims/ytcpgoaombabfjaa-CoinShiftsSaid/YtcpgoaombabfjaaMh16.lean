/- What the calls of CoinLeast return; two slices of one's own at once; what its drawn region makes. No condition beyond those that are stated. What CoinShifts asks of numbers: the ratio, any number of times more, changes no difference of loads. No condition beyond those that are stated. What CoinShifts makes: blocks of ints that are written in place; two rows made at once; a round's new value. No condition beyond those that are stated. What CoinShifts' last calls return: the same for both pairs of rows. No condition beyond those that are stated. What the operations of CoinShifts' last region return. No condition. The choices' numbers are small. No condition beyond those that are stated. -/
import Derived.Test.YtcpgoaombabfjaaMh15
import Derived.Test.YtcpgoaombabfjaaMh6
import Derived.Test.YtcpgoaombabfjaaMh5
namespace Go.Proofs.Ytcpgoaombabfjaa
open Go Go.RowKit

/-- Two slices of one's own, which lie apart. -/
structure TwO (W wr : World) (B : Nat) (v : Value) (n : Nat) (R : List Int) (u : Value) (m : Nat) (S : List Int) : Prop where
  o : OwI wr B v n R
  p : OwI wr B u m S
  ne : ∀ g, v.ownBlock = some g → u.ownBlock ≠ some g
  bl : Below B W wr
  lt : B ≤ wr.heap.size
theorem TwO.swap {W wr : World} {B : Nat} {v : Value} {n : Nat} {R : List Int} {u : Value} {m : Nat} {S : List Int} (h : TwO W wr B v n R u m S) : TwO W wr B u m S v n R :=
  ⟨h.p, h.o, fun g h1 h2 => h.ne g h2 h1, h.bl, h.lt⟩
theorem TwO.later {W wr w' : World} {B : Nat} {v : Value} {n : Nat} {R : List Int} {u : Value} {m : Nat} {S : List Int} (h : TwO W wr B v n R u m S) (hb : Below wr.heap.size wr w') : TwO W w' B v n R u m S :=
  ⟨owns_later h.o hb, owns_later h.p hb, h.ne, h.bl.trans (hb.mono h.lt), Nat.le_trans h.lt hb.size⟩
theorem TwO.step {W wr : World} {B : Nat} {v : Value} {n : Nat} {R : List Int} {u : Value} {m : Nat} {S : List Int} (h : TwO W wr B v n R u m S) (hn : n ≤ 1000) (x : Int) :
    ∃ g cap w2, Sem.run Try.prog (appI 22 #[v, .slice (some ⟨wr.heap.size, 0, none⟩) 1 1]) (wr.alloc (.cells #[.int .i64 x] 3)) = .ok (.slice (some ⟨g, 0, none⟩) (n + 1) cap) w2 ∧ TwO W w2 B (.slice (some ⟨g, 0, none⟩) (n + 1) cap) (n + 1) (R ++ [x]) u m S := by
  obtain ⟨g, cap, w2, hrun, hown, hb, hgr, hg, hgl⟩ := push_int h.o hn h.lt x
  refine ⟨g, cap, w2, hrun, ⟨hown, owns_same h.p (fun j hj => ?_), fun j h1 h2 => ?_, h.bl.trans hb, Nat.le_trans h.lt hb.size⟩⟩
  · have hl := (own_lt h.p hj).2
    rw [grown_block hgr (by rw [World.size_alloc]; omega) (fun e => h.ne j e hj)]
    exact Below.heap_alloc wr _ j hl
  · have e : g = j := by simpa [Value.ownBlock] using h1
    subst e
    rcases hg with e2 | e2
    · exact h.ne g e2 h2
    · have := (own_lt h.p h2).2; omega

/-- One more is appended; what else one owns stays. -/
theorem TwO.step3 {W wr : World} {B : Nat} {v : Value} {n : Nat} {R : List Int} {u : Value} {m : Nat} {S : List Int} (h : TwO W wr B v n R u m S) (hn : n ≤ 1000) (x : Int) :
    ∃ g cap w2, Sem.run Try.prog (appI 22 #[v, .slice (some ⟨wr.heap.size, 0, none⟩) 1 1]) (wr.alloc (.cells #[.int .i64 x] 3)) = .ok (.slice (some ⟨g, 0, none⟩) (n + 1) cap) w2 ∧ TwO W w2 B (.slice (some ⟨g, 0, none⟩) (n + 1) cap) (n + 1) (R ++ [x]) u m S ∧ ∀ z nz Z Bz, OwI wr Bz z nz Z → (∀ g, v.ownBlock = some g → g < Bz) → OwI w2 Bz z nz Z := by
  obtain ⟨g, cap, w2, hrun, hown, hb, hgr, hg, hgl⟩ := push_int h.o hn h.lt x
  refine ⟨g, cap, w2, hrun, ⟨hown, owns_same h.p (fun j hj => ?_), fun j h1 h2 => ?_, h.bl.trans hb, Nat.le_trans h.lt hb.size⟩, fun z nz Z Bz hz hlt => owns_same hz (fun j hj => ?_)⟩
  · have hl := (own_lt h.p hj).2
    rw [grown_block hgr (by rw [World.size_alloc]; omega) (fun e => h.ne j e hj)]
    exact Below.heap_alloc wr _ j hl
  · have e : g = j := by simpa [Value.ownBlock] using h1
    subst e
    rcases hg with e2 | e2
    · exact h.ne g e2 h2
    · have := (own_lt h.p h2).2; omega
  · have hl := own_lt hz hj
    rw [grown_block hgr (by rw [World.size_alloc]; omega) (fun e => by have := hlt j e; omega)]
    exact Below.heap_alloc wr _ j hl.2

/-- What holds in the region that makes the sum. -/
structure LW (W0 Wx : World) (B : Nat) (vO : Value) (n : Nat) (O : List Int) (m : Nat) (S : List Int) (g : Int) (l : Array Bool) (vals : Nat → Value) (w : World) : Prop where
  a : l.getD 8 true = false → Below Wx.heap.size Wx w
  b : l.getD 8 true = true → l.getD 9 true = false → ∃ w1, Below Wx.heap.size Wx w1 ∧ w = w1.alloc (.cells #[.int .i64 g] 3) ∧ vals 8 = .slice (some ⟨w1.heap.size, 0, none⟩) 1 1
  c : l.getD 9 true = true → ∃ q cap, vals 9 = .slice (some ⟨q, 0, none⟩) (m + 1) cap ∧ TwO W0 w B vO n O (.slice (some ⟨q, 0, none⟩) (m + 1) cap) (m + 1) (S ++ [g])
  d : l.getD 10 true = true → vals 10 = vals 9
section
variable {W0 Wx w w' : World} {B : Nat} {vO : Value} {n : Nat} {O : List Int} {m : Nat} {S : List Int} {g : Int} {l : Array Bool} {vals : Nat → Value}
theorem LW.const (h : LW W0 Wx B vO n O m S g l vals w) {i : Nat} (hi : i < 8) (v : Value) : LW W0 Wx B vO n O m S g (l.setIfInBounds i true) (fun u => if u = i then v else vals u) w := by
  refine ⟨?_, ?_, ?_, ?_⟩
  · rw [gset_ne (by omega)]; exact h.a
  · rw [gset_ne (by omega), gset_ne (by omega)]; simpa [show ¬ 8 = i by omega] using h.b
  · rw [gset_ne (by omega)]; simpa [show ¬ 9 = i by omega] using h.c
  · rw [gset_ne (by omega)]; simpa [show ¬ 9 = i by omega, show ¬ 10 = i by omega] using h.d
theorem LW.grow (h : LW W0 Wx B vO n O m S g l vals w) (h8 : l.getD 8 true = false) (h9 : l.getD 9 true = false) (hb : Below w.heap.size w w') : LW W0 Wx B vO n O m S g l vals w' :=
  ⟨fun _ => (h.a h8).trans (hb.mono (h.a h8).size), fun h1 _ => (by rw [h8] at h1; cases h1), fun h1 => (by rw [h9] at h1; cases h1), h.d⟩
theorem LW.made (h : LW W0 Wx B vO n O m S g l vals w) (hsz : 8 < l.size) (h8 : l.getD 8 true = false) (h9 : l.getD 9 true = false) (h10 : l.getD 10 true = false) : LW W0 Wx B vO n O m S g (l.setIfInBounds 8 true) (fun u => if u = 8 then .slice (some ⟨w.heap.size, 0, none⟩) 1 1 else vals u) (w.alloc (.cells #[.int .i64 g] 3)) := by
  refine ⟨fun h1 => ?_, fun _ _ => ⟨w, h.a h8, rfl, by simp⟩, fun h1 => ?_, fun h1 => ?_⟩
  · simp [Array.getD, hsz] at h1
  · rw [gset_ne (by omega), h9] at h1; cases h1
  · rw [gset_ne (by omega), h10] at h1; cases h1
theorem LW.app (h : LW W0 Wx B vO n O m S g l vals w) (h8 : l.getD 8 true = true) (hsz : 9 < l.size) (h10 : l.getD 10 true = false) {q cap : Nat} (ht : TwO W0 w' B vO n O (.slice (some ⟨q, 0, none⟩) (m + 1) cap) (m + 1) (S ++ [g])) : LW W0 Wx B vO n O m S g (l.setIfInBounds 9 true) (fun u => if u = 9 then .slice (some ⟨q, 0, none⟩) (m + 1) cap else vals u) w' := by
  refine ⟨fun h1 => ?_, fun _ h1 => ?_, fun _ => ⟨q, cap, by simp, ht⟩, fun h1 => ?_⟩
  · rw [gset_ne (by omega), h8] at h1; cases h1
  · simp [Array.getD, hsz] at h1
  · rw [gset_ne (by omega), h10] at h1; cases h1
theorem LW.set (h : LW W0 Wx B vO n O m S g l vals w) (h8 : l.getD 8 true = true) (h9 : l.getD 9 true = true) {v : Value} (hv : v = vals 9) : LW W0 Wx B vO n O m S g (l.setIfInBounds 10 true) (fun u => if u = 10 then v else vals u) w := by
  refine ⟨fun h1 => ?_, fun _ h1 => ?_, ?_, fun _ => by simpa using hv⟩
  · rw [gset_ne (by omega), h8] at h1; cases h1
  · rw [gset_ne (by omega), h9] at h1; cases h1
  · rw [gset_ne (by omega)]; simpa using h.c
end

section
variable {r row : List Int} {cn cd : Nat}
theorem nx_row (h : MadeOk r cn cd) (hf : RowOk r row) {K : Nat} (hK : K < r.length) : nxB r row (K : Int) = decide (0 < r.getD K 0) ∧ (0 < r.getD K 0 → nxV r row (K : Int) = mor (unV r row) K) := by
  have hfi := hf.fi
  have e : nxB r row (K : Int) = decide (0 < r.getD K 0) := by
    have h5 : (unV r row).getD K 0 ≠ 1048575 := by
      by_cases h0 : row.length = 0
      · rw [unV_get0 h0]; omega
      · rw [unV_row h0]; have := hf.2 K; omega
    unfold nxB
    rw [h.pr, hfi, Int.toNat_natCast, decide_eq_true (show (0 : Int) ≤ (K : Int) by omega), decide_eq_true (show (K : Int) < (r.length : Int) by omega), decide_eq_true h5]
    simp
  refine ⟨e, fun hp => ?_⟩
  rw [nxV_yes (by rw [e]; exact decide_eq_true hp), Int.toNat_natCast]
theorem une_mor (h : MadeOk r cn cd) (hf : RowOk r row) (K : Nat) : uneV r (mor (unV r row) K) = unev r (mor (unV r row) K) := by
  have hl : (mor (unV r row) K).length = r.length := by rw [mor_len]; exact unV_len hf.fi
  have hi : ∀ i, 0 ≤ (unV r row).getD i 0 ∧ (unV r row).getD i 0 ≤ 6 := fun i => by
    by_cases h0 : row.length = 0
    · rw [unV_get0 h0]; omega
    · rw [unV_row h0]; exact hf.2 i
  have hm : ∀ i, 0 ≤ (mor (unV r row) K).getD i 0 ∧ (mor (unV r row) K).getD i 0 ≤ 1048575 := fun i => by
    by_cases hk : K < (unV r row).length
    · rw [mor_get hk]; have := hi i; have := hi K; split <;> omega
    · unfold mor; rw [List.set_eq_of_length_le (by omega)]; have := hi i; omega
  have h2 := h.l2
  unfold uneV
  rw [h.pr, fi_row hl hm, Bool.true_and, if_pos rfl, unV_row (by omega)]
end

theorem map_get (f : Nat → Int) {o : List Nat} {i : Nat} (h : i < o.length) : (o.map f).getD i 0 = f (o.getD i 0) := by simp [List.getD, h]
theorem map_fit {f : Nat → Int} (h : ∀ k, 0 ≤ f k ∧ f k ≤ 1761607680) (o : List Nat) (j : Nat) : 0 ≤ (o.map f).getD j 0 ∧ (o.map f).getD j 0 ≤ 1761607680 := by
  by_cases hj : j < o.length
  · rw [map_get f hj]; exact h _
  · rw [out_zero (by simpa using hj)]; omega
theorem asI_fit {o : List Nat} {n : Nat} (h : ∀ x ∈ o, x < n) (j : Nat) : 0 ≤ (asI o).getD j 0 ∧ (asI o).getD j 0 ≤ (n : Int) := by
  by_cases hj : j < o.length
  · unfold asI
    rw [map_get _ hj]
    have : o.getD j 0 ∈ o := by
      have e : o.getD j 0 = o[j] := by simp [List.getD, hj]
      rw [e]; exact List.getElem_mem hj
    have := h _ this
    omega
  · rw [out_zero (by simpa [asI] using hj)]; omega
theorem op_fit (r : List Int) (n j : Nat) : 0 ≤ (asI (opN r n)).getD j 0 ∧ (asI (opN r n)).getD j 0 ≤ (n : Int) := asI_fit (fun _ h => (mem_opN h).1) j
theorem ls_fit (r s t : List Int) (n i j : Nat) : 0 ≤ (asI (lsL r s t (opN r n) i)).getD j 0 ∧ (asI (lsL r s t (opN r n) i)).getD j 0 ≤ (n : Int) :=
  asI_fit (fun x h => by unfold lsL at h; exact (mem_opN (List.mem_of_mem_take (List.mem_filter.1 h).1)).1) j

end Go.Proofs.Ytcpgoaombabfjaa

namespace Go.Proofs.Ytcpgoaombabfjaa
open Go Go.RowKit

theorem unev_shift {r l l' : List Int} {c : Int} (h : prB r = true) (hl : ∀ j, j < r.length → 0 < r.getD j 0 → load r l' (mulN r r.length) j = load r l (mulN r r.length) j + c) : unev r l' = unev r l := by
  obtain ⟨a, b, ⟨a1, a2⟩, ⟨b1, b2⟩, hu, hc⟩ := unev_is (l := l) h
  obtain ⟨a', b', ⟨a1', a2'⟩, ⟨b1', b2'⟩, hu', hc'⟩ := unev_is (l := l') h
  rw [hu, hu']
  have x1 := hc a' a1' a2'
  have x2 := hc b' b1' b2'
  have y1 := hc' a a1 a2
  have y2 := hc' b b1 b2
  rw [hl a a1 a2] at y1
  rw [hl b b1 b2] at y2
  rw [hl a' a1' a2'] at y1 y2 ⊢
  rw [hl b' b1' b2'] at y1 y2 ⊢
  omega

/-- What CoinShifts makes of a row. -/
structure Sh (r s u : List Int) (c d : Int) : Prop where
  len : u.length = r.length
  at' : ∀ j, j < r.length → u.getD j 0 = s.getD j 0 + c * r.getD j 0 + if r.getD j 0 = 0 then d else 0

theorem load_shift {r l l' : List Int} {c : Int} {k : Nat} (hk : k < r.length) (hp : 0 < r.getD k 0) (hl : l'.getD k 0 = l.getD k 0 + c * r.getD k 0) : load r l' (mulN r r.length) k = load r l (mulN r r.length) k + c * (mulN r r.length : Nat) := by
  obtain ⟨b, hb⟩ := r_dvd hk hp
  unfold load
  have e : ((mulN r r.length : Nat) : Int) / r.getD k 0 = b := by rw [hb]; exact Int.mul_ediv_cancel_left _ (by omega)
  rw [hl, e, Int.add_mul, Int.mul_assoc, ← hb]

theorem Sh.unev {r s u : List Int} {c d : Int} (h : Sh r s u c d) (hp : prB r = true) : unev r u = unev r s :=
  unev_shift (c := c * (mulN r r.length : Nat)) hp (fun j h1 h2 => load_shift h1 h2 (by rw [h.at' j h1, if_neg (by omega), Int.add_zero]))
theorem Sh.mor {r s u : List Int} {c d : Int} (h : Sh r s u c d) (hs : s.length = r.length) {k : Nat} (hk : k < r.length) : Sh r (mor s k) (mor u k) c d := by
  refine ⟨by rw [mor_len, h.len], fun j hj => ?_⟩
  rw [mor_get (by rw [h.len]; exact hk), mor_get (by rw [hs]; exact hk)]
  by_cases e : j = k
  · subst e; rw [if_pos rfl, if_pos rfl, h.at' j hj]; omega
  · rw [if_neg e, if_neg e]; exact h.at' j hj
theorem tog_shift {r s t u v : List Int} {c c' d d' : Int} (hp : prB r = true) (h : Sh r s u c d) (h' : Sh r t v c' d') (hs : s.length = r.length) (ht : t.length = r.length) {k : Nat} (hk : k < r.length) : tog r u v k = tog r s t k := by
  unfold tog
  rw [(h.mor hs hk).unev hp, (h'.mor ht hk).unev hp]
theorem best_shift {r s t u v : List Int} {c c' d d' : Int} (hp : prB r = true) (h : Sh r s u c d) (h' : Sh r t v c' d') (hs : s.length = r.length) (ht : t.length = r.length) : ∀ k, k ≤ r.length → best r u v k = best r s t k
  | 0, _ => rfl
  | k + 1, hk => by
    have ih := best_shift hp h h' hs ht k (by omega)
    rw [best, best, ih, tog_shift hp h h' hs ht (show k < r.length by omega)]
theorem prf_shift {r s t u v : List Int} {c c' d d' : Int} (hp : prB r = true) (hs : fiB r s = true) (ht : fiB r t = true) (h0 : r.length ≠ 0) (h : Sh r (unV r s) u c d) (h' : Sh r (unV r t) v c' d') (hu : fiB r u = true) (hv : fiB r v = true) : prfV r u v = prfV r s t := by
  unfold prfV prfB
  rw [hp, hs, ht, hu, hv, unV_row (show u.length ≠ 0 by rw [h.len]; exact h0), unV_row (show v.length ≠ 0 by rw [h'.len]; exact h0), best_shift hp h h' (unV_len hs) (unV_len ht) _ (Nat.le_refl _)]
theorem une_shift {r s u : List Int} {c d : Int} (hp : prB r = true) (hs : fiB r s = true) (h0 : r.length ≠ 0) (h : Sh r (unV r s) u c d) (hu : fiB r u = true) : uneV r u = uneV r s := by
  unfold uneV
  rw [hp, hs, hu, unV_row (show u.length ≠ 0 by rw [h.len]; exact h0), h.unev hp]

end Go.Proofs.Ytcpgoaombabfjaa

namespace Go.Proofs.Ytcpgoaombabfjaa
open Go Go.RowKit

/-- A block that holds ints. -/
abbrev IB (W : World) (g : Nat) (L : List Int) : Prop := W.heap[g]? = some (.cells (ints L).toArray 3 (0, 0))
section
variable {W W' : World} {g : Nat} {L : List Int}
theorem ints_get {L : List Int} {k : Nat} (h : k < L.length) : (ints L)[k]? = some (.int .i64 (L.getD k 0)) := by
  simp [ints, List.getD, h]
theorem IB.cell (h : IB W g L) {k : Nat} (hk : k < L.length) : W.cell? ⟨g, k, none⟩ = some (.int .i64 (L.getD k 0)) := by
  refine cell_of_row _ _ _ _ _ _ h |>.trans ?_
  simp [ints_get hk]
theorem IB.lt (h : IB W g L) : g < W.heap.size := (Array.getElem?_eq_some_iff.1 h).1
theorem IB.free (h : IB W g L) (k : Nat) : W.frozen? ⟨g, k, none⟩ = false := frozen_of_row _ _ k _ _ h
theorem IB.set (h : IB W g L) {k : Nat} (x : Int) : IB (W.setCell ⟨g, k, none⟩ (.int .i64 x)) g (L.set k x) := by
  have h2 := heap_setCell_same _ g k _ 3 (.int .i64 x) h
  rw [IB, h2]
  congr 2
  simp [ints, List.map_set]
theorem IB.other (h : IB W g L) {q k : Nat} {v : Value} (hq : g ≠ q) : IB (W.setCell ⟨q, k, none⟩ v) g L := (Below.heap_setCell _ _ _ _ (by simpa using hq)).trans h
theorem IB.later (h : IB W g L) (hb : Below W.heap.size W W') : IB W' g L := (hb.block g h.lt).trans h
theorem IB.ix (h : IB W g L) {cap : Nat} (hn : L.length ≤ cap) (hl : L.length ≤ 1000) (hf : ∀ k, I64 (L.getD k 0)) : Ix W (.slice (some ⟨g, 0, none⟩) L.length cap) L :=
  ⟨by unfold maxLen; omega, hf, .inr ⟨g, 0, cap, rfl, hn, h.lt, fun j hj => by rw [Nat.zero_add]; exact h.cell hj⟩⟩
end

/-- make([]int, n) -/
theorem made_full (k : Nat) (hk : k ≤ 1000) (W : World) : (Instr.makeSlice 22 (.int .i64 (k : Int)) (.int .i64 (k : Int))).run Try.prog W = .ok (.slice (some ⟨W.heap.size, 0, none⟩) k k) (W.alloc (.cells (ints (List.replicate k 0)).toArray 3)) := by
  obtain ⟨i0, hii, hz0, hz1, hz2⟩ := info_parts Try.info3
  have h := run_makeSlice (P := Try.prog) W 22 3 i0 (.int .i64 0) Try.underlying22 hii hz0 .i64 .i64 (k : Int) (k : Int) (by omega) (by omega) (by rw [hz1]; simp; omega) (by rw [hz2]; omega) (by omega)
  rw [hz1] at h
  simp only [Int.toNat_natCast] at h
  have e : madeCells (Value.int .i64 0).cells (k * 1) = (ints (List.replicate k 0)).toArray := by
    apply Array.ext'
    rw [show (Value.int .i64 0).cells = #[.int .i64 0] from rfl, toList_madeCells_one]
    simp [ints]
  rw [e] at h
  exact h

/-- What holds while two rows are made. -/
structure MK (Wx : World) (n : Nat) (l : Array Bool) (vals : Nat → Value) (w : World) : Prop where
  b : Below Wx.heap.size Wx w
  p3 : l.getD 3 true = true → ∃ g, vals 3 = .slice (some ⟨g, 0, none⟩) n n ∧ Wx.heap.size ≤ g ∧ IB w g (List.replicate n 0)
  p7 : l.getD 7 true = true → ∃ g, vals 7 = .slice (some ⟨g, 0, none⟩) n n ∧ Wx.heap.size ≤ g ∧ IB w g (List.replicate n 0)
  ne : l.getD 3 true = true → l.getD 7 true = true → vals 3 ≠ vals 7
  s8 : l.getD 8 true = true → vals 8 = vals 3
  s9 : l.getD 9 true = true → vals 9 = vals 7
section
variable {Wx w : World} {n : Nat} {l : Array Bool} {vals : Nat → Value}
theorem MK.const (h : MK Wx n l vals w) {i : Nat} (hi : i = 0 ∨ i = 1 ∨ i = 2 ∨ i = 4 ∨ i = 5 ∨ i = 6) (v : Value) : MK Wx n (l.setIfInBounds i true) (fun u => if u = i then v else vals u) w := by
  refine ⟨h.b, ?_, ?_, ?_, ?_, ?_⟩
  · rw [gset_ne (by omega)]; simpa [show ¬ 3 = i by omega] using h.p3
  · rw [gset_ne (by omega)]; simpa [show ¬ 7 = i by omega] using h.p7
  · rw [gset_ne (by omega), gset_ne (by omega)]; simpa [show ¬ 3 = i by omega, show ¬ 7 = i by omega] using h.ne
  · rw [gset_ne (by omega)]; simpa [show ¬ 8 = i by omega, show ¬ 3 = i by omega] using h.s8
  · rw [gset_ne (by omega)]; simpa [show ¬ 9 = i by omega, show ¬ 7 = i by omega] using h.s9
theorem MK.make3 (h : MK Wx n l vals w) (h8 : l.getD 8 true = false) : MK Wx n (l.setIfInBounds 3 true) (fun u => if u = 3 then .slice (some ⟨w.heap.size, 0, none⟩) n n else vals u) (w.alloc (.cells (ints (List.replicate n 0)).toArray 3)) := by
  have ha : Below w.heap.size w (w.alloc (.cells (ints (List.replicate n 0)).toArray 3)) := (Below.refl _ _).alloc (Nat.le_refl _) _
  refine ⟨h.b.alloc h.b.size _, fun _ => ⟨w.heap.size, by simp, h.b.size, heap_alloc_new _ _⟩, ?_, fun _ => ?_, fun h1 => ?_, ?_⟩
  · rw [gset_ne (by omega)]; intro h1
    obtain ⟨g, e1, e2, e3⟩ := h.p7 h1
    exact ⟨g, by simpa using e1, e2, e3.later ha⟩
  · rw [gset_ne (by omega)]; intro h1
    obtain ⟨g, e1, e2, e3⟩ := h.p7 h1
    simp only [if_true, show ¬ 7 = 3 by omega, if_false]
    rw [e1]
    intro e
    have := e3.lt
    have e := (Value.slice.inj e).1
    have e := (Addr.mk.inj (Option.some.inj e)).1
    omega
  · rw [gset_ne (by omega), h8] at h1; cases h1
  · rw [gset_ne (by omega)]; simpa using h.s9
theorem MK.make7 (h : MK Wx n l vals w) (h9 : l.getD 9 true = false) : MK Wx n (l.setIfInBounds 7 true) (fun u => if u = 7 then .slice (some ⟨w.heap.size, 0, none⟩) n n else vals u) (w.alloc (.cells (ints (List.replicate n 0)).toArray 3)) := by
  have ha : Below w.heap.size w (w.alloc (.cells (ints (List.replicate n 0)).toArray 3)) := (Below.refl _ _).alloc (Nat.le_refl _) _
  refine ⟨h.b.alloc h.b.size _, ?_, fun _ => ⟨w.heap.size, by simp, h.b.size, heap_alloc_new _ _⟩, ?_, ?_, fun h1 => ?_⟩
  · rw [gset_ne (by omega)]; intro h1
    obtain ⟨g, e1, e2, e3⟩ := h.p3 h1
    exact ⟨g, by simpa using e1, e2, e3.later ha⟩
  · rw [gset_ne (by omega)]; intro h1 _
    obtain ⟨g, e1, e2, e3⟩ := h.p3 h1
    simp only [if_true, show ¬ 3 = 7 by omega, if_false]
    rw [e1]
    intro e
    have := e3.lt
    have e := (Value.slice.inj e).1
    have e := (Addr.mk.inj (Option.some.inj e)).1
    omega
  · rw [gset_ne (by omega)]; simpa using h.s8
  · rw [gset_ne (by omega), h9] at h1; cases h1
theorem MK.put8 (h : MK Wx n l vals w) {v : Value} (hv : v = vals 3) : MK Wx n (l.setIfInBounds 8 true) (fun u => if u = 8 then v else vals u) w := by
  refine ⟨h.b, ?_, ?_, ?_, fun _ => by simpa using hv, ?_⟩
  · rw [gset_ne (by omega)]; simpa using h.p3
  · rw [gset_ne (by omega)]; simpa using h.p7
  · rw [gset_ne (by omega), gset_ne (by omega)]; simpa using h.ne
  · rw [gset_ne (by omega)]; simpa using h.s9
theorem MK.put9 (h : MK Wx n l vals w) {v : Value} (hv : v = vals 7) : MK Wx n (l.setIfInBounds 9 true) (fun u => if u = 9 then v else vals u) w := by
  refine ⟨h.b, ?_, ?_, ?_, ?_, fun _ => by simpa using hv⟩
  · rw [gset_ne (by omega)]; simpa using h.p3
  · rw [gset_ne (by omega)]; simpa using h.p7
  · rw [gset_ne (by omega), gset_ne (by omega)]; simpa using h.ne
  · rw [gset_ne (by omega)]; simpa using h.s8
end

/-- A region that stores once. -/
structure ST (W1 W2 : World) (si : Nat) (l : Array Bool) (w : World) : Prop where
  a : l.getD si true = false → w = W1
  b : l.getD si true = true → w = W2
theorem ST.const {W1 W2 w : World} {si i : Nat} {l : Array Bool} (h : ST W1 W2 si l w) (hi : si ≠ i) : ST W1 W2 si (l.setIfInBounds i true) w := ⟨by rw [gset_ne hi]; exact h.a, by rw [gset_ne hi]; exact h.b⟩
theorem ST.done {W1 W2 : World} {si : Nat} {l : Array Bool} : ST W1 W2 si (l.setIfInBounds si true) W2 := ⟨fun h => (by rw [gset_self] at h; cases h), fun _ => rfl⟩
theorem set_id {L : List Int} {k : Nat} (hk : k < L.length) : L.set k (L.getD k 0) = L := by
  have e : L.getD k 0 = L[k] := by simp [List.getD, hk]
  rw [e, List.set_getElem_self]
theorem set_get {L : List Int} {k j : Nat} (x : Int) (hk : k < L.length) : (L.set k x).getD j 0 = if j = k then x else L.getD j 0 := by
  by_cases h : j = k
  · subst h; rw [if_pos rfl]; simp [List.getD, hk]
  · rw [if_neg h]; simp [List.getD, List.getElem?_set_ne (fun e => h e.symm)]
/-- What a row becomes. -/
def nwV (r s : List Int) (c d : Int) (j : Nat) : Int := s.getD j 0 + c * r.getD j 0 + if r.getD j 0 = 0 then d else 0
/-- What lies in memory while the rows are made. -/
structure ShI (W0 w : World) (g1 g2 : Nat) (r s t : List Int) (c1 c2 d : Int) (n k : Nat) (L M : List Int) : Prop where
  u : IB w g1 L
  v : IB w g2 M
  b : Below W0.heap.size W0 w
  lu : L.length = n
  lv : M.length = n
  gu : ∀ j, j < n → L.getD j 0 = if j < k then nwV r s c1 d j else 0
  gv : ∀ j, j < n → M.getD j 0 = if j < k then nwV r t c2 0 j else 0

end Go.Proofs.Ytcpgoaombabfjaa

namespace Go.Proofs.Ytcpgoaombabfjaa
open Go Go.RowKit

theorem ShI.sh {W0 w : World} {g1 g2 : Nat} {r s t : List Int} {c1 c2 d : Int} {n : Nat} {L M : List Int} (h : ShI W0 w g1 g2 r s t c1 c2 d n n L M) (hn : n = r.length) : Sh r s L c1 d ∧ Sh r t M c2 0 := by
  refine ⟨⟨by rw [h.lu, hn], fun j hj => ?_⟩, ⟨by rw [h.lv, hn], fun j hj => ?_⟩⟩
  · rw [h.gu j (by omega), if_pos (show j < n by omega)]; rfl
  · rw [h.gv j (by omega), if_pos (show j < n by omega)]; rfl
theorem Sh.bound {r s u : List Int} {c d : Int} (h : Sh r s u c d) (hr : ∀ k, 0 ≤ r.getD k 0 ∧ r.getD k 0 ≤ 3) (hs : ∀ k, 0 ≤ s.getD k 0 ∧ s.getD k 0 ≤ 6) (hc : 0 ≤ c ∧ c ≤ 255) (hd : 0 ≤ d ∧ d ≤ 255) (k : Nat) : 0 ≤ u.getD k 0 ∧ u.getD k 0 ≤ 1048575 := by
  by_cases hk : k < r.length
  · rw [h.at' k hk]
    have h1 := hr k
    have h2 := hs k
    have h3 : 0 ≤ c * r.getD k 0 := Int.mul_nonneg hc.1 h1.1
    have h4 : c * r.getD k 0 ≤ 765 := Int.le_trans (Int.mul_le_mul hc.2 h1.2 h1.1 (by omega)) (by omega)
    split <;> omega
  · rw [out_zero (by rw [h.len]; omega)]; omega
theorem shifts_all {r row row2 L M : List Int} {cn cd : Nat} {c1 c2 d : Int} (hok : MadeOk r cn cd) (h1 : RowOk r row) (h2 : RowOk r row2) (hL : Sh r (unV r row) L c1 d) (hM : Sh r (unV r row2) M c2 0) (b1 : ∀ k, 0 ≤ L.getD k 0 ∧ L.getD k 0 ≤ 1048575) (b2 : ∀ k, 0 ≤ M.getD k 0 ∧ M.getD k 0 ≤ 1048575) :
    uneV r L = uneV r row ∧ uneV r M = uneV r row2 ∧ prfV r L M = prfV r row row2 ∧ chV r L M (cn : Int) (cd : Int) = chV r row row2 (cn : Int) (cd : Int) := by
  have hl := hok.l2
  have f1 := fi_row hL.len b1
  have f2 := fi_row hM.len b2
  have hp := prf_shift hok.pr h1.fi h2.fi (by omega) hL hM f1 f2
  exact ⟨une_shift hok.pr h1.fi (by omega) hL f1, une_shift hok.pr h2.fi (by omega) hM f2, hp, by unfold chV; rw [hp]⟩

end Go.Proofs.Ytcpgoaombabfjaa

namespace Go.Proofs.Ytcpgoaombabfjaa
open Go Go.RowKit

/-- What each operation returns. -/
def SV (D s t a b : Value) (p q : Int) (P : List Int) (C : List Ch) : Nat → Value → World → Prop
  | 0, u, _ => u = .bool true
  | 1, u, _ => u = .bool true
  | 2, u, _ => u = D
  | 3, u, _ => u = s
  | 4, u, _ => u = .int .i64 p
  | 5, u, _ => u = D
  | 6, u, _ => u = a
  | 7, u, _ => u = .int .i64 p
  | 8, u, _ => u = .bool true
  | 9, u, _ => u = .bool true
  | 10, u, _ => u = .bool true
  | 11, u, _ => u = D
  | 12, u, _ => u = t
  | 13, u, _ => u = .int .i64 q
  | 14, u, _ => u = D
  | 15, u, _ => u = b
  | 16, u, _ => u = .int .i64 q
  | 17, u, _ => u = .bool true
  | 18, u, _ => u = .bool true
  | 19, u, _ => u = .bool true
  | 20, u, _ => u = D
  | 21, u, _ => u = s
  | 22, u, _ => u = t
  | 23, u, w => ∃ ao n cap, u = .slice ao n cap ∧ Ix w (.slice ao n cap) P
  | 24, u, _ => u = D
  | 25, u, _ => u = a
  | 26, u, _ => u = b
  | 27, u, w => ∃ ao n cap, u = .slice ao n cap ∧ Ix w (.slice ao n cap) P
  | 28, u, _ => u = .bool true
  | 29, u, _ => u = .bool true
  | 30, u, _ => u = .bool true
  | 31, u, _ => u = D
  | 32, u, _ => u = s
  | 33, u, _ => u = t
  | 34, u, w => ∃ ao n cap, u = .slice ao n cap ∧ Cx w (.slice ao n cap) C
  | 35, u, _ => u = D
  | 36, u, _ => u = a
  | 37, u, _ => u = b
  | 38, u, w => ∃ ao n cap, u = .slice ao n cap ∧ Cx w (.slice ao n cap) C
  | 39, u, _ => u = .bool true
  | 40, u, _ => u = .bool true
  | 41, u, _ => u = .bool true
  | _, _, _ => True
theorem SV.below {D s t a b : Value} {p q : Int} {P : List Int} {C : List Ch} {w w' : World} (hb : Below w.heap.size w w') : ∀ i x, SV D s t a b p q P C i x w → SV D s t a b p q P C i x w'
  | 0, _, h => h
  | 1, _, h => h
  | 2, _, h => h
  | 3, _, h => h
  | 4, _, h => h
  | 5, _, h => h
  | 6, _, h => h
  | 7, _, h => h
  | 8, _, h => h
  | 9, _, h => h
  | 10, _, h => h
  | 11, _, h => h
  | 12, _, h => h
  | 13, _, h => h
  | 14, _, h => h
  | 15, _, h => h
  | 16, _, h => h
  | 17, _, h => h
  | 18, _, h => h
  | 19, _, h => h
  | 20, _, h => h
  | 21, _, h => h
  | 22, _, h => h
  | 23, _, ⟨a, n, c, e, h⟩ => ⟨a, n, c, e, h.below hb⟩
  | 24, _, h => h
  | 25, _, h => h
  | 26, _, h => h
  | 27, _, ⟨a, n, c, e, h⟩ => ⟨a, n, c, e, h.below hb⟩
  | 28, _, h => h
  | 29, _, h => h
  | 30, _, h => h
  | 31, _, h => h
  | 32, _, h => h
  | 33, _, h => h
  | 34, _, ⟨a, n, c, e, h⟩ => ⟨a, n, c, e, h.below hb⟩
  | 35, _, h => h
  | 36, _, h => h
  | 37, _, h => h
  | 38, _, ⟨a, n, c, e, h⟩ => ⟨a, n, c, e, h.below hb⟩
  | 39, _, h => h
  | 40, _, h => h
  | 41, _, h => h
  | _ + 42, _, h => h

theorem got_true {T : Array Value} {j : Nat} (h : T.getD j undef = .bool true) : T[j]? = some (.bool true) := by
  rw [Array.getD_eq_getD_getElem?] at h
  cases hj : T[j]? with
  | none => rw [hj] at h; cases h
  | some v => rw [hj] at h; simp at h; rw [h]

end Go.Proofs.Ytcpgoaombabfjaa

namespace Go.Proofs.Ytcpgoaombabfjaa
open Go Go.RowKit

theorem mul_le_of {a b A B : Int} (ha : 0 ≤ a ∧ a ≤ A) (hb : 0 ≤ b ∧ b ≤ B) : 0 ≤ a * b ∧ a * b ≤ A * B :=
  ⟨Int.mul_nonneg ha.1 hb.1, Int.mul_le_mul ha.2 hb.2 hb.1 (by omega)⟩
theorem wgt_in {r p : List Int} {cn cd f g : Int} (hr : ∀ k, 0 ≤ r.getD k 0 ∧ r.getD k 0 ≤ 8) (hf : 0 ≤ f ∧ f ≤ 64) (hg : 0 ≤ g ∧ g ≤ 64) (hc : 0 ≤ cn ∧ cn ≤ cd ∧ cd ≤ 4) (k : Nat) : 0 ≤ wgt r p cn cd f g k ∧ wgt r p cn cd f g k ≤ 2048 := by
  have h := hr k
  have h1 := mul_le_of (show 0 ≤ cn ∧ cn ≤ 4 by omega) hg
  have h2 := mul_le_of (show 0 ≤ cd - cn ∧ cd - cn ≤ 4 by omega) hf
  have h3 := mul_le_of h h1
  have h4 := mul_le_of h h2
  unfold wgt
  split
  · omega
  · split <;> omega
theorem chN_in {r p : List Int} {cn cd f g : Int} (hr : ∀ k, 0 ≤ r.getD k 0 ∧ r.getD k 0 ≤ 8) (hf : 0 ≤ f ∧ f ≤ 64) (hg : 0 ≤ g ∧ g ≤ 64) (hc : 0 ≤ cn ∧ cn ≤ cd ∧ cd ≤ 4) : ∀ (k : Nat) (x : Ch), x ∈ chN r p cn cd f g k → (0 ≤ x.1 ∧ x.1 ≤ 2048) ∧ x.2.1 = 0 ∧ 0 ≤ x.2.2 ∧ x.2.2 ≤ (k : Int)
  | 0, x, h => by simp [chN] at h
  | k + 1, x, h => by
    rw [chN] at h
    rcases List.mem_append.1 h with h | h
    · have := chN_in hr hf hg hc k x h
      exact ⟨this.1, this.2.1, this.2.2.1, by omega⟩
    · split at h
      · have e : x = (wgt r p cn cd f g k, 0, (k : Int)) := by simpa using h
        subst e
        exact ⟨wgt_in hr hf hg hc k, rfl, by simp, by simp; omega⟩
      · simp at h
theorem chV_fit {r s t : List Int} {cn cd : Nat} (hok : MadeOk r cn cd) (k : Nat) : I64 ((chV r s t (cn : Int) (cd : Int)).getD k (0, 0, 0)).1 ∧ I64 ((chV r s t (cn : Int) (cd : Int)).getD k (0, 0, 0)).2.1 ∧ I64 ((chV r s t (cn : Int) (cd : Int)).getD k (0, 0, 0)).2.2 := by
  have hr : ∀ k, 0 ≤ r.getD k 0 ∧ r.getD k 0 ≤ 8 := fun k => by have := hok.rr k; omega
  have hl := hok.l4
  have hin : ∀ x ∈ chV r s t (cn : Int) (cd : Int), (0 ≤ x.1 ∧ x.1 ≤ 2048) ∧ x.2.1 = 0 ∧ 0 ≤ x.2.2 ∧ x.2.2 ≤ (r.length : Int) := fun x hx => by
    unfold chV at hx
    split at hx
    · have h1 := sumF_in (p := prfV r s t) hr r.length
      have h2 := sumG_in (p := prfV r s t) hr r.length
      exact chN_in hr (by omega) (by omega) (by rcases hok.coin with ⟨a, b⟩ | ⟨a, b⟩ | ⟨a, b⟩ | ⟨a, b⟩ <;> omega) r.length x hx
    · simp at hx
  by_cases hk : k < (chV r s t (cn : Int) (cd : Int)).length
  · have e : (chV r s t (cn : Int) (cd : Int)).getD k (0, 0, 0) = (chV r s t (cn : Int) (cd : Int))[k] := by simp [List.getD, hk]
    have h := hin _ (List.getElem_mem hk)
    rw [← e] at h
    obtain ⟨⟨a1, a2⟩, a3, a4, a5⟩ := h
    exact ⟨⟨by omega, by omega⟩, ⟨by omega, by omega⟩, ⟨by omega, by omega⟩⟩
  · rw [show (chV r s t (cn : Int) (cd : Int)).getD k (0, 0, 0) = (0, 0, 0) by simp [List.getD, List.getElem?_eq_none (Nat.le_of_not_lt hk)]]; decide
theorem chV_len4 {r s t : List Int} {cn cd : Nat} (hok : MadeOk r cn cd) : (chV r s t (cn : Int) (cd : Int)).length ≤ 4 := by
  have hl := hok.l4
  unfold chV
  split
  · have := chN_len r (prfV r s t) (cn : Int) (cd : Int) (sumF r (prfV r s t) r.length) (sumG r (prfV r s t) r.length) r.length
    omega
  · simp

theorem prf_len (r s t : List Int) : (prfV r s t).length ≤ r.length := by
  unfold prfV
  split
  · exact best_len _ _ _ _
  · simp
theorem prf_fit {r s t : List Int} {cn cd : Nat} (hok : MadeOk r cn cd) (j : Nat) : I64 ((prfV r s t).getD j 0) := by
  have hl := hok.l4
  unfold prfV
  split
  · rw [← least_is]
    have := ls_fit r (unV r s) (unV r t) r.length (opN r r.length).length j
    exact ⟨by omega, by omega⟩
  · simp; decide

end Go.Proofs.Ytcpgoaombabfjaa
