/- What the calls of CoinLeast return; two slices of one's own at once; what its drawn region makes. No condition beyond those that are stated. -/
import Derived.Test.YtcpgoaombabfjaaMe15
import Derived.Test.YtcpgoaombabfjaaMe6
namespace Go.Proofs.Ytcpgoaombabfjaa
open Go Go.RowKit

/-- Two slices of one's own, which lie apart. -/
structure TwO (W wr : World) (B : Nat) (v : Value) (n : Nat) (R : List Int) (u : Value) (m : Nat) (S : List Int) : Prop where
  o : OwI wr B v n R
  p : OwI wr B u m S
  ne : ∀ g, v.ownBlock = some g → u.ownBlock ≠ some g
  bl : Below B W wr
  lt : B ≤ wr.heap.size
theorem TwO.swap {W wr : World} {B : Nat} {v : Value} {n : Nat} {R : List Int} {u : Value} {m : Nat} {S : List Int} (h : TwO W wr B v n R u m S) : TwO W wr B u m S v n R :=
  ⟨h.p, h.o, fun g h1 h2 => h.ne g h2 h1, h.bl, h.lt⟩
theorem TwO.later {W wr w' : World} {B : Nat} {v : Value} {n : Nat} {R : List Int} {u : Value} {m : Nat} {S : List Int} (h : TwO W wr B v n R u m S) (hb : Below wr.heap.size wr w') : TwO W w' B v n R u m S :=
  ⟨owns_later h.o hb, owns_later h.p hb, h.ne, h.bl.trans (hb.mono h.lt), Nat.le_trans h.lt hb.size⟩
theorem TwO.step {W wr : World} {B : Nat} {v : Value} {n : Nat} {R : List Int} {u : Value} {m : Nat} {S : List Int} (h : TwO W wr B v n R u m S) (hn : n ≤ 1000) (x : Int) :
    ∃ g cap w2, Sem.run Try.prog (appI 22 #[v, .slice (some ⟨wr.heap.size, 0, none⟩) 1 1]) (wr.alloc (.cells #[.int .i64 x] 3)) = .ok (.slice (some ⟨g, 0, none⟩) (n + 1) cap) w2 ∧ TwO W w2 B (.slice (some ⟨g, 0, none⟩) (n + 1) cap) (n + 1) (R ++ [x]) u m S := by
  obtain ⟨g, cap, w2, hrun, hown, hb, hgr, hg, hgl⟩ := push_int h.o hn h.lt x
  refine ⟨g, cap, w2, hrun, ⟨hown, owns_same h.p (fun j hj => ?_), fun j h1 h2 => ?_, h.bl.trans hb, Nat.le_trans h.lt hb.size⟩⟩
  · have hl := (own_lt h.p hj).2
    rw [grown_block hgr (by rw [World.size_alloc]; omega) (fun e => h.ne j e hj)]
    exact Below.heap_alloc wr _ j hl
  · have e : g = j := by simpa [Value.ownBlock] using h1
    subst e
    rcases hg with e2 | e2
    · exact h.ne g e2 h2
    · have := (own_lt h.p h2).2; omega

/-- One more is appended; what else one owns stays. -/
theorem TwO.step3 {W wr : World} {B : Nat} {v : Value} {n : Nat} {R : List Int} {u : Value} {m : Nat} {S : List Int} (h : TwO W wr B v n R u m S) (hn : n ≤ 1000) (x : Int) :
    ∃ g cap w2, Sem.run Try.prog (appI 22 #[v, .slice (some ⟨wr.heap.size, 0, none⟩) 1 1]) (wr.alloc (.cells #[.int .i64 x] 3)) = .ok (.slice (some ⟨g, 0, none⟩) (n + 1) cap) w2 ∧ TwO W w2 B (.slice (some ⟨g, 0, none⟩) (n + 1) cap) (n + 1) (R ++ [x]) u m S ∧ ∀ z nz Z Bz, OwI wr Bz z nz Z → (∀ g, v.ownBlock = some g → g < Bz) → OwI w2 Bz z nz Z := by
  obtain ⟨g, cap, w2, hrun, hown, hb, hgr, hg, hgl⟩ := push_int h.o hn h.lt x
  refine ⟨g, cap, w2, hrun, ⟨hown, owns_same h.p (fun j hj => ?_), fun j h1 h2 => ?_, h.bl.trans hb, Nat.le_trans h.lt hb.size⟩, fun z nz Z Bz hz hlt => owns_same hz (fun j hj => ?_)⟩
  · have hl := (own_lt h.p hj).2
    rw [grown_block hgr (by rw [World.size_alloc]; omega) (fun e => h.ne j e hj)]
    exact Below.heap_alloc wr _ j hl
  · have e : g = j := by simpa [Value.ownBlock] using h1
    subst e
    rcases hg with e2 | e2
    · exact h.ne g e2 h2
    · have := (own_lt h.p h2).2; omega
  · have hl := own_lt hz hj
    rw [grown_block hgr (by rw [World.size_alloc]; omega) (fun e => by have := hlt j e; omega)]
    exact Below.heap_alloc wr _ j hl.2

/-- What holds in the region that makes the sum. -/
structure LW (W0 Wx : World) (B : Nat) (vO : Value) (n : Nat) (O : List Int) (m : Nat) (S : List Int) (g : Int) (l : Array Bool) (vals : Nat → Value) (w : World) : Prop where
  a : l.getD 8 true = false → Below Wx.heap.size Wx w
  b : l.getD 8 true = true → l.getD 9 true = false → ∃ w1, Below Wx.heap.size Wx w1 ∧ w = w1.alloc (.cells #[.int .i64 g] 3) ∧ vals 8 = .slice (some ⟨w1.heap.size, 0, none⟩) 1 1
  c : l.getD 9 true = true → ∃ q cap, vals 9 = .slice (some ⟨q, 0, none⟩) (m + 1) cap ∧ TwO W0 w B vO n O (.slice (some ⟨q, 0, none⟩) (m + 1) cap) (m + 1) (S ++ [g])
  d : l.getD 10 true = true → vals 10 = vals 9
section
variable {W0 Wx w w' : World} {B : Nat} {vO : Value} {n : Nat} {O : List Int} {m : Nat} {S : List Int} {g : Int} {l : Array Bool} {vals : Nat → Value}
theorem LW.const (h : LW W0 Wx B vO n O m S g l vals w) {i : Nat} (hi : i < 8) (v : Value) : LW W0 Wx B vO n O m S g (l.setIfInBounds i true) (fun u => if u = i then v else vals u) w := by
  refine ⟨?_, ?_, ?_, ?_⟩
  · rw [gset_ne (by omega)]; exact h.a
  · rw [gset_ne (by omega), gset_ne (by omega)]; simpa [show ¬ 8 = i by omega] using h.b
  · rw [gset_ne (by omega)]; simpa [show ¬ 9 = i by omega] using h.c
  · rw [gset_ne (by omega)]; simpa [show ¬ 9 = i by omega, show ¬ 10 = i by omega] using h.d
theorem LW.grow (h : LW W0 Wx B vO n O m S g l vals w) (h8 : l.getD 8 true = false) (h9 : l.getD 9 true = false) (hb : Below w.heap.size w w') : LW W0 Wx B vO n O m S g l vals w' :=
  ⟨fun _ => (h.a h8).trans (hb.mono (h.a h8).size), fun h1 _ => (by rw [h8] at h1; cases h1), fun h1 => (by rw [h9] at h1; cases h1), h.d⟩
theorem LW.made (h : LW W0 Wx B vO n O m S g l vals w) (hsz : 8 < l.size) (h8 : l.getD 8 true = false) (h9 : l.getD 9 true = false) (h10 : l.getD 10 true = false) : LW W0 Wx B vO n O m S g (l.setIfInBounds 8 true) (fun u => if u = 8 then .slice (some ⟨w.heap.size, 0, none⟩) 1 1 else vals u) (w.alloc (.cells #[.int .i64 g] 3)) := by
  refine ⟨fun h1 => ?_, fun _ _ => ⟨w, h.a h8, rfl, by simp⟩, fun h1 => ?_, fun h1 => ?_⟩
  · simp [Array.getD, hsz] at h1
  · rw [gset_ne (by omega), h9] at h1; cases h1
  · rw [gset_ne (by omega), h10] at h1; cases h1
theorem LW.app (h : LW W0 Wx B vO n O m S g l vals w) (h8 : l.getD 8 true = true) (hsz : 9 < l.size) (h10 : l.getD 10 true = false) {q cap : Nat} (ht : TwO W0 w' B vO n O (.slice (some ⟨q, 0, none⟩) (m + 1) cap) (m + 1) (S ++ [g])) : LW W0 Wx B vO n O m S g (l.setIfInBounds 9 true) (fun u => if u = 9 then .slice (some ⟨q, 0, none⟩) (m + 1) cap else vals u) w' := by
  refine ⟨fun h1 => ?_, fun _ h1 => ?_, fun _ => ⟨q, cap, by simp, ht⟩, fun h1 => ?_⟩
  · rw [gset_ne (by omega), h8] at h1; cases h1
  · simp [Array.getD, hsz] at h1
  · rw [gset_ne (by omega), h10] at h1; cases h1
theorem LW.set (h : LW W0 Wx B vO n O m S g l vals w) (h8 : l.getD 8 true = true) (h9 : l.getD 9 true = true) {v : Value} (hv : v = vals 9) : LW W0 Wx B vO n O m S g (l.setIfInBounds 10 true) (fun u => if u = 10 then v else vals u) w := by
  refine ⟨fun h1 => ?_, fun _ h1 => ?_, ?_, fun _ => by simpa using hv⟩
  · rw [gset_ne (by omega), h8] at h1; cases h1
  · rw [gset_ne (by omega), h9] at h1; cases h1
  · rw [gset_ne (by omega)]; simpa using h.c
end

section
variable {r row : List Int} {cn cd : Nat}
theorem nx_row (h : MadeOk r cn cd) (hf : RowOk r row) {K : Nat} (hK : K < r.length) : nxB r row (K : Int) = decide (0 < r.getD K 0) ∧ (0 < r.getD K 0 → nxV r row (K : Int) = mor (unV r row) K) := by
  have hfi := hf.fi
  have e : nxB r row (K : Int) = decide (0 < r.getD K 0) := by
    have h5 : (unV r row).getD K 0 ≠ 1048575 := by
      by_cases h0 : row.length = 0
      · rw [unV_get0 h0]; omega
      · rw [unV_row h0]; have := hf.2 K; omega
    unfold nxB
    rw [h.pr, hfi, Int.toNat_natCast, decide_eq_true (show (0 : Int) ≤ (K : Int) by omega), decide_eq_true (show (K : Int) < (r.length : Int) by omega), decide_eq_true h5]
    simp
  refine ⟨e, fun hp => ?_⟩
  rw [nxV_yes (by rw [e]; exact decide_eq_true hp), Int.toNat_natCast]
theorem une_mor (h : MadeOk r cn cd) (hf : RowOk r row) (K : Nat) : uneV r (mor (unV r row) K) = unev r (mor (unV r row) K) := by
  have hl : (mor (unV r row) K).length = r.length := by rw [mor_len]; exact unV_len hf.fi
  have hi : ∀ i, 0 ≤ (unV r row).getD i 0 ∧ (unV r row).getD i 0 ≤ 6 := fun i => by
    by_cases h0 : row.length = 0
    · rw [unV_get0 h0]; omega
    · rw [unV_row h0]; exact hf.2 i
  have hm : ∀ i, 0 ≤ (mor (unV r row) K).getD i 0 ∧ (mor (unV r row) K).getD i 0 ≤ 1048575 := fun i => by
    by_cases hk : K < (unV r row).length
    · rw [mor_get hk]; have := hi i; have := hi K; split <;> omega
    · unfold mor; rw [List.set_eq_of_length_le (by omega)]; have := hi i; omega
  have h2 := h.l2
  unfold uneV
  rw [h.pr, fi_row hl hm, Bool.true_and, if_pos rfl, unV_row (by omega)]
end

theorem map_get (f : Nat → Int) {o : List Nat} {i : Nat} (h : i < o.length) : (o.map f).getD i 0 = f (o.getD i 0) := by simp [List.getD, h]
theorem map_fit {f : Nat → Int} (h : ∀ k, 0 ≤ f k ∧ f k ≤ 1761607680) (o : List Nat) (j : Nat) : 0 ≤ (o.map f).getD j 0 ∧ (o.map f).getD j 0 ≤ 1761607680 := by
  by_cases hj : j < o.length
  · rw [map_get f hj]; exact h _
  · rw [out_zero (by simpa using hj)]; omega
theorem asI_fit {o : List Nat} {n : Nat} (h : ∀ x ∈ o, x < n) (j : Nat) : 0 ≤ (asI o).getD j 0 ∧ (asI o).getD j 0 ≤ (n : Int) := by
  by_cases hj : j < o.length
  · unfold asI
    rw [map_get _ hj]
    have : o.getD j 0 ∈ o := by
      have e : o.getD j 0 = o[j] := by simp [List.getD, hj]
      rw [e]; exact List.getElem_mem hj
    have := h _ this
    omega
  · rw [out_zero (by simpa [asI] using hj)]; omega
theorem op_fit (r : List Int) (n j : Nat) : 0 ≤ (asI (opN r n)).getD j 0 ∧ (asI (opN r n)).getD j 0 ≤ (n : Int) := asI_fit (fun _ h => (mem_opN h).1) j
theorem ls_fit (r s t : List Int) (n i j : Nat) : 0 ≤ (asI (lsL r s t (opN r n) i)).getD j 0 ∧ (asI (lsL r s t (opN r n) i)).getD j 0 ≤ (n : Int) :=
  asI_fit (fun x h => by unfold lsL at h; exact (mem_opN (List.mem_of_mem_take (List.mem_filter.1 h).1)).1) j

end Go.Proofs.Ytcpgoaombabfjaa
