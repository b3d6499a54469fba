/- The law's walk: what it takes, and what lies in memory meanwhile. -/
import Derived.Test.YtjlneggfkpjnpaaMS
namespace Go.Proofs.Ytjlneggfkpjnpaa
open Go.RowKit

/-- The choice that a number picks, the row after so many, and what was taken. -/
def pickC (r s row : List Int) (x : Int) : Ch := (chV r s row).getD (x % ((chV r s row).length : Int)).toNat (0, 0, 0)
def wRow (r s l : List Int) : Nat → List Int
  | 0 => []
  | k + 1 => nextV r s (wRow r s l k) (pickC r s (wRow r s l k) (l.getD k 0))
def wCh (r s l : List Int) (k : Nat) : Ch := pickC r s (wRow r s l k) (l.getD k 0)
def takeC (r s l : List Int) (k : Nat) : List Ch := (List.range k).map (wCh r s l)
theorem takeC_succ (r s l : List Int) (k : Nat) : takeC r s l (k + 1) = takeC r s l k ++ [wCh r s l k] := by simp [takeC, List.range_succ]
theorem takeC_len (r s l : List Int) (k : Nat) : (takeC r s l k).length = k := by simp [takeC]
theorem takeC_get {r s l : List Int} {k j : Nat} (h : j < k) : (takeC r s l k).getD j (0, 0, 0) = wCh r s l j := by simp [takeC, List.getD, h]

theorem nextV_fit {r s row : List Int} {c : Ch} : fitB r (nextV r s row c) = true := by
  unfold nextV nextOk
  by_cases hc : c ∈ chV r s row
  · rw [decide_eq_true hc, if_pos rfl]
    obtain ⟨x, y, z⟩ := c
    obtain ⟨_, _, hin, hlen, k, hk, rfl, h1, _⟩ := ch_facts hc
    split
    · rfl
    · have hk2 : k < (blockV r row y).length := by rw [hlen]; exact hk
      have := less_in hin hk2 h1
      unfold fitB
      show (decide ((lessV (blockV r row y) (k : Int)).length = 0) || (decide ((lessV (blockV r row y) (k : Int)).length = r.length) && inB 0 1048576 (lessV (blockV r row y) (k : Int)))) = true
      rw [this, show (lessV (blockV r row y) (k : Int)).length = r.length by unfold lessV; rw [List.length_set]; exact hlen]
      simp
  · rw [decide_eq_false hc]; rfl

theorem wRow_fit (r s l : List Int) : ∀ k, fitB r (wRow r s l k) = true
  | 0 => rfl
  | k + 1 => nextV_fit
theorem wRow_in (r s l : List Int) : ∀ k, inB 0 1048576 (wRow r s l k) = true
  | 0 => rfl
  | k + 1 => nextV_in
theorem wRow_len {r s l : List Int} (lr : r.length ≤ 8) : ∀ k, (wRow r s l k).length ≤ 8
  | 0 => by simp [wRow]
  | k + 1 => nextV_len lr

theorem coll_some {size : Int} {w : List Int} {k n : Nat} (hk : k < n) (h : 0 < w.getD k 0) : coll size w n ≠ [] := fun e => by
  have : ((w.getD k 0, size, (k : Int)) : Ch) ∈ coll size w n := mem_coll.2 ⟨k, hk, h, rfl⟩
  rw [e] at this; simp at this

/-- There always is a choice. -/
theorem ch_some {r s row : List Int} (hB : hasB r s = true) (hF : fitB r row = true) : (chV r s row).length ≠ 0 := by
  intro h0
  have h0 := List.eq_nil_of_length_eq_zero h0
  obtain ⟨⟨b1, b2, b3, b4⟩, b5, b6, b7⟩ := hasB_iff.1 hB
  by_cases hl : 0 < leftV row
  · rw [chV_row hB hF hl] at h0
    have hin : inB 0 1048576 row = true := by
      unfold leftV at hl
      split at hl
      · assumption
      · omega
    have := coll_nil hin row.length (Nat.le_refl _)
    rw [h0, List.take_length] at this
    have h1 := this.1 rfl
    unfold leftV at hl
    rw [if_pos hin] at hl
    omega
  · rw [chV_new hB hF hl] at h0
    rw [List.any_eq_true] at b4
    obtain ⟨x, hx, h4⟩ := b4
    obtain ⟨k, hk, rfl⟩ := List.getElem_of_mem hx
    have e : r.getD k 0 = r[k] := by simp [List.getD, hk]
    have hc := coll_some (size := s.getD 0 0) (w := r) (n := r.length) hk (by rw [e]; simpa using h4)
    obtain ⟨c, hc⟩ := List.exists_mem_of_ne_nil _ hc
    have : c ∈ blks r s s.length := mem_blks.2 ⟨0, by omega, hc⟩
    rw [h0] at this
    simp at this

theorem pick_mem {r s row : List Int} {x : Int} (hx : 0 ≤ x) (h : (chV r s row).length ≠ 0) : pickC r s row x ∈ chV r s row ∧ (x % ((chV r s row).length : Int)).toNat < (chV r s row).length := by
  have h1 := Int.emod_nonneg x (show ((chV r s row).length : Int) ≠ 0 by omega)
  have h2 := Int.emod_lt_of_pos x (show (0 : Int) < ((chV r s row).length : Int) by omega)
  have h3 : (x % ((chV r s row).length : Int)).toNat < (chV r s row).length := by omega
  exact ⟨getD_mem h3, h3⟩

theorem wCh_mem {r s l : List Int} (hB : hasB r s = true) (hl : ∀ k, 0 ≤ l.getD k 0) (k : Nat) : wCh r s l k ∈ chV r s (wRow r s l k) := (pick_mem (hl k) (ch_some hB (wRow_fit r s l k))).1

/-- A slice that reads as numbers of two bytes. -/
structure Hx (w : World) (v : Value) (l : List Int) : Prop where
  len : l.length ≤ maxLen
  fit : ∀ k, 0 ≤ l.getD k 0 ∧ l.getD k 0 ≤ 65535
  is : (l = [] ∧ ∃ ao cap, v = .slice ao 0 cap) ∨ ∃ b off cap, v = .slice (some ⟨b, off, none⟩) l.length cap ∧ l.length ≤ cap ∧ b < w.heap.size ∧ ∀ j, j < l.length → w.cell? ⟨b, off + j, none⟩ = some (.int .u16 (l.getD j 0))
theorem Hx.mk' {w : World} {v : Value} {l : List Int} (h : Hx w v l) : ∃ ao cap, v = .slice ao l.length cap := by
  rcases h.is with ⟨rfl, ao, cap, rfl⟩ | ⟨b, off, cap, rfl, _⟩
  · exact ⟨_, _, rfl⟩
  · exact ⟨_, _, rfl⟩
theorem Hx.at {w : World} {ao : Option Addr} {n cap : Nat} {l : List Int} (h : Hx w (.slice ao n cap) l) (hn : n ≠ 0) : ∃ b off, ao = some ⟨b, off, none⟩ ∧ n ≤ cap ∧ b < w.heap.size ∧ ∀ j, j < n → w.cell? ⟨b, off + j, none⟩ = some (.int .u16 (l.getD j 0)) := by
  rcases h.is with ⟨rfl, ao2, cap2, e⟩ | ⟨b, off, cap2, e, h1, h2, h3⟩
  · injection e with _ e2 _; exact absurd e2 hn
  · injection e with e1 e2 e3; subst e1 e2 e3; exact ⟨b, off, rfl, h1, h2, h3⟩
theorem Hx.size {w : World} {ao : Option Addr} {n cap : Nat} {l : List Int} (h : Hx w (.slice ao n cap) l) : n = l.length := by
  obtain ⟨_, _, e⟩ := h.mk'
  injection e
theorem Hx.below {w w' : World} {v : Value} {l : List Int} (h : Hx w v l) (hb : Below w.heap.size w w') : Hx w' v l := by
  obtain ⟨h1, h2, h3⟩ := h
  refine ⟨h1, h2, ?_⟩
  rcases h3 with h3 | ⟨b, off, cap, hv, hc, hlt, hl⟩
  · exact .inl h3
  · exact .inr ⟨b, off, cap, hv, hc, Nat.lt_of_lt_of_le hlt hb.size, fun j hj => cell_later hb (hl j hj)⟩

/-- What is owned stays when another slice grows whose elements have another type. -/
theorem owns_grown {e e' : TypeId} {size size' : Nat} {W W' : World} {B B' n n' : Nat} {v v' : Value} {xs xs' : List Value} (h : W.ownsRow B e size v n xs) (h' : W.ownsRow B' e' size' v' n' xs') (hne : e ≠ e') (hg : W.grownBy W' v'.ownBlock) : W'.ownsRow B e size v n xs := by
  refine owns_same h fun g hgv => ?_
  have hlt := own_lt h hgv
  refine grown_block hg hlt fun hc => ?_
  rcases h.2 with ⟨hv, _⟩ | ⟨g1, cap1, cur1, hv, _, hh, _⟩
  · rw [hv] at hgv; simp [Value.ownBlock] at hgv
  · rcases h'.2 with ⟨hv', _⟩ | ⟨g2, cap2, cur2, hv', _, hh', _⟩
    · rw [hv'] at hc; simp [Value.ownBlock] at hc
    · rw [hv] at hgv
      rw [hv'] at hc
      have e1 : g1 = g := by simpa [Value.ownBlock] using hgv
      have e2 : g2 = g := by simpa [Value.ownBlock] using hc
      rw [e1] at hh
      rw [e2] at hh'
      rw [hh] at hh'
      simp at hh'
      exact hne hh'.2

theorem Try.info25 : (Try.prog.info? 25).map (fun i => (i.zero, i.size, i.bytes)) = some (some (.slice none 0 0), 1, 24) := by kernel_rfl
def appR (ty : TypeId) (vs : Array Value) : Sem Value := Builtin.append_ #[38, 38] ty vs
theorem appR_rw (ty : TypeId) (vs : Array Value) : Builtin.append_ #[38, 38] ty vs = appR ty vs := rfl

/-- An append of one slice. -/
theorem push_slice {W : World} {B n : Nat} {v : Value} {l : List Value} (h : W.ownsRow B 25 1 v n l) (hn : n ≤ 1000) (hB : B ≤ W.heap.size) (ao : Option Addr) (m cap : Nat) :
    ∃ g cap2 w2, Sem.run Try.prog (appR 38 #[v, .slice (some ⟨W.heap.size, 0, none⟩) 1 1]) (W.alloc (.cells #[.slice ao m cap] 25)) = .ok (.slice (some ⟨g, 0, none⟩) (n + 1) cap2) w2 ∧ w2.ownsRow B 25 1 (.slice (some ⟨g, 0, none⟩) (n + 1) cap2) (n + 1) (l ++ [.slice ao m cap]) ∧ Below B W w2 ∧ (W.alloc (.cells #[.slice ao m cap] 25)).grownBy w2 v.ownBlock := by
  obtain ⟨i0, hii, hz0, hz1, hz2⟩ := info_parts Try.info25
  have hown3 : (W.alloc (.cells #[.slice ao m cap] 25)).ownsRow B 25 1 v n l := owns_later h ((Below.refl _ _).alloc (Nat.le_refl _) _)
  obtain ⟨g, cap4, w4, hrun4, hown4, hgrow4, hg, hlt⟩ := run_append_lies (P := Try.prog) (w := W.alloc (.cells #[.slice ao m cap] 25)) 38 38 B 25 i0 (.slice none 0 0) 1 24 Try.underlying38 hii hz0 hz1 hz2 rfl (by decide) _ n _ hown3 ⟨W.heap.size, 0, none⟩ 1 1 [.slice ao m cap] rfl (cell_one_new W (.slice ao m cap) 25) (fun u hu => by simp at hu; subst hu; rfl) (by omega) (by unfold maxLen; omega) (by omega) (by simp; omega) _ (World.size_alloc _ _)
  rw [appR_rw] at hrun4
  exact ⟨g, cap4, w4, hrun4, hown4, (((Below.refl B W).alloc hB _)).grown hgrow4 (by simp; omega) (fun j hj => (hown3.lt j hj).1), hgrow4⟩

/-- What lies in memory when k choices are taken. -/
structure WkI (W0 wr : World) (r s l : List Int) (vT vR : Value) (vals : List Value) (k : Nat) : Prop where
  ft : OwC wr W0.heap.size vT k (takeC r s l k)
  fr : wr.ownsRow W0.heap.size 25 1 vR k vals
  fv : ∀ j, j < k → ∃ ao n cap, vals[j]? = some (.slice ao n cap) ∧ OwI wr W0.heap.size (.slice ao n cap) n (wRow r s l (j + 1))
  fb : Below W0.heap.size W0 wr

theorem WkI.later {W0 wr wx : World} {r s l : List Int} {vT vR : Value} {vals : List Value} {k : Nat} (h : WkI W0 wr r s l vT vR vals k) (hb : Below wr.heap.size wr wx) : WkI W0 wx r s l vT vR vals k :=
  ⟨owns_later h.ft hb, owns_later h.fr hb, fun j hj => by obtain ⟨ao, n, cap, h1, h2⟩ := h.fv j hj; exact ⟨ao, n, cap, h1, owns_later h2 hb⟩, h.fb.trans (hb.mono h.fb.size)⟩

/-- A choice and a row more. -/
theorem WkI.step {W0 wr : World} {r s l : List Int} {vT vR : Value} {vals : List Value} {k : Nat} (h : WkI W0 wr r s l vT vR vals k) (hk : k ≤ 500) {ao : Option Addr} {n cap : Nat} (hr : OwI wr W0.heap.size (.slice ao n cap) n (wRow r s l (k + 1))) :
    ∃ g cap2 w2 g' cap2' w3, Sem.run Try.prog (appC 39 #[vT, .slice (some ⟨wr.heap.size, 0, none⟩) 1 1]) (wr.alloc (.cells #[.int .i64 (wCh r s l k).1, .int .i64 (wCh r s l k).2.1, .int .i64 (wCh r s l k).2.2] 28)) = .ok (.slice (some ⟨g, 0, none⟩) (k + 1) cap2) w2 ∧
      Sem.run Try.prog (appR 38 #[vR, .slice (some ⟨w2.heap.size, 0, none⟩) 1 1]) (w2.alloc (.cells #[.slice ao n cap] 25)) = .ok (.slice (some ⟨g', 0, none⟩) (k + 1) cap2') w3 ∧
      WkI W0 w3 r s l (.slice (some ⟨g, 0, none⟩) (k + 1) cap2) (.slice (some ⟨g', 0, none⟩) (k + 1) cap2') (vals ++ [.slice ao n cap]) (k + 1) ∧ OwI w3 W0.heap.size (.slice ao n cap) n (wRow r s l (k + 1)) := by
  have hs := h.fb.size
  have ha : Below wr.heap.size wr (wr.alloc (.cells #[.int .i64 (wCh r s l k).1, .int .i64 (wCh r s l k).2.1, .int .i64 (wCh r s l k).2.2] 28)) := (Below.refl _ _).alloc (Nat.le_refl _) _
  obtain ⟨g, cap2, w2, hrun, hown, hb, hgr, hg, hgl⟩ := push_choice h.ft (by omega) hs (wCh r s l k).1 (wCh r s l k).2.1 (wCh r s l k).2.2
  have hT := owns_later h.ft ha
  have hR2 := owns_grown (owns_later h.fr ha) hT (by decide) hgr
  have hN2 := owns_grown (owns_later hr ha) hT (by decide) hgr
  have hV2 : ∀ j, j < k → ∃ ao n cap, vals[j]? = some (.slice ao n cap) ∧ OwI w2 W0.heap.size (.slice ao n cap) n (wRow r s l (j + 1)) := fun j hj => by
    obtain ⟨ao, n, cap, h1, h2⟩ := h.fv j hj
    exact ⟨ao, n, cap, h1, owns_grown (owns_later h2 ha) hT (by decide) hgr⟩
  have hbl2 := h.fb.trans hb
  have ha2 : Below w2.heap.size w2 (w2.alloc (.cells #[.slice ao n cap] 25)) := (Below.refl _ _).alloc (Nat.le_refl _) _
  obtain ⟨g', cap2', w3, hrun3, hown3, hb3, hgr3⟩ := push_slice hR2 (by omega) hbl2.size ao n cap
  have hR := owns_later hR2 ha2
  refine ⟨g, cap2, w2, g', cap2', w3, hrun, hrun3, ⟨?_, hown3, fun j hj => ?_, hbl2.trans hb3⟩, owns_grown (owns_later hN2 ha2) hR (by decide) hgr3⟩
  · rw [takeC_succ]
    exact owns_grown (owns_later hown ha2) hR (by decide) hgr3
  · have hvl : vals.length = k := by have := h.fr.1; omega
    by_cases hjk : j = k
    · subst hjk
      exact ⟨ao, n, cap, by rw [List.getElem?_append_right (by omega), hvl]; simp, owns_grown (owns_later hN2 ha2) hR (by decide) hgr3⟩
    · obtain ⟨ao', n', cap', h1, h2⟩ := hV2 j (by omega)
      exact ⟨ao', n', cap', by rw [List.getElem?_append_left (by omega)]; exact h1, owns_grown (owns_later h2 ha2) hR (by decide) hgr3⟩

end Go.Proofs.Ytjlneggfkpjnpaa
