/- Contract of coin: loads: what its loop keeps, a step of it. No condition beyond those that are stated. Contract of coin: loads. Condition: the slices read as ints, the ratio's between 0 and 8, at most eight of them, the units' between 0 and 2^20. Contracts of coin: of, unevenness, Uneven. Condition: the slices read as ints, at most eight arms. -/
import Derived.Test.YtcpgoaombabfjaaMh4
import Derived.Lib.MinMax
import Derived.Deep.CutRange
import Derived.Deep.RegionLaw
namespace Go.Proofs.Ytcpgoaombabfjaa
open Go.RowKit Go.Shelf

theorem Fr.own' {W Wx W1 W2 : World} {ex : List Nat} (h : Fr W Wx ex W1) {row : Option Nat} (hg : W1.grownBy W2 row) (hr : ∀ r, row = some r → W.heap.size ≤ r ∧ (r ∈ ex ∨ Wx.heap.size ≤ r)) : Fr W Wx ex W2 := by
  have hsz := hg.size
  exact ⟨h.b.grown hg h.b.size (fun j e => (hr j e).1), Nat.le_trans h.s hsz, fun j hj hx => (grown_block hg (Nat.lt_of_lt_of_le hj h.s) (fun e => by
    rcases (hr j e).2 with h | h
    · exact hx h
    · omega)).trans (h.k j hj hx)⟩

/-- A slice of one's own in a box: ints. -/
structure OwBox (W Wx : World) (q g0 : Nat) (ex : List Nat) (L : List Int) (W' : World) (ao : Option Addr) (n cap : Nat) : Prop where
  fr : Fr W Wx ex W'
  box : Box W' q (.slice ao n cap) 22
  own : OwI W' W.heap.size (.slice ao n cap) n L
  at' : ∀ g, (Value.slice ao n cap).ownBlock = some g → g = g0 ∨ Wx.heap.size ≤ g

theorem keep_owbox {W Wx : World} {q g0 : Nat} {ex : List Nat} {L : List Int} {ao : Option Addr} {n cap : Nat} (hB : W.heap.size ≤ Wx.heap.size) (hq : q < Wx.heap.size) : Keep Wx.heap.size (fun W' => OwBox W Wx q g0 ex L W' ao n cap) := fun W1 W2 row h hg hr =>
  ⟨keep_fr hB W1 W2 row h.fr hg hr, keep_box hq W1 W2 row h.box hg hr, keep_own W1 W2 row h.own hg hr, h.at'⟩

theorem OwBox.drew {W Wx W' : World} {q g0 : Nat} {ex : List Nat} {L : List Int} {ao : Option Addr} {n cap : Nat} (h : OwBox W Wx q g0 ex L W' ao n cap) : OwBox W Wx q g0 ex L W'.drew ao n cap := ⟨h.fr.drew, h.box, h.own, h.at'⟩

/-- One more is appended. -/
theorem OwBox.push {W Wx W' : World} {q g0 : Nat} {ex : List Nat} {L : List Int} {ao : Option Addr} {n cap : Nat} (h : OwBox W Wx q g0 ex L W' ao n cap) (hn : n ≤ 1000) (hB : W.heap.size ≤ Wx.heap.size) (hq : q ∈ ex) (hwq : W.heap.size ≤ q) (hqx : q < Wx.heap.size) (hg0 : g0 ∈ ex) (hne : q ≠ g0) (z : Int) :
    ∃ g cap2 w2, Sem.run Try.prog (appI 22 #[.slice ao n cap, .slice (some ⟨W'.heap.size, 0, none⟩) 1 1]) (W'.alloc (.cells #[.int .i64 z] 3)) = .ok (.slice (some ⟨g, 0, none⟩) (n + 1) cap2) w2 ∧ Box w2 q (.slice ao n cap) 22 ∧ OwBox W Wx q g0 ex (L ++ [z]) (w2.setCell ⟨q, 0, none⟩ (.slice (some ⟨g, 0, none⟩) (n + 1) cap2)) (some ⟨g, 0, none⟩) (n + 1) cap2 ∧ ∀ W0, KeepsFrom Wx.heap.size W0 W' → KeepsFrom Wx.heap.size W0 (w2.setCell ⟨q, 0, none⟩ (.slice (some ⟨g, 0, none⟩) (n + 1) cap2)) := by
  obtain ⟨g, cap2, w2, hrun, hown, hbl, hgr, hg, hgl⟩ := push_int h.own hn h.fr.b.size z
  have hblk : ∀ r, (Value.slice ao n cap).ownBlock = some r → W.heap.size ≤ r ∧ (r ∈ ex ∨ Wx.heap.size ≤ r) := fun r e => ⟨(own_lt h.own e).1, (h.at' r e).imp (fun e => by subst e; exact hg0) id⟩
  have hqne : (Value.slice ao n cap).ownBlock ≠ some q := fun e => by
    rcases h.at' q e with e | e
    · exact hne e
    · omega
  have hqw : q < W'.heap.size := h.box.lt
  have hbq : Box w2 q (.slice ao n cap) 22 := (grown_block hgr (by rw [World.size_alloc]; omega) hqne).trans (h.box.alloc _)
  have hgq : g ≠ q := fun e => by
    rcases hg with e2 | e2
    · rw [e] at e2; exact hqne e2
    · omega
  have hf2 : Fr W Wx ex w2 := (h.fr.below ((Below.refl _ _).alloc (Nat.le_refl _) _)).own' hgr hblk
  have hgw : W.heap.size ≤ g := (own_lt hown (g := g) rfl).1
  refine ⟨g, cap2, w2, hrun, hbq, ⟨hf2.set hq hwq, hbq.set _, owns_same hown fun k hk => Below.heap_setCell _ _ _ _ (by
    have e : g = k := by simpa [Value.ownBlock] using hk
    simp only; omega), fun k hk => ?_⟩, fun W0 hk0 => keeps_set ?_ hbq⟩
  · have e : g = k := by simpa [Value.ownBlock] using hk
    subst e
    rcases hg with e2 | e2
    · exact h.at' g e2
    · right; have := h.fr.s; omega
  · have hk := keeps_own (B := Wx.heap.size) h.own hgr
    exact ⟨Nat.le_trans hk0.1 hk.1, fun j o hj ho hc => hk.2 j o hj (hk0.2 j o hj ho hc) hc⟩

/-- What loads' loop keeps. -/
def LdI (W Wx : World) (q g0 : Nat) (r l : List Int) (m : Nat) (k : Nat) (W' : World) : Prop := ∃ ao n cap, OwBox W Wx q g0 [q, g0] (ldN r l m k) W' ao n cap
theorem ldI_own {W Wx : World} {q g0 : Nat} {r l : List Int} {m : Nat} (hB : W.heap.size ≤ Wx.heap.size) (hq : q < Wx.heap.size) : OwnFrom Wx.heap.size (LdI W Wx q g0 r l m) := fun k => keep_ex fun ao => keep_ex fun n => keep_ex fun cap => keep_owbox hB hq

/-- make([]int, 0, n) -/
theorem made_empty (k : Nat) (hk : k ≤ 1000) (W : World) : (Instr.makeSlice 22 (.int .i64 0) (.int .i64 (k : Int))).run Try.prog W = .ok (.slice (some ⟨W.heap.size, 0, none⟩) 0 k) (W.alloc (.cells (ints (List.replicate k 0)).toArray 3)) ∧ OwI (W.alloc (.cells (ints (List.replicate k 0)).toArray 3)) W.heap.size (.slice (some ⟨W.heap.size, 0, none⟩) 0 k) 0 [] := by
  obtain ⟨i0, hii, hz0, hz1, hz2⟩ := info_parts Try.info3
  constructor
  · have h := run_makeSlice (P := Try.prog) W 22 3 i0 (.int .i64 0) Try.underlying22 hii hz0 .i64 .i64 0 (k : Int) (by omega) (by omega) (by rw [hz1]; simp; omega) (by rw [hz2]; omega) (by omega)
    rw [hz1] at h
    simp only [Int.toNat_natCast] at h
    have e : madeCells (Value.int .i64 0).cells (k * 1) = (ints (List.replicate k 0)).toArray := by
      apply Array.ext'
      rw [show (Value.int .i64 0).cells = #[.int .i64 0] from rfl, toList_madeCells_one]
      simp [ints]
    rw [e] at h
    exact h
  · exact ⟨rfl, .inr ⟨W.heap.size, k, _, rfl, Nat.le_refl _, heap_alloc_new _ _, Nat.zero_le _, by unfold maxLen; omega, by simp [ints], by simp [ints]⟩⟩

end Go.Proofs.Ytcpgoaombabfjaa

namespace Go.Proofs.Ytcpgoaombabfjaa
open Go.RowKit Go.Shelf
attribute [local go_sem] Oper.semAt_some
attribute [local go_sem ↓] appI_rw

def ldCh : List (Nat × Nat) := [(11, 10), (10, 9), (10, 0), (9, 8), (8, 4), (8, 7), (4, 3), (3, 1), (3, 2), (7, 5), (7, 6)]

theorem ldStart (n : Nat) (hn : n = 12) (A B C D : World) : ((Array.replicate n false).getD 9 true = false → A = A) ∧ ((Array.replicate n false).getD 9 true = true → (Array.replicate n false).getD 10 true = false → A = B) ∧ ((Array.replicate n false).getD 10 true = true → (Array.replicate n false).getD 11 true = false → A = C) ∧ ((Array.replicate n false).getD 11 true = true → A = D) := by
  subst hn
  refine ⟨fun _ => rfl, fun h => absurd h (by decide), fun h => absurd h (by decide), fun h => absurd h (by decide)⟩

theorem ldW {l : Array Bool} {w A B C D : World} {i : Nat} (h : (l.getD 9 true = false → w = A) ∧ (l.getD 9 true = true → l.getD 10 true = false → w = B) ∧ (l.getD 10 true = true → l.getD 11 true = false → w = C) ∧ (l.getD 11 true = true → w = D)) (h1 : 9 ≠ i) (h2 : 10 ≠ i) (h3 : 11 ≠ i) :
    ((l.setIfInBounds i true).getD 9 true = false → w = A) ∧ ((l.setIfInBounds i true).getD 9 true = true → (l.setIfInBounds i true).getD 10 true = false → w = B) ∧ ((l.setIfInBounds i true).getD 10 true = true → (l.setIfInBounds i true).getD 11 true = false → w = C) ∧ ((l.setIfInBounds i true).getD 11 true = true → w = D) := by
  rw [gset_ne h1, gset_ne h2, gset_ne h3]; exact h

set_option maxRecDepth 100000 in
set_option maxHeartbeats 8000000 in
theorem loads_any {W : World} {ar al : Option Addr} {nr cr nl cl : Nat} {r l : List Int} (hr : Ix W (.slice ar nr cr) r) (hl : Ix W (.slice al nl cl) l) (hlr : l.length = r.length) (lr : r.length ≤ 8) (h8 : ∀ k, r.getD k 0 ≤ 8) (hl20 : ∀ k, 0 ≤ l.getD k 0 ∧ l.getD k 0 ≤ 1048576) (kd cn cd : Int) :
    Calls Try.prog 45 #[DV kd (.slice ar nr cr) cn cd, .slice al nl cl] W fun e w' => ∃ ao n cap, e = .returned (.slice ao n cap) ∧ OwI w' W.heap.size (.slice ao n cap) n (ldN r l (mulN r nr) nr) ∧ Below W.heap.size W w' := by
  have hnr := hr.size
  have hnl := hl.size
  have hB0 : Below W.heap.size W ((dbox W kd (.slice ar nr cr) cn cd).alloc (.cells #[.slice al nl cl] 22)) := (dbox_below W kd (.slice ar nr cr) cn cd).alloc (by simp) _
  have HB0 := Lib.hid hB0
  have HD0 : Hid (DBox ((dbox W kd (.slice ar nr cr) cn cd).alloc (.cells #[.slice al nl cl] 22)) W.heap.size kd (.slice ar nr cr) cn cd) := Lib.hid ((dbox_is W kd (.slice ar nr cr) cn cd).below ((Below.refl _ _).alloc (Nat.le_refl _) _))
  have HL0 : Hid (Box ((dbox W kd (.slice ar nr cr) cn cd).alloc (.cells #[.slice al nl cl] 22)) (W.heap.size + 1) (.slice al nl cl) 22) := Lib.hid (by have := Box.new (dbox W kd (.slice ar nr cr) cn cd) (.slice al nl cl) 22; rwa [dbox_size] at this)
  have HM := Lib.hid (multiple_any (hr.below hB0) lr h8 kd cn cd)
  have HX := Lib.hid hr
  have HY := Lib.hid hl
  have H8 := Lib.hid h8
  have H20 := Lib.hid hl20
  have hm840 := mulN_le h8 nr
  obtain ⟨m, hm⟩ : ∃ m, m = mulN r nr := ⟨_, rfl⟩
  rw [← hm] at hm840 HM ⊢
  have HMP := Lib.hid (mulN_pos (r := r) nr)
  rw [← hm] at HMP
  rw [← hnr] at lr
  have hnn : nl = nr := by omega
  subst hnn
  obtain ⟨c0, c1, c2, c3, c4, c5⟩ := HD0.out.cells
  have cl0 := HL0.out.cell
  have hmk := fun w1 : World => (made_empty nl (by omega) (w1.alloc (.cells #[.int .i64 (m : Nat)] 3))).1
  have HMK := Lib.hid (fun w1 : World => (made_empty nl (by omega) (w1.alloc (.cells #[.int .i64 (m : Nat)] 3))).2)
  clear hr hnr h8 hl hnl hl20 hlr hm hB0
  have hl0 : W.heap.size < ((dbox W kd (.slice ar nl cr) cn cd).alloc (.cells #[.slice al nl cl] 22)).heap.size := by simp; omega
  refine (callsIn_wide (n := 6)).1 ?_
  refine callsIn_of_wp_marks Try.func45 rfl trivial ?_ rfl
  simp only [Try.ntmps45, List.size_toArray, List.length_cons, List.length_nil, Nat.reduceAdd, Nat.reduceSub, Array.replicate_succ, Array.replicate_zero, List.push_toArray, List.append_toArray, List.nil_append, List.cons_append]
  refine wpIn_wide.2 ?_
  go_wp2_with (first
    | (go_at_call 56; (with_reducible refine HM.out.mono ?_); rintro e w1 ⟨rfl, hb1⟩; have HB1 := Lib.hid (HB0.out.trans (hb1.mono HB0.out.size)); have HD1 := Lib.hid (DBox.below HD0.out hb1); have HL1 := Lib.hid (HL0.out.below hb1); clear c0 c1 c2 c3 c4 c5 cl0 hl0; have cl0 := HL1.out.cell; have hmk := hmk w1; have hl1 := (Array.getElem?_eq_some_iff.1 HD1.out).1; have hl2 := HL1.out.lt; have HBW4 : Hid (Below w1.heap.size w1 (((w1.alloc (.cells #[.int .i64 (m : Nat)] 3)).alloc (.cells (ints (List.replicate nl 0)).toArray 3)).alloc (.cells #[.slice (some ⟨w1.heap.size + 1, 0, none⟩) 0 nl] 22))) := Lib.hid ((((Below.refl _ w1).alloc (Nat.le_refl _) _).alloc (by simp) _).alloc (by simp; omega) _); obtain ⟨c0, c1, c2, c3, c4, c5⟩ := (HD1.out.below HBW4.out).cells; clear hb1)
    | (go_at_call 34; (with_reducible refine open_k.mono ?_); rintro e w2 ⟨bD, rfl, hbD, hD2, hb2⟩))
  clear c0 c1 c2 c3 c4 c5 cl0 hmk
  refine (wpIn_wide (n := 6)).1 ?_
  have hs4 : (((w1.alloc (.cells #[.int .i64 (m : Nat)] 3)).alloc (.cells (ints (List.replicate nl 0)).toArray 3)).alloc (.cells #[.slice (some ⟨w1.heap.size + 1, 0, none⟩) 0 nl] 22)).heap.size = w1.heap.size + 3 := by simp
  rw [hs4] at hbD hb2
  have hsz := hb2.size
  rw [hs4] at hsz
  have hb1w2 : Below w1.heap.size w1 w2 := HBW4.out.trans (hb2.mono (by omega))
  have e2 : ∀ j, j < w1.heap.size + 3 → w2.heap[j]? = (((w1.alloc (.cells #[.int .i64 (m : Nat)] 3)).alloc (.cells (ints (List.replicate nl 0)).toArray 3)).alloc (.cells #[.slice (some ⟨w1.heap.size + 1, 0, none⟩) 0 nl] 22)).heap[j]? := fun j hj => hb2.block j hj
  have HQ5 : Hid (Box w2 w1.heap.size (.int .i64 (m : Nat)) 3) := Lib.hid ((e2 _ (by omega)).trans (((Box.new w1 (.int .i64 (m : Nat)) 3).alloc _).alloc _))
  have HQ6 : Hid (Box w2 (w1.heap.size + 2) (.slice (some ⟨w1.heap.size + 1, 0, none⟩) 0 nl) 22) := Lib.hid ((e2 _ (by omega)).trans (by have h := Box.new ((w1.alloc (.cells #[.int .i64 (m : Nat)] 3)).alloc (.cells (ints (List.replicate nl 0)).toArray 3)) (.slice (some ⟨w1.heap.size + 1, 0, none⟩) 0 nl) 22; rw [World.size_alloc, World.size_alloc] at h; exact h))
  have ho4 : OwI (((w1.alloc (.cells #[.int .i64 (m : Nat)] 3)).alloc (.cells (ints (List.replicate nl 0)).toArray 3)).alloc (.cells #[.slice (some ⟨w1.heap.size + 1, 0, none⟩) 0 nl] 22)) W.heap.size (.slice (some ⟨w1.heap.size + 1, 0, none⟩) 0 nl) 0 [] := by
    have h := HMK.out w1
    rw [World.size_alloc] at h
    exact owns_mono (owns_later h ((Below.refl _ _).alloc (Nat.le_refl _) _)) (by have := HB1.out.size; omega)
  have HO2 : Hid (OwI w2 W.heap.size (.slice (some ⟨w1.heap.size + 1, 0, none⟩) 0 nl) 0 []) := Lib.hid (owns_later ho4 (by rw [hs4]; exact hb2))
  have HB2 : Hid (Below W.heap.size W w2) := Lib.hid (HB1.out.trans (hb1w2.mono HB1.out.size))
  have HD := Lib.hid hD2
  have HL2 : Hid (Box w2 (W.heap.size + 1) (.slice al nl cl) 22) := Lib.hid (HL1.out.below hb1w2)
  have hws := HB1.out.size
  have HSZ := Lib.hid (And.intro hsz (And.intro hbD hl2))
  clear hb2 hD2 hbD hsz hb1w2 e2 ho4 hs4 hl1 hl2 hws HMK HBW4
  have HI0 : Hid (LdI W w2 (w1.heap.size + 2) (w1.heap.size + 1) r l m 0 w2) := Lib.hid ⟨some ⟨w1.heap.size + 1, 0, none⟩, 0, nl, Fr.start HB2.out, HQ6.out, HO2.out, fun g hg => .inl (by simpa [Value.ownBlock] using hg.symm)⟩
  refine' rangeFunc_steps rfl (by omega) (gf := 49) (lb := #[.pointer (some ⟨bD, 0, none⟩)]) rfl trivial (enters_of Try.func49 (by kernel_rfl) rfl)
    (open_steps Fence.wide 5 trivial rfl (by omega) bD nl cr ar r (by omega) (LdI W w2 (w1.heap.size + 2) (w1.heap.size + 1) r l m)
      (fun k W' h => by obtain ⟨ao, n, cap, h⟩ := h; exact (h.fr.dbox HD.out (by have := HSZ.out; simp; omega)).cells.2.1)
      (fun k W' h hk => by obtain ⟨ao, n, cap, h⟩ := h; exact ix_keeps HX.out h.fr hk)
      (fun k W' hk hu h => by obtain ⟨ao, n, cap, h⟩ := h; exact ⟨ao, n, cap, by rw [ldN, if_neg hu, List.append_nil]; exact h⟩)) (fun _ => rfl)
    (ldI_own (by have := HB2.out.size; omega) (by have := HSZ.out; omega)) HI0.out _ ?assign ?body ?done
  case assign =>
    intro y k W' K hK
    unfold opArgs
    gi_wp2
    exact hK
  case body =>
    intro y k W' hk hu hI
    obtain ⟨ao, n, cap, hJ⟩ := hI
    have hn := owI_len hJ.own
    rw [ldN_len] at hn
    have hnk := cnt_le r k
    have hz := load_in hu hm840 (H20.out k)
    obtain ⟨g, cap2, w3, hrun, hbq, hJ3, hkf⟩ := hJ.drew.push (by omega) (by have := HB2.out.size; omega) (by simp) (by have := HB1.out.size; omega) (by have := HSZ.out; omega) (by simp) (by omega) (load r l m k)
    have hrun2 : Sem.run Try.prog (appI 22 #[.slice ao n cap, .slice (some ⟨W'.heap.size, 0, none⟩) 1 1]) ((W'.alloc (.cells #[.int .i64 (load r l m k)] 3)).drew) = .ok (.slice (some ⟨g, 0, none⟩) (n + 1) cap2) w3 := hrun
    have h8 := H8.out k
    have HEND : Hid (KeepsFrom w2.heap.size W' (w3.setCell ⟨w1.heap.size + 2, 0, none⟩ (.slice (some ⟨g, 0, none⟩) (n + 1) cap2)) ∧ LdI W w2 (w1.heap.size + 2) (w1.heap.size + 1) r l m (k + 1) (w3.setCell ⟨w1.heap.size + 2, 0, none⟩ (.slice (some ⟨g, 0, none⟩) (n + 1) cap2))) := Lib.hid ⟨hkf W' ⟨Nat.le_refl _, fun _ _ _ h _ => h⟩, _, _, _, by rw [ldN, if_pos hu]; exact hJ3⟩
    have c6 : W'.drew.cell? ⟨w1.heap.size + 2, 0, none⟩ = some (.slice ao n cap) := hJ.box.cell
    have c3 : W'.drew.cell? ⟨W.heap.size + 1, 0, none⟩ = some (.slice al nl cl) := (hJ.fr.box HL2.out (by have := HSZ.out; simp; omega)).cell
    have c5 : W'.drew.cell? ⟨w1.heap.size, 0, none⟩ = some (.int .i64 (m : Nat)) := (hJ.fr.box HQ5.out (by simp)).cell
    obtain ⟨bl, off, hal, hcx⟩ := ix_keeps HY.out hJ.fr hk
    have cx : W'.drew.cell? ⟨bl, off + k, none⟩ = some (.int .i64 (l.getD k 0)) := hcx
    have HBQ : Hid (Box W'.drew (w1.heap.size + 2) (.slice ao n cap) 22) := Lib.hid hJ.box
    have q6 := hbq.cell
    have f6 := hbq.free
    have hq6 : w1.heap.size + 2 < W'.heap.size := hJ.box.lt
    have hxb := H20.out k
    unfold load at hrun hrun2 hz
    obtain ⟨x, hx⟩ : ∃ x, x = l.getD k 0 := ⟨_, rfl⟩
    obtain ⟨p, hp⟩ : ∃ p, p = r.getD k 0 := ⟨_, rfl⟩
    have hpg : rg r k = p := hp.symm
    rw [← hx] at hxb hrun hrun2 cx hz
    rw [← hp] at h8 hrun hrun2 hu hz
    rw [hpg]
    obtain ⟨D, hD⟩ : ∃ D, D = (m : Int) / p := ⟨_, rfl⟩
    have htd : (m : Int).tdiv p = D := by rw [hD]; exact Int.tdiv_eq_ediv_of_nonneg (by omega)
    have hD0 : 0 ≤ D ∧ D ≤ 840 := by rw [hD]; exact ⟨Int.ediv_nonneg (by omega) (by omega), Int.le_trans (Int.ediv_le_self _ (by omega)) (by omega)⟩
    rw [← hD] at hrun hrun2 hz
    have hw1 : IntKind.i64.wrap D = D := IntWalk.i64_in _ (by omega)
    have hw2 : IntKind.i64.wrap (x * D) = x * D := IntWalk.i64_in _ (by omega)
    have hp0 : ¬ p = 0 := by omega
    have hlI : (k : Int) < (nl : Int) := by omega
    subst hal
    clear hJ hJ3 hkf hbq hx hp hpg hD hcx hn hnk hz hxb h8 hD0
    gi_wp2
    refine frame_namedIn ?_
    intro T hT
    obtain ⟨R, hRd⟩ : ∃ R : Array Bool → Act → World → Prop, R = (fun l a w' => ∃ vals, RG ldCh T [some 18, some 19, some 20, some 21, some 22, some 23, some 24, some 25, some 26, some 27, some 28, none] (fun l w => (l.getD 9 true = false → w = W'.drew) ∧ (l.getD 9 true = true → l.getD 10 true = false → w = (W'.drew.alloc (.cells #[.int .i64 (x * D)] 3))) ∧ (l.getD 10 true = true → l.getD 11 true = false → w = w3) ∧ (l.getD 11 true = true → w = (w3.setCell ⟨w1.heap.size + 2, 0, none⟩ (.slice (some ⟨g, 0, none⟩) (n + 1) cap2)))) (fun i u _ => match i with | 0 => u = .slice ao n cap | 1 => u = .slice (some ⟨bl, off, none⟩) nl cl | 2 => u = .int .i64 (k : Int) | 3 => u = .pointer (some ⟨bl, off + k, none⟩) | 4 => u = .int .i64 x | 5 => u = .int .i64 (m : Nat) | 6 => u = .int .i64 p | 7 => u = .int .i64 D | 8 => u = .int .i64 (x * D) | 9 => u = .slice (some ⟨W'.heap.size, 0, none⟩) 1 1 | 10 => u = .slice (some ⟨g, 0, none⟩) (n + 1) cap2 | _ => True) vals l a w') := ⟨_, rfl⟩
    refine region_inv (by kernel_rfl) R ?h0r1 ?stepr1 ?finr1
    case h0r1 => rw [hRd]; exact RG.start rfl (fun i j h => by simp [ldCh] at h; simp only [List.length_cons, List.length_nil]; omega) (by exact ldStart _ rfl _ _ _ _)
    case stepr1 =>
      rintro l a w' i' hR0 hi'
      have hR1 := hR0
      rw [hRd] at hR1
      obtain ⟨vals, hR⟩ := hR1
      obtain ⟨hl0, o, ho, hdep⟩ := mem_ready.1 hi'
      have h15 : i' < 12 := by
        have := (Array.getElem?_eq_some_iff.1 ho).1
        simpa using this
      rcases (show i' = 0 ∨ i' = 1 ∨ i' = 2 ∨ i' = 3 ∨ i' = 4 ∨ i' = 5 ∨ i' = 6 ∨ i' = 7 ∨ i' = 8 ∨ i' = 9 ∨ i' = 10 ∨ i' = 11 by omega) with rfl | rfl | rfl | rfl | rfl | rfl | rfl | rfl | rfl | rfl | rfl | rfl
      · simp at ho
        subst ho
        simp [Region.binds] at hdep
        have k0 : a.tmps.getD 6 undef = _ := (hR.fr.kept rfl (by simp [hT])).trans (by rw [hT]; try rfl)
        have hc : ∀ j, (0, j) ∈ ldCh → l.getD j true = true := by intro j hj; simp [ldCh] at hj
        have n10 := hR.no (s := 10) hl0 (fun hs => (hR.dep 10 0 (by decide) hs))
        clear hi' hdep
        have cc : w'.cell? ⟨w1.heap.size + 2, 0, none⟩ = some (.slice ao n cap) := by
          cases h9 : l.getD 9 true with
          | false => rw [hR.wd.1 h9]; exact c6
          | true => rw [hR.wd.2.1 h9 n10]; exact (Box.alloc (ty := 22) (q := w1.heap.size + 2) (v := .slice ao n cap) HBQ.out _).cell
        have k0g := k0
        rw [Array.getD_eq_getD_getElem?] at k0g
        unfold wpOpIn
        simp [Region.wanted]
        unfold Oper.wpIn
        simp [Oper.about, execOp, go_sem, Act.eval, k0, k0g, cc]
        rw [hRd]
        exact hR.op 0 18 _ rfl (by decide) hl0 hc (ldW hR.wd (by decide) (by decide) (by decide)) (fun _ _ h => h) (rfl)
      · simp at ho
        subst ho
        simp [Region.binds] at hdep
        have k0 : a.tmps.getD 3 undef = _ := (hR.fr.kept rfl (by simp [hT])).trans (by rw [hT]; try rfl)
        have hc : ∀ j, (1, j) ∈ ldCh → l.getD j true = true := by intro j hj; simp [ldCh] at hj
        have n9 := hR.no (s := 9) hl0 (fun hs => (hR.dep 3 1 (by decide) (hR.dep 4 3 (by decide) (hR.dep 8 4 (by decide) (hR.dep 9 8 (by decide) hs)))))
        clear hi' hdep
        have hw := hR.wd.1 n9
        subst hw
        have k0g := k0
        rw [Array.getD_eq_getD_getElem?] at k0g
        unfold wpOpIn
        simp [Region.wanted]
        unfold Oper.wpIn
        simp [Oper.about, execOp, go_sem, Act.eval, k0, k0g, c3]
        rw [hRd]
        exact hR.op 1 19 _ rfl (by decide) hl0 hc (ldW hR.wd (by decide) (by decide) (by decide)) (fun _ _ h => h) (rfl)
      · simp at ho
        subst ho
        simp [Region.binds] at hdep
        have k0 : a.tmps.getD 7 undef = _ := (hR.fr.kept rfl (by simp [hT])).trans (by rw [hT]; try rfl)
        have hc : ∀ j, (2, j) ∈ ldCh → l.getD j true = true := by intro j hj; simp [ldCh] at hj
        clear hi' hdep
        have k0g := k0
        rw [Array.getD_eq_getD_getElem?] at k0g
        unfold wpOpIn
        simp [Region.wanted]
        unfold Oper.wpIn
        simp [Oper.about, execOp, go_sem, Act.eval, k0, k0g]
        rw [hRd]
        exact hR.op 2 20 _ rfl (by decide) hl0 hc (ldW hR.wd (by decide) (by decide) (by decide)) (fun _ _ h => h) (rfl)
      · simp at ho
        subst ho
        simp [Region.binds] at hdep
        have d0 : l.getD 1 true = true := getD_true (by simp_all)
        have k0 : a.tmps.getD 19 undef = vals 1 := hR.get rfl (by simp_all) (by simp [hT])
        have e0 : vals 1 = .slice (some ⟨bl, off, none⟩) nl cl := hR.vl 1 (by decide) d0
        rw [e0] at k0
        have d1 : l.getD 2 true = true := getD_true (by simp_all)
        have k1 : a.tmps.getD 20 undef = vals 2 := hR.get rfl (by simp_all) (by simp [hT])
        have e1 : vals 2 = .int .i64 (k : Int) := hR.vl 2 (by decide) d1
        rw [e1] at k1
        have hc : ∀ j, (3, j) ∈ ldCh → l.getD j true = true := by intro j hj; simp [ldCh] at hj; rcases hj with rfl | rfl <;> exact getD_true (by simp_all)
        clear hi' hdep
        have k0g := k0
        rw [Array.getD_eq_getD_getElem?] at k0g
        have k1g := k1
        rw [Array.getD_eq_getD_getElem?] at k1g
        unfold wpOpIn
        simp [Region.wanted]
        unfold Oper.wpIn
        simp [Oper.about, execOp, go_sem, Act.eval, k0, k1, k0g, k1g, hlI]
        rw [hRd]
        exact hR.op 3 21 _ rfl (by decide) hl0 hc (ldW hR.wd (by decide) (by decide) (by decide)) (fun _ _ h => h) (rfl)
      · simp at ho
        subst ho
        simp [Region.binds] at hdep
        have d0 : l.getD 3 true = true := getD_true (by simp_all)
        have k0 : a.tmps.getD 21 undef = vals 3 := hR.get rfl (by simp_all) (by simp [hT])
        have e0 : vals 3 = .pointer (some ⟨bl, off + k, none⟩) := hR.vl 3 (by decide) d0
        rw [e0] at k0
        have hc : ∀ j, (4, j) ∈ ldCh → l.getD j true = true := by intro j hj; simp [ldCh] at hj; rcases hj with rfl <;> exact getD_true (by simp_all)
        have n9 := hR.no (s := 9) hl0 (fun hs => (hR.dep 8 4 (by decide) (hR.dep 9 8 (by decide) hs)))
        clear hi' hdep
        have hw := hR.wd.1 n9
        subst hw
        have k0g := k0
        rw [Array.getD_eq_getD_getElem?] at k0g
        unfold wpOpIn
        simp [Region.wanted]
        unfold Oper.wpIn
        simp [Oper.about, execOp, go_sem, Act.eval, k0, k0g, cx]
        rw [hRd]
        exact hR.op 4 22 _ rfl (by decide) hl0 hc (ldW hR.wd (by decide) (by decide) (by decide)) (fun _ _ h => h) (rfl)
      · simp at ho
        subst ho
        simp [Region.binds] at hdep
        have k0 : a.tmps.getD 5 undef = _ := (hR.fr.kept rfl (by simp [hT])).trans (by rw [hT]; try rfl)
        have hc : ∀ j, (5, j) ∈ ldCh → l.getD j true = true := by intro j hj; simp [ldCh] at hj
        have n9 := hR.no (s := 9) hl0 (fun hs => (hR.dep 7 5 (by decide) (hR.dep 8 7 (by decide) (hR.dep 9 8 (by decide) hs))))
        clear hi' hdep
        have hw := hR.wd.1 n9
        subst hw
        have k0g := k0
        rw [Array.getD_eq_getD_getElem?] at k0g
        unfold wpOpIn
        simp [Region.wanted]
        unfold Oper.wpIn
        simp [Oper.about, execOp, go_sem, Act.eval, k0, k0g, c5]
        rw [hRd]
        exact hR.op 5 23 _ rfl (by decide) hl0 hc (ldW hR.wd (by decide) (by decide) (by decide)) (fun _ _ h => h) (rfl)
      · simp at ho
        subst ho
        simp [Region.binds] at hdep
        have k0 : a.tmps.getD 8 undef = _ := (hR.fr.kept rfl (by simp [hT])).trans (by rw [hT]; try rfl)
        have hc : ∀ j, (6, j) ∈ ldCh → l.getD j true = true := by intro j hj; simp [ldCh] at hj
        clear hi' hdep
        have k0g := k0
        rw [Array.getD_eq_getD_getElem?] at k0g
        unfold wpOpIn
        simp [Region.wanted]
        unfold Oper.wpIn
        simp [Oper.about, execOp, go_sem, Act.eval, k0, k0g]
        rw [hRd]
        exact hR.op 6 24 _ rfl (by decide) hl0 hc (ldW hR.wd (by decide) (by decide) (by decide)) (fun _ _ h => h) (rfl)
      · simp at ho
        subst ho
        simp [Region.binds] at hdep
        have d0 : l.getD 5 true = true := getD_true (by simp_all)
        have k0 : a.tmps.getD 23 undef = vals 5 := hR.get rfl (by simp_all) (by simp [hT])
        have e0 : vals 5 = .int .i64 (m : Nat) := hR.vl 5 (by decide) d0
        rw [e0] at k0
        have d1 : l.getD 6 true = true := getD_true (by simp_all)
        have k1 : a.tmps.getD 24 undef = vals 6 := hR.get rfl (by simp_all) (by simp [hT])
        have e1 : vals 6 = .int .i64 p := hR.vl 6 (by decide) d1
        rw [e1] at k1
        have hc : ∀ j, (7, j) ∈ ldCh → l.getD j true = true := by intro j hj; simp [ldCh] at hj; rcases hj with rfl | rfl <;> exact getD_true (by simp_all)
        clear hi' hdep
        have k0g := k0
        rw [Array.getD_eq_getD_getElem?] at k0g
        have k1g := k1
        rw [Array.getD_eq_getD_getElem?] at k1g
        unfold wpOpIn
        simp [Region.wanted]
        unfold Oper.wpIn
        simp [Oper.about, execOp, go_sem, Act.eval, k0, k1, k0g, k1g, hp0, htd, hw1]
        rw [hRd]
        exact hR.op 7 25 _ rfl (by decide) hl0 hc (ldW hR.wd (by decide) (by decide) (by decide)) (fun _ _ h => h) (rfl)
      · simp at ho
        subst ho
        simp [Region.binds] at hdep
        have d0 : l.getD 4 true = true := getD_true (by simp_all)
        have k0 : a.tmps.getD 22 undef = vals 4 := hR.get rfl (by simp_all) (by simp [hT])
        have e0 : vals 4 = .int .i64 x := hR.vl 4 (by decide) d0
        rw [e0] at k0
        have d1 : l.getD 7 true = true := getD_true (by simp_all)
        have k1 : a.tmps.getD 25 undef = vals 7 := hR.get rfl (by simp_all) (by simp [hT])
        have e1 : vals 7 = .int .i64 D := hR.vl 7 (by decide) d1
        rw [e1] at k1
        have hc : ∀ j, (8, j) ∈ ldCh → l.getD j true = true := by intro j hj; simp [ldCh] at hj; rcases hj with rfl | rfl <;> exact getD_true (by simp_all)
        clear hi' hdep
        have k0g := k0
        rw [Array.getD_eq_getD_getElem?] at k0g
        have k1g := k1
        rw [Array.getD_eq_getD_getElem?] at k1g
        unfold wpOpIn
        simp [Region.wanted]
        unfold Oper.wpIn
        simp [Oper.about, execOp, go_sem, Act.eval, k0, k1, k0g, k1g, hw2]
        rw [hRd]
        exact hR.op 8 26 _ rfl (by decide) hl0 hc (ldW hR.wd (by decide) (by decide) (by decide)) (fun _ _ h => h) (rfl)
      · simp at ho
        subst ho
        simp [Region.binds] at hdep
        have d0 : l.getD 8 true = true := getD_true (by simp_all)
        have k0 : a.tmps.getD 26 undef = vals 8 := hR.get rfl (by simp_all) (by simp [hT])
        have e0 : vals 8 = .int .i64 (x * D) := hR.vl 8 (by decide) d0
        rw [e0] at k0
        have hc : ∀ j, (9, j) ∈ ldCh → l.getD j true = true := by intro j hj; simp [ldCh] at hj; rcases hj with rfl <;> exact getD_true (by simp_all)
        have n9 := hR.no (s := 9) hl0 (fun hs => hs)
        have n10 := hR.no (s := 10) hl0 (fun hs => (hR.dep 10 9 (by decide) hs))
        have n11 := hR.no (s := 11) hl0 (fun hs => (hR.dep 10 9 (by decide) (hR.dep 11 10 (by decide) hs)))
        clear hi' hdep
        have hw := hR.wd.1 n9
        subst hw
        have k0g := k0
        rw [Array.getD_eq_getD_getElem?] at k0g
        unfold wpOpIn
        simp [Region.wanted]
        unfold Oper.wpIn
        simp [Oper.about, execOp, go_sem, Act.eval, k0, k0g]
        rw [hRd]
        exact hR.op 9 27 _ rfl (by decide) hl0 hc (⟨fun h => by rw [gset_self] at h; (cases h), fun _ _ => rfl, fun h => by rw [gset_ne (by decide), n10] at h; (cases h), fun h => by rw [gset_ne (by decide), n11] at h; (cases h)⟩) (fun _ _ h => h) (rfl)
      · simp at ho
        subst ho
        simp [Region.binds] at hdep
        have d0 : l.getD 0 true = true := getD_true (by simp_all)
        have k0 : a.tmps.getD 18 undef = vals 0 := hR.get rfl (by simp_all) (by simp [hT])
        have e0 : vals 0 = .slice ao n cap := hR.vl 0 (by decide) d0
        rw [e0] at k0
        have d1 : l.getD 9 true = true := getD_true (by simp_all)
        have k1 : a.tmps.getD 27 undef = vals 9 := hR.get rfl (by simp_all) (by simp [hT])
        have e1 : vals 9 = .slice (some ⟨W'.heap.size, 0, none⟩) 1 1 := hR.vl 9 (by decide) d1
        rw [e1] at k1
        have hc : ∀ j, (10, j) ∈ ldCh → l.getD j true = true := by intro j hj; simp [ldCh] at hj; rcases hj with rfl | rfl <;> exact getD_true (by simp_all)
        have n10 := hR.no (s := 10) hl0 (fun hs => hs)
        have n11 := hR.no (s := 11) hl0 (fun hs => (hR.dep 11 10 (by decide) hs))
        clear hi' hdep
        have hw := hR.wd.2.1 d1 n10
        subst hw
        have k0g := k0
        rw [Array.getD_eq_getD_getElem?] at k0g
        have k1g := k1
        rw [Array.getD_eq_getD_getElem?] at k1g
        unfold wpOpIn
        simp [Region.wanted]
        unfold Oper.wpIn
        simp [Oper.about, execOp, go_sem, Act.eval, k0, k1, k0g, k1g, appI_rw, hrun, hrun2]
        rw [hRd]
        exact hR.op 10 28 _ rfl (by decide) hl0 hc (⟨fun h => by rw [gset_ne (by decide), d1] at h; (cases h), fun _ h => by rw [gset_self] at h; (cases h), fun _ _ => rfl, fun h => by rw [gset_ne (by decide), n11] at h; (cases h)⟩) (fun _ _ h => h) (rfl)
      · simp at ho
        subst ho
        simp [Region.binds] at hdep
        have k0 : a.tmps.getD 6 undef = _ := (hR.fr.kept rfl (by simp [hT])).trans (by rw [hT]; try rfl)
        have d1 : l.getD 10 true = true := getD_true (by simp_all)
        have k1 : a.tmps.getD 28 undef = vals 10 := hR.get rfl (by simp_all) (by simp [hT])
        have e1 : vals 10 = .slice (some ⟨g, 0, none⟩) (n + 1) cap2 := hR.vl 10 (by decide) d1
        rw [e1] at k1
        have hc : ∀ j, (11, j) ∈ ldCh → l.getD j true = true := by intro j hj; simp [ldCh] at hj; rcases hj with rfl <;> exact getD_true (by simp_all)
        have n11 := hR.no (s := 11) hl0 (fun hs => hs)
        clear hi' hdep
        have hw := hR.wd.2.2.1 d1 n11
        subst hw
        have k0g := k0
        rw [Array.getD_eq_getD_getElem?] at k0g
        have k1g := k1
        rw [Array.getD_eq_getD_getElem?] at k1g
        unfold wpOpIn
        simp [Region.wanted]
        unfold Oper.wpIn
        simp [Oper.about, execOp, go_sem, Act.eval, k0, k1, k0g, k1g, q6, f6]
        rw [hRd]
        exact hR.bare 11 undef rfl hl0 hc (⟨fun h => by rw [gset_ne (by decide), hR.dep 10 9 (by decide) d1] at h; (cases h), fun _ h => by rw [gset_ne (by decide), d1] at h; (cases h), fun _ h => by rw [gset_self] at h; (cases h), fun _ => rfl⟩) (fun _ _ h => h) (fun _ => trivial)
    case' finr1 =>
      rintro l a w' hR0 hz
      rw [hRd] at hR0
      obtain ⟨vals, hR⟩ := hR0
      clear hRd R
      have hnot := List.eq_nil_iff_forall_not_mem.1 hz
      have hk : ∀ k, k < 12 → (l.getD k true = false → False) → l.getD k false = true := fun k h12 h => by
        have hs := hR.size
        cases h' : l.getD k true with
        | false => exact (h h').elim
        | true => simp at hs; simp [Array.getD, hs, h12] at h' ⊢; exact h'
      have st0 := hk 0 (by omega) (fun h => hnot 0 (mem_ready.2 ⟨h, _, rfl, by simp [Region.binds]⟩))
      have st1 := hk 1 (by omega) (fun h => hnot 1 (mem_ready.2 ⟨h, _, rfl, by simp [Region.binds]⟩))
      have st2 := hk 2 (by omega) (fun h => hnot 2 (mem_ready.2 ⟨h, _, rfl, by simp [Region.binds]⟩))
      have st3 := hk 3 (by omega) (fun h => hnot 3 (mem_ready.2 ⟨h, _, rfl, by simp [Region.binds] <;> simp_all⟩))
      have st4 := hk 4 (by omega) (fun h => hnot 4 (mem_ready.2 ⟨h, _, rfl, by simp [Region.binds] <;> simp_all⟩))
      have st5 := hk 5 (by omega) (fun h => hnot 5 (mem_ready.2 ⟨h, _, rfl, by simp [Region.binds]⟩))
      have st6 := hk 6 (by omega) (fun h => hnot 6 (mem_ready.2 ⟨h, _, rfl, by simp [Region.binds]⟩))
      have st7 := hk 7 (by omega) (fun h => hnot 7 (mem_ready.2 ⟨h, _, rfl, by simp [Region.binds] <;> simp_all⟩))
      have st8 := hk 8 (by omega) (fun h => hnot 8 (mem_ready.2 ⟨h, _, rfl, by simp [Region.binds] <;> simp_all⟩))
      have st9 := hk 9 (by omega) (fun h => hnot 9 (mem_ready.2 ⟨h, _, rfl, by simp [Region.binds] <;> simp_all⟩))
      have st10 := hk 10 (by omega) (fun h => hnot 10 (mem_ready.2 ⟨h, _, rfl, by simp [Region.binds] <;> simp_all⟩))
      have st11 := hk 11 (by omega) (fun h => hnot 11 (mem_ready.2 ⟨h, _, rfl, by simp [Region.binds] <;> simp_all⟩))
      have hall : ∀ i, i < 12 → l.getD i true = true := fun i hi => by
        rcases (show i = 0 ∨ i = 1 ∨ i = 2 ∨ i = 3 ∨ i = 4 ∨ i = 5 ∨ i = 6 ∨ i = 7 ∨ i = 8 ∨ i = 9 ∨ i = 10 ∨ i = 11 by omega) with rfl | rfl | rfl | rfl | rfl | rfl | rfl | rfl | rfl | rfl | rfl | rfl
        · exact getD_true st0
        · exact getD_true st1
        · exact getD_true st2
        · exact getD_true st3
        · exact getD_true st4
        · exact getD_true st5
        · exact getD_true st6
        · exact getD_true st7
        · exact getD_true st8
        · exact getD_true st9
        · exact getD_true st10
        · exact getD_true st11
      clear st0 st1 st2 st3 st4 st5 st6 st7 st8 st9 st10 st11 hk hnot hz
      have hTs : T.size = 30 := by rw [hT]; rfl
      have ha := hR.all (T' := (((((((((((T.setIfInBounds 18 (vals 0)).setIfInBounds 19 (vals 1)).setIfInBounds 20 (vals 2)).setIfInBounds 21 (vals 3)).setIfInBounds 22 (vals 4)).setIfInBounds 23 (vals 5)).setIfInBounds 24 (vals 6)).setIfInBounds 25 (vals 7)).setIfInBounds 26 (vals 8)).setIfInBounds 27 (vals 9)).setIfInBounds 28 (vals 10))) (fun i hi => hall i (by simpa using hi)) (by simp) (fun j hj => by
        by_cases h1 : j = 18 ∨ j = 19 ∨ j = 20 ∨ j = 21 ∨ j = 22 ∨ j = 23 ∨ j = 24 ∨ j = 25 ∨ j = 26 ∨ j = 27 ∨ j = 28
        · rcases h1 with rfl | rfl | rfl | rfl | rfl | rfl | rfl | rfl | rfl | rfl | rfl <;> simp [rv_sets, tOwn, List.findIdx?, List.findIdx?.go, hTs]
        · simp only [not_or] at h1
          obtain ⟨m18, m19, m20, m21, m22, m23, m24, m25, m26, m27, m28⟩ := h1
          have e : tOwn [some 18, some 19, some 20, some 21, some 22, some 23, some 24, some 25, some 26, some 27, some 28, none] vals j = none := by
            unfold tOwn
            simp [List.findIdx?, List.findIdx?.go, Ne.symm m18, Ne.symm m19, Ne.symm m20, Ne.symm m21, Ne.symm m22, Ne.symm m23, Ne.symm m24, Ne.symm m25, Ne.symm m26, Ne.symm m27, Ne.symm m28]
          rw [e]
          simp only [rv_sets]
          repeat rw [if_neg (by omega)])
      have v0 : vals 0 = .slice ao n cap := hR.vl 0 (by decide) (hall 0 (by decide))
      have v1 : vals 1 = .slice (some ⟨bl, off, none⟩) nl cl := hR.vl 1 (by decide) (hall 1 (by decide))
      have v2 : vals 2 = .int .i64 (k : Int) := hR.vl 2 (by decide) (hall 2 (by decide))
      have v3 : vals 3 = .pointer (some ⟨bl, off + k, none⟩) := hR.vl 3 (by decide) (hall 3 (by decide))
      have v4 : vals 4 = .int .i64 x := hR.vl 4 (by decide) (hall 4 (by decide))
      have v5 : vals 5 = .int .i64 (m : Nat) := hR.vl 5 (by decide) (hall 5 (by decide))
      have v6 : vals 6 = .int .i64 p := hR.vl 6 (by decide) (hall 6 (by decide))
      have v7 : vals 7 = .int .i64 D := hR.vl 7 (by decide) (hall 7 (by decide))
      have v8 : vals 8 = .int .i64 (x * D) := hR.vl 8 (by decide) (hall 8 (by decide))
      have v9 : vals 9 = .slice (some ⟨W'.heap.size, 0, none⟩) 1 1 := hR.vl 9 (by decide) (hall 9 (by decide))
      have v10 : vals 10 = .slice (some ⟨g, 0, none⟩) (n + 1) cap2 := hR.vl 10 (by decide) (hall 10 (by decide))
      have hw := hR.wd.2.2.2 (hall 11 (by decide))
      subst hw
      subst ha
      clear hR hall hTs
      rw [v0, v1, v2, v3, v4, v5, v6, v7, v8, v9, v10, hT]
      simp only [List.setIfInBounds_toArray, List.set_cons_succ, List.set_cons_zero]
      clear v0 v1 v2 v3 v4 v5 v6 v7 v8 v9 v10 hT T
    gi_wp2
    exact HEND.out
  case done =>
    intro D W' hD hI hK
    obtain ⟨ao, n, cap, hJ⟩ := hI
    have c6 : W'.cell? ⟨w1.heap.size + 2, 0, none⟩ = some (.slice ao n cap) := hJ.box.cell
    have HJ := Lib.hid hJ
    have HK := Lib.hid hK
    have HDD := Lib.hid hD
    clear hJ hK hD
    go_wp2
    refine ⟨by simp, .inl ⟨_, _, rfl, run_takeDeferred HK.out, ?_⟩⟩
    exact ⟨_, results_tmp rfl _ _ _, ao, n, cap, rfl, owns_put HJ.out.own HK.out, HJ.out.fr.b.grown (grownBy_putObj' _ D _) HJ.out.fr.b.size (fun j e => by cases e; have := HDD.out; have := HB2.out.size; omega)⟩

end Go.Proofs.Ytcpgoaombabfjaa

namespace Go.Proofs.Ytcpgoaombabfjaa
open Go.RowKit Go.Shelf
attribute [local go_sem] Oper.semAt_some

theorem run_store_func {P : Program} {w : World} {a : Addr} {m : Mode} (f : Fn) (x y : Array Value) : (store a (.func f x y) m).run P w = stored P w a (.func f x y) m := run_store P w a _ m rfl
attribute [local go_sem] run_store_func

set_option maxRecDepth 10000 in
set_option maxHeartbeats 1000000 in
theorem keptMax_any {W : World} (a b : Int) : Calls Try.prog 43 #[.int .i64 a, .int .i64 b] W fun e w' => e = .returned (.int .i64 (max a b)) ∧ w' = W := by
  go_enter Try.func43, Try.ntmps43
  go_wp2
  go_ret
  exact ⟨by first | rfl | (simp; done), rfl⟩

set_option maxRecDepth 10000 in
set_option maxHeartbeats 2000000 in
theorem ofmax_any {W : World} {ao : Option Addr} {n cap : Nat} {l : List Int} (hX : Ix W (.slice ao n cap) l) (hn : n ≠ 0) (h8 : n ≤ 1000) :
    Calls Try.prog 46 #[.agg #[.func (.func 43) #[] #[]], .slice ao n cap] W fun e w' => e = .returned (.int .i64 (maxL l)) ∧ Below W.heap.size W w' := by
  obtain ⟨b, off, rfl, hnl, hcap, hbl, hcl⟩ := hX.at hn
  obtain ⟨x, t, rfl⟩ : ∃ x t, l = x :: t := by
    cases l with
    | nil => simp at hnl; omega
    | cons x t => exact ⟨x, t, rfl⟩
  obtain ⟨m, rfl⟩ : ∃ m, n = m + 1 := ⟨n - 1, by omega⟩
  have hm : m = t.length := by simp at hnl; omega
  have HM := Lib.hid hm
  obtain ⟨Z, hZ⟩ : ∃ Z, Z = maxL (x :: t) := ⟨_, rfl⟩
  have HZ := Lib.hid hZ
  rw [← hZ]
  have hc0 := hcl 0 (by omega)
  rw [Nat.add_zero, List.getD_cons_zero] at hc0
  have HC : Hid (∀ j, j < m → W.cell? ⟨b, off + 1 + j, none⟩ = some (.int .i64 (t.getD j 0))) := Lib.hid (fun j hj => by
    have := hcl (j + 1) (by omega)
    rw [List.getD_cons_succ] at this
    rwa [show off + 1 + j = off + (j + 1) by omega])
  obtain ⟨W1, hW1⟩ : ∃ W1, W1 = W.alloc (.cells #[.func (.func 43) #[] #[]] 75) := ⟨_, rfl⟩
  have HB1 : Hid (Below W.heap.size W (W.alloc (.cells #[.func (.func 43) #[] #[]] 75))) := Lib.hid ((Below.refl _ _).alloc (Nat.le_refl _) _)
  have HBX : Hid (Box (W.alloc (.cells #[.func (.func 43) #[] #[]] 75)) W.heap.size (.func (.func 43) #[] #[]) 75) := Lib.hid (Box.new _ _ _)
  have c0 := cell_later HB1.out hc0
  have hmI : (0 : Int) < (m : Int) + 1 := by omega
  clear hX hnl hcl hZ hm hW1 hc0
  go_enter Try.func46, Try.ntmps46
  go_wp2
  all_goals (
   go_loopw [5, 7, 14] (fun a5 _ kv wr => ∃ k : Nat, k ≤ m ∧ kv = .int .i64 (k : Nat) ∧ a5 = .int .i64 ((t.take k).foldl max x) ∧ wr = W.alloc (.cells #[.func (.func 43) #[] #[]] 75)) (fun _ _ kv _ => m - (intOf kv).toNat)
   case atStart => exact ⟨0, by omega, rfl, rfl, rfl⟩
   case round =>
     obtain ⟨k, hk, rfl, rfl, rfl⟩ := hrel
     by_cases hkm : k = m
     · have E : Hid ((t.take k).foldl max x = Z) := Lib.hid (by rw [HZ.out, hkm, HM.out, List.take_length]; rfl)
       rw [E.out]
       subst hkm
       go_wp2
       go_ret
       exact ⟨rfl, HB1.out⟩
     · have hlt : k < m := by omega
       first
       | (exfalso; omega)
       | (
         have hc := cell_later HB1.out (HC.out k hlt)
         have hb := HBX.out.cell
         obtain ⟨y, hy⟩ : ∃ y, y = t.getD k 0 := ⟨_, rfl⟩
         obtain ⟨A, hA⟩ : ∃ A, A = (t.take k).foldl max x := ⟨_, rfl⟩
         have E : Hid (max A y = (t.take (k + 1)).foldl max x) := Lib.hid (by
           rw [List.take_add_one, List.getElem?_eq_getElem (by rw [← HM.out]; exact hlt), List.foldl_append, ← hA, hy]
           have hl : k < t.length := by rw [← HM.out]; exact hlt
           simp [List.getD, hl])
         have HK := Lib.hid (fun W' => keptMax_any (W := W') A y)
         rw [← hA]
         rw [← hy] at hc
         rw [E.out] at HK
         clear hy hA
         go_wp2_with (go_at_call 43; (with_reducible refine (HK.out _).mono ?_); rintro e w2 ⟨rfl, rfl⟩)
         go_roundw
         case rel => exact ⟨k + 1, by omega, by go_num, rfl, by trivial⟩
         case measure => simp [intOf]; omega))

set_option maxRecDepth 10000 in
set_option maxHeartbeats 1000000 in
theorem keptMin_any {W : World} (a b : Int) : Calls Try.prog 44 #[.int .i64 a, .int .i64 b] W fun e w' => e = .returned (.int .i64 (min a b)) ∧ w' = W := by
  go_enter Try.func44, Try.ntmps44
  go_wp2
  go_ret
  exact ⟨by first | rfl | (simp; done), rfl⟩

set_option maxRecDepth 10000 in
set_option maxHeartbeats 2000000 in
theorem ofmin_any {W : World} {ao : Option Addr} {n cap : Nat} {l : List Int} (hX : Ix W (.slice ao n cap) l) (hn : n ≠ 0) (h8 : n ≤ 1000) :
    Calls Try.prog 46 #[.agg #[.func (.func 44) #[] #[]], .slice ao n cap] W fun e w' => e = .returned (.int .i64 (minL l)) ∧ Below W.heap.size W w' := by
  obtain ⟨b, off, rfl, hnl, hcap, hbl, hcl⟩ := hX.at hn
  obtain ⟨x, t, rfl⟩ : ∃ x t, l = x :: t := by
    cases l with
    | nil => simp at hnl; omega
    | cons x t => exact ⟨x, t, rfl⟩
  obtain ⟨m, rfl⟩ : ∃ m, n = m + 1 := ⟨n - 1, by omega⟩
  have hm : m = t.length := by simp at hnl; omega
  have HM := Lib.hid hm
  obtain ⟨Z, hZ⟩ : ∃ Z, Z = minL (x :: t) := ⟨_, rfl⟩
  have HZ := Lib.hid hZ
  rw [← hZ]
  have hc0 := hcl 0 (by omega)
  rw [Nat.add_zero, List.getD_cons_zero] at hc0
  have HC : Hid (∀ j, j < m → W.cell? ⟨b, off + 1 + j, none⟩ = some (.int .i64 (t.getD j 0))) := Lib.hid (fun j hj => by
    have := hcl (j + 1) (by omega)
    rw [List.getD_cons_succ] at this
    rwa [show off + 1 + j = off + (j + 1) by omega])
  obtain ⟨W1, hW1⟩ : ∃ W1, W1 = W.alloc (.cells #[.func (.func 44) #[] #[]] 75) := ⟨_, rfl⟩
  have HB1 : Hid (Below W.heap.size W (W.alloc (.cells #[.func (.func 44) #[] #[]] 75))) := Lib.hid ((Below.refl _ _).alloc (Nat.le_refl _) _)
  have HBX : Hid (Box (W.alloc (.cells #[.func (.func 44) #[] #[]] 75)) W.heap.size (.func (.func 44) #[] #[]) 75) := Lib.hid (Box.new _ _ _)
  have c0 := cell_later HB1.out hc0
  have hmI : (0 : Int) < (m : Int) + 1 := by omega
  clear hX hnl hcl hZ hm hW1 hc0
  go_enter Try.func46, Try.ntmps46
  go_wp2
  all_goals (
   go_loopw [5, 7, 14] (fun a5 _ kv wr => ∃ k : Nat, k ≤ m ∧ kv = .int .i64 (k : Nat) ∧ a5 = .int .i64 ((t.take k).foldl min x) ∧ wr = W.alloc (.cells #[.func (.func 44) #[] #[]] 75)) (fun _ _ kv _ => m - (intOf kv).toNat)
   case atStart => exact ⟨0, by omega, rfl, rfl, rfl⟩
   case round =>
     obtain ⟨k, hk, rfl, rfl, rfl⟩ := hrel
     by_cases hkm : k = m
     · have E : Hid ((t.take k).foldl min x = Z) := Lib.hid (by rw [HZ.out, hkm, HM.out, List.take_length]; rfl)
       rw [E.out]
       subst hkm
       go_wp2
       go_ret
       exact ⟨rfl, HB1.out⟩
     · have hlt : k < m := by omega
       first
       | (exfalso; omega)
       | (
         have hc := cell_later HB1.out (HC.out k hlt)
         have hb := HBX.out.cell
         obtain ⟨y, hy⟩ : ∃ y, y = t.getD k 0 := ⟨_, rfl⟩
         obtain ⟨A, hA⟩ : ∃ A, A = (t.take k).foldl min x := ⟨_, rfl⟩
         have E : Hid (min A y = (t.take (k + 1)).foldl min x) := Lib.hid (by
           rw [List.take_add_one, List.getElem?_eq_getElem (by rw [← HM.out]; exact hlt), List.foldl_append, ← hA, hy]
           have hl : k < t.length := by rw [← HM.out]; exact hlt
           simp [List.getD, hl])
         have HK := Lib.hid (fun W' => keptMin_any (W := W') A y)
         rw [← hA]
         rw [← hy] at hc
         rw [E.out] at HK
         clear hy hA
         go_wp2_with (go_at_call 44; (with_reducible refine (HK.out _).mono ?_); rintro e w2 ⟨rfl, rfl⟩)
         go_roundw
         case rel => exact ⟨k + 1, by omega, by go_num, rfl, by trivial⟩
         case measure => simp [intOf]; omega))

end Go.Proofs.Ytcpgoaombabfjaa
