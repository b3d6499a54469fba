/- The law BlockDraws, walked. Condition: the arguments fit their types. -/
import Derived.Test.YtjlneggfkpjnpaaMS
import Derived.Test.YtjlneggfkpjnpaaN
namespace Go.Proofs.Ytjlneggfkpjnpaa
open Go.RowKit

/-- Four choices side by side. -/
def four (a b c d : Ch) : Nat → Ch | 0 => a | 1 => b | 2 => c | _ => d
theorem four_cells {W : World} {g : Nat} (a b c d : Ch) (h : W.heap[g]? = some (.cells #[.int .i64 a.1, .int .i64 a.2.1, .int .i64 a.2.2, .int .i64 b.1, .int .i64 b.2.1, .int .i64 b.2.2, .int .i64 c.1, .int .i64 c.2.1, .int .i64 c.2.2, .int .i64 d.1, .int .i64 d.2.1, .int .i64 d.2.2] 28 (0, 0))) :
    ∀ j, j < 4 → W.cell? ⟨g, j * 3, none⟩ = some (.int .i64 (four a b c d j).1) ∧ W.cell? ⟨g, j * 3 + 1, none⟩ = some (.int .i64 (four a b c d j).2.1) ∧ W.cell? ⟨g, j * 3 + 2, none⟩ = some (.int .i64 (four a b c d j).2.2) := by
  have hc : ∀ j, W.cell? ⟨g, j, none⟩ = _ := fun j => cell_of_row _ _ j _ _ _ h
  intro j hj
  match j, hj with
  | 0, _ => exact ⟨hc 0, hc 1, hc 2⟩
  | 1, _ => exact ⟨hc 3, hc 4, hc 5⟩
  | 2, _ => exact ⟨hc 6, hc 7, hc 8⟩
  | 3, _ => exact ⟨hc 9, hc 10, hc 11⟩

/-- The three boxes. -/
abbrev pW (W : World) (va vb v0 v1 : Value) (x y z : Int) : World := ((W.alloc (.cells #[va, vb] 24)).alloc (.cells #[v0, v1] 26)).alloc (.cells #[.int .i64 x, .int .i64 y, .int .i64 z] 28)
theorem p_boxes {W W' : World} {va vb v0 v1 : Value} {x y z : Int} (h : Below (pW W va vb v0 v1 x y z).heap.size (pW W va vb v0 v1 x y z) W') :
    W'.cell? ⟨W.heap.size, 0, none⟩ = some va ∧ W'.cell? ⟨W.heap.size, 1, none⟩ = some vb ∧ W'.cell? ⟨W.heap.size + 1, 0, none⟩ = some v0 ∧ W'.cell? ⟨W.heap.size + 1, 1, none⟩ = some v1 ∧ W'.cell? ⟨W.heap.size + 1 + 1, 0, none⟩ = some (.int .i64 x) ∧ W'.cell? ⟨W.heap.size + 1 + 1, 1, none⟩ = some (.int .i64 y) ∧ W'.cell? ⟨W.heap.size + 1 + 1, 2, none⟩ = some (.int .i64 z) := by
  have e : ∀ k, (pW W va vb v0 v1 x y z).heap[k]? = if k = W.heap.size + 2 then some (.cells #[.int .i64 x, .int .i64 y, .int .i64 z] 28) else if k = W.heap.size + 1 then some (.cells #[v0, v1] 26) else if k = W.heap.size then some (.cells #[va, vb] 24) else W.heap[k]? := fun k => by
    simp only [pW, World.alloc, Array.getElem?_push, Array.size_push]
  have hs : (pW W va vb v0 v1 x y z).heap.size = W.heap.size + 3 := by simp
  have h1 := (h.block (W.heap.size + 2) (by omega)).trans (by rw [e, if_pos rfl])
  have h2 := (h.block (W.heap.size + 1) (by omega)).trans (by rw [e, if_neg (by omega), if_pos rfl])
  have h3 := (h.block (W.heap.size) (by omega)).trans (by rw [e, if_neg (by omega), if_neg (by omega), if_pos rfl])
  exact ⟨cell_of_row _ _ _ _ _ _ h3, cell_of_row _ _ _ _ _ _ h3, cell_of_row _ _ _ _ _ _ h2, cell_of_row _ _ _ _ _ _ h2, cell_of_row _ _ _ _ _ _ h1, cell_of_row _ _ _ _ _ _ h1, cell_of_row _ _ _ _ _ _ h1⟩
theorem p_up (W : World) (va vb v0 v1 : Value) (x y z : Int) : Below W.heap.size W (pW W va vb v0 v1 x y z) := ((((Below.refl _ W).alloc (Nat.le_refl _) _).alloc (by simp) _).alloc (by simp; omega) _)

/-- The row made small. -/
def smV (row : List Int) (k : Nat) : List Int := (List.range k).map fun j => if j < row.length then row.getD j 0 % 5 else 0
theorem smV_succ (row : List Int) (k : Nat) : smV row (k + 1) = smV row k ++ [if k < row.length then row.getD k 0 % 5 else 0] := by
  simp [smV, List.range_succ]
theorem smV_len (row : List Int) (k : Nat) : (smV row k).length = k := by simp [smV]
theorem smV_in (row : List Int) (k : Nat) : inB 0 4 (smV row k) = true := by
  rw [inB_iff]
  intro j hj
  rw [smV_len] at hj
  have : (smV row k).getD j 0 = if j < row.length then row.getD j 0 % 5 else 0 := by simp [smV, List.getD, hj]
  rw [this]
  split <;> omega

theorem cut_val {ao : Option Addr} {n cap : Nat} {w : World} {l : List Int} (h : Ix w (.slice ao n cap) l) (W : World) : Calls Try.prog 10 #[.slice ao n cap] W fun e w' => e = .returned (.slice ao (min n 8) cap) ∧ w' = W := by
  have hlen := h.len
  have hs := h.size
  unfold maxLen at hlen
  have hcp : Hid (n ≤ cap ∨ n = 0) := by
    rcases h.is with ⟨rfl, ao2, cap2, e⟩ | ⟨b, off, cap2, e, h1, h2, h3⟩
    · exact Lib.hid (.inr (by simpa using hs))
    · injection e with e1 e2 e3
      subst e3
      exact Lib.hid (.inl (by omega))
  by_cases h0 : n = 0
  · subst h0
    clear hs h
    go_enter Try.func10, Try.ntmps10
    go_wp2
    go_ret
    exact ⟨rfl, rfl⟩
  · have hc2 : n ≤ cap := by rcases hcp.out with h | h <;> omega
    obtain ⟨b, off, rfl, hq, hq2, hbl, hcl⟩ := h.at h0
    rcases Nat.lt_or_ge 8 n with h8 | h8
    · have e4 : (8 : Int) < (n : Int) := by omega
      have e5 : min n 8 = 8 := by omega
      rw [e5]
      have hn63 : n ≤ 2 ^ 63 - 1 := by omega
      clear hcl hq hbl hs h hlen e5
      go_enter Try.func10, Try.ntmps10
      go_wp2
      all_goals first | (exfalso; omega) | (go_ret; exact ⟨rfl, rfl⟩)
    · have e4 : ¬ (8 : Int) < (n : Int) := by omega
      have e5 : min n 8 = n := by omega
      rw [e5]
      have hn63 : n ≤ 2 ^ 63 - 1 := by omega
      clear hcl hq hbl hs h hlen e5
      go_enter Try.func10, Try.ntmps10
      go_wp2
      all_goals first | (exfalso; omega) | (go_ret; exact ⟨rfl, rfl⟩)

theorem cut_ix {ao : Option Addr} {n cap : Nat} {w : World} {l : List Int} (h : Ix w (.slice ao n cap) l) : Ix w (.slice ao (min n 8) cap) (l.take 8) := by
  have hT := h.take (min n 8) (by omega)
  have hs := h.size
  have e2 : l.take (min n 8) = l.take 8 := by
    rcases Nat.le_total n 8 with h | h
    · rw [Nat.min_eq_left h, hs, List.take_length, List.take_of_length_le (by omega)]
    · rw [Nat.min_eq_right h]
  rw [e2] at hT
  exact hT

/-- Four designs side by side. -/
abbrev restW (W : World) (r s r' s' : Value) : World := W.alloc (.cells #[.int .i64 0, r, s, .int .i64 0, .int .i64 0, .int .i64 0, .int .i64 0, r', s', .int .i64 0, .int .i64 0, .int .i64 0, .int .i64 0, r, s', .int .i64 0, .int .i64 0, .int .i64 0, .int .i64 0, r', s, .int .i64 0, .int .i64 0, .int .i64 0] 33)
theorem rest_below (W : World) (r s r' s' : Value) : Below W.heap.size W (restW W r s r' s') := (Below.refl _ _).alloc (Nat.le_refl _) _
theorem rest_facts (W : World) {ar az ar' az' : Option Addr} {nr cr ns cs nr' cr' ns' cs' : Nat} {r s r' s' : List Int} (hr : Ix W (.slice ar nr cr) r) (hs : Ix W (.slice az ns cs) s) (hr' : Ix W (.slice ar' nr' cr') r') (hs' : Ix W (.slice az' ns' cs') s') (lr : r.length ≤ 8) (ls : s.length ≤ 8) (lr' : r'.length ≤ 8) (ls' : s'.length ≤ 8) :
    ∀ i, i < 4 → ∃ (a1 : Option Addr) (m1 c1 : Nat) (a2 : Option Addr) (m2 c2 : Nat) (q p : List Int), (restW W (.slice ar nr cr) (.slice az ns cs) (.slice ar' nr' cr') (.slice az' ns' cs')).cell? ⟨W.heap.size, i * 6, none⟩ = some (.int .i64 0) ∧ (restW W (.slice ar nr cr) (.slice az ns cs) (.slice ar' nr' cr') (.slice az' ns' cs')).cell? ⟨W.heap.size, i * 6 + 1, none⟩ = some (.slice a1 m1 c1) ∧ (restW W (.slice ar nr cr) (.slice az ns cs) (.slice ar' nr' cr') (.slice az' ns' cs')).cell? ⟨W.heap.size, i * 6 + 2, none⟩ = some (.slice a2 m2 c2) ∧ (restW W (.slice ar nr cr) (.slice az ns cs) (.slice ar' nr' cr') (.slice az' ns' cs')).cell? ⟨W.heap.size, i * 6 + 3, none⟩ = some (.int .i64 0) ∧ (restW W (.slice ar nr cr) (.slice az ns cs) (.slice ar' nr' cr') (.slice az' ns' cs')).cell? ⟨W.heap.size, i * 6 + 4, none⟩ = some (.int .i64 0) ∧ (restW W (.slice ar nr cr) (.slice az ns cs) (.slice ar' nr' cr') (.slice az' ns' cs')).cell? ⟨W.heap.size, i * 6 + 5, none⟩ = some (.int .i64 0) ∧
      Ix (restW W (.slice ar nr cr) (.slice az ns cs) (.slice ar' nr' cr') (.slice az' ns' cs')) (.slice a1 m1 c1) q ∧ Ix (restW W (.slice ar nr cr) (.slice az ns cs) (.slice ar' nr' cr') (.slice az' ns' cs')) (.slice a2 m2 c2) p ∧ q.length ≤ 8 ∧ p.length ≤ 8 := by
  have hb := rest_below W (.slice ar nr cr) (.slice az ns cs) (.slice ar' nr' cr') (.slice az' ns' cs')
  have hc : ∀ j, (restW W (.slice ar nr cr) (.slice az ns cs) (.slice ar' nr' cr') (.slice az' ns' cs')).cell? ⟨W.heap.size, j, none⟩ = _ := fun j => cell_of_row _ _ j _ _ _ (heap_alloc_new _ _)
  intro i hi
  match i, hi with
  | 0, _ => exact ⟨ar, nr, cr, az, ns, cs, r, s, hc 0, hc 1, hc 2, hc 3, hc 4, hc 5, hr.below hb, hs.below hb, lr, ls⟩
  | 1, _ => exact ⟨ar', nr', cr', az', ns', cs', r', s', hc 6, hc 7, hc 8, hc 9, hc 10, hc 11, hr'.below hb, hs'.below hb, lr', ls'⟩
  | 2, _ => exact ⟨ar, nr, cr, az', ns', cs', r, s', hc 12, hc 13, hc 14, hc 15, hc 16, hc 17, hr.below hb, hs'.below hb, lr, ls'⟩
  | 3, _ => exact ⟨ar', nr', cr', az, ns, cs, r', s, hc 18, hc 19, hc 20, hc 21, hc 22, hc 23, hr'.below hb, hs.below hb, lr', ls⟩

theorem rows_facts (W : World) {aw az : Option Addr} {nw cw ns cs : Nat} {row sm : List Int} (hw : Ix W (.slice aw nw cw) row) (hs : Ix W (.slice az ns cs) sm) (lw : row.length ≤ 8) (ls : sm.length ≤ 8) :
    ∀ i, i < 3 → ∃ (a1 : Option Addr) (m1 c1 : Nat) (q : List Int), (W.alloc (.cells #[.slice none 0 0, .slice aw nw cw, .slice az ns cs] 25)).cell? ⟨W.heap.size, i, none⟩ = some (.slice a1 m1 c1) ∧ Ix (W.alloc (.cells #[.slice none 0 0, .slice aw nw cw, .slice az ns cs] 25)) (.slice a1 m1 c1) q ∧ q.length ≤ 8 := by
  have hb : Below W.heap.size W (W.alloc (.cells #[.slice none 0 0, .slice aw nw cw, .slice az ns cs] 25)) := (Below.refl _ _).alloc (Nat.le_refl _) _
  have hc : ∀ j, (W.alloc (.cells #[.slice none 0 0, .slice aw nw cw, .slice az ns cs] 25)).cell? ⟨W.heap.size, j, none⟩ = _ := fun j => cell_of_row _ _ j _ _ _ (heap_alloc_new _ _)
  intro i hi
  match i, hi with
  | 0, _ => exact ⟨none, 0, 0, [], hc 0, Ix.nil _ _ _, by simp⟩
  | 1, _ => exact ⟨aw, nw, cw, row, hc 1, hw.below hb, lw⟩
  | 2, _ => exact ⟨az, ns, cs, sm, hc 2, hs.below hb, ls⟩

attribute [local go_sem ↓] appI_rw

set_option maxRecDepth 100000 in
set_option maxHeartbeats 8000000 in
theorem blockDraws_any {W : World} {va vb vrow v0 v1 : Value} {la lb row r0 s0 : List Int} (ha : Ux W va la) (hb : Ux W vb lb) (hrow : Ix W vrow row) (h0 : Ix W v0 r0) (h1 : Ix W v1 s0) (x y z : Int) :
    Calls Try.prog 3 #[.agg #[va, vb], vrow, .agg #[v0, v1], .agg #[.int .i64 x, .int .i64 y, .int .i64 z]] W fun e w' => e = .returned (.bool true) ∧ Below W.heap.size W w' := by
  have HSA := Lib.hid (fun W' => sanity_any W')
  have HB := Lib.hid (Below.refl (pW W va vb v0 v1 x y z).heap.size (pW W va vb v0 v1 x y z))
  have HPB := Lib.hid (fun W' (h : Below (pW W va vb v0 v1 x y z).heap.size (pW W va vb v0 v1 x y z) W') => p_boxes h)
  have HUP := Lib.hid (fun W' (h : Below (pW W va vb v0 v1 x y z).heap.size (pW W va vb v0 v1 x y z) W') => (p_up W va vb v0 v1 x y z).trans (h.mono (p_up W va vb v0 v1 x y z).size))
  have HMA := Lib.hid (fun W' (h : Below (pW W va vb v0 v1 x y z).heap.size (pW W va vb v0 v1 x y z) W') => made_ix (ha.below (HUP.out _ h)) (hb.below (HUP.out _ h)))
  obtain ⟨aw, cw, rfl⟩ := hrow.mk'
  obtain ⟨ao0, cap0, rfl⟩ := h0.mk'
  obtain ⟨ao1, cap1, rfl⟩ := h1.mk'
  have HCU := Lib.hid (fun W' => cut_val hrow W')
  have HC0 := Lib.hid (fun W' => cut_val h0 W')
  have HC1 := Lib.hid (fun W' => cut_val h1 W')
  have HX := Lib.hid (cut_ix hrow)
  have HX0 := Lib.hid (cut_ix h0)
  have HX1 := Lib.hid (cut_ix h1)
  have hnw : min row.length 8 ≤ 8 := by omega
  have hn0 : min r0.length 8 ≤ 8 := by omega
  have hn1 : min s0.length 8 ≤ 8 := by omega
  revert HCU HC0 HC1 HX HX0 HX1 hnw hn0 hn1
  generalize min row.length 8 = nw
  generalize min r0.length 8 = n0
  generalize min s0.length 8 = n1
  intro HCU HC0 HC1 HX HX0 HX1 hnw hn0 hn1
  clear ha hb hrow h0 h1
  go_enter Try.func3, Try.ntmps3
  go_upto_region 3 with (first
    | (go_at_call 8; (with_reducible refine (HSA.out _).mono ?_); rintro e w1 ⟨rfl, hb⟩; have HB := Lib.hid (HB.out.trans (hb.mono HB.out.size)); obtain ⟨b0, b1, -, -, -, -, -⟩ := HPB.out _ HB.out; clear hb)
    | (go_at_call 9; (with_reducible refine (HMA.out _ HB.out).mono ?_); rintro e w2 ⟨ar, nr, cr, az, ns, cs, rfl, hr, hs, hb⟩; have HR := Lib.hid hr; have HS := Lib.hid hs; have HB2 := Lib.hid (HB.out.trans (hb.mono HB.out.size)); clear hb hr hs))
  change Code.wp _ _ _ _ (dbox w2 (.slice ar nr cr) (.slice az ns cs))
  have hD := dbox_is w2 (.slice ar nr cr) (.slice az ns cs)
  have hR := HR.out.below (dbox_below w2 (.slice ar nr cr) (.slice az ns cs))
  have hS := HS.out.below (dbox_below w2 (.slice ar nr cr) (.slice az ns cs))
  have hB3 := HB2.out.trans ((dbox_below w2 (.slice ar nr cr) (.slice az ns cs)).mono HB2.out.size)
  generalize dbox w2 (.slice ar nr cr) (.slice az ns cs) = W3 at hD hR hS hB3 ⊢
  generalize w2.heap.size = g10 at hD ⊢
  have HD := Lib.hid hD
  have HR3 := Lib.hid hR
  have HS3 := Lib.hid hS
  have HB3 := Lib.hid hB3
  have hnr : nr ≤ 5 := by have := hR.size; have := ratV_len la; omega
  obtain ⟨k0, k1, k2, k3, k4, k5⟩ := hD.cells
  clear hD hR hS hB3 HB2 HR HS HB HSA HMA
  go_upto_region 5 with ((go_at_call 10; (with_reducible refine (HCU.out _).mono ?_); rintro e w4 ⟨rfl, rfl⟩))
  have HW3 := Lib.hid (HX.out.below (HUP.out _ HB3.out))
  clear HCU
  go_wp2
  go_loopw [11, 36] (fun sv kv wr => ∃ (k : Nat) (ao2 : Option Addr) (cap2 : Nat), k ≤ nr ∧ kv = .int .i64 (k : Nat) ∧ sv = .slice ao2 k cap2 ∧ Hid (OwI wr w4.heap.size (.slice ao2 k cap2) k (smV (row.take 8) k)) ∧ Hid (Below w4.heap.size w4 wr)) (fun _ kv _ => nr - (intOf kv).toNat)
  case atStart => exact ⟨0, none, 0, by omega, rfl, rfl, Lib.hid (World.ownsRow_nil _ _ _ _), Lib.hid (Below.refl _ _)⟩
  case round =>
    obtain ⟨k, ao2, cap2, hk, rfl, rfl, hO, hB⟩ := hrel
    by_cases hkn : k = nr
    · subst hkn
      have hB5 := HB3.out.trans (hB.out.mono HB3.out.size)
      have HSM := Lib.hid (hO.out.ix (by omega) (fit_small (smV_in _ _) (by decide) (by decide)))
      have HB5 := Lib.hid hB5
      have HD5 := Lib.hid (HD.out.below hB.out)
      have HR5 := Lib.hid (HR3.out.below hB.out)
      have HS5 := Lib.hid (HS3.out.below hB.out)
      have HW5 := Lib.hid (HW3.out.below hB.out)
      clear HB3 HD HR3 HS3 HW3 hO hB k0 k1 k2 k3 k4 k5
      go_upto_region 13 with fail
      go_cut [14] from 14 to 59 (fun sv wx => ∃ g : Nat, sv = .pointer (some ⟨g, 0, none⟩) ∧ Hid (DBox wx g (.slice ao0 n0 cap0) (.slice ao1 n1 cap1)) ∧ Hid (Below wr.heap.size wr wx))
      case first =>
        obtain ⟨b0, b1, b2, b3, b4, b5, b6⟩ := HPB.out _ HB5.out
        have hz0 : W.heap.size + 1 < wr.heap.size := by have h9 := HB5.out.size; simp only [World.size_alloc] at h9; omega
        go_region_law (go_simp; (first
          | (go_at_call 10; (with_reducible refine (HC0.out _).mono ?_); rintro e w6 ⟨rfl, rfl⟩)
          | (go_at_call 10; (with_reducible refine (HC1.out _).mono ?_); rintro e w7 ⟨rfl, rfl⟩)))
        all_goals (go_wp2_with fail; go_meet; exact ⟨wr.heap.size, rfl, (show DBox (World.drew _) _ _ _ from dbox_is _ _ _), (dbox_below _ _ _).drew⟩)
      case' rest =>
        obtain ⟨g14, rfl, HD6, HB6⟩ := hcut
        have hB7 := HB5.out.trans (HB6.out.mono HB5.out.size)
        have hX0 := HX0.out.below (HUP.out _ hB7)
        have hX1 := HX1.out.below (HUP.out _ hB7)
        have hXw := HX.out.below (HUP.out _ hB7)
        have hXs := HSM.out.below HB6.out
        have hXr := HR5.out.below HB6.out
        have hXz := HS5.out.below HB6.out
        have hD10 := HD5.out.below HB6.out
        have hD14 := HD6.out
        obtain ⟨p0, p1, p2, p3, p4, p5⟩ := DBox.cells hD10
        obtain ⟨q0, q1, q2, q3, q4, q5⟩ := DBox.cells hD14
        clear HB5 HD5 HR5 HS5 HW5 HSM HD6 HB6 HC0 HC1 HX HX0 HX1
        have hQ := rest_facts wc hXr hXz hX0 hX1 (by have := ratV_len la; omega) (by have := sizD_len lb; omega) (by rw [List.length_take]; omega) (by rw [List.length_take]; omega)
        have hB8 := hB7.trans ((rest_below wc (.slice ar k cr) (.slice az ns cs) (.slice ao0 n0 cap0) (.slice ao1 n1 cap1)).mono hB7.size)
        have hXw8 := hXw.below (rest_below wc (.slice ar k cr) (.slice az ns cs) (.slice ao0 n0 cap0) (.slice ao1 n1 cap1))
        have hXs8 := hXs.below (rest_below wc (.slice ar k cr) (.slice az ns cs) (.slice ao0 n0 cap0) (.slice ao1 n1 cap1))
        go_upto_region 15 with fail
        change Code.wp _ _ _ _ (restW wc (.slice ar k cr) (.slice az ns cs) (.slice ao0 n0 cap0) (.slice ao1 n1 cap1))
        clear p0 p1 p2 p3 p4 p5 q0 q1 q2 q3 q4 q5 hD10 hD14 hXr hXz hX0 hX1 hXw hXs hB7
        revert hQ hB8 hXw8 hXs8
        generalize restW wc (.slice ar k cr) (.slice az ns cs) (.slice ao0 n0 cap0) (.slice ao1 n1 cap1) = W8
        generalize wc.heap.size = G
        intro hQ hB8 hXw8 hXs8
        have HQ := Lib.hid hQ
        have HB8 := Lib.hid hB8
        have HXW := Lib.hid hXw8
        have HXS := Lib.hid hXs8
        clear hQ hB8 hXw8 hXs8
        go_loopw [74] (fun kv wr => ∃ i : Nat, i ≤ 4 ∧ kv = .int .i64 (i : Nat) ∧ Hid (Below W8.heap.size W8 wr)) (fun kv _ => 4 - (intOf kv).toNat)
        case atStart => exact ⟨0, by omega, rfl, Lib.hid (Below.refl _ _)⟩
        case round =>
          obtain ⟨i, hi, rfl, hB⟩ := hrel
          by_cases hi4 : i = 4
          · subst hi4
            go_wp2
            go_ret
            exact ⟨rfl, HUP.out _ (HB8.out.trans (hB.out.mono HB8.out.size))⟩
          · have hilt : i < 4 := by omega
            have hilt2 : (i : Int) < 4 := by omega
            obtain ⟨a1, m1, c1, a2, m2, c2, r, s, e0, e1, e2, e3, e4, e5, hr, hs, lr, ls⟩ := HQ.out i hilt
            have e0 := cell_later hB.out e0
            have e1 := cell_later hB.out e1
            have e2 := cell_later hB.out e2
            have e3 := cell_later hB.out e3
            have e4 := cell_later hB.out e4
            have e5 := cell_later hB.out e5
            go_upto_region 18 with fail
            change Code.wp _ _ _ _ (World.alloc (dbox wr (.slice a1 m1 c1) (.slice a2 m2 c2)) (.cells #[.slice none 0 0, .slice aw nw cw, .slice ao2 k cap2] 25))
            have hD16 := dbox_is wr (.slice a1 m1 c1) (.slice a2 m2 c2)
            have hb16 := hB.out.trans ((dbox_below wr (.slice a1 m1 c1) (.slice a2 m2 c2)).mono hB.out.size)
            have hlt16 : wr.heap.size < (dbox wr (.slice a1 m1 c1) (.slice a2 m2 c2)).heap.size := by simp
            have hs9 := dbox_size wr (.slice a1 m1 c1) (.slice a2 m2 c2)
            generalize dbox wr (.slice a1 m1 c1) (.slice a2 m2 c2) = W9 at hD16 hb16 hlt16 hs9 ⊢
            generalize wr.heap.size = g16 at hD16 hlt16 hs9 ⊢
            have hR3 := rows_facts W9 (HXW.out.below hb16) (HXS.out.below hb16) (by rw [List.length_take]; omega) (by rw [smV_len]; omega)
            have hb17 := hb16.alloc hb16.size (.cells #[.slice none 0 0, .slice aw nw cw, .slice ao2 k cap2] 25)
            have hD17 := DBox.below hD16 ((Below.refl _ W9).alloc (Nat.le_refl _) (.cells #[.slice none 0 0, .slice aw nw cw, .slice ao2 k cap2] 25))
            rw [hs9] at hR3
            clear e0 e1 e2 e3 e4 e5 hD16 hb16 hlt16 hs9
            revert hR3 hb17 hD17
            generalize World.alloc W9 (.cells #[.slice none 0 0, .slice aw nw cw, .slice ao2 k cap2] 25) = W10
            intro hR3 hb17 hD17
            have HR3 := Lib.hid hR3
            have HB17 := Lib.hid hb17
            have HD17 := Lib.hid hD17
            have HDR := Lib.hid (hr.below hb17)
            have HDS := Lib.hid (hs.below hb17)
            clear hR3 hb17 hD17 hr hs hB
            go_loopw [82] (fun kv wr => ∃ j : Nat, j ≤ 3 ∧ kv = .int .i64 (j : Nat) ∧ Hid (Below W10.heap.size W10 wr)) (fun kv _ => 3 - (intOf kv).toNat)
            case atStart => exact ⟨0, by omega, rfl, Lib.hid (Below.refl _ _)⟩
            case round =>
              obtain ⟨j, hj, rfl, hB⟩ := hrel
              by_cases hj3 : j = 3
              · subst hj3
                go_wp2
                go_roundw
                case rel => exact ⟨i + 1, by omega, by go_num, Lib.hid (HB17.out.trans (hB.out.mono HB17.out.size))⟩
                case measure => simp [intOf]; omega
              · have hjlt : j < 3 := by omega
                have hjlt2 : (j : Int) < 3 := by omega
                obtain ⟨a3, m3, c3, qrow, e0, hq, lq⟩ := HR3.out j hjlt
                have e0 := cell_later hB.out e0
                have hDw := HD17.out.below hB.out
                obtain ⟨d0, d1, d2, d3, d4, d5⟩ := DBox.cells hDw
                have HRC := Lib.hid (fun W' (hb : Below W10.heap.size W10 W') => rChoices_any (HDR.out.below hb) (HDS.out.below hb) (hq.below hb) lr ls lq)
                have HPC := Lib.hid (fun W' (hb : Below W10.heap.size W10 W') => choices_any (HDR.out.below hb) (HDS.out.below hb) (hq.below hb) lr ls lq)
                have HCX := Lib.hid (fun W' v (B n : Nat) (h : OwC W' B v n (chV r s qrow)) => h.chx lr ls lq)
                have HLE := Lib.hid (fun W' (hb : Below W10.heap.size W10 W') => left_any (hq.below hb) (by omega))
                have HRL := Lib.hid (fun W' (hb : Below W10.heap.size W10 W') => rLeft_any (hq.below hb) (by omega))
                have HNX := Lib.hid (fun W' (hb : Below W10.heap.size W10 W') (c : Ch) => next_any (HDR.out.below hb) (HDS.out.below hb) (hq.below hb) lr ls lq c.1 c.2.1 c.2.2)
                have HRN := Lib.hid (fun W' (hb : Below W10.heap.size W10 W') (c : Ch) => rNext_any (HDR.out.below hb) (HDS.out.below hb) (hq.below hb) lr ls lq c.1 c.2.1 c.2.2)
                have HSI := Lib.hid (fun W' (c : Ch) v v' (B B' n n' : Nat) (h : OwI W' B v n (nextV r s qrow c)) (h' : OwI W' B' v' n' (nextV r s qrow c)) => sameInts_yes (h.nx lr) (h'.nx lr))
                have hL64 := chV_len (row := qrow) lr ls lq
                have HB := hB
                revert hL64 HRC HPC HCX HLE HRL HNX HRN HSI
                generalize hL : chV r s qrow = L
                generalize leftV qrow = T
                intro HRC HPC HCX HLE HRL HNX HRN HSI hL64
                clear hq lq hDw
                go_upto_region 24 with (first
                  | (go_at_call 12; (with_reducible refine (HRC.out _ HB.out).mono ?_); rintro e w1 ⟨aoL, nL, capL, rfl, ho, hb⟩; have HCL := Lib.hid (HCX.out _ _ _ _ ho); have HB := Lib.hid (HB.out.trans (hb.mono HB.out.size)); clear ho hb d0 d1 d2 d3 d4 d5; obtain ⟨d0, d1, d2, d3, d4, d5⟩ := DBox.cells (HD17.out.below HB.out))
                  | (go_at_call 14; (with_reducible refine (HPC.out _ HB.out).mono ?_); rintro e w2 ⟨aoM, nM, capM, rfl, ho, hb⟩; have HCM := Lib.hid (HCX.out _ _ _ _ ho); have HCL := Lib.hid (HCL.out.below hb); have HB := Lib.hid (HB.out.trans (hb.mono HB.out.size)); clear ho hb d0 d1 d2 d3 d4 d5)
                  | (go_at_call 13; (with_reducible refine (same_yes HCM.out HCL.out).mono ?_); rintro e w3 ⟨rfl, hb⟩; have HCL := Lib.hid (HCL.out.below hb); have HB := Lib.hid (HB.out.trans (hb.mono HB.out.size)); clear hb)
                  | (go_at_call 15; (with_reducible refine (HLE.out _ HB.out).mono ?_); rintro e w4 ⟨rfl, hb⟩; have HCL := Lib.hid (HCL.out.below hb); have HB := Lib.hid (HB.out.trans (hb.mono HB.out.size)); clear hb)
                  | (go_at_call 16; (with_reducible refine (HRL.out _ HB.out).mono ?_); rintro e w5 ⟨rfl, rfl⟩))
                have hnL : nL = L.length := HCL.out.size
                have hnM := HCL.out.len
                unfold maxLen at hnM
                rw [← hnL] at hnM
                clear HRC HPC HCX HLE HRL hL
                have HB9 := HB
                have HNL := Lib.hid hnL
                have hn64 : nL ≤ 64 := by omega
                clear HB hB e0 hnL
                have HB10 : Hid (Below W10.heap.size W10 w5) := HB9
                obtain ⟨M, hM⟩ : ∃ M, M = nL + 1 := ⟨_, rfl⟩
                have HM := Lib.hid hM
                clear hM
                go_loopw [20] (fun kv wr => ∃ p : Nat, p ≤ M ∧ kv = .int .i64 (p : Nat) ∧ Hid (Below w5.heap.size w5 wr)) (fun kv _ => M - (intOf kv).toNat)
                case atStart => exact ⟨0, by omega, rfl, Lib.hid (Below.refl _ _)⟩
                case round =>
                  obtain ⟨p, hp, rfl, hB⟩ := hrel
                  by_cases hpn : p = M
                  · have hle : ¬ p ≤ nL := by have := HM.out; omega
                    subst hpn
                    go_wp2
                    go_roundw
                    case rel => exact ⟨j + 1, by omega, by go_num, Lib.hid (HB10.out.trans (hB.out.mono HB10.out.size))⟩
                    case measure => simp [intOf]; omega
                  · have hle : p ≤ nL := by have := HM.out; omega
                    have hpM : p < M := by omega
                    have hBw := HB10.out.trans (hB.out.mono HB10.out.size)
                    have hBp := HB8.out.trans ((HB17.out.trans (hBw.mono HB17.out.size)).mono HB8.out.size)
                    obtain ⟨b0, b1, b2, b3, b4, b5, b6⟩ := HPB.out _ hBp
                    go_upto_if 112 with fail
                    go_cut [21] from 109 to 116 (fun pv wx => pv = .pointer (some ⟨wr.heap.size, 0, none⟩) ∧ ∃ c : Ch, Hid (CBox wx wr.heap.size c) ∧ Hid (Below wr.heap.size wr wx))
                    case first =>
                      by_cases hpl : p < nL
                      · obtain ⟨bL, ofL, rfl, hcapL, hbL, hclL⟩ := HCL.out.at (by omega)
                        obtain ⟨f0, f1, f2⟩ := hclL p hpl
                        have f0 := cell_later hB.out f0
                        have f1 := cell_later hB.out f1
                        have f2 := cell_later hB.out f2
                        have hbl2 : bL < wr.heap.size := Nat.lt_of_lt_of_le hbL hB.out.size
                        clear hclL
                        go_wp2_with fail
                        go_meet
                        exact ⟨rfl, L.getD p (0, 0, 0), Lib.hid (cbox_is wr (L.getD p (0, 0, 0))), Lib.hid (cbox_below wr (L.getD p (0, 0, 0)))⟩
                      · go_wp2_with fail
                        go_meet
                        exact ⟨rfl, (x, y, z), Lib.hid (cbox_is wr (x, y, z)), Lib.hid (cbox_below wr (x, y, z))⟩
                    case' rest =>
                      obtain ⟨rfl, c, hC, hBc⟩ := hcut
                      have hBy := hBw.trans (hBc.out.mono hBw.size)
                      obtain ⟨cx, cy, cz⟩ := c
                      obtain ⟨f0, f1, f2⟩ := CBox.cells hC.out
                      have HPK := Lib.hid pick_any
                      have HCB := Lib.hid (fun W' (h : Below wc.heap.size wc W') => CBox.cells (hC.out.below h))
                      have HBN := Lib.hid (Below.refl wc.heap.size wc)
                      have HWN := Lib.hid (hB.out.trans (hBc.out.mono hB.out.size))
                      generalize wr.heap.size = g21 at *
                      go_upto_region 29 with fail
                      go_cut [142, 143, 144] from 117 to 144 (fun lv nv kv wx => ∃ (g : Nat) (q : Nat → Ch), lv = .slice (some ⟨g, 0, none⟩) 4 4 ∧ nv = .int .i64 4 ∧ kv = .int .i64 0 ∧ Hid (∀ j, j < 4 → wx.cell? ⟨g, j * 3, none⟩ = some (.int .i64 (q j).1) ∧ wx.cell? ⟨g, j * 3 + 1, none⟩ = some (.int .i64 (q j).2.1) ∧ wx.cell? ⟨g, j * 3 + 2, none⟩ = some (.int .i64 (q j).2.2)) ∧ Hid (Below wc.heap.size wc wx))
                      case first =>
                        go_region_held3 (fun W' => W'.cell? ⟨g21, 0, none⟩ = some (.int .i64 cx) ∧ W'.cell? ⟨g21, 1, none⟩ = some (.int .i64 cy) ∧ W'.cell? ⟨g21, 2, none⟩ = some (.int .i64 cz))
                          (first | (with_reducible exact HCB.out _ HBN.out) | (exact HCB.out _ (HBN.out.alloc HBN.out.size _)) | (exact HCB.out _ HBN.out.drew))
                          ((go_at_call 17; (refine (HPK.out _ _ _ _).mono ?_); rintro e wp ⟨rfl, hb⟩; (first | (have HBN := Lib.hid (HBN.out.trans (hb.mono HBN.out.size))) | (have HBN := Lib.hid (HBN.out.drew.trans (hb.mono HBN.out.drew.size)))); clear hb))
                        all_goals (go_wp2_with fail; go_meet; exact ⟨_, four (cx, cy, cz) (IntKind.i64.wrap (cx + 1), cy, cz) (cx, IntKind.i64.wrap (cy + 1), cz) (cx, cy, IntKind.i64.wrap (cz + 1)), rfl, rfl, rfl, Lib.hid (four_cells _ _ _ _ (heap_alloc_new _ _)), Lib.hid (HBN.out.alloc HBN.out.size _)⟩)
                      case' rest =>
                        obtain ⟨g5, q, rfl, rfl, rfl, HQC, HBq⟩ := hcut
                        have hB12 := hBy.trans (HBq.out.mono hBy.size)
                        have HB12 := Lib.hid hB12
                        have HB13 := Lib.hid (HWN.out.trans (HBq.out.mono HWN.out.size))
                        clear f0 f1 f2 b0 b1 b2 b3 b4 b5 b6 hBw hBp hBy hB12 HCB HBN hC hBc HPK HWN HBq hB
                        go_upto_region 30 with fail
                        go_loopw [144] (fun kv wr => ∃ t : Nat, t ≤ 4 ∧ kv = .int .i64 (t : Nat) ∧ Hid (Below wc.heap.size wc wr)) (fun kv _ => 4 - (intOf kv).toNat)
                        case atStart => exact ⟨0, by omega, rfl, Lib.hid (Below.refl _ _)⟩
                        case round =>
                          obtain ⟨t, ht, rfl, hB⟩ := hrel
                          by_cases ht4 : t = 4
                          · subst ht4
                            go_wp2
                            go_roundw
                            case rel => exact ⟨p + 1, by omega, by go_num, Lib.hid (HB13.out.trans (hB.out.mono HB13.out.size))⟩
                            case measure => simp [intOf]; omega
                          · have htlt : t < 4 := by omega
                            have htlt2 : (t : Int) < 4 := by omega
                            obtain ⟨f0, f1, f2⟩ := HQC.out t htlt
                            have f0 := cell_later hB.out f0
                            have f1 := cell_later hB.out f1
                            have f2 := cell_later hB.out f2
                            have hb14 := HB12.out.trans (hB.out.mono HB12.out.size)
                            have hB14 := hb14.trans ((cbox_below wr (q t)).mono hb14.size)
                            have HB14 := Lib.hid hB14
                            have hCB := cbox_is wr (q t)
                            have HCB := Lib.hid hCB
                            have HWX := Lib.hid (hB.out.trans ((cbox_below wr (q t)).mono hB.out.size))
                            obtain ⟨d0, d1, d2, d3, d4, d5⟩ := DBox.cells (HD17.out.below hb14)
                            have hg16 : g16 < wr.heap.size := (Array.getElem?_eq_some_iff.1 (HD17.out.below hb14)).1
                            clear hb14 hB14 hCB
                            go_wp2_with (first
                              | (go_at_call 18; (with_reducible refine (HNX.out _ HB14.out (q t)).mono ?_); rintro e w6 ⟨aoN, nN, capN, rfl, ho, hb⟩; have HON := Lib.hid ho; have HB15 := Lib.hid (HB14.out.trans (hb.mono HB14.out.size)); obtain ⟨c0, c1, c2⟩ := CBox.cells (HCB.out.below hb); have HWX := Lib.hid (HWX.out.trans (hb.mono HWX.out.size)); clear ho hb d0 d1 d2 d3 d4 d5; obtain ⟨d0, d1, d2, d3, d4, d5⟩ := DBox.cells (HD17.out.below HB15.out))
                              | (go_at_call 19; (with_reducible refine (HRN.out _ HB15.out (q t)).mono ?_); rintro e w7 ⟨aoM2, nM2, capM2, rfl, ho, hb⟩; have HOM := Lib.hid ho; have HON2 := Lib.hid (owns_later HON.out hb); have HWX := Lib.hid (HWX.out.trans (hb.mono HWX.out.size)); clear ho hb)
                              | (go_at_call 20; (refine (HSI.out _ (q t) _ _ _ _ _ _ HON2.out HOM.out).mono ?_); rintro e w8 ⟨rfl, hb⟩; have HWX := Lib.hid (HWX.out.trans (hb.mono HWX.out.size)); clear hb))
                            go_roundw
                            case rel => exact ⟨t + 1, by omega, by go_num, HWX⟩
                            case measure => simp [intOf]; omega
    · have hlt : k < nr := by omega
      have hsz := HW3.out.size
      by_cases hkw : k < nw
      · obtain ⟨b, off, rfl, hq, hcap, hbl, hcl⟩ := HW3.out.at (by omega)
        have hc := cell_later hB.out (hcl k hkw)
        have hfit := HW3.out.fit k
        obtain ⟨g, cap3, w5, hrun, hown, hb3, -, -, -⟩ := push_int hO.out (by omega) hB.out.size ((row.take 8).getD k 0 % 5)
        have e : smV (row.take 8) (k + 1) = smV (row.take 8) k ++ [(row.take 8).getD k 0 % 5] := by rw [smV_succ, if_pos (by omega)]
        rw [← e] at hown
        have HO2 := Lib.hid hown
        have HB4 := Lib.hid (hB.out.trans hb3)
        obtain ⟨q, hqq⟩ : ∃ q, q = (row.take 8).getD k 0 := ⟨_, rfl⟩
        rw [← hqq] at hc hfit hrun
        have HMO := Lib.hid (fun W' => mod_any q hfit 5 (by decide) (by decide) W')
        clear hqq hq hcl hO hown hb3 e hsz hfit
        go_wp2_with (go_at_call 11; refine (HMO.out _).mono ?_; rintro e w6 ⟨rfl, rfl⟩)
        go_roundw
        case rel => exact ⟨k + 1, some ⟨g, 0, none⟩, cap3, by omega, by go_num, rfl, HO2, HB4⟩
        case measure => simp [intOf]; omega
      · obtain ⟨g, cap3, w5, hrun, hown, hb3, -, -, -⟩ := push_int hO.out (by omega) hB.out.size 0
        have e : smV (row.take 8) (k + 1) = smV (row.take 8) k ++ [0] := by rw [smV_succ, if_neg (by omega)]
        rw [← e] at hown
        have HO2 := Lib.hid hown
        have HB4 := Lib.hid (hB.out.trans hb3)
        clear hO hown hb3 e hsz
        go_wp2
        go_roundw
        case rel => exact ⟨k + 1, some ⟨g, 0, none⟩, cap3, by omega, by go_num, rfl, HO2, HB4⟩
        case measure => simp [intOf]; omega

end Go.Proofs.Ytjlneggfkpjnpaa
