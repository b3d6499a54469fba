/- Div32, cut. Condition of Div32: the divisor is greater than the high digit. divide by one digit. Condition: the divisor is not 0, and has one digit, or is greater. -/
import Derived.Deep.QuietTactic
import Derived.BigQuiet
import Derived.Test.YtcpgoaombabfjaaMh10
namespace Go.Proofs.Ytcpgoaombabfjaa.Nums
open Go.RowKit

set_option maxRecDepth 10000 in
set_option maxHeartbeats 1000000 in
theorem div32_any (hi lo y : Nat) (w : World) (h1 : hi < y) (h2 : lo < 4294967296) (h3 : y < 4294967296) :
    Calls Try.prog 93 #[.int .u32 hi, .int .u32 lo, .int .u32 y] w fun e w' => e = .returned (.tuple #[.int .u32 ((lo + 4294967296 * hi) / y : Nat), .int .u32 ((lo + 4294967296 * hi) % y : Nat)]) ∧ ∃ n, w' = w.drewN n := by
  have hj := or_join hi lo (by omega) h2
  have hq : (lo + 4294967296 * hi) / y < 4294967296 := Nat.div_lt_of_lt_mul (by
    have : (hi + 1) * 4294967296 ≤ y * 4294967296 := Nat.mul_le_mul_right _ h1
    omega)
  have hr : (lo + 4294967296 * hi) % y < y := Nat.mod_lt _ (by omega)
  obtain ⟨z, hz⟩ : ∃ z, z = lo + 4294967296 * hi := ⟨_, rfl⟩
  rw [← hz] at hj hq hr ⊢
  obtain ⟨q, hqq⟩ : ∃ q, q = z / y := ⟨_, rfl⟩
  obtain ⟨r, hrr⟩ : ∃ r, r = z % y := ⟨_, rfl⟩
  have f1 : (z : Int) / y = q := by rw [hqq]; rfl
  have f2 : (z : Int) % y = r := by rw [hrr]; rfl
  rw [← hqq] at hq ⊢
  rw [← hrr] at hr ⊢
  have g1 : ((y : Int) != 0) = true := by simp; omega
  have g2 : ¬ (y : Int) ≤ hi := by omega
  have g3 : ((y : Int) == 0) = false := by simp; omega
  clear hz hqq hrr
  go_enter Try.func93, Try.ntmps93
  go_wp2
  go_quiet (fail)
  go_wp2
  go_ret2
  exact ⟨rfl, _, rfl⟩

theorem cell_other {W : World} {a c : Addr} {u : Value} (h : a ≠ c) : (W.setCell a u).cell? c = W.cell? c := by
  apply World.cell?_setCell_other
  exact h

theorem Sw.keptBy {B : Nat} {W W' : World} {v : Value} {ds : List Nat} {row : Option Nat} (h : Sw B W v ds) (hg : W.grownBy W' row) (hr : ∀ r, row = some r → ∃ o : Obj, W.heap[r]? = some o ∧ o.isCells = false) : Sw B W' v ds := by
  refine ⟨⟨h.sl.bd, h.sl.len, ?_⟩, ?_⟩
  · rcases h.sl.is with h1 | ⟨b, off, cap, hv, hc, hcl⟩
    · exact .inl h1
    · exact .inr ⟨b, off, cap, hv, hc, fun j hj => cell_kept (hcl j hj) hg hr⟩
  · intro ao n cap hv hn
    obtain ⟨b, off, e1, e2, e3⟩ := h.own ao n cap hv hn
    subst hv
    obtain ⟨b', off', e4, _, _, hcl⟩ := h.sl.at hn
    rw [e1] at e4
    cases e4
    refine ⟨b, off, e1, e2, fun j hj => ?_⟩
    rw [frozen_kept (hcl j (by rw [← h.sl.size]; exact hj)) hg hr]
    exact e3 j hj

/-- A store into an owned slice. -/
theorem Sw.set {B : Nat} {W : World} {b off n cap : Nat} {ds : List Nat} (h : Sw B W (.slice (some ⟨b, off, none⟩) n cap) ds) (i q : Nat) (hi : i < n) (hq : q < 4294967296) :
    Sw B (W.setCell ⟨b, off + i, none⟩ (.int .u32 (q : Nat))) (.slice (some ⟨b, off, none⟩) n cap) (ds.set i q) := by
  have hn := h.sl.size
  obtain ⟨b', off', e, hc, _, hcl⟩ := h.sl.at (by omega)
  cases e
  refine ⟨⟨h.sl.bd.set i hq, by have := h.sl.len; simpa using this, .inr ⟨b, off, cap, by rw [List.length_set, ← hn], by rw [List.length_set, ← hn]; exact hc, fun j hj => ?_⟩⟩, ?_⟩
  · rw [List.length_set] at hj
    by_cases hij : i = j
    · subst hij
      rw [World.cell?_setCell_same W _ _ (hcl i hj)]
      simp [List.getD, hj]
    · rw [cell_other (by simp [hij]), hcl j hj]
      simp only [List.getD, List.getElem?_set]
      rw [if_neg hij]
  · intro ao n' cap' hv hn'
    cases hv
    obtain ⟨b', off', e1, e2, e3⟩ := h.own _ _ _ rfl hn'
    cases e1
    exact ⟨b, off, rfl, e2, fun j hj => by rw [World.frozen?_setCell]; exact e3 j hj⟩

/-- A store elsewhere. -/
theorem Sw.setOther {B g : Nat} {W : World} {v : Value} {ds : List Nat} (h : Sw B W v ds) (o : Nat) (u : Value) (hg : ∀ b off n cap, v = .slice (some ⟨b, off, none⟩) n cap → n ≠ 0 → b ≠ g) : Sw B (W.setCell ⟨g, o, none⟩ u) v ds := by
  refine ⟨⟨h.sl.bd, h.sl.len, ?_⟩, ?_⟩
  · rcases h.sl.is with h1 | ⟨b, off, cap, hv, hc, hcl⟩
    · exact .inl h1
    · refine .inr ⟨b, off, cap, hv, hc, fun j hj => ?_⟩
      have := hg b off _ cap hv (by omega)
      rw [cell_other (by simp [this.symm])]
      exact hcl j hj
  · intro ao n cap hv hn
    obtain ⟨b, off, e1, e2, e3⟩ := h.own ao n cap hv hn
    exact ⟨b, off, e1, e2, fun j hj => by rw [World.frozen?_setCell]; exact e3 j hj⟩

theorem val_drop {ds : List Nat} {i : Nat} (h : i < ds.length) : val (ds.drop i) = ds.getD i 0 + 4294967296 * val (ds.drop (i + 1)) := by
  rw [List.drop_eq_getElem_cons h]
  simp [val, List.getD, h]

theorem drop_set_gt {ds : List Nat} {i j q : Nat} (h : i < j) : (ds.set i q).drop j = ds.drop j := by
  rw [List.drop_set_of_lt h]

theorem cut_step {z d r x y q r' : Nat} (h : z = y * d + r) (e : x + 4294967296 * r = y * q + r') : x + 4294967296 * z = y * (q + 4294967296 * d) + r' := by
  have : y * (q + 4294967296 * d) = y * q + 4294967296 * (y * d) := by grind
  omega

/-- What holds when k digits are divided. -/
structure CutI (B0 : Nat) (w : World) (ao : Option Addr) (cap : Nat) (zs : List Nat) (y k : Nat) (W : World) : Prop where
  c0 : W.cell? ⟨w.heap.size, 0, none⟩ = some (.slice ao zs.length cap)
  c1 : W.cell? ⟨w.heap.size + 1, 0, none⟩ = some (.int .u32 (y : Nat))
  c3 : W.cell? ⟨w.heap.size + 1 + 1 + 1, 0, none⟩ = some (.slice ao zs.length cap)
  ex : ∃ (r : Nat) (ds : List Nat), W.cell? ⟨w.heap.size + 1 + 1, 0, none⟩ = some (.int .u32 (r : Nat)) ∧ W.frozen? ⟨w.heap.size + 1 + 1, 0, none⟩ = false ∧ r < y ∧ (∀ j, j < zs.length - k → ds.getD j 0 = zs.getD j 0) ∧
    val (zs.drop (zs.length - k)) = y * val (ds.drop (zs.length - k)) + r ∧ Sw B0 W (.slice ao zs.length cap) ds
  bl : Below B0 w W
  kp : ∀ g, g < w.heap.size → (∀ b off, ao = some ⟨b, off, none⟩ → b ≠ g) → W.heap[g]? = w.heap[g]?

theorem cutI_own {B0 : Nat} {w w0 : World} {ao : Option Addr} {cap : Nat} {zs : List Nat} {y : Nat} (h0 : B0 ≤ w.heap.size) (h1 : w.heap.size ≤ w0.heap.size) : OwnFrom w0.heap.size (CutI B0 w ao cap zs y) := by
  intro k W W' row hs hg hr
  have hr' : ∀ r, row = some r → ∃ o : Obj, W.heap[r]? = some o ∧ o.isCells = false := fun r e => (hr r e).2
  obtain ⟨r, ds, e1, e2, e3, e4, e5, e6⟩ := hs.ex
  refine ⟨cell_kept hs.c0 hg hr', cell_kept hs.c1 hg hr', cell_kept hs.c3 hg hr', ⟨r, ds, cell_kept e1 hg hr', (frozen_kept e1 hg hr').trans e2, e3, e4, e5, e6.keptBy hg hr'⟩, ?_, ?_⟩
  · exact hs.bl.grown hg (Nat.le_trans h0 hs.bl.size) (fun r e => Nat.le_trans (Nat.le_trans h0 h1) (hr r e).1)
  · intro g hgl hgb
    rw [← hs.kp g hgl hgb]
    exact hg.block g (Nat.lt_of_lt_of_le hgl hs.bl.size) (fun e => by have := (hr g e.symm).1; omega)

def cOwn (b off len cap i x r y q r' : Nat) : Nat → Option (Nat × Value)
  | 12 => some (6, .tuple #[.int .u32 (q : Nat), .int .u32 (r' : Nat)])
  | 13 => some (0, .slice (some ⟨b, off, none⟩) len cap)
  | 14 => some (1, .int .i64 (i : Nat))
  | 15 => some (2, .int .u32 (r : Nat))
  | 16 => some (3, .int .u32 (x : Nat))
  | 17 => some (4, .int .u32 (y : Nat))
  | 18 => some (5, .tuple #[.int .u32 (q : Nat), .int .u32 (r' : Nat)])
  | 19 => some (7, .int .u32 (q : Nat))
  | 20 => some (8, .int .u32 (r' : Nat))
  | 21 => some (9, .pointer (some ⟨b, off + i, none⟩))
  | _ => none

def cSlot : Nat → Nat
  | 0 => 13
  | 1 => 14
  | 2 => 15
  | 3 => 16
  | 4 => 17
  | 5 => 18
  | 6 => 12
  | 7 => 19
  | 8 => 20
  | _ => 21

theorem getD_true {l : Array Bool} {j : Nat} (h : l.getD j false = true) : l.getD j true = true := by
  by_cases hj : j < l.size
  · simp [Array.getD, hj] at h ⊢
    exact h
  · simp [Array.getD, hj] at h

theorem cOwn_slot {b off len cap i x r y q r' : Nat} {j : Nat} {v : Value} {p : Nat} (h : cOwn b off len cap i x r y q r' j = some (p, v)) : j = cSlot p := by
  unfold cOwn at h
  split at h <;> first | (cases h; rfl) | (cases h)

theorem cOwn_inj {b off len cap i x r y q r' : Nat} {j k : Nat} {v u : Value} {p : Nat} (h : cOwn b off len cap i x r y q r' j = some (p, v)) (h' : cOwn b off len cap i x r y q r' k = some (p, u)) : j = k :=
  (cOwn_slot h).trans (cOwn_slot h').symm

theorem cOwn_lt {b off len cap i x r y q r' : Nat} {j : Nat} {v : Value} {p : Nat} (h : cOwn b off len cap i x r y q r' j = some (p, v)) : p < 10 := by
  unfold cOwn at h
  split at h <;> first | (cases h; decide) | (cases h)

/-- The world behind the stores that are done. -/
def cW (W : World) (b o g q r' : Nat) (l : Array Bool) : World :=
  if l.getD 11 true = true then (W.setCell ⟨b, o, none⟩ (.int .u32 (q : Nat))).setCell ⟨g + 1 + 1, 0, none⟩ (.int .u32 (r' : Nat)) else if l.getD 10 true = true then W.setCell ⟨b, o, none⟩ (.int .u32 (q : Nat)) else W

theorem cW_set (W : World) (b o g q r' : Nat) (l : Array Bool) (i : Nat) (h10 : i ≠ 10) (h11 : i ≠ 11) : cW W b o g q r' (l.setIfInBounds i true) = cW W b o g q r' l := by
  unfold cW
  rw [getD_set_ne true h11, getD_set_ne true h10]

theorem cW_keeps (W : World) (b o g q r' : Nat) (l : Array Bool) {c : Addr} (h1 : c.block ≠ b) (h2 : c.block ≠ g + 1 + 1) : (cW W b o g q r' l).cell? c = W.cell? c := by
  have e1 : ∀ (W : World) (u : Value), (W.setCell ⟨b, o, none⟩ u).cell? c = W.cell? c := fun W u => cell_other (fun e => h1 (by rw [← e]))
  have e2 : ∀ (W : World) (u : Value), (W.setCell ⟨g + 1 + 1, 0, none⟩ u).cell? c = W.cell? c := fun W u => cell_other (fun e => h2 (by rw [← e]))
  unfold cW
  split
  · rw [e2, e1]
  · split
    · rw [e1]
    · rfl

/-- What holds when the operations of l are done. -/
structure CR (W : World) (T : Array Value) (b off len cap i x r y q r' g : Nat) (l : Array Bool) (a : Act) (w' : World) : Prop where
  size : l.size = 12
  fr : Fr (cOwn b off len cap i x r y q r') T l a
  w : ∃ m, w' = (cW W b (off + i) g q r' l).drewN m
  d10 : l.getD 10 true = true → ∀ k, k < 10 → k ≠ 8 → l.getD k true = true
  d11 : l.getD 11 true = true → ∀ k, k < 11 → l.getD k true = true

theorem CR.next {W : World} {T : Array Value} {b off len cap i x r y q r' g : Nat} {l : Array Bool} {a : Act} {w' w'' : World} (h : CR W T b off len cap i x r y q r' g l a w') {k d : Nat} {v : Value}
    (hd : cOwn b off len cap i x r y q r' d = some (k, v)) (hw : ∃ m, w'' = w'.drewN m) : CR W T b off len cap i x r y q r' g (l.setIfInBounds k true) (a.put (some d) v) w'' := by
  have hk := cOwn_lt hd
  obtain ⟨m, hm⟩ := h.w
  obtain ⟨m2, hm2⟩ := hw
  refine ⟨by simp [h.size], h.fr.put hd (by rw [h.size]; omega) (fun j p hj hp => ?_), ⟨m + m2, ?_⟩, fun h10 j hj h8 => ?_, fun h11 j hj => ?_⟩
  · obtain ⟨p1, p2⟩ := p
    subst hp
    exact cOwn_inj hj hd
  · rw [cW_set _ _ _ _ _ _ _ _ (by omega) (by omega), hm2, hm, World.drewN_drewN]
  · rw [getD_set_ne true (by omega)] at h10
    by_cases hjk : k = j
    · subst hjk; simp [h.size, hk, show k < 12 by omega]
    · rw [getD_set_ne true hjk]; exact h.d10 h10 j hj h8
  · rw [getD_set_ne true (by omega)] at h11
    by_cases hjk : k = j
    · subst hjk; simp [h.size, show k < 12 by omega]
    · rw [getD_set_ne true hjk]; exact h.d11 h11 j hj

/-- A store is done. -/
theorem CR.store {W : World} {T : Array Value} {b off len cap i x r y q r' g : Nat} {l : Array Bool} {a : Act} {w' w'' : World} (h : CR W T b off len cap i x r y q r' g l a w') {k : Nat} (hk : k = 10 ∨ k = 11) (v : Value)
    (hw : ∃ m, w'' = (cW W b (off + i) g q r' (l.setIfInBounds k true)).drewN m) (h10 : k = 10 → ∀ j, j < 10 → j ≠ 8 → l.getD j true = true) (h11 : k = 11 → ∀ j, j < 11 → l.getD j true = true) :
    CR W T b off len cap i x r y q r' g (l.setIfInBounds k true) (a.put none v) w'' := by
  refine ⟨by simp [h.size], h.fr.bare v (fun j p hj hp => ?_), hw, fun h0 j hj h8 => ?_, fun h0 j hj => ?_⟩
  · obtain ⟨p1, p2⟩ := p
    have := cOwn_lt hj
    simp at hp
    omega
  · rcases hk with rfl | rfl
    · rw [getD_set_ne true (by omega)]; exact h10 rfl j hj h8
    · rw [getD_set_ne true (by omega)]; exact h11 rfl j (by omega)
  · rcases hk with rfl | rfl
    · rw [getD_set_ne true (by omega)] at h0
      by_cases hj10 : j = 10
      · subst hj10; simp [h.size]
      · rw [getD_set_ne true (by omega)]; exact h.d11 h0 j hj
    · rw [getD_set_ne true (by omega)]; exact h11 rfl j hj

theorem KeepsFrom.trans' {W W' : World} (h : KeepsOthers W W') (m B : Nat) : KeepsFrom B W (W'.drewN m) := (KeepsOthers.trans h (⟨Nat.le_refl _, fun _ _ h _ => h⟩ : KeepsOthers W' (W'.drewN m))).from B

theorem below_drewN' {B : Nat} {a w : World} (h : Below B a w) (n : Nat) : Below B a (w.drewN n) := h.trans ⟨rfl, rfl, rfl, Nat.le_refl _, fun _ _ => rfl⟩

theorem cutI_next {B0 : Nat} {w W : World} {b off cap : Nat} {zs ds : List Nat} {y k r i x q r' : Nat} (hI : CutI B0 w (some ⟨b, off, none⟩) cap zs y k W)
    (e1 : W.cell? ⟨w.heap.size + 1 + 1, 0, none⟩ = some (.int .u32 (r : Nat))) (e2 : W.frozen? ⟨w.heap.size + 1 + 1, 0, none⟩ = false) (e3 : r < y) (e4 : ∀ j, j < zs.length - k → ds.getD j 0 = zs.getD j 0)
    (e5 : val (zs.drop (zs.length - k)) = y * val (ds.drop (zs.length - k)) + r) (e6 : Sw B0 W (.slice (some ⟨b, off, none⟩) zs.length cap) ds) (hi : i = zs.length - 1 - k) (hin : i < zs.length) (hx : x = zs.getD i 0) (hk : k < zs.length)
    (hblt : b < w.heap.size) (hB0 : B0 ≤ w.heap.size) (hy0 : 0 < y) (hq : q = (x + 4294967296 * r) / y) (hr' : r' = (x + 4294967296 * r) % y) (m : Nat) (hq2 : q < 4294967296) :
    CutI B0 w (some ⟨b, off, none⟩) cap zs y (k + 1) (((W.setCell ⟨b, off + i, none⟩ (.int .u32 (q : Nat))).setCell ⟨w.heap.size + 1 + 1, 0, none⟩ (.int .u32 (r' : Nat))).drewN m) := by
  have hdl := e6.sl.size
  have hB0b : B0 ≤ b := by
    obtain ⟨_, _, p, h, _⟩ := e6.own _ _ _ rfl (by omega)
    cases p; exact h
  have co : ∀ c : Addr, c.block ≠ b → c.block ≠ w.heap.size + 1 + 1 → (((W.setCell ⟨b, off + i, none⟩ (.int .u32 (q : Nat))).setCell ⟨w.heap.size + 1 + 1, 0, none⟩ (.int .u32 (r' : Nat))).drewN m).cell? c = W.cell? c := fun c h1 h2 => by
    rw [World.cell?_drewN, cell_other (fun e => h2 (by rw [← e])), cell_other (fun e => h1 (by rw [← e]))]
  have n1 : zs.length - (k + 1) = i := by omega
  have n2 : zs.length - k = i + 1 := by omega
  refine ⟨(co _ (by simp; omega) (by simp; omega)).trans hI.c0, (co _ (by simp; omega) (by simp)).trans hI.c1, (co _ (by simp; omega) (by simp)).trans hI.c3, ⟨r', ds.set i q, ?_, ?_, ?_, ?_, ?_, ?_⟩, ?_, ?_⟩
  · rw [World.cell?_drewN]
    exact World.cell?_setCell_same' _ _ _ (by rw [cell_other (fun h => by have := congrArg Addr.block h; simp at this; omega), e1]; rfl)
  · rw [World.frozen?_drewN, World.frozen?_setCell, World.frozen?_setCell]
    exact e2
  · rw [hr']; exact Nat.mod_lt _ hy0
  · intro j hj
    rw [n1] at hj
    rw [← e4 j (by omega)]
    simp only [List.getD, List.getElem?_set]
    rw [if_neg (by omega)]
  · rw [n1, val_drop hin, val_drop (ds := ds.set i q) (i := i) (by rw [List.length_set]; omega), ← hx, drop_set_gt (by omega)]
    have e7 : (ds.set i q).getD i 0 = q := by simp [List.getD, show i < ds.length by omega]
    rw [e7]
    rw [n2] at e5
    exact cut_step e5 (by rw [hq, hr']; exact (Nat.div_add_mod _ _).symm)
  · exact ((e6.set i q hin hq2).setOther _ _ (fun b' off' n cap hv _ => by cases hv; omega)).below (below_drewN' (Below.refl _ _) m)
  · exact below_drewN' ((hI.bl.setCell (by simpa using hB0b) _).setCell (by simp; omega) _) m
  · intro g hgl hgb
    have hgb' := hgb b off rfl
    rw [World.heap_drewN, heap_setCell_other _ _ _ _ (by simp; omega), heap_setCell_other _ _ _ _ (by simp; omega)]
    exact hI.kp g hgl hgb

attribute [local go_sem] Oper.semAt_some
open Go.Shelf in
set_option maxRecDepth 100000 in
set_option maxHeartbeats 4000000 in
theorem cut_in (F : Fence) (n : Nat) (h75 : F.fn 89) (h58 : F.fn 75) (h90 : F.fn 84) (h100 : F.fn 93)
    (hc100 : ∀ k (hi lo y : Nat) (w : World), hi < y → lo < 4294967296 → y < 4294967296 → CallsIn F k Try.prog 93 #[.int .u32 hi, .int .u32 lo, .int .u32 y] w fun e w' => e = .returned (.tuple #[.int .u32 ((lo + 4294967296 * hi) / y : Nat), .int .u32 ((lo + 4294967296 * hi) % y : Nat)]) ∧ ∃ n, w' = w.drewN n)
    (hro : F.round = none) (hn : 4 ≤ n) {w : World} {B0 : Nat} (ao : Option Addr) (cap : Nat) (zs : List Nat) (y : Nat) (hs : Sw B0 w (.slice ao zs.length cap) zs) (hy0 : 0 < y) (hy : y < 4294967296) (hl : zs.length ≤ 140737488351232) (hB0 : B0 ≤ w.heap.size) :
    CallsIn F n Try.prog 89 #[.slice ao zs.length cap, .int .u32 y] w fun e w' => e = .returned (.int .u32 (val zs % y : Nat)) ∧ (∃ ds, ds.length = zs.length ∧ val ds = val zs / y ∧ Sw B0 w' (.slice ao zs.length cap) ds) ∧ Below B0 w w' ∧ (∀ g, g < w.heap.size → (∀ b off, ao = some ⟨b, off, none⟩ → b ≠ g) → w'.heap[g]? = w.heap[g]?) := by
  have h1 : 1 ≤ n := by omega
  refine callsIn_of_wp_marks Try.func89 rfl h75 ?_ hro
  simp only [Try.ntmps89, List.size_toArray, List.length_cons, List.length_nil, Nat.reduceAdd, Nat.reduceSub, Array.replicate_succ, Array.replicate_zero, List.push_toArray, List.append_toArray, List.nil_append, List.cons_append]
  gi_wp2_with (gi_at_call 75; refine (backward_in F (n - 1) h58 hro _ _ _ _).mono ?_; rintro e w' ⟨rfl, rfl⟩)
  have b0 := Boxed.new w 86 (.slice ao zs.length cap)
  have b1 := Boxed.new (w.alloc (.cells #[.slice ao zs.length cap] 86)) 105 (.int .u32 (y : Nat))
  have b2 := Boxed.new ((w.alloc (.cells #[.slice ao zs.length cap] 86)).alloc (.cells #[.int .u32 (y : Nat)] 105)) 105 (.int .u32 0)
  have b3 := Boxed.new (((w.alloc (.cells #[.slice ao zs.length cap] 86)).alloc (.cells #[.int .u32 (y : Nat)] 105)).alloc (.cells #[.int .u32 0] 105)) 86 (.slice ao zs.length cap)
  simp only [World.size_alloc] at b1 b2 b3
  have hBW : Below w.heap.size w ((((w.alloc (.cells #[.slice ao zs.length cap] 86)).alloc (.cells #[.int .u32 (y : Nat)] 105)).alloc (.cells #[.int .u32 0] 105)).alloc (.cells #[.slice ao zs.length cap] 86)) := by go_grown
  have hcap : zs.length ≤ cap ∨ zs.length = 0 := by
    by_cases h : zs.length = 0
    · exact .inr h
    · obtain ⟨_, _, _, hc, _⟩ := hs.sl.at h
      exact .inl hc
  have hI0 : CutI B0 w ao cap zs y 0 ((((w.alloc (.cells #[.slice ao zs.length cap] 86)).alloc (.cells #[.int .u32 (y : Nat)] 105)).alloc (.cells #[.int .u32 0] 105)).alloc (.cells #[.slice ao zs.length cap] 86)) :=
    ⟨(((b0.alloc _).alloc _).alloc _).cell, ((b1.alloc _).alloc _).cell, b3.cell, ⟨0, zs, (b2.alloc _).cell, (b2.alloc _).frozen, hy0, fun _ _ => rfl, by simp [val], hs.below hBW⟩, hBW.mono hB0, fun g hgl _ => hBW.block g hgl⟩
  have hsz : w.heap.size + 4 = ((((w.alloc (.cells #[.slice ao zs.length cap] 86)).alloc (.cells #[.int .u32 (y : Nat)] 105)).alloc (.cells #[.int .u32 0] 105)).alloc (.cells #[.slice ao zs.length cap] 86)).heap.size := by simp
  refine rangeFunc_counts hro h1 (gf := 84) (lb := #[.pointer (some ⟨w.heap.size + 1 + 1 + 1, 0, none⟩)]) rfl h90 (enters_of Try.func84 (by kernel_rfl) rfl)
    (backward_counts F (n - 1) h90 hro (by omega) (w.heap.size + 1 + 1 + 1) ao cap zs hl (CutI B0 w ao cap zs y) (fun k W h => h.c3) (fun k W h hk => ?hcell)) (fun _ => rfl)
    (cutI_own hB0 (by rw [← hsz]; omega)) hI0
    (fun k => { tmps := #[.slice ao zs.length cap, .int .u32 (y : Nat), .pointer (some ⟨w.heap.size, 0, none⟩), .pointer (some ⟨w.heap.size + 1, 0, none⟩), .int .u32 0, .pointer (some ⟨w.heap.size + 1 + 1, 0, none⟩), .int .i64 ((zs.length - 1 - k : Nat) : Int), .int .u32 ((zs.getD (zs.length - 1 - k) 0 : Nat) : Int), .slice ao zs.length cap, .func (.func 84) #[] #[.pointer (some ⟨w.heap.size + 1 + 1 + 1, 0, none⟩)], .int .i64 ((zs.length - 1 - k : Nat) : Int), .int .u32 ((zs.getD (zs.length - 1 - k) 0 : Nat) : Int), undef, undef, undef, undef, undef, undef, undef, undef, undef, undef, undef], defers := [] }) ?assign ?body ?done
  case hcell =>
    obtain ⟨r, ds, _, _, _, e4, _, e6⟩ := h.ex
    obtain ⟨b, off, e, _, _, hcl⟩ := e6.sl.at (by omega)
    have hdl := e6.sl.size
    exact ⟨b, off, e, by rw [hcl _ (by omega), e4 _ (by omega)]⟩
  case assign =>
    intro l k W K hK
    obtain ⟨i, hi⟩ : ∃ i, i = zs.length - 1 - k := ⟨_, rfl⟩
    obtain ⟨x, hx⟩ : ∃ x, x = zs.getD (zs.length - 1 - k) 0 := ⟨_, rfl⟩
    unfold backArgs
    rw [← hx, ← hi] at hK ⊢
    clear hi hx
    gi_wp2
    exact hK
  case body =>
    intro l k W hk hI
    have h3 : 1 ≤ n - 1 - 1 := by omega
    have hbl : ∀ b off, ao = some ⟨b, off, none⟩ → b < w.heap.size := fun b off e => by
      obtain ⟨b', off', q1, _, q2, _⟩ := hs.sl.at (by omega)
      rw [e] at q1; cases q1; exact q2
    have hmx : Try.prog.follows .mixedOrders = true := by kernel_rfl
    obtain ⟨r, ds, e1, e2, e3, e4, e5, e6⟩ := hI.ex
    have c0 := hI.c0
    have c1 := hI.c1
    have hdl := e6.sl.size
    obtain ⟨b, off, rfl, _, _, hcl⟩ := e6.sl.at (by omega)
    obtain ⟨i, hi⟩ : ∃ i, i = zs.length - 1 - k := ⟨_, rfl⟩
    have hblt := hbl b off rfl
    have hne1 : ¬ b = w.heap.size + 1 + 1 := by omega
    have hne2 : ¬ w.heap.size + 1 + 1 = b := by omega
    clear hbl
    have hci := hcl i (by omega)
    have hfi : W.frozen? ⟨b, off + i, none⟩ = false := by
      obtain ⟨b', off', q1, _, q3⟩ := e6.own _ _ _ rfl (by omega)
      cases q1
      exact q3 i (by omega)
    have hzi := e4 i (by omega)
    rw [hzi] at hci
    have hx : zs.getD i 0 < 4294967296 := by rw [val_digit hs.sl.bd]; exact Nat.mod_lt _ (by omega)
    obtain ⟨x, hxe⟩ : ∃ x, x = zs.getD i 0 := ⟨_, rfl⟩
    rw [← hi, ← hxe]
    rw [← hxe] at hci hx
    have hin : i < zs.length := by omega
    obtain ⟨len, hlen⟩ : ∃ len, len = zs.length := ⟨_, rfl⟩
    rw [← hlen] at c0 hin ⊢
    have HI := Lib.hid hI
    have H4 := Lib.hid e4
    have H5 := Lib.hid e5
    have H6 := Lib.hid e6
    have HX := Lib.hid hxe
    have HIi := Lib.hid hi
    have HL := Lib.hid hlen
    have HZ := Lib.hid hzi
    have HDL := Lib.hid hdl
    have hr2 : ∀ v, (W.setCell ⟨b, off + i, none⟩ v).cell? ⟨w.heap.size + 1 + 1, 0, none⟩ = some (.int .u32 (r : Nat)) := fun v => by rw [cell_other (by simp [hne1])]; exact e1
    have hf2 : ∀ v, (W.setCell ⟨b, off + i, none⟩ v).frozen? ⟨w.heap.size + 1 + 1, 0, none⟩ = false := fun v => by rw [World.frozen?_setCell]; exact e2
    clear hI e4 e5 e6 hcl hxe hi hlen hzi hdl hI0 hBW b0 b1 b2 b3 hsz hcap hs hl hy0
    gi_wp2
    obtain ⟨T, hT⟩ : ∃ T : Array Value, T = #[.slice (some ⟨b, off, none⟩) len cap, .int .u32 (y : Nat), .pointer (some ⟨w.heap.size, 0, none⟩), .pointer (some ⟨w.heap.size + 1, 0, none⟩), .int .u32 0, .pointer (some ⟨w.heap.size + 1 + 1, 0, none⟩), .int .i64 (i : Nat), .int .u32 (x : Nat), .slice (some ⟨b, off, none⟩) len cap, .func (.func 84) #[] #[.pointer (some ⟨w.heap.size + 1 + 1 + 1, 0, none⟩)], .int .i64 (i : Nat), .int .u32 (x : Nat), undef, undef, undef, undef, undef, undef, undef, undef, undef, undef, undef] := ⟨_, rfl⟩
    rw [← hT]
    obtain ⟨q, hq⟩ : ∃ q : Nat, q = (x + 4294967296 * r) / y := ⟨_, rfl⟩
    obtain ⟨r', hr'⟩ : ∃ r' : Nat, r' = (x + 4294967296 * r) % y := ⟨_, rfl⟩
    have hdiv := hc100 (n - 1 - 1 - 1) r x y
    rw [← hq, ← hr'] at hdiv
    refine region_inv hmx (CR W T b off len cap i x r y q r' w.heap.size) ?h0 ?step ?fin
    case h0 =>
      refine ⟨rfl, ?_, ⟨1, rfl⟩, ?_, ?_⟩
      · exact Fr.start _ _ _ (fun j k v h => by have hk := cOwn_lt h; simp [Array.getD, show k < 12 by omega])
      · intro h; simp at h
      · intro h; simp at h
    case fin =>
      intro l a w' hR hz
      have hnot := List.eq_nil_iff_forall_not_mem.1 hz
      have hk : ∀ k, k < 12 → (l.getD k true = false → False) → l.getD k false = true := fun k h12 h => by
        have hs := hR.size
        cases h' : l.getD k true with
        | false => exact (h h').elim
        | true => simp [Array.getD, hs, h12] at h' ⊢; exact h'
      have s0 := hk 0 (by omega) (fun h => hnot 0 (mem_ready.2 ⟨h, _, rfl, by simp [Region.binds]⟩))
      have s1 := hk 1 (by omega) (fun h => hnot 1 (mem_ready.2 ⟨h, _, rfl, by simp [Region.binds]⟩))
      have s2 := hk 2 (by omega) (fun h => hnot 2 (mem_ready.2 ⟨h, _, rfl, by simp [Region.binds]⟩))
      have s3 := hk 3 (by omega) (fun h => hnot 3 (mem_ready.2 ⟨h, _, rfl, by simp [Region.binds]⟩))
      have s4 := hk 4 (by omega) (fun h => hnot 4 (mem_ready.2 ⟨h, _, rfl, by simp [Region.binds]⟩))
      have s5 := hk 5 (by omega) (fun h => hnot 5 (mem_ready.2 ⟨h, _, rfl, by simp [Region.binds]; simp_all⟩))
      have s6 := hk 6 (by omega) (fun h => hnot 6 (mem_ready.2 ⟨h, _, rfl, by simp [Region.binds]; simp_all⟩))
      have s7 := hk 7 (by omega) (fun h => hnot 7 (mem_ready.2 ⟨h, _, rfl, by simp [Region.binds]; simp_all⟩))
      have s8 := hk 8 (by omega) (fun h => hnot 8 (mem_ready.2 ⟨h, _, rfl, by simp [Region.binds]; simp_all⟩))
      have s9 := hk 9 (by omega) (fun h => hnot 9 (mem_ready.2 ⟨h, _, rfl, by simp [Region.binds]; simp_all⟩))
      have s10 := hk 10 (by omega) (fun h => hnot 10 (mem_ready.2 ⟨h, _, rfl, by simp [Region.binds]; simp_all⟩))
      have s11 := hk 11 (by omega) (fun h => hnot 11 (mem_ready.2 ⟨h, _, rfl, by simp [Region.binds]; simp_all⟩))
      obtain ⟨m, hw⟩ := hR.w
      unfold cW at hw
      rw [if_pos (getD_true s11)] at hw
      subst hw
      exact ⟨KeepsFrom.trans' (((KeepsOthers.setCell W _ _).trans (KeepsOthers.setCell _ _ _))) m _, cutI_next HI.out e1 e2 e3 H4.out H5.out H6.out HIi.out (by rw [← HL.out]; exact hin) HX.out (by omega) hblt hB0 (by omega) hq hr' m (by rw [hq]; exact Nat.div_lt_of_lt_mul (by have : (r + 1) * 4294967296 ≤ y * 4294967296 := Nat.mul_le_mul_right _ e3; omega))⟩
    case step =>
      intro l a w' i' hR hi'
      obtain ⟨hl0, o, ho, hdep⟩ := mem_ready.1 hi'
      have h12 : i' < 12 := by
        have := (Array.getElem?_eq_some_iff.1 ho).1
        simpa using this
      obtain ⟨m, hw⟩ := hR.w
      have z0 : w'.cell? ⟨w.heap.size, 0, none⟩ = some (.slice (some ⟨b, off, none⟩) len cap) := by rw [hw, World.cell?_drewN, cW_keeps _ _ _ _ _ _ _ (by simp; omega) (by simp; omega)]; exact c0
      have z1 : w'.cell? ⟨w.heap.size + 1, 0, none⟩ = some (.int .u32 (y : Nat)) := by rw [hw, World.cell?_drewN, cW_keeps _ _ _ _ _ _ _ (by simp; omega) (by simp)]; exact c1
      rcases (show i' = 0 ∨ i' = 1 ∨ i' = 2 ∨ i' = 3 ∨ i' = 4 ∨ i' = 5 ∨ i' = 6 ∨ i' = 7 ∨ i' = 8 ∨ i' = 9 ∨ i' = 10 ∨ i' = 11 by omega) with rfl | rfl | rfl | rfl | rfl | rfl | rfl | rfl | rfl | rfl | rfl | rfl
      · simp at ho
        subst ho
        simp [Region.binds] at hdep
        have k2 : a.tmps.getD 2 undef = .pointer (some ⟨w.heap.size, 0, none⟩) := (hR.fr.kept rfl (by simp [hT])).trans (by rw [hT]; rfl)
        clear hi' hdep hl0
        unfold wpOpIn
        simp [Region.wanted]
        unfold Oper.wpIn
        simp [Oper.about, execOp, go_sem, Act.eval, k2, z0]
        exact hR.next (d := 13) rfl ⟨0, rfl⟩
      · simp at ho
        subst ho
        simp [Region.binds] at hdep
        have k6 : a.tmps.getD 6 undef = .int .i64 (i : Nat) := (hR.fr.kept rfl (by simp [hT])).trans (by rw [hT]; rfl)
        clear hi' hdep hl0
        unfold wpOpIn
        simp [Region.wanted]
        unfold Oper.wpIn
        simp [Oper.about, execOp, go_sem, Act.eval, k6]
        exact hR.next (d := 14) rfl ⟨0, rfl⟩
      · simp at ho
        subst ho
        simp [Region.binds] at hdep
        have k5 : a.tmps.getD 5 undef = .pointer (some ⟨w.heap.size + 1 + 1, 0, none⟩) := (hR.fr.kept rfl (by simp [hT])).trans (by rw [hT]; rfl)
        have n11 : l.getD 11 true = false := by
          cases h : l.getD 11 true with
          | false => rfl
          | true => rw [hR.d11 h 2 (by omega)] at hl0; cases hl0
        have z2 : w'.cell? ⟨w.heap.size + 1 + 1, 0, none⟩ = some (.int .u32 (r : Nat)) := by
          rw [hw, World.cell?_drewN]
          unfold cW
          rw [n11]
          split
          · contradiction
          · split
            · exact hr2 _
            · exact e1
        clear hi' hdep hl0
        unfold wpOpIn
        simp [Region.wanted]
        unfold Oper.wpIn
        simp [Oper.about, execOp, go_sem, Act.eval, k5, z2]
        exact hR.next (d := 15) rfl ⟨0, rfl⟩
      · simp at ho
        subst ho
        simp [Region.binds] at hdep
        have k7 : a.tmps.getD 7 undef = .int .u32 (x : Nat) := (hR.fr.kept rfl (by simp [hT])).trans (by rw [hT]; rfl)
        clear hi' hdep hl0
        unfold wpOpIn
        simp [Region.wanted]
        unfold Oper.wpIn
        simp [Oper.about, execOp, go_sem, Act.eval, k7]
        exact hR.next (d := 16) rfl ⟨0, rfl⟩
      · simp at ho
        subst ho
        simp [Region.binds] at hdep
        have k3 : a.tmps.getD 3 undef = .pointer (some ⟨w.heap.size + 1, 0, none⟩) := (hR.fr.kept rfl (by simp [hT])).trans (by rw [hT]; rfl)
        clear hi' hdep hl0
        unfold wpOpIn
        simp [Region.wanted]
        unfold Oper.wpIn
        simp [Oper.about, execOp, go_sem, Act.eval, k3, z1]
        exact hR.next (d := 17) rfl ⟨0, rfl⟩
      · simp at ho
        subst ho
        simp [Region.binds] at hdep
        have k15 : a.tmps.getD 15 undef = .int .u32 (r : Nat) := hR.fr.done (i := 2) rfl (by simp_all) (by simp [hT])
        have k16 : a.tmps.getD 16 undef = .int .u32 (x : Nat) := hR.fr.done (i := 3) rfl (by simp_all) (by simp [hT])
        have k17 : a.tmps.getD 17 undef = .int .u32 (y : Nat) := hR.fr.done (i := 4) rfl (by simp_all) (by simp [hT])
        clear hi' hdep hl0
        unfold wpOpIn
        simp [Region.wanted]
        unfold Oper.wpIn
        simp [Oper.about, execOp, go_sem, Act.eval, k15, k16, k17]
        refine ⟨h100, fun _ => h3, (CallsIn.inRound _ (hdiv w' e3 hx hy)).mono ?_⟩
        rintro e w'' ⟨rfl, m2, rfl⟩
        exact hR.next (d := 18) rfl ⟨m2, rfl⟩
      · simp at ho
        subst ho
        simp [Region.binds] at hdep
        have k18 : a.tmps.getD 18 undef = .tuple #[.int .u32 (q : Nat), .int .u32 (r' : Nat)] := hR.fr.done (i := 5) rfl (by simp_all) (by simp [hT])
        clear hi' hdep hl0
        unfold wpOpIn
        simp [Region.wanted]
        unfold Oper.wpIn
        simp [Oper.about, execOp, go_sem, Act.eval, k18]
        exact hR.next (d := 12) rfl ⟨0, rfl⟩
      · simp at ho
        subst ho
        simp [Region.binds] at hdep
        have k12 : a.tmps.getD 12 undef = .tuple #[.int .u32 (q : Nat), .int .u32 (r' : Nat)] := hR.fr.done (i := 6) rfl (by simp_all) (by simp [hT])
        clear hi' hdep hl0
        unfold wpOpIn
        simp [Region.wanted]
        unfold Oper.wpIn
        simp [Oper.about, execOp, go_sem, Act.eval, k12]
        exact hR.next (d := 19) rfl ⟨0, rfl⟩
      · simp at ho
        subst ho
        simp [Region.binds] at hdep
        have k12 : a.tmps.getD 12 undef = .tuple #[.int .u32 (q : Nat), .int .u32 (r' : Nat)] := hR.fr.done (i := 6) rfl (by simp_all) (by simp [hT])
        clear hi' hdep hl0
        unfold wpOpIn
        simp [Region.wanted]
        unfold Oper.wpIn
        simp [Oper.about, execOp, go_sem, Act.eval, k12]
        exact hR.next (d := 20) rfl ⟨0, rfl⟩
      · simp at ho
        subst ho
        simp [Region.binds] at hdep
        have k13 : a.tmps.getD 13 undef = .slice (some ⟨b, off, none⟩) len cap := hR.fr.done (i := 0) rfl (by simp_all) (by simp [hT])
        have k14 : a.tmps.getD 14 undef = .int .i64 (i : Nat) := hR.fr.done (i := 1) rfl (by simp_all) (by simp [hT])
        clear hi' hdep hl0
        unfold wpOpIn
        simp [Region.wanted]
        unfold Oper.wpIn
        simp [Oper.about, execOp, go_sem, Act.eval, k13, k14, hin]
        exact hR.next (d := 21) rfl ⟨0, rfl⟩
      · simp at ho
        subst ho
        have n11 : l.getD 11 true = false := by
          cases h : l.getD 11 true with
          | false => rfl
          | true => rw [hR.d11 h 10 (by omega)] at hl0; cases hl0
        have hw0 : w' = W.drewN m := by rw [hw]; unfold cW; rw [n11, hl0]; simp
        have hall : ∀ j, j < 10 → j ≠ 8 → l.getD j true = true := by
          intro j hj h8
          have hd : ∀ e : Nat, l.getD e false = true → l.getD e true = true := fun e h => getD_true h
          simp [Region.binds] at hdep
          rcases (show j = 0 ∨ j = 1 ∨ j = 2 ∨ j = 3 ∨ j = 4 ∨ j = 5 ∨ j = 6 ∨ j = 7 ∨ j = 9 by omega) with rfl | rfl | rfl | rfl | rfl | rfl | rfl | rfl | rfl <;> exact hd _ (by simp_all)
        simp [Region.binds] at hdep
        have k21 : a.tmps.getD 21 undef = .pointer (some ⟨b, off + i, none⟩) := hR.fr.done (i := 9) rfl (by simp_all) (by simp [hT])
        have k19 : a.tmps.getD 19 undef = .int .u32 (q : Nat) := hR.fr.done (i := 7) rfl (by simp_all) (by simp [hT])
        have z3 : w'.cell? ⟨b, off + i, none⟩ = some (.int .u32 (x : Nat)) := by rw [hw0, World.cell?_drewN]; exact hci
        have z4 : w'.frozen? ⟨b, off + i, none⟩ = false := by rw [hw0, World.frozen?_drewN]; exact hfi
        clear hi' hdep
        unfold wpOpIn
        simp [Region.wanted]
        unfold Oper.wpIn
        simp [Oper.about, execOp, go_sem, Act.eval, k21, k19, z3, z4]
        refine hR.store (.inl rfl) undef ⟨m, ?_⟩ (fun _ => hall) (fun h => by cases h)
        rw [hw0]
        unfold cW
        rw [getD_set_ne true (by omega), n11, if_neg (by simp), if_pos (by simp [hR.size])]
        rfl
      · simp at ho
        subst ho
        simp [Region.binds] at hdep
        have hd : ∀ e : Nat, l.getD e false = true → l.getD e true = true := fun e h => getD_true h
        have n10 : l.getD 10 true = true := hd _ (by simp_all)
        have n8 : l.getD 8 true = true := hd _ (by simp_all)
        have hall : ∀ j, j < 11 → l.getD j true = true := by
          intro j hj
          by_cases h8 : j = 8
          · subst h8; exact n8
          · by_cases h10 : j = 10
            · subst h10; exact n10
            · exact hR.d10 n10 j (by omega) h8
        have hw0 : w' = (W.setCell ⟨b, off + i, none⟩ (.int .u32 (q : Nat))).drewN m := by rw [hw]; unfold cW; rw [hl0, n10]; simp
        have k5 : a.tmps.getD 5 undef = .pointer (some ⟨w.heap.size + 1 + 1, 0, none⟩) := (hR.fr.kept rfl (by simp [hT])).trans (by rw [hT]; rfl)
        have k20 : a.tmps.getD 20 undef = .int .u32 (r' : Nat) := hR.fr.done (i := 8) rfl (by simp_all) (by simp [hT])
        have z3 : w'.cell? ⟨w.heap.size + 1 + 1, 0, none⟩ = some (.int .u32 (r : Nat)) := by rw [hw0, World.cell?_drewN]; exact hr2 _
        have z4 : w'.frozen? ⟨w.heap.size + 1 + 1, 0, none⟩ = false := by rw [hw0, World.frozen?_drewN]; exact hf2 _
        clear hi' hdep
        unfold wpOpIn
        simp [Region.wanted]
        unfold Oper.wpIn
        simp [Oper.about, execOp, go_sem, Act.eval, k5, k20, z3, z4]
        refine hR.store (.inr rfl) undef ⟨m, ?_⟩ (fun h => by cases h) (fun _ => hall)
        rw [hw0]
        unfold cW
        rw [if_pos (by simp [hR.size])]
        rfl
  case done =>
    intro D W hD hI hK
    obtain ⟨r, ds, e1, e2, e3, e4, e5, e6⟩ := hI.ex
    rw [Nat.sub_self, List.drop_zero, List.drop_zero] at e5
    have hr : val zs % y = r := by rw [e5, Nat.mul_add_mod, Nat.mod_eq_of_lt e3]
    have hq : val ds = val zs / y := by rw [e5, Nat.mul_add_div (by omega), Nat.div_eq_of_lt e3, Nat.add_zero]
    have hdl := e6.sl.size
    have hbl := hI.bl
    clear e4 e5
    gi_wp2
    refine ⟨by simp, .inl ⟨_, _, rfl, run_takeDeferred hK, ?_⟩⟩
    refine ⟨_, results_tmp rfl _ _ _, by rw [hr]; rfl, ⟨ds, hdl.symm, hq, e6.keptBy (grownBy_putObj' W D (.deferred none)) (fun r e => by cases e; exact ⟨_, hK, rfl⟩)⟩, ?_, ?_⟩
    rotate_left
    · intro g hgl hgb
      rw [← hI.kp g hgl hgb]
      exact (grownBy_putObj' W D (.deferred none)).block g (Nat.lt_of_lt_of_le hgl hbl.size) (fun e => by cases e; simp at hD; omega)
    exact hbl.trans (belowK_b (w := w) hB0 W D _ _ (by simp at hD; omega) hK rfl rfl)

/-- num.cut: an owned slice is divided by one digit, in place; no other block changes. -/
theorem cut_kept {w : World} {B0 : Nat} (ao : Option Addr) (n cap : Nat) (zs : List Nat) (y : Nat) (hs : Sw B0 w (.slice ao n cap) zs) (hy0 : 0 < y) (hy : y < 4294967296) (hl : n ≤ 140737488351232) (hB0 : B0 ≤ w.heap.size) :
    Calls Try.prog 89 #[.slice ao n cap, .int .u32 y] w fun e w' => e = .returned (.int .u32 (val zs % y : Nat)) ∧ (∃ ds, ds.length = n ∧ val ds = val zs / y ∧ Sw B0 w' (.slice ao n cap) ds) ∧ Below B0 w w' ∧ (∀ g, g < w.heap.size → (∀ b off, ao = some ⟨b, off, none⟩ → b ≠ g) → w'.heap[g]? = w.heap[g]?) := by
  obtain rfl := hs.sl.size
  exact callsIn_wide.1 (cut_in Fence.wide 5 trivial trivial trivial trivial (fun k hi lo y w h1 h2 h3 => callsIn_wide.2 (div32_any hi lo y w h1 h2 h3)) rfl (by omega) ao cap zs y hs hy0 hy hl hB0)

theorem cut_any {w : World} {B0 : Nat} (ao : Option Addr) (n cap : Nat) (zs : List Nat) (y : Nat) (hs : Sw B0 w (.slice ao n cap) zs) (hy0 : 0 < y) (hy : y < 4294967296) (hl : n ≤ 140737488351232) (hB0 : B0 ≤ w.heap.size) :
    Calls Try.prog 89 #[.slice ao n cap, .int .u32 y] w fun e w' => e = .returned (.int .u32 (val zs % y : Nat)) ∧ (∃ ds, ds.length = n ∧ val ds = val zs / y ∧ Sw B0 w' (.slice ao n cap) ds) ∧ Below B0 w w' :=
  (cut_kept ao n cap zs y hs hy0 hy hl hB0).mono fun _ _ h => ⟨h.1, h.2.1, h.2.2.1⟩

end Go.Proofs.Ytcpgoaombabfjaa.Nums

namespace Go.Proofs.Ytcpgoaombabfjaa.Nums
open Go.RowKit

/-- What divide returns. -/
def DivRes (w : World) (x y : Nat) (e : Ending) (w' : World) : Prop :=
  ∃ aq cq ar cr, e = .returned (.tuple #[.slice aq (digs (x / y)).length cq, .slice ar (digs (x % y)).length cr]) ∧
    Sw w.heap.size w' (.slice aq (digs (x / y)).length cq) (digs (x / y)) ∧ Sw w.heap.size w' (.slice ar (digs (x % y)).length cr) (digs (x % y)) ∧ Below w.heap.size w w'

theorem digs_small {y : Nat} (h0 : y ≠ 0) (h : y < 4294967296) : digs y = [y] := by
  rw [digs_pos h0, Nat.mod_eq_of_lt h, Nat.div_eq_of_lt h, digs_zero]

set_option maxRecDepth 10000 in
set_option maxHeartbeats 1000000 in
theorem divide_less {w : World} {va vb : Value} {x y : Nat} (ha : Sl w va (digs x)) (hb : Sl w vb (digs y)) (h : x < y) (hla : (digs x).length ≤ 256) (hlb : (digs y).length ≤ 256) :
    Calls Try.prog 79 #[va, vb] w (DivRes w x y) := by
  have hc := compare_any ha hb (by omega) (by omega)
  rw [cmpN_lt h] at hc
  have hcl : ∀ W, Sl W va (digs x) → Calls Try.prog 80 #[va] W (NewSl W (digs x)) := fun W h => clone_any h (by omega)
  have hq : x / y = 0 := Nat.div_eq_of_lt h
  have hr : x % y = x := Nat.mod_eq_of_lt h
  have HCL := Lib.hid hcl
  have HQ := Lib.hid hq
  have HR := Lib.hid hr
  clear hcl hq hr
  go_enter Try.func79, Try.ntmps79
  go_wp2_with (first | (go_at_call 71; refine hc.mono ?_; rintro e W1 ⟨rfl, hb1⟩) | (go_at_call 80; refine (HCL.out _ (ha.below hb1)).mono ?_; rintro e W2 ⟨ao, cap, rfl, hs, hb2⟩))
  go_ret2
  unfold DivRes
  rw [HQ.out, HR.out, digs_zero]
  exact ⟨none, 0, ao, cap, rfl, Sw.nil _ _ _ _, hs.mono hb1.size, hb1.trans (hb2.mono hb1.size)⟩

set_option maxRecDepth 10000 in
set_option maxHeartbeats 2000000 in
theorem divide_one {w : World} {va vb : Value} {x y : Nat} (ha : Sl w va (digs x)) (hb : Sl w vb (digs y)) (h0 : y ≠ 0) (h : y ≤ x) (hy : y < 4294967296) (hla : (digs x).length ≤ 256) :
    Calls Try.prog 79 #[va, vb] w (DivRes w x y) := by
  have hc := compare_any ha hb (by omega) (by rw [digs_small h0 hy]; simp)
  have hcm : 0 ≤ cmpN x y := by unfold cmpN; rw [if_neg (by omega)]; split <;> decide
  have hcl : ∀ W, Sl W va (digs x) → Calls Try.prog 80 #[va] W (NewSl W (digs x)) := fun W h => clone_any h (by omega)
  rw [digs_small h0 hy] at hb
  obtain ⟨ab, cb, rfl⟩ := hb.mk'
  obtain ⟨b, off, rfl, hcap, hbs, hcb⟩ := hb.at (by simp)
  have hcy := hcb 0 (by simp)
  simp only [List.getD_cons_zero, Nat.add_zero] at hcy
  have hlx : (digs x).length ≤ 140737488351232 := by omega
  obtain ⟨n, hn⟩ : ∃ n, n = (digs x).length := ⟨_, rfl⟩
  rw [← hn] at hlx
  have HCL := Lib.hid hcl
  have HN := Lib.hid hn
  have HB := Lib.hid hb
  have HCB := Lib.hid hcb
  have HC := Lib.hid hc
  clear hcl hn hb hcb hc
  go_enter Try.func79, Try.ntmps79
  have hyl : y / 4294967296 < 4294967296 := by omega
  have hrl : x % y / 4294967296 < 4294967296 := by have := Nat.mod_lt x (show 0 < y by omega); omega
  have HD : Hid (∀ W, Calls Try.prog 70 #[.int .u64 (x % y : Nat)] W fun e w' => ∃ ao cap, e = .returned (.slice ao (digs (x % y)).length cap) ∧ Sw W.heap.size w' (.slice ao (digs (x % y)).length cap) (digs (x % y)) ∧ Below W.heap.size W w') := fun W => digitsOf_at W hrl rfl
  have HCUT : Hid (∀ W B0 ao cap, Sw B0 W (.slice ao n cap) (digs x) → B0 ≤ W.heap.size → Calls Try.prog 89 #[.slice ao n cap, .int .u32 y] W fun e w' => e = .returned (.int .u32 (x % y : Nat)) ∧ (∃ ds, ds.length = n ∧ val ds = x / y ∧ Sw B0 w' (.slice ao n cap) ds) ∧ Below B0 W w') := fun W B0 ao cap h hB => by
    have := cut_any ao n cap _ y h (by omega) hy hlx hB
    rwa [val_digs] at this
  clear hyl hrl
  obtain ⟨r, hr⟩ : ∃ r, r = x % y := ⟨_, rfl⟩
  obtain ⟨q, hq⟩ : ∃ q, q = x / y := ⟨_, rfl⟩
  have hry : r < y := by rw [hr]; exact Nat.mod_lt _ (by omega)
  unfold DivRes
  rw [← hr, ← hq] at HCUT ⊢
  rw [← hr] at HD
  obtain ⟨rl, hrl⟩ : ∃ rl, rl = (digs r).length := ⟨_, rfl⟩
  obtain ⟨ql, hql⟩ : ∃ ql, ql = (digs q).length := ⟨_, rfl⟩
  rw [← hrl] at HD ⊢
  rw [← hql]
  have HQL := Lib.hid hql
  clear hr hq hrl hql
  go_wp2_with (first | (go_at_call 71; refine HC.out.mono ?_; rintro e W1 ⟨rfl, hb1⟩; have hcy1 := cell_later hb1 hcy) | (go_at_call 80; refine (HCL.out _ (ha.below hb1)).mono ?_; unfold NewSl; rw [← HN.out]; rintro e W2 ⟨ao, cap, rfl, hs, hb2⟩; have hcy2 := cell_later hb2 hcy1; have HS := Lib.hid hs; clear hs) | (go_at_call 89; refine (HCUT.out _ _ ao cap HS.out hb2.size).mono ?_; rintro e W3 ⟨rfl, ⟨ds, hd1, hd2, hd3⟩, hb3⟩; have ht := trim_any _ _ _ hd3.sl; have hu := hd3.trim; rw [hd2, ← HQL.out] at ht hu; have HT := Lib.hid ht; have HU := Lib.hid hu; clear ht hu hd1 hd2 hd3) | (go_at_call 73; refine HT.out.mono ?_; rintro e w' ⟨rfl, rfl⟩) | (go_at_call 70; refine (HD.out _).mono ?_; rintro e W4 ⟨ar, cr, rfl, hs4, hb4⟩; have HS4 := Lib.hid hs4; clear hs4))
  go_ret2
  have b3 : Below w.heap.size w w' := (hb1.trans (hb2.mono hb1.size)).trans (hb3.mono (by have := hb1.size; omega))
  refine ⟨ao, cap, ar, cr, rfl, ?_, HS4.out.mono b3.size, b3.trans (hb4.mono b3.size)⟩
  exact (HU.out.mono hb1.size).below hb4

end Go.Proofs.Ytcpgoaombabfjaa.Nums
