/- Div32, cut. Condition of Div32: the divisor is greater than the high digit. divide by one digit. Condition: the divisor is not 0, and has one digit, or is greater. Contract of num: Div. Condition: divide keeps its contract at these arguments. Contract of num: Div. Greatest common divisors, where the lesser number has at most two digits. Contract of num: Gcd, where the lesser number has at most two digits. Contracts of num: Bits, and Same of the reference. No condition but that the slices read as digits. Contracts: Same of the reference, is, divides. No condition but that the slices read as digits. Contracts: is, divides of the statements; Div and Gcd with a divisor of one digit. Contracts of num's texts: decimal. No condition. -/
import Derived.Deep.QuietTactic
import Derived.BigQuiet
import Derived.Test.YtdgmjmckeeeljaaGreatDoorGi2
import Derived.Lib.ItoaNum
import Derived.Lib.ConvBytes
import Derived.Lib.SmallJoins
namespace Go.Proofs.YtdgmjmckeeeljaaGreatDoor
open Go.RowKit

set_option maxRecDepth 10000 in
set_option maxHeartbeats 1000000 in
theorem div32_any (hi lo y : Nat) (w : World) (h1 : hi < y) (h2 : lo < 4294967296) (h3 : y < 4294967296) :
    Calls Tryz.prog 100 #[.int .u32 hi, .int .u32 lo, .int .u32 y] w fun e w' => e = .returned (.tuple #[.int .u32 ((lo + 4294967296 * hi) / y : Nat), .int .u32 ((lo + 4294967296 * hi) % y : Nat)]) ∧ ∃ n, w' = w.drewN n := by
  have hj := or_join hi lo (by omega) h2
  have hq : (lo + 4294967296 * hi) / y < 4294967296 := Nat.div_lt_of_lt_mul (by
    have : (hi + 1) * 4294967296 ≤ y * 4294967296 := Nat.mul_le_mul_right _ h1
    omega)
  have hr : (lo + 4294967296 * hi) % y < y := Nat.mod_lt _ (by omega)
  obtain ⟨z, hz⟩ : ∃ z, z = lo + 4294967296 * hi := ⟨_, rfl⟩
  rw [← hz] at hj hq hr ⊢
  obtain ⟨q, hqq⟩ : ∃ q, q = z / y := ⟨_, rfl⟩
  obtain ⟨r, hrr⟩ : ∃ r, r = z % y := ⟨_, rfl⟩
  have f1 : (z : Int) / y = q := by rw [hqq]; rfl
  have f2 : (z : Int) % y = r := by rw [hrr]; rfl
  rw [← hqq] at hq ⊢
  rw [← hrr] at hr ⊢
  have g1 : ((y : Int) != 0) = true := by simp; omega
  have g2 : ¬ (y : Int) ≤ hi := by omega
  have g3 : ((y : Int) == 0) = false := by simp; omega
  clear hz hqq hrr
  go_enter Tryz.func100, Tryz.ntmps100
  go_wp2
  go_quiet (fail)
  go_wp2
  go_ret2
  exact ⟨rfl, _, rfl⟩

theorem cell_other {W : World} {a c : Addr} {u : Value} (h : a ≠ c) : (W.setCell a u).cell? c = W.cell? c := by
  apply World.cell?_setCell_other
  exact h

theorem Sw.keptBy {B : Nat} {W W' : World} {v : Value} {ds : List Nat} {row : Option Nat} (h : Sw B W v ds) (hg : W.grownBy W' row) (hr : ∀ r, row = some r → ∃ o : Obj, W.heap[r]? = some o ∧ o.isCells = false) : Sw B W' v ds := by
  refine ⟨⟨h.sl.bd, h.sl.len, ?_⟩, ?_⟩
  · rcases h.sl.is with h1 | ⟨b, off, cap, hv, hc, hcl⟩
    · exact .inl h1
    · exact .inr ⟨b, off, cap, hv, hc, fun j hj => cell_kept (hcl j hj) hg hr⟩
  · intro ao n cap hv hn
    obtain ⟨b, off, e1, e2, e3⟩ := h.own ao n cap hv hn
    subst hv
    obtain ⟨b', off', e4, _, _, hcl⟩ := h.sl.at hn
    rw [e1] at e4
    cases e4
    refine ⟨b, off, e1, e2, fun j hj => ?_⟩
    rw [frozen_kept (hcl j (by rw [← h.sl.size]; exact hj)) hg hr]
    exact e3 j hj

/-- A store into an owned slice. -/
theorem Sw.set {B : Nat} {W : World} {b off n cap : Nat} {ds : List Nat} (h : Sw B W (.slice (some ⟨b, off, none⟩) n cap) ds) (i q : Nat) (hi : i < n) (hq : q < 4294967296) :
    Sw B (W.setCell ⟨b, off + i, none⟩ (.int .u32 (q : Nat))) (.slice (some ⟨b, off, none⟩) n cap) (ds.set i q) := by
  have hn := h.sl.size
  obtain ⟨b', off', e, hc, _, hcl⟩ := h.sl.at (by omega)
  cases e
  refine ⟨⟨h.sl.bd.set i hq, by have := h.sl.len; simpa using this, .inr ⟨b, off, cap, by rw [List.length_set, ← hn], by rw [List.length_set, ← hn]; exact hc, fun j hj => ?_⟩⟩, ?_⟩
  · rw [List.length_set] at hj
    by_cases hij : i = j
    · subst hij
      rw [World.cell?_setCell_same W _ _ (hcl i hj)]
      simp [List.getD, hj]
    · rw [cell_other (by simp [hij]), hcl j hj]
      simp only [List.getD, List.getElem?_set]
      rw [if_neg hij]
  · intro ao n' cap' hv hn'
    cases hv
    obtain ⟨b', off', e1, e2, e3⟩ := h.own _ _ _ rfl hn'
    cases e1
    exact ⟨b, off, rfl, e2, fun j hj => by rw [World.frozen?_setCell]; exact e3 j hj⟩

/-- A store elsewhere. -/
theorem Sw.setOther {B g : Nat} {W : World} {v : Value} {ds : List Nat} (h : Sw B W v ds) (o : Nat) (u : Value) (hg : ∀ b off n cap, v = .slice (some ⟨b, off, none⟩) n cap → n ≠ 0 → b ≠ g) : Sw B (W.setCell ⟨g, o, none⟩ u) v ds := by
  refine ⟨⟨h.sl.bd, h.sl.len, ?_⟩, ?_⟩
  · rcases h.sl.is with h1 | ⟨b, off, cap, hv, hc, hcl⟩
    · exact .inl h1
    · refine .inr ⟨b, off, cap, hv, hc, fun j hj => ?_⟩
      have := hg b off _ cap hv (by omega)
      rw [cell_other (by simp [this.symm])]
      exact hcl j hj
  · intro ao n cap hv hn
    obtain ⟨b, off, e1, e2, e3⟩ := h.own ao n cap hv hn
    exact ⟨b, off, e1, e2, fun j hj => by rw [World.frozen?_setCell]; exact e3 j hj⟩

theorem val_drop {ds : List Nat} {i : Nat} (h : i < ds.length) : val (ds.drop i) = ds.getD i 0 + 4294967296 * val (ds.drop (i + 1)) := by
  rw [List.drop_eq_getElem_cons h]
  simp [val, List.getD, h]

theorem drop_set_gt {ds : List Nat} {i j q : Nat} (h : i < j) : (ds.set i q).drop j = ds.drop j := by
  rw [List.drop_set_of_lt h]

theorem cut_step {z d r x y q r' : Nat} (h : z = y * d + r) (e : x + 4294967296 * r = y * q + r') : x + 4294967296 * z = y * (q + 4294967296 * d) + r' := by
  have : y * (q + 4294967296 * d) = y * q + 4294967296 * (y * d) := by grind
  omega

/-- What holds when k digits are divided. -/
structure CutI (B0 : Nat) (w : World) (ao : Option Addr) (cap : Nat) (zs : List Nat) (y k : Nat) (W : World) : Prop where
  c0 : W.cell? ⟨w.heap.size, 0, none⟩ = some (.slice ao zs.length cap)
  c1 : W.cell? ⟨w.heap.size + 1, 0, none⟩ = some (.int .u32 (y : Nat))
  c3 : W.cell? ⟨w.heap.size + 1 + 1 + 1, 0, none⟩ = some (.slice ao zs.length cap)
  ex : ∃ (r : Nat) (ds : List Nat), W.cell? ⟨w.heap.size + 1 + 1, 0, none⟩ = some (.int .u32 (r : Nat)) ∧ W.frozen? ⟨w.heap.size + 1 + 1, 0, none⟩ = false ∧ r < y ∧ (∀ j, j < zs.length - k → ds.getD j 0 = zs.getD j 0) ∧
    val (zs.drop (zs.length - k)) = y * val (ds.drop (zs.length - k)) + r ∧ Sw B0 W (.slice ao zs.length cap) ds
  bl : Below B0 w W
  kp : ∀ g, g < w.heap.size → (∀ b off, ao = some ⟨b, off, none⟩ → b ≠ g) → W.heap[g]? = w.heap[g]?

theorem cutI_own {B0 : Nat} {w w0 : World} {ao : Option Addr} {cap : Nat} {zs : List Nat} {y : Nat} (h0 : B0 ≤ w.heap.size) (h1 : w.heap.size ≤ w0.heap.size) : OwnFrom w0.heap.size (CutI B0 w ao cap zs y) := by
  intro k W W' row hs hg hr
  have hr' : ∀ r, row = some r → ∃ o : Obj, W.heap[r]? = some o ∧ o.isCells = false := fun r e => (hr r e).2
  obtain ⟨r, ds, e1, e2, e3, e4, e5, e6⟩ := hs.ex
  refine ⟨cell_kept hs.c0 hg hr', cell_kept hs.c1 hg hr', cell_kept hs.c3 hg hr', ⟨r, ds, cell_kept e1 hg hr', (frozen_kept e1 hg hr').trans e2, e3, e4, e5, e6.keptBy hg hr'⟩, ?_, ?_⟩
  · exact hs.bl.grown hg (Nat.le_trans h0 hs.bl.size) (fun r e => Nat.le_trans (Nat.le_trans h0 h1) (hr r e).1)
  · intro g hgl hgb
    rw [← hs.kp g hgl hgb]
    exact hg.block g (Nat.lt_of_lt_of_le hgl hs.bl.size) (fun e => by have := (hr g e.symm).1; omega)

def cOwn (b off len cap i x r y q r' : Nat) : Nat → Option (Nat × Value)
  | 12 => some (6, .tuple #[.int .u32 (q : Nat), .int .u32 (r' : Nat)])
  | 13 => some (0, .slice (some ⟨b, off, none⟩) len cap)
  | 14 => some (1, .int .i64 (i : Nat))
  | 15 => some (2, .int .u32 (r : Nat))
  | 16 => some (3, .int .u32 (x : Nat))
  | 17 => some (4, .int .u32 (y : Nat))
  | 18 => some (5, .tuple #[.int .u32 (q : Nat), .int .u32 (r' : Nat)])
  | 19 => some (7, .int .u32 (q : Nat))
  | 20 => some (8, .int .u32 (r' : Nat))
  | 21 => some (9, .pointer (some ⟨b, off + i, none⟩))
  | _ => none

def cSlot : Nat → Nat
  | 0 => 13
  | 1 => 14
  | 2 => 15
  | 3 => 16
  | 4 => 17
  | 5 => 18
  | 6 => 12
  | 7 => 19
  | 8 => 20
  | _ => 21

theorem getD_true {l : Array Bool} {j : Nat} (h : l.getD j false = true) : l.getD j true = true := by
  by_cases hj : j < l.size
  · simp [Array.getD, hj] at h ⊢
    exact h
  · simp [Array.getD, hj] at h

theorem cOwn_slot {b off len cap i x r y q r' : Nat} {j : Nat} {v : Value} {p : Nat} (h : cOwn b off len cap i x r y q r' j = some (p, v)) : j = cSlot p := by
  unfold cOwn at h
  split at h <;> first | (cases h; rfl) | (cases h)

theorem cOwn_inj {b off len cap i x r y q r' : Nat} {j k : Nat} {v u : Value} {p : Nat} (h : cOwn b off len cap i x r y q r' j = some (p, v)) (h' : cOwn b off len cap i x r y q r' k = some (p, u)) : j = k :=
  (cOwn_slot h).trans (cOwn_slot h').symm

theorem cOwn_lt {b off len cap i x r y q r' : Nat} {j : Nat} {v : Value} {p : Nat} (h : cOwn b off len cap i x r y q r' j = some (p, v)) : p < 10 := by
  unfold cOwn at h
  split at h <;> first | (cases h; decide) | (cases h)

/-- The world behind the stores that are done. -/
def cW (W : World) (b o g q r' : Nat) (l : Array Bool) : World :=
  if l.getD 11 true = true then (W.setCell ⟨b, o, none⟩ (.int .u32 (q : Nat))).setCell ⟨g + 1 + 1, 0, none⟩ (.int .u32 (r' : Nat)) else if l.getD 10 true = true then W.setCell ⟨b, o, none⟩ (.int .u32 (q : Nat)) else W

theorem cW_set (W : World) (b o g q r' : Nat) (l : Array Bool) (i : Nat) (h10 : i ≠ 10) (h11 : i ≠ 11) : cW W b o g q r' (l.setIfInBounds i true) = cW W b o g q r' l := by
  unfold cW
  rw [getD_set_ne true h11, getD_set_ne true h10]

theorem cW_keeps (W : World) (b o g q r' : Nat) (l : Array Bool) {c : Addr} (h1 : c.block ≠ b) (h2 : c.block ≠ g + 1 + 1) : (cW W b o g q r' l).cell? c = W.cell? c := by
  have e1 : ∀ (W : World) (u : Value), (W.setCell ⟨b, o, none⟩ u).cell? c = W.cell? c := fun W u => cell_other (fun e => h1 (by rw [← e]))
  have e2 : ∀ (W : World) (u : Value), (W.setCell ⟨g + 1 + 1, 0, none⟩ u).cell? c = W.cell? c := fun W u => cell_other (fun e => h2 (by rw [← e]))
  unfold cW
  split
  · rw [e2, e1]
  · split
    · rw [e1]
    · rfl

/-- What holds when the operations of l are done. -/
structure CR (W : World) (T : Array Value) (b off len cap i x r y q r' g : Nat) (l : Array Bool) (a : Act) (w' : World) : Prop where
  size : l.size = 12
  fr : Fr (cOwn b off len cap i x r y q r') T l a
  w : ∃ m, w' = (cW W b (off + i) g q r' l).drewN m
  d10 : l.getD 10 true = true → ∀ k, k < 10 → k ≠ 8 → l.getD k true = true
  d11 : l.getD 11 true = true → ∀ k, k < 11 → l.getD k true = true

theorem CR.next {W : World} {T : Array Value} {b off len cap i x r y q r' g : Nat} {l : Array Bool} {a : Act} {w' w'' : World} (h : CR W T b off len cap i x r y q r' g l a w') {k d : Nat} {v : Value}
    (hd : cOwn b off len cap i x r y q r' d = some (k, v)) (hw : ∃ m, w'' = w'.drewN m) : CR W T b off len cap i x r y q r' g (l.setIfInBounds k true) (a.put (some d) v) w'' := by
  have hk := cOwn_lt hd
  obtain ⟨m, hm⟩ := h.w
  obtain ⟨m2, hm2⟩ := hw
  refine ⟨by simp [h.size], h.fr.put hd (by rw [h.size]; omega) (fun j p hj hp => ?_), ⟨m + m2, ?_⟩, fun h10 j hj h8 => ?_, fun h11 j hj => ?_⟩
  · obtain ⟨p1, p2⟩ := p
    subst hp
    exact cOwn_inj hj hd
  · rw [cW_set _ _ _ _ _ _ _ _ (by omega) (by omega), hm2, hm, World.drewN_drewN]
  · rw [getD_set_ne true (by omega)] at h10
    by_cases hjk : k = j
    · subst hjk; simp [h.size, hk, show k < 12 by omega]
    · rw [getD_set_ne true hjk]; exact h.d10 h10 j hj h8
  · rw [getD_set_ne true (by omega)] at h11
    by_cases hjk : k = j
    · subst hjk; simp [h.size, show k < 12 by omega]
    · rw [getD_set_ne true hjk]; exact h.d11 h11 j hj

/-- A store is done. -/
theorem CR.store {W : World} {T : Array Value} {b off len cap i x r y q r' g : Nat} {l : Array Bool} {a : Act} {w' w'' : World} (h : CR W T b off len cap i x r y q r' g l a w') {k : Nat} (hk : k = 10 ∨ k = 11) (v : Value)
    (hw : ∃ m, w'' = (cW W b (off + i) g q r' (l.setIfInBounds k true)).drewN m) (h10 : k = 10 → ∀ j, j < 10 → j ≠ 8 → l.getD j true = true) (h11 : k = 11 → ∀ j, j < 11 → l.getD j true = true) :
    CR W T b off len cap i x r y q r' g (l.setIfInBounds k true) (a.put none v) w'' := by
  refine ⟨by simp [h.size], h.fr.bare v (fun j p hj hp => ?_), hw, fun h0 j hj h8 => ?_, fun h0 j hj => ?_⟩
  · obtain ⟨p1, p2⟩ := p
    have := cOwn_lt hj
    simp at hp
    omega
  · rcases hk with rfl | rfl
    · rw [getD_set_ne true (by omega)]; exact h10 rfl j hj h8
    · rw [getD_set_ne true (by omega)]; exact h11 rfl j (by omega)
  · rcases hk with rfl | rfl
    · rw [getD_set_ne true (by omega)] at h0
      by_cases hj10 : j = 10
      · subst hj10; simp [h.size]
      · rw [getD_set_ne true (by omega)]; exact h.d11 h0 j hj
    · rw [getD_set_ne true (by omega)]; exact h11 rfl j hj

theorem KeepsFrom.trans' {W W' : World} (h : KeepsOthers W W') (m B : Nat) : KeepsFrom B W (W'.drewN m) := (KeepsOthers.trans h (⟨Nat.le_refl _, fun _ _ h _ => h⟩ : KeepsOthers W' (W'.drewN m))).from B

theorem below_drewN' {B : Nat} {a w : World} (h : Below B a w) (n : Nat) : Below B a (w.drewN n) := h.trans ⟨rfl, rfl, rfl, Nat.le_refl _, fun _ _ => rfl⟩

theorem cutI_next {B0 : Nat} {w W : World} {b off cap : Nat} {zs ds : List Nat} {y k r i x q r' : Nat} (hI : CutI B0 w (some ⟨b, off, none⟩) cap zs y k W)
    (e1 : W.cell? ⟨w.heap.size + 1 + 1, 0, none⟩ = some (.int .u32 (r : Nat))) (e2 : W.frozen? ⟨w.heap.size + 1 + 1, 0, none⟩ = false) (e3 : r < y) (e4 : ∀ j, j < zs.length - k → ds.getD j 0 = zs.getD j 0)
    (e5 : val (zs.drop (zs.length - k)) = y * val (ds.drop (zs.length - k)) + r) (e6 : Sw B0 W (.slice (some ⟨b, off, none⟩) zs.length cap) ds) (hi : i = zs.length - 1 - k) (hin : i < zs.length) (hx : x = zs.getD i 0) (hk : k < zs.length)
    (hblt : b < w.heap.size) (hB0 : B0 ≤ w.heap.size) (hy0 : 0 < y) (hq : q = (x + 4294967296 * r) / y) (hr' : r' = (x + 4294967296 * r) % y) (m : Nat) (hq2 : q < 4294967296) :
    CutI B0 w (some ⟨b, off, none⟩) cap zs y (k + 1) (((W.setCell ⟨b, off + i, none⟩ (.int .u32 (q : Nat))).setCell ⟨w.heap.size + 1 + 1, 0, none⟩ (.int .u32 (r' : Nat))).drewN m) := by
  have hdl := e6.sl.size
  have hB0b : B0 ≤ b := by
    obtain ⟨_, _, p, h, _⟩ := e6.own _ _ _ rfl (by omega)
    cases p; exact h
  have co : ∀ c : Addr, c.block ≠ b → c.block ≠ w.heap.size + 1 + 1 → (((W.setCell ⟨b, off + i, none⟩ (.int .u32 (q : Nat))).setCell ⟨w.heap.size + 1 + 1, 0, none⟩ (.int .u32 (r' : Nat))).drewN m).cell? c = W.cell? c := fun c h1 h2 => by
    rw [World.cell?_drewN, cell_other (fun e => h2 (by rw [← e])), cell_other (fun e => h1 (by rw [← e]))]
  have n1 : zs.length - (k + 1) = i := by omega
  have n2 : zs.length - k = i + 1 := by omega
  refine ⟨(co _ (by simp; omega) (by simp; omega)).trans hI.c0, (co _ (by simp; omega) (by simp)).trans hI.c1, (co _ (by simp; omega) (by simp)).trans hI.c3, ⟨r', ds.set i q, ?_, ?_, ?_, ?_, ?_, ?_⟩, ?_, ?_⟩
  · rw [World.cell?_drewN]
    exact World.cell?_setCell_same' _ _ _ (by rw [cell_other (fun h => by have := congrArg Addr.block h; simp at this; omega), e1]; rfl)
  · rw [World.frozen?_drewN, World.frozen?_setCell, World.frozen?_setCell]
    exact e2
  · rw [hr']; exact Nat.mod_lt _ hy0
  · intro j hj
    rw [n1] at hj
    rw [← e4 j (by omega)]
    simp only [List.getD, List.getElem?_set]
    rw [if_neg (by omega)]
  · rw [n1, val_drop hin, val_drop (ds := ds.set i q) (i := i) (by rw [List.length_set]; omega), ← hx, drop_set_gt (by omega)]
    have e7 : (ds.set i q).getD i 0 = q := by simp [List.getD, show i < ds.length by omega]
    rw [e7]
    rw [n2] at e5
    exact cut_step e5 (by rw [hq, hr']; exact (Nat.div_add_mod _ _).symm)
  · exact ((e6.set i q hin hq2).setOther _ _ (fun b' off' n cap hv _ => by cases hv; omega)).below (below_drewN' (Below.refl _ _) m)
  · exact below_drewN' ((hI.bl.setCell (by simpa using hB0b) _).setCell (by simp; omega) _) m
  · intro g hgl hgb
    have hgb' := hgb b off rfl
    rw [World.heap_drewN, heap_setCell_other _ _ _ _ (by simp; omega), heap_setCell_other _ _ _ _ (by simp; omega)]
    exact hI.kp g hgl hgb

attribute [local go_sem] Oper.semAt_some
open Go.Shelf in
set_option maxRecDepth 100000 in
set_option maxHeartbeats 4000000 in
theorem cut_in (F : Fence) (n : Nat) (h75 : F.fn 75) (h58 : F.fn 58) (h90 : F.fn 90) (h100 : F.fn 100)
    (hc100 : ∀ k (hi lo y : Nat) (w : World), hi < y → lo < 4294967296 → y < 4294967296 → CallsIn F k Tryz.prog 100 #[.int .u32 hi, .int .u32 lo, .int .u32 y] w fun e w' => e = .returned (.tuple #[.int .u32 ((lo + 4294967296 * hi) / y : Nat), .int .u32 ((lo + 4294967296 * hi) % y : Nat)]) ∧ ∃ n, w' = w.drewN n)
    (hro : F.round = none) (hn : 4 ≤ n) {w : World} {B0 : Nat} (ao : Option Addr) (cap : Nat) (zs : List Nat) (y : Nat) (hs : Sw B0 w (.slice ao zs.length cap) zs) (hy0 : 0 < y) (hy : y < 4294967296) (hl : zs.length ≤ 140737488351232) (hB0 : B0 ≤ w.heap.size) :
    CallsIn F n Tryz.prog 75 #[.slice ao zs.length cap, .int .u32 y] w fun e w' => e = .returned (.int .u32 (val zs % y : Nat)) ∧ (∃ ds, ds.length = zs.length ∧ val ds = val zs / y ∧ Sw B0 w' (.slice ao zs.length cap) ds) ∧ Below B0 w w' ∧ (∀ g, g < w.heap.size → (∀ b off, ao = some ⟨b, off, none⟩ → b ≠ g) → w'.heap[g]? = w.heap[g]?) := by
  have h1 : 1 ≤ n := by omega
  refine callsIn_of_wp_marks Tryz.func75 rfl h75 ?_ hro
  simp only [Tryz.ntmps75, List.size_toArray, List.length_cons, List.length_nil, Nat.reduceAdd, Nat.reduceSub, Array.replicate_succ, Array.replicate_zero, List.push_toArray, List.append_toArray, List.nil_append, List.cons_append]
  gi_wp2_with (gi_at_call 58; refine (backward_in F (n - 1) h58 hro _ _ _ _).mono ?_; rintro e w' ⟨rfl, rfl⟩)
  have b0 := Boxed.new w 25 (.slice ao zs.length cap)
  have b1 := Boxed.new (w.alloc (.cells #[.slice ao zs.length cap] 25)) 59 (.int .u32 (y : Nat))
  have b2 := Boxed.new ((w.alloc (.cells #[.slice ao zs.length cap] 25)).alloc (.cells #[.int .u32 (y : Nat)] 59)) 59 (.int .u32 0)
  have b3 := Boxed.new (((w.alloc (.cells #[.slice ao zs.length cap] 25)).alloc (.cells #[.int .u32 (y : Nat)] 59)).alloc (.cells #[.int .u32 0] 59)) 25 (.slice ao zs.length cap)
  simp only [World.size_alloc] at b1 b2 b3
  have hBW : Below w.heap.size w ((((w.alloc (.cells #[.slice ao zs.length cap] 25)).alloc (.cells #[.int .u32 (y : Nat)] 59)).alloc (.cells #[.int .u32 0] 59)).alloc (.cells #[.slice ao zs.length cap] 25)) := by go_grown
  have hcap : zs.length ≤ cap ∨ zs.length = 0 := by
    by_cases h : zs.length = 0
    · exact .inr h
    · obtain ⟨_, _, _, hc, _⟩ := hs.sl.at h
      exact .inl hc
  have hI0 : CutI B0 w ao cap zs y 0 ((((w.alloc (.cells #[.slice ao zs.length cap] 25)).alloc (.cells #[.int .u32 (y : Nat)] 59)).alloc (.cells #[.int .u32 0] 59)).alloc (.cells #[.slice ao zs.length cap] 25)) :=
    ⟨(((b0.alloc _).alloc _).alloc _).cell, ((b1.alloc _).alloc _).cell, b3.cell, ⟨0, zs, (b2.alloc _).cell, (b2.alloc _).frozen, hy0, fun _ _ => rfl, by simp [val], hs.below hBW⟩, hBW.mono hB0, fun g hgl _ => hBW.block g hgl⟩
  have hsz : w.heap.size + 4 = ((((w.alloc (.cells #[.slice ao zs.length cap] 25)).alloc (.cells #[.int .u32 (y : Nat)] 59)).alloc (.cells #[.int .u32 0] 59)).alloc (.cells #[.slice ao zs.length cap] 25)).heap.size := by simp
  refine rangeFunc_counts hro h1 (gf := 90) (lb := #[.pointer (some ⟨w.heap.size + 1 + 1 + 1, 0, none⟩)]) rfl h90 (enters_of Tryz.func90 (by kernel_rfl) rfl)
    (backward_counts F (n - 1) h90 hro (by omega) (w.heap.size + 1 + 1 + 1) ao cap zs hl (CutI B0 w ao cap zs y) (fun k W h => h.c3) (fun k W h hk => ?hcell)) (fun _ => rfl)
    (cutI_own hB0 (by rw [← hsz]; omega)) hI0
    (fun k => { tmps := #[.slice ao zs.length cap, .int .u32 (y : Nat), .pointer (some ⟨w.heap.size, 0, none⟩), .pointer (some ⟨w.heap.size + 1, 0, none⟩), .int .u32 0, .pointer (some ⟨w.heap.size + 1 + 1, 0, none⟩), .int .i64 ((zs.length - 1 - k : Nat) : Int), .int .u32 ((zs.getD (zs.length - 1 - k) 0 : Nat) : Int), .slice ao zs.length cap, .func (.func 90) #[] #[.pointer (some ⟨w.heap.size + 1 + 1 + 1, 0, none⟩)], .int .i64 ((zs.length - 1 - k : Nat) : Int), .int .u32 ((zs.getD (zs.length - 1 - k) 0 : Nat) : Int), undef, undef, undef, undef, undef, undef, undef, undef, undef, undef, undef], defers := [] }) ?assign ?body ?done
  case hcell =>
    obtain ⟨r, ds, _, _, _, e4, _, e6⟩ := h.ex
    obtain ⟨b, off, e, _, _, hcl⟩ := e6.sl.at (by omega)
    have hdl := e6.sl.size
    exact ⟨b, off, e, by rw [hcl _ (by omega), e4 _ (by omega)]⟩
  case assign =>
    intro l k W K hK
    obtain ⟨i, hi⟩ : ∃ i, i = zs.length - 1 - k := ⟨_, rfl⟩
    obtain ⟨x, hx⟩ : ∃ x, x = zs.getD (zs.length - 1 - k) 0 := ⟨_, rfl⟩
    unfold backArgs
    rw [← hx, ← hi] at hK ⊢
    clear hi hx
    gi_wp2
    exact hK
  case body =>
    intro l k W hk hI
    have h3 : 1 ≤ n - 1 - 1 := by omega
    have hbl : ∀ b off, ao = some ⟨b, off, none⟩ → b < w.heap.size := fun b off e => by
      obtain ⟨b', off', q1, _, q2, _⟩ := hs.sl.at (by omega)
      rw [e] at q1; cases q1; exact q2
    have hmx : Tryz.prog.follows .mixedOrders = true := by kernel_rfl
    obtain ⟨r, ds, e1, e2, e3, e4, e5, e6⟩ := hI.ex
    have c0 := hI.c0
    have c1 := hI.c1
    have hdl := e6.sl.size
    obtain ⟨b, off, rfl, _, _, hcl⟩ := e6.sl.at (by omega)
    obtain ⟨i, hi⟩ : ∃ i, i = zs.length - 1 - k := ⟨_, rfl⟩
    have hblt := hbl b off rfl
    have hne1 : ¬ b = w.heap.size + 1 + 1 := by omega
    have hne2 : ¬ w.heap.size + 1 + 1 = b := by omega
    clear hbl
    have hci := hcl i (by omega)
    have hfi : W.frozen? ⟨b, off + i, none⟩ = false := by
      obtain ⟨b', off', q1, _, q3⟩ := e6.own _ _ _ rfl (by omega)
      cases q1
      exact q3 i (by omega)
    have hzi := e4 i (by omega)
    rw [hzi] at hci
    have hx : zs.getD i 0 < 4294967296 := by rw [val_digit hs.sl.bd]; exact Nat.mod_lt _ (by omega)
    obtain ⟨x, hxe⟩ : ∃ x, x = zs.getD i 0 := ⟨_, rfl⟩
    rw [← hi, ← hxe]
    rw [← hxe] at hci hx
    have hin : i < zs.length := by omega
    obtain ⟨len, hlen⟩ : ∃ len, len = zs.length := ⟨_, rfl⟩
    rw [← hlen] at c0 hin ⊢
    have HI := Lib.hid hI
    have H4 := Lib.hid e4
    have H5 := Lib.hid e5
    have H6 := Lib.hid e6
    have HX := Lib.hid hxe
    have HIi := Lib.hid hi
    have HL := Lib.hid hlen
    have HZ := Lib.hid hzi
    have HDL := Lib.hid hdl
    have hr2 : ∀ v, (W.setCell ⟨b, off + i, none⟩ v).cell? ⟨w.heap.size + 1 + 1, 0, none⟩ = some (.int .u32 (r : Nat)) := fun v => by rw [cell_other (by simp [hne1])]; exact e1
    have hf2 : ∀ v, (W.setCell ⟨b, off + i, none⟩ v).frozen? ⟨w.heap.size + 1 + 1, 0, none⟩ = false := fun v => by rw [World.frozen?_setCell]; exact e2
    clear hI e4 e5 e6 hcl hxe hi hlen hzi hdl hI0 hBW b0 b1 b2 b3 hsz hcap hs hl hy0
    gi_wp2
    obtain ⟨T, hT⟩ : ∃ T : Array Value, T = #[.slice (some ⟨b, off, none⟩) len cap, .int .u32 (y : Nat), .pointer (some ⟨w.heap.size, 0, none⟩), .pointer (some ⟨w.heap.size + 1, 0, none⟩), .int .u32 0, .pointer (some ⟨w.heap.size + 1 + 1, 0, none⟩), .int .i64 (i : Nat), .int .u32 (x : Nat), .slice (some ⟨b, off, none⟩) len cap, .func (.func 90) #[] #[.pointer (some ⟨w.heap.size + 1 + 1 + 1, 0, none⟩)], .int .i64 (i : Nat), .int .u32 (x : Nat), undef, undef, undef, undef, undef, undef, undef, undef, undef, undef, undef] := ⟨_, rfl⟩
    rw [← hT]
    obtain ⟨q, hq⟩ : ∃ q : Nat, q = (x + 4294967296 * r) / y := ⟨_, rfl⟩
    obtain ⟨r', hr'⟩ : ∃ r' : Nat, r' = (x + 4294967296 * r) % y := ⟨_, rfl⟩
    have hdiv := hc100 (n - 1 - 1 - 1) r x y
    rw [← hq, ← hr'] at hdiv
    refine region_inv hmx (CR W T b off len cap i x r y q r' w.heap.size) ?h0 ?step ?fin
    case h0 =>
      refine ⟨rfl, ?_, ⟨1, rfl⟩, ?_, ?_⟩
      · exact Fr.start _ _ _ (fun j k v h => by have hk := cOwn_lt h; simp [Array.getD, show k < 12 by omega])
      · intro h; simp at h
      · intro h; simp at h
    case fin =>
      intro l a w' hR hz
      have hnot := List.eq_nil_iff_forall_not_mem.1 hz
      have hk : ∀ k, k < 12 → (l.getD k true = false → False) → l.getD k false = true := fun k h12 h => by
        have hs := hR.size
        cases h' : l.getD k true with
        | false => exact (h h').elim
        | true => simp [Array.getD, hs, h12] at h' ⊢; exact h'
      have s0 := hk 0 (by omega) (fun h => hnot 0 (mem_ready.2 ⟨h, _, rfl, by simp [Region.binds]⟩))
      have s1 := hk 1 (by omega) (fun h => hnot 1 (mem_ready.2 ⟨h, _, rfl, by simp [Region.binds]⟩))
      have s2 := hk 2 (by omega) (fun h => hnot 2 (mem_ready.2 ⟨h, _, rfl, by simp [Region.binds]⟩))
      have s3 := hk 3 (by omega) (fun h => hnot 3 (mem_ready.2 ⟨h, _, rfl, by simp [Region.binds]⟩))
      have s4 := hk 4 (by omega) (fun h => hnot 4 (mem_ready.2 ⟨h, _, rfl, by simp [Region.binds]⟩))
      have s5 := hk 5 (by omega) (fun h => hnot 5 (mem_ready.2 ⟨h, _, rfl, by simp [Region.binds]; simp_all⟩))
      have s6 := hk 6 (by omega) (fun h => hnot 6 (mem_ready.2 ⟨h, _, rfl, by simp [Region.binds]; simp_all⟩))
      have s7 := hk 7 (by omega) (fun h => hnot 7 (mem_ready.2 ⟨h, _, rfl, by simp [Region.binds]; simp_all⟩))
      have s8 := hk 8 (by omega) (fun h => hnot 8 (mem_ready.2 ⟨h, _, rfl, by simp [Region.binds]; simp_all⟩))
      have s9 := hk 9 (by omega) (fun h => hnot 9 (mem_ready.2 ⟨h, _, rfl, by simp [Region.binds]; simp_all⟩))
      have s10 := hk 10 (by omega) (fun h => hnot 10 (mem_ready.2 ⟨h, _, rfl, by simp [Region.binds]; simp_all⟩))
      have s11 := hk 11 (by omega) (fun h => hnot 11 (mem_ready.2 ⟨h, _, rfl, by simp [Region.binds]; simp_all⟩))
      obtain ⟨m, hw⟩ := hR.w
      unfold cW at hw
      rw [if_pos (getD_true s11)] at hw
      subst hw
      exact ⟨KeepsFrom.trans' (((KeepsOthers.setCell W _ _).trans (KeepsOthers.setCell _ _ _))) m _, cutI_next HI.out e1 e2 e3 H4.out H5.out H6.out HIi.out (by rw [← HL.out]; exact hin) HX.out (by omega) hblt hB0 (by omega) hq hr' m (by rw [hq]; exact Nat.div_lt_of_lt_mul (by have : (r + 1) * 4294967296 ≤ y * 4294967296 := Nat.mul_le_mul_right _ e3; omega))⟩
    case step =>
      intro l a w' i' hR hi'
      obtain ⟨hl0, o, ho, hdep⟩ := mem_ready.1 hi'
      have h12 : i' < 12 := by
        have := (Array.getElem?_eq_some_iff.1 ho).1
        simpa using this
      obtain ⟨m, hw⟩ := hR.w
      have z0 : w'.cell? ⟨w.heap.size, 0, none⟩ = some (.slice (some ⟨b, off, none⟩) len cap) := by rw [hw, World.cell?_drewN, cW_keeps _ _ _ _ _ _ _ (by simp; omega) (by simp; omega)]; exact c0
      have z1 : w'.cell? ⟨w.heap.size + 1, 0, none⟩ = some (.int .u32 (y : Nat)) := by rw [hw, World.cell?_drewN, cW_keeps _ _ _ _ _ _ _ (by simp; omega) (by simp)]; exact c1
      rcases (show i' = 0 ∨ i' = 1 ∨ i' = 2 ∨ i' = 3 ∨ i' = 4 ∨ i' = 5 ∨ i' = 6 ∨ i' = 7 ∨ i' = 8 ∨ i' = 9 ∨ i' = 10 ∨ i' = 11 by omega) with rfl | rfl | rfl | rfl | rfl | rfl | rfl | rfl | rfl | rfl | rfl | rfl
      · simp at ho
        subst ho
        simp [Region.binds] at hdep
        have k2 : a.tmps.getD 2 undef = .pointer (some ⟨w.heap.size, 0, none⟩) := (hR.fr.kept rfl (by simp [hT])).trans (by rw [hT]; rfl)
        clear hi' hdep hl0
        unfold wpOpIn
        simp [Region.wanted]
        unfold Oper.wpIn
        simp [Oper.about, execOp, go_sem, Act.eval, k2, z0]
        exact hR.next (d := 13) rfl ⟨0, rfl⟩
      · simp at ho
        subst ho
        simp [Region.binds] at hdep
        have k6 : a.tmps.getD 6 undef = .int .i64 (i : Nat) := (hR.fr.kept rfl (by simp [hT])).trans (by rw [hT]; rfl)
        clear hi' hdep hl0
        unfold wpOpIn
        simp [Region.wanted]
        unfold Oper.wpIn
        simp [Oper.about, execOp, go_sem, Act.eval, k6]
        exact hR.next (d := 14) rfl ⟨0, rfl⟩
      · simp at ho
        subst ho
        simp [Region.binds] at hdep
        have k5 : a.tmps.getD 5 undef = .pointer (some ⟨w.heap.size + 1 + 1, 0, none⟩) := (hR.fr.kept rfl (by simp [hT])).trans (by rw [hT]; rfl)
        have n11 : l.getD 11 true = false := by
          cases h : l.getD 11 true with
          | false => rfl
          | true => rw [hR.d11 h 2 (by omega)] at hl0; cases hl0
        have z2 : w'.cell? ⟨w.heap.size + 1 + 1, 0, none⟩ = some (.int .u32 (r : Nat)) := by
          rw [hw, World.cell?_drewN]
          unfold cW
          rw [n11]
          split
          · contradiction
          · split
            · exact hr2 _
            · exact e1
        clear hi' hdep hl0
        unfold wpOpIn
        simp [Region.wanted]
        unfold Oper.wpIn
        simp [Oper.about, execOp, go_sem, Act.eval, k5, z2]
        exact hR.next (d := 15) rfl ⟨0, rfl⟩
      · simp at ho
        subst ho
        simp [Region.binds] at hdep
        have k7 : a.tmps.getD 7 undef = .int .u32 (x : Nat) := (hR.fr.kept rfl (by simp [hT])).trans (by rw [hT]; rfl)
        clear hi' hdep hl0
        unfold wpOpIn
        simp [Region.wanted]
        unfold Oper.wpIn
        simp [Oper.about, execOp, go_sem, Act.eval, k7]
        exact hR.next (d := 16) rfl ⟨0, rfl⟩
      · simp at ho
        subst ho
        simp [Region.binds] at hdep
        have k3 : a.tmps.getD 3 undef = .pointer (some ⟨w.heap.size + 1, 0, none⟩) := (hR.fr.kept rfl (by simp [hT])).trans (by rw [hT]; rfl)
        clear hi' hdep hl0
        unfold wpOpIn
        simp [Region.wanted]
        unfold Oper.wpIn
        simp [Oper.about, execOp, go_sem, Act.eval, k3, z1]
        exact hR.next (d := 17) rfl ⟨0, rfl⟩
      · simp at ho
        subst ho
        simp [Region.binds] at hdep
        have k15 : a.tmps.getD 15 undef = .int .u32 (r : Nat) := hR.fr.done (i := 2) rfl (by simp_all) (by simp [hT])
        have k16 : a.tmps.getD 16 undef = .int .u32 (x : Nat) := hR.fr.done (i := 3) rfl (by simp_all) (by simp [hT])
        have k17 : a.tmps.getD 17 undef = .int .u32 (y : Nat) := hR.fr.done (i := 4) rfl (by simp_all) (by simp [hT])
        clear hi' hdep hl0
        unfold wpOpIn
        simp [Region.wanted]
        unfold Oper.wpIn
        simp [Oper.about, execOp, go_sem, Act.eval, k15, k16, k17]
        refine ⟨h100, fun _ => h3, (CallsIn.inRound _ (hdiv w' e3 hx hy)).mono ?_⟩
        rintro e w'' ⟨rfl, m2, rfl⟩
        exact hR.next (d := 18) rfl ⟨m2, rfl⟩
      · simp at ho
        subst ho
        simp [Region.binds] at hdep
        have k18 : a.tmps.getD 18 undef = .tuple #[.int .u32 (q : Nat), .int .u32 (r' : Nat)] := hR.fr.done (i := 5) rfl (by simp_all) (by simp [hT])
        clear hi' hdep hl0
        unfold wpOpIn
        simp [Region.wanted]
        unfold Oper.wpIn
        simp [Oper.about, execOp, go_sem, Act.eval, k18]
        exact hR.next (d := 12) rfl ⟨0, rfl⟩
      · simp at ho
        subst ho
        simp [Region.binds] at hdep
        have k12 : a.tmps.getD 12 undef = .tuple #[.int .u32 (q : Nat), .int .u32 (r' : Nat)] := hR.fr.done (i := 6) rfl (by simp_all) (by simp [hT])
        clear hi' hdep hl0
        unfold wpOpIn
        simp [Region.wanted]
        unfold Oper.wpIn
        simp [Oper.about, execOp, go_sem, Act.eval, k12]
        exact hR.next (d := 19) rfl ⟨0, rfl⟩
      · simp at ho
        subst ho
        simp [Region.binds] at hdep
        have k12 : a.tmps.getD 12 undef = .tuple #[.int .u32 (q : Nat), .int .u32 (r' : Nat)] := hR.fr.done (i := 6) rfl (by simp_all) (by simp [hT])
        clear hi' hdep hl0
        unfold wpOpIn
        simp [Region.wanted]
        unfold Oper.wpIn
        simp [Oper.about, execOp, go_sem, Act.eval, k12]
        exact hR.next (d := 20) rfl ⟨0, rfl⟩
      · simp at ho
        subst ho
        simp [Region.binds] at hdep
        have k13 : a.tmps.getD 13 undef = .slice (some ⟨b, off, none⟩) len cap := hR.fr.done (i := 0) rfl (by simp_all) (by simp [hT])
        have k14 : a.tmps.getD 14 undef = .int .i64 (i : Nat) := hR.fr.done (i := 1) rfl (by simp_all) (by simp [hT])
        clear hi' hdep hl0
        unfold wpOpIn
        simp [Region.wanted]
        unfold Oper.wpIn
        simp [Oper.about, execOp, go_sem, Act.eval, k13, k14, hin]
        exact hR.next (d := 21) rfl ⟨0, rfl⟩
      · simp at ho
        subst ho
        have n11 : l.getD 11 true = false := by
          cases h : l.getD 11 true with
          | false => rfl
          | true => rw [hR.d11 h 10 (by omega)] at hl0; cases hl0
        have hw0 : w' = W.drewN m := by rw [hw]; unfold cW; rw [n11, hl0]; simp
        have hall : ∀ j, j < 10 → j ≠ 8 → l.getD j true = true := by
          intro j hj h8
          have hd : ∀ e : Nat, l.getD e false = true → l.getD e true = true := fun e h => getD_true h
          simp [Region.binds] at hdep
          rcases (show j = 0 ∨ j = 1 ∨ j = 2 ∨ j = 3 ∨ j = 4 ∨ j = 5 ∨ j = 6 ∨ j = 7 ∨ j = 9 by omega) with rfl | rfl | rfl | rfl | rfl | rfl | rfl | rfl | rfl <;> exact hd _ (by simp_all)
        simp [Region.binds] at hdep
        have k21 : a.tmps.getD 21 undef = .pointer (some ⟨b, off + i, none⟩) := hR.fr.done (i := 9) rfl (by simp_all) (by simp [hT])
        have k19 : a.tmps.getD 19 undef = .int .u32 (q : Nat) := hR.fr.done (i := 7) rfl (by simp_all) (by simp [hT])
        have z3 : w'.cell? ⟨b, off + i, none⟩ = some (.int .u32 (x : Nat)) := by rw [hw0, World.cell?_drewN]; exact hci
        have z4 : w'.frozen? ⟨b, off + i, none⟩ = false := by rw [hw0, World.frozen?_drewN]; exact hfi
        clear hi' hdep
        unfold wpOpIn
        simp [Region.wanted]
        unfold Oper.wpIn
        simp [Oper.about, execOp, go_sem, Act.eval, k21, k19, z3, z4]
        refine hR.store (.inl rfl) undef ⟨m, ?_⟩ (fun _ => hall) (fun h => by cases h)
        rw [hw0]
        unfold cW
        rw [getD_set_ne true (by omega), n11, if_neg (by simp), if_pos (by simp [hR.size])]
        rfl
      · simp at ho
        subst ho
        simp [Region.binds] at hdep
        have hd : ∀ e : Nat, l.getD e false = true → l.getD e true = true := fun e h => getD_true h
        have n10 : l.getD 10 true = true := hd _ (by simp_all)
        have n8 : l.getD 8 true = true := hd _ (by simp_all)
        have hall : ∀ j, j < 11 → l.getD j true = true := by
          intro j hj
          by_cases h8 : j = 8
          · subst h8; exact n8
          · by_cases h10 : j = 10
            · subst h10; exact n10
            · exact hR.d10 n10 j (by omega) h8
        have hw0 : w' = (W.setCell ⟨b, off + i, none⟩ (.int .u32 (q : Nat))).drewN m := by rw [hw]; unfold cW; rw [hl0, n10]; simp
        have k5 : a.tmps.getD 5 undef = .pointer (some ⟨w.heap.size + 1 + 1, 0, none⟩) := (hR.fr.kept rfl (by simp [hT])).trans (by rw [hT]; rfl)
        have k20 : a.tmps.getD 20 undef = .int .u32 (r' : Nat) := hR.fr.done (i := 8) rfl (by simp_all) (by simp [hT])
        have z3 : w'.cell? ⟨w.heap.size + 1 + 1, 0, none⟩ = some (.int .u32 (r : Nat)) := by rw [hw0, World.cell?_drewN]; exact hr2 _
        have z4 : w'.frozen? ⟨w.heap.size + 1 + 1, 0, none⟩ = false := by rw [hw0, World.frozen?_drewN]; exact hf2 _
        clear hi' hdep
        unfold wpOpIn
        simp [Region.wanted]
        unfold Oper.wpIn
        simp [Oper.about, execOp, go_sem, Act.eval, k5, k20, z3, z4]
        refine hR.store (.inr rfl) undef ⟨m, ?_⟩ (fun h => by cases h) (fun _ => hall)
        rw [hw0]
        unfold cW
        rw [if_pos (by simp [hR.size])]
        rfl
  case done =>
    intro D W hD hI hK
    obtain ⟨r, ds, e1, e2, e3, e4, e5, e6⟩ := hI.ex
    rw [Nat.sub_self, List.drop_zero, List.drop_zero] at e5
    have hr : val zs % y = r := by rw [e5, Nat.mul_add_mod, Nat.mod_eq_of_lt e3]
    have hq : val ds = val zs / y := by rw [e5, Nat.mul_add_div (by omega), Nat.div_eq_of_lt e3, Nat.add_zero]
    have hdl := e6.sl.size
    have hbl := hI.bl
    clear e4 e5
    gi_wp2
    refine ⟨by simp, .inl ⟨_, _, rfl, run_takeDeferred hK, ?_⟩⟩
    refine ⟨_, results_tmp rfl _ _ _, by rw [hr]; rfl, ⟨ds, hdl.symm, hq, e6.keptBy (grownBy_putObj' W D (.deferred none)) (fun r e => by cases e; exact ⟨_, hK, rfl⟩)⟩, ?_, ?_⟩
    rotate_left
    · intro g hgl hgb
      rw [← hI.kp g hgl hgb]
      exact (grownBy_putObj' W D (.deferred none)).block g (Nat.lt_of_lt_of_le hgl hbl.size) (fun e => by cases e; simp at hD; omega)
    exact hbl.trans (belowK_b (w := w) hB0 W D _ _ (by simp at hD; omega) hK rfl rfl)

/-- num.cut: an owned slice is divided by one digit, in place; no other block changes. -/
theorem cut_kept {w : World} {B0 : Nat} (ao : Option Addr) (n cap : Nat) (zs : List Nat) (y : Nat) (hs : Sw B0 w (.slice ao n cap) zs) (hy0 : 0 < y) (hy : y < 4294967296) (hl : n ≤ 140737488351232) (hB0 : B0 ≤ w.heap.size) :
    Calls Tryz.prog 75 #[.slice ao n cap, .int .u32 y] w fun e w' => e = .returned (.int .u32 (val zs % y : Nat)) ∧ (∃ ds, ds.length = n ∧ val ds = val zs / y ∧ Sw B0 w' (.slice ao n cap) ds) ∧ Below B0 w w' ∧ (∀ g, g < w.heap.size → (∀ b off, ao = some ⟨b, off, none⟩ → b ≠ g) → w'.heap[g]? = w.heap[g]?) := by
  obtain rfl := hs.sl.size
  exact callsIn_wide.1 (cut_in Fence.wide 5 trivial trivial trivial trivial (fun k hi lo y w h1 h2 h3 => callsIn_wide.2 (div32_any hi lo y w h1 h2 h3)) rfl (by omega) ao cap zs y hs hy0 hy hl hB0)

theorem cut_any {w : World} {B0 : Nat} (ao : Option Addr) (n cap : Nat) (zs : List Nat) (y : Nat) (hs : Sw B0 w (.slice ao n cap) zs) (hy0 : 0 < y) (hy : y < 4294967296) (hl : n ≤ 140737488351232) (hB0 : B0 ≤ w.heap.size) :
    Calls Tryz.prog 75 #[.slice ao n cap, .int .u32 y] w fun e w' => e = .returned (.int .u32 (val zs % y : Nat)) ∧ (∃ ds, ds.length = n ∧ val ds = val zs / y ∧ Sw B0 w' (.slice ao n cap) ds) ∧ Below B0 w w' :=
  (cut_kept ao n cap zs y hs hy0 hy hl hB0).mono fun _ _ h => ⟨h.1, h.2.1, h.2.2.1⟩

end Go.Proofs.YtdgmjmckeeeljaaGreatDoor

namespace Go.Proofs.YtdgmjmckeeeljaaGreatDoor
open Go.RowKit

/-- What divide returns. -/
def DivRes (w : World) (x y : Nat) (e : Ending) (w' : World) : Prop :=
  ∃ aq cq ar cr, e = .returned (.tuple #[.slice aq (digs (x / y)).length cq, .slice ar (digs (x % y)).length cr]) ∧
    Sw w.heap.size w' (.slice aq (digs (x / y)).length cq) (digs (x / y)) ∧ Sw w.heap.size w' (.slice ar (digs (x % y)).length cr) (digs (x % y)) ∧ Below w.heap.size w w'

theorem digs_small {y : Nat} (h0 : y ≠ 0) (h : y < 4294967296) : digs y = [y] := by
  rw [digs_pos h0, Nat.mod_eq_of_lt h, Nat.div_eq_of_lt h, digs_zero]

set_option maxRecDepth 10000 in
set_option maxHeartbeats 1000000 in
theorem divide_less {w : World} {va vb : Value} {x y : Nat} (ha : Sl w va (digs x)) (hb : Sl w vb (digs y)) (h : x < y) (hla : (digs x).length ≤ 256) (hlb : (digs y).length ≤ 256) :
    Calls Tryz.prog 44 #[va, vb] w (DivRes w x y) := by
  have hc := compare_any ha hb (by omega) (by omega)
  rw [cmpN_lt h] at hc
  have hcl : ∀ W, Sl W va (digs x) → Calls Tryz.prog 74 #[va] W (NewSl W (digs x)) := fun W h => clone_any h (by omega)
  have hq : x / y = 0 := Nat.div_eq_of_lt h
  have hr : x % y = x := Nat.mod_eq_of_lt h
  have HCL := Lib.hid hcl
  have HQ := Lib.hid hq
  have HR := Lib.hid hr
  clear hcl hq hr
  go_enter Tryz.func44, Tryz.ntmps44
  go_wp2_with (first | (go_at_call 68; refine hc.mono ?_; rintro e W1 ⟨rfl, hb1⟩) | (go_at_call 74; refine (HCL.out _ (ha.below hb1)).mono ?_; rintro e W2 ⟨ao, cap, rfl, hs, hb2⟩))
  go_ret2
  unfold DivRes
  rw [HQ.out, HR.out, digs_zero]
  exact ⟨none, 0, ao, cap, rfl, Sw.nil _ _ _ _, hs.mono hb1.size, hb1.trans (hb2.mono hb1.size)⟩

set_option maxRecDepth 10000 in
set_option maxHeartbeats 2000000 in
theorem divide_one {w : World} {va vb : Value} {x y : Nat} (ha : Sl w va (digs x)) (hb : Sl w vb (digs y)) (h0 : y ≠ 0) (h : y ≤ x) (hy : y < 4294967296) (hla : (digs x).length ≤ 256) :
    Calls Tryz.prog 44 #[va, vb] w (DivRes w x y) := by
  have hc := compare_any ha hb (by omega) (by rw [digs_small h0 hy]; simp)
  have hcm : 0 ≤ cmpN x y := by unfold cmpN; rw [if_neg (by omega)]; split <;> decide
  have hcl : ∀ W, Sl W va (digs x) → Calls Tryz.prog 74 #[va] W (NewSl W (digs x)) := fun W h => clone_any h (by omega)
  rw [digs_small h0 hy] at hb
  obtain ⟨ab, cb, rfl⟩ := hb.mk'
  obtain ⟨b, off, rfl, hcap, hbs, hcb⟩ := hb.at (by simp)
  have hcy := hcb 0 (by simp)
  simp only [List.getD_cons_zero, Nat.add_zero] at hcy
  have hlx : (digs x).length ≤ 140737488351232 := by omega
  obtain ⟨n, hn⟩ : ∃ n, n = (digs x).length := ⟨_, rfl⟩
  rw [← hn] at hlx
  have HCL := Lib.hid hcl
  have HN := Lib.hid hn
  have HB := Lib.hid hb
  have HCB := Lib.hid hcb
  have HC := Lib.hid hc
  clear hcl hn hb hcb hc
  go_enter Tryz.func44, Tryz.ntmps44
  have hyl : y / 4294967296 < 4294967296 := by omega
  have hrl : x % y / 4294967296 < 4294967296 := by have := Nat.mod_lt x (show 0 < y by omega); omega
  have HD : Hid (∀ W, Calls Tryz.prog 67 #[.int .u64 (x % y : Nat)] W fun e w' => ∃ ao cap, e = .returned (.slice ao (digs (x % y)).length cap) ∧ Sw W.heap.size w' (.slice ao (digs (x % y)).length cap) (digs (x % y)) ∧ Below W.heap.size W w') := fun W => digitsOf_at W hrl rfl
  have HCUT : Hid (∀ W B0 ao cap, Sw B0 W (.slice ao n cap) (digs x) → B0 ≤ W.heap.size → Calls Tryz.prog 75 #[.slice ao n cap, .int .u32 y] W fun e w' => e = .returned (.int .u32 (x % y : Nat)) ∧ (∃ ds, ds.length = n ∧ val ds = x / y ∧ Sw B0 w' (.slice ao n cap) ds) ∧ Below B0 W w') := fun W B0 ao cap h hB => by
    have := cut_any ao n cap _ y h (by omega) hy hlx hB
    rwa [val_digs] at this
  clear hyl hrl
  obtain ⟨r, hr⟩ : ∃ r, r = x % y := ⟨_, rfl⟩
  obtain ⟨q, hq⟩ : ∃ q, q = x / y := ⟨_, rfl⟩
  have hry : r < y := by rw [hr]; exact Nat.mod_lt _ (by omega)
  unfold DivRes
  rw [← hr, ← hq] at HCUT ⊢
  rw [← hr] at HD
  obtain ⟨rl, hrl⟩ : ∃ rl, rl = (digs r).length := ⟨_, rfl⟩
  obtain ⟨ql, hql⟩ : ∃ ql, ql = (digs q).length := ⟨_, rfl⟩
  rw [← hrl] at HD ⊢
  rw [← hql]
  have HQL := Lib.hid hql
  clear hr hq hrl hql
  go_wp2_with (first | (go_at_call 68; refine HC.out.mono ?_; rintro e W1 ⟨rfl, hb1⟩; have hcy1 := cell_later hb1 hcy) | (go_at_call 74; refine (HCL.out _ (ha.below hb1)).mono ?_; unfold NewSl; rw [← HN.out]; rintro e W2 ⟨ao, cap, rfl, hs, hb2⟩; have hcy2 := cell_later hb2 hcy1; have HS := Lib.hid hs; clear hs) | (go_at_call 75; refine (HCUT.out _ _ ao cap HS.out hb2.size).mono ?_; rintro e W3 ⟨rfl, ⟨ds, hd1, hd2, hd3⟩, hb3⟩; have ht := trim_any _ _ _ hd3.sl; have hu := hd3.trim; rw [hd2, ← HQL.out] at ht hu; have HT := Lib.hid ht; have HU := Lib.hid hu; clear ht hu hd1 hd2 hd3) | (go_at_call 76; refine HT.out.mono ?_; rintro e w' ⟨rfl, rfl⟩) | (go_at_call 67; refine (HD.out _).mono ?_; rintro e W4 ⟨ar, cr, rfl, hs4, hb4⟩; have HS4 := Lib.hid hs4; clear hs4))
  go_ret2
  have b3 : Below w.heap.size w w' := (hb1.trans (hb2.mono hb1.size)).trans (hb3.mono (by have := hb1.size; omega))
  refine ⟨ao, cap, ar, cr, rfl, ?_, HS4.out.mono b3.size, b3.trans (hb4.mono b3.size)⟩
  exact (HU.out.mono hb1.size).below hb4

end Go.Proofs.YtdgmjmckeeeljaaGreatDoor

namespace Go.Proofs.YtdgmjmckeeeljaaGreatDoor
open Go.RowKit

theorem heap_four (w : World) (o1 o2 o3 o4 : Obj) : ((((w.alloc o1).alloc o2).alloc o3).alloc o4).heap[w.heap.size]? = some o1 ∧ ((((w.alloc o1).alloc o2).alloc o3).alloc o4).heap[w.heap.size + 1]? = some o2 ∧
    ((((w.alloc o1).alloc o2).alloc o3).alloc o4).heap[w.heap.size + 1 + 1]? = some o3 ∧ ((((w.alloc o1).alloc o2).alloc o3).alloc o4).heap[w.heap.size + 1 + 1 + 1]? = some o4 := by
  obtain ⟨h1, h2, h3⟩ := heap_three w o1 o2 o3
  have h4 := heap_alloc_new (((w.alloc o1).alloc o2).alloc o3) o4
  simp only [World.size_alloc] at h4
  refine ⟨?_, ?_, ?_, h4⟩
  · rw [Below.heap_alloc _ _ _ (by simp only [World.size_alloc]; omega)]; exact h1
  · rw [Below.heap_alloc _ _ _ (by simp only [World.size_alloc]; omega)]; exact h2
  · rw [Below.heap_alloc _ _ _ (by simp only [World.size_alloc]; omega)]; exact h3

/-- The boxes of Div. -/
structure Box4 (W : World) (B : Nat) (na nb : Bool) (sa sb : Value) (x y : Nat) : Prop where
  a : W.heap[B]? = some (.cells #[.bool na, sa] 27 (0, 0))
  b : W.heap[B + 1]? = some (.cells #[.bool nb, sb] 27 (0, 0))
  q : ResBox W (B + 1 + 1)
  r : ResBox W (B + 1 + 1 + 1)
  sa : Sl W sa (digs x)
  sb : Sl W sb (digs y)

theorem Box4.lt {W : World} {B : Nat} {na nb : Bool} {sa sb : Value} {x y : Nat} (h : Box4 W B na nb sa sb x y) : B + 1 + 1 + 1 < W.heap.size := h.r.lt

theorem Box4.below {W W' : World} {B : Nat} {na nb : Bool} {sa sb : Value} {x y : Nat} (h : Box4 W B na nb sa sb x y) (hb : Below W.heap.size W W') : Box4 W' B na nb sa sb x y := by
  have hl := h.lt
  exact ⟨(hb.block _ (by omega)).trans h.a, (hb.block _ (by omega)).trans h.b, h.q.below hb, h.r.below hb, h.sa.below hb, h.sb.below hb⟩

theorem box4_new {w W : World} {na nb : Bool} {sa sb : Value} {x y : Nat} (ha : Sl w sa (digs x)) (hb : Sl w sb (digs y))
    (h : Below (w.heap.size + 4) ((((w.alloc (.cells #[.bool na, sa] 27)).alloc (.cells #[.bool nb, sb] 27)).alloc (.cells #[.bool false, .slice none 0 0] 27)).alloc (.cells #[.bool false, .slice none 0 0] 27)) W) : Box4 W w.heap.size na nb sa sb x y := by
  obtain ⟨h1, h2, h3, h4⟩ := heap_four w (.cells #[.bool na, sa] 27) (.cells #[.bool nb, sb] 27) (.cells #[.bool false, .slice none 0 0] 27) (.cells #[.bool false, .slice none 0 0] 27)
  rw [← h.block _ (by omega)] at h1 h2 h3 h4
  have hw : Below w.heap.size w W := (((((Below.refl _ w).alloc (Nat.le_refl _) _).alloc (by simp) _).alloc (by simp; omega) _).alloc (by simp; omega) _).trans (h.mono (by omega))
  exact ⟨h1, h2, h3, h4, ha.below hw, hb.below hw⟩

/-- What Div returns. -/
def DivOut (w : World) (a b : Int) (e : Ending) (w' : World) : Prop :=
  ∃ n1 a1 l1 c1 n2 a2 l2 c2, e = .returned (.tuple #[.agg #[.bool n1, .slice a1 l1 c1], .agg #[.bool n2, .slice a2 l2 c2], .bool true]) ∧ Below w.heap.size w w' ∧
    Nu w' (.agg #[.bool n1, .slice a1 l1 c1]) (a / b) ∧ Nu w' (.agg #[.bool n2, .slice a2 l2 c2]) (a % b)

theorem res_two {W : World} {g : Nat} (h : ResBox W g) (h' : ResBox W (g + 1)) (_ : True ∨ True) (u0 u1 v0 v1 : Value) :
    ((((W.setCell ⟨g, 0, none⟩ u0).setCell ⟨g, 1, none⟩ u1).setCell ⟨g + 1, 0, none⟩ v0).setCell ⟨g + 1, 1, none⟩ v1).cell? ⟨g, 0, none⟩ = some u0 ∧
    ((((W.setCell ⟨g, 0, none⟩ u0).setCell ⟨g, 1, none⟩ u1).setCell ⟨g + 1, 0, none⟩ v0).setCell ⟨g + 1, 1, none⟩ v1).cell? ⟨g, 1, none⟩ = some u1 ∧
    ((((W.setCell ⟨g, 0, none⟩ u0).setCell ⟨g, 1, none⟩ u1).setCell ⟨g + 1, 0, none⟩ v0).setCell ⟨g + 1, 1, none⟩ v1).cell? ⟨g + 1, 0, none⟩ = some v0 ∧
    ((((W.setCell ⟨g, 0, none⟩ u0).setCell ⟨g, 1, none⟩ u1).setCell ⟨g + 1, 0, none⟩ v0).setCell ⟨g + 1, 1, none⟩ v1).cell? ⟨g + 1, 1, none⟩ = some v1 := by
  obtain ⟨a0, a1⟩ := h.stored u0 u1
  have hx : ResBox ((W.setCell ⟨g, 0, none⟩ u0).setCell ⟨g, 1, none⟩ u1) (g + 1) := by
    unfold ResBox
    rw [heap_setCell_other _ _ _ _ (by simp), heap_setCell_other _ _ _ _ (by simp)]
    exact h'
  obtain ⟨b0, b1⟩ := hx.stored v0 v1
  refine ⟨?_, ?_, b0, b1⟩
  · rw [cell_other (by simp), cell_other (by simp)]; exact a0
  · rw [cell_other (by simp), cell_other (by simp)]; exact a1

theorem div_uniq {n d k m : Nat} (h : n = d * k + m) (hm : m < d) : n / d = k ∧ n % d = m := by
  subst h
  exact ⟨by rw [Nat.mul_add_div (by omega), Nat.div_eq_of_lt hm, Nat.add_zero], by rw [Nat.mul_add_mod, Nat.mod_eq_of_lt hm]⟩

theorem div_signs (a b : Int) (hb : b ≠ 0) :
    (0 ≤ a ∨ a.natAbs % b.natAbs = 0 → (a / b).natAbs = a.natAbs / b.natAbs ∧ (a % b).natAbs = a.natAbs % b.natAbs) ∧
    (a < 0 → a.natAbs % b.natAbs ≠ 0 → (a / b).natAbs = a.natAbs / b.natAbs + 1 ∧ (a % b).natAbs = b.natAbs - a.natAbs % b.natAbs) ∧
    (a / b ≠ 0 → (!(decide (a < 0) == decide (b < 0))) = decide (a / b < 0)) ∧ 0 ≤ a % b := by
  have h1 := Int.mul_ediv_add_emod a b
  have h2 := Int.emod_nonneg a hb
  have h3 := Int.emod_lt a hb
  obtain ⟨q, hq⟩ : ∃ q, q = a / b := ⟨_, rfl⟩
  obtain ⟨r, hr⟩ : ∃ r, r = a % b := ⟨_, rfl⟩
  rw [← hq, ← hr] at h1 ⊢
  rw [← hr] at h2 h3
  have hP : (b * q).natAbs = b.natAbs * q.natAbs := Int.natAbs_mul b q
  have hbig : q ≠ 0 → b.natAbs ≤ b.natAbs * q.natAbs := fun h => Nat.le_mul_of_pos_right _ (by omega)
  obtain ⟨P, hPP⟩ : ∃ P : Int, P = b * q := ⟨_, rfl⟩
  rw [← hPP] at h1 hP
  have hsame : 0 < b * q → (decide (b < 0) = decide (q < 0)) := fun h => by
    rcases Int.lt_or_gt_of_ne hb with hb1 | hb1
    · by_cases hq1 : q < 0
      · simp [hb1, hq1]
      · have := Int.mul_nonpos_of_nonpos_of_nonneg (show b ≤ 0 by omega) (show 0 ≤ q by omega); omega
    · by_cases hq1 : q < 0
      · have := Int.mul_neg_of_pos_of_neg hb1 hq1; omega
      · have h4 : ¬ b < 0 := by omega
        simp [h4, hq1]
  have hdiff : b * q < 0 → (decide (b < 0) = !(decide (q < 0))) := fun h => by
    rcases Int.lt_or_gt_of_ne hb with hb1 | hb1
    · by_cases hq1 : q < 0
      · have := Int.mul_pos_of_neg_of_neg hb1 hq1; omega
      · simp [hb1, hq1]
    · by_cases hq1 : q < 0
      · have h4 : ¬ b < 0 := by omega
        simp [h4, hq1]
      · have := Int.mul_nonneg (show 0 ≤ b by omega) (show 0 ≤ q by omega); omega
  rw [← hPP] at hsame hdiff
  have hz : q = 0 → P = 0 := fun h => by rw [hPP, h, Int.mul_zero]
  obtain ⟨M, hM⟩ : ∃ M, M = b.natAbs * q.natAbs := ⟨_, rfl⟩
  rw [← hM] at hP hbig
  refine ⟨fun h => ?_, fun h hne => ?_, fun hq0 => ?_, h2⟩
  · by_cases ha : 0 ≤ a
    · have hpos : 0 ≤ P := by
        by_cases hq0 : q = 0
        · rw [hz hq0]; omega
        · have := hbig hq0; omega
      obtain ⟨u1, u2⟩ := div_uniq (n := a.natAbs) (d := b.natAbs) (k := q.natAbs) (m := r.natAbs) (by rw [← hM]; omega) (by omega)
      exact ⟨u1.symm, u2.symm⟩
    · have hm : a.natAbs % b.natAbs = 0 := h.resolve_left ha
      have hr0 : r = 0 := by
        by_cases hr0 : r = 0
        · exact hr0
        · exfalso
          have hq0 : q ≠ 0 := fun h0 => by rw [hz h0] at h1; omega
          have hM1 : b.natAbs * (q.natAbs - 1) = M - b.natAbs := by rw [Nat.mul_sub_one, ← hM]
          have hb' := hbig hq0
          obtain ⟨_, u2⟩ := div_uniq (n := a.natAbs) (d := b.natAbs) (k := q.natAbs - 1) (m := b.natAbs - r.natAbs) (by rw [hM1]; omega) (by omega)
          omega
      obtain ⟨u1, u2⟩ := div_uniq (n := a.natAbs) (d := b.natAbs) (k := q.natAbs) (m := 0) (by rw [← hM]; omega) (by omega)
      exact ⟨u1.symm, by rw [u2, hr0]; rfl⟩
  · have hq0 : q ≠ 0 := fun h0 => by rw [hz h0] at h1; omega
    have hr0 : r ≠ 0 := fun h0 => by
      apply hne
      exact (div_uniq (n := a.natAbs) (d := b.natAbs) (k := q.natAbs) (m := 0) (by rw [← hM]; omega) (by omega)).2
    have hM1 : b.natAbs * (q.natAbs - 1) = M - b.natAbs := by rw [Nat.mul_sub_one, ← hM]
    have hb' := hbig hq0
    obtain ⟨u1, u2⟩ := div_uniq (n := a.natAbs) (d := b.natAbs) (k := q.natAbs - 1) (m := b.natAbs - r.natAbs) (by rw [hM1]; omega) (by omega)
    rw [u1, u2]
    omega
  · by_cases ha : 0 ≤ a
    · have hpos : 0 < P := by have := hbig hq0; omega
      have hn : ¬ a < 0 := by omega
      rw [hsame hpos]
      simp [hn]
    · have hneg : P < 0 := by have := hbig hq0; omega
      have hn : a < 0 := by omega
      rw [hdiff hneg]
      simp [hn]

set_option maxRecDepth 10000 in
set_option maxHeartbeats 2000000 in
theorem div_pos {w : World} {x y : Value} {a b : Int} (hx : Nu w x a) (hy : Nu w y b) (hb0 : b ≠ 0) (h0 : 0 ≤ a)
    (hd : ∀ W va vb, Sl W va (digs a.natAbs) → Sl W vb (digs b.natAbs) → Calls Tryz.prog 44 #[va, vb] W (DivRes W a.natAbs b.natAbs)) :
    Calls Tryz.prog 15 #[x, y] w (DivOut w a b) := by
  obtain ⟨sa, rfl, ha, la⟩ := hx
  obtain ⟨sb, rfl, hb, lb'⟩ := hy
  obtain ⟨d1, d2, d3, d4⟩ := div_signs a b hb0
  have ra := rightB_digs a la
  have rb := rightB_digs b lb'
  obtain ⟨ab, cb, rfl⟩ := hb.mk'
  obtain ⟨lb, hlb⟩ : ∃ lb, lb = (digs b.natAbs).length := ⟨_, rfl⟩
  have hlb0 : lb ≠ 0 := by
    intro h0
    have : digs b.natAbs = [] := List.eq_nil_of_length_eq_zero (by omega)
    have : b.natAbs = 0 := digs_inj (by rw [this, digs_zero])
    omega
  rw [← hlb] at hb lb' ⊢
  obtain ⟨na, hna⟩ : ∃ na, na = decide (a < 0) := ⟨_, rfl⟩
  obtain ⟨nb, hnb⟩ : ∃ nb, nb = decide (b < 0) := ⟨_, rfl⟩
  rw [← hna] at ra d3 ⊢
  rw [← hnb] at rb d3 ⊢
  have R1 : ∀ W, Sl W sa (digs a.natAbs) → Calls Tryz.prog 32 #[.agg #[.bool na, sa]] W fun e w' => e = .returned (.bool true) ∧ w' = W.alloc (.cells #[.bool na, sa] 27) := fun W h => by have := right_any na h (by omega); rwa [ra] at this
  have R2 : ∀ W, Sl W (.slice ab lb cb) (digs b.natAbs) → Calls Tryz.prog 32 #[.agg #[.bool nb, .slice ab lb cb]] W fun e w' => e = .returned (.bool true) ∧ w' = W.alloc (.cells #[.bool nb, .slice ab lb cb] 27) := fun W h => by have := right_any nb h (by omega); rwa [rb] at this
  have HR1 := Lib.hid R1
  have HR2 := Lib.hid R2
  have HD := Lib.hid hd
  have HNA := Lib.hid hna
  have HNB := Lib.hid hnb
  have HLB := Lib.hid hlb
  have D1 := Lib.hid d1
  have D2 := Lib.hid d2
  have D3 := Lib.hid d3
  have D4 := Lib.hid d4
  have hlz : ((lb : Int) == 0) = false := by simp; omega
  clear R1 R2 ra rb hd hna hnb hlb d1 d2 d3 d4 hb0
  go_enter Tryz.func15, Tryz.ntmps15
  go_wp2_with (first | (go_at_call_of 32 (Value.agg #[.bool na, sa]); refine (HR1.out _ (ha.below (by go_grown))).mono ?_; rintro e w' ⟨rfl, rfl⟩) | (go_at_call_of 32 (Value.agg #[.bool nb, .slice ab lb cb]); refine (HR2.out _ (hb.below (by go_grown))).mono ?_; rintro e w' ⟨rfl, rfl⟩))
  have HB : Box4 ((((((w.alloc (.cells #[.bool na, sa] 27)).alloc (.cells #[.bool nb, .slice ab lb cb] 27)).alloc (.cells #[.bool false, .slice none 0 0] 27)).alloc (.cells #[.bool false, .slice none 0 0] 27)).alloc (.cells #[.bool na, sa] 27)).alloc (.cells #[.bool nb, .slice ab lb cb] 27)) w.heap.size na nb sa (.slice ab lb cb) a.natAbs b.natAbs := box4_new ha hb (by go_grown)
  have HBL : Below w.heap.size w ((((((w.alloc (.cells #[.bool na, sa] 27)).alloc (.cells #[.bool nb, .slice ab lb cb] 27)).alloc (.cells #[.bool false, .slice none 0 0] 27)).alloc (.cells #[.bool false, .slice none 0 0] 27)).alloc (.cells #[.bool na, sa] 27)).alloc (.cells #[.bool nb, .slice ab lb cb] 27)) := by go_grown
  obtain ⟨f0, f1, -⟩ := cells_two HB.a
  obtain ⟨g0, g1, -⟩ := cells_two HB.b
  revert HB HBL f0 f1 g0 g1
  generalize ((((((w.alloc (.cells #[.bool na, sa] 27)).alloc (.cells #[.bool nb, .slice ab lb cb] 27)).alloc (.cells #[.bool false, .slice none 0 0] 27)).alloc (.cells #[.bool false, .slice none 0 0] 27)).alloc (.cells #[.bool na, sa] 27)).alloc (.cells #[.bool nb, .slice ab lb cb] 27)) = W
  intro HB HBL f0 f1 g0 g1
  refine (HD.out _ _ _ HB.sa HB.sb).mono ?_
  rintro e W1 ⟨aq, cq, ar, cr, rfl, hsq, hsr, hb1⟩
  have HB1 := HB.below hb1
  have HBL1 := HBL.trans (hb1.mono HBL.size)
  replace hsq := hsq.mono (show w.heap.size + 4 ≤ W.heap.size from HB.lt)
  replace hsr := hsr.mono (show w.heap.size + 4 ≤ W.heap.size from HB.lt)
  obtain ⟨f0', f1', -⟩ := cells_two HB1.a
  obtain ⟨g0', g1', -⟩ := cells_two HB1.b
  obtain ⟨q0', q1', qf0, qf1⟩ := HB1.q.cells
  obtain ⟨r0', r1', rf0, rf1⟩ := HB1.r.cells
  have hlt1 := HB1.lt
  obtain ⟨ql, hql⟩ : ∃ ql, ql = (digs (a.natAbs / b.natAbs)).length := ⟨_, rfl⟩
  obtain ⟨rl, hrl⟩ : ∃ rl, rl = (digs (a.natAbs % b.natAbs)).length := ⟨_, rfl⟩
  rw [← hql] at hsq ⊢
  rw [← hrl] at hsr ⊢
  have HSQ := Lib.hid hsq
  have HSR := Lib.hid hsr
  have HQL := Lib.hid hql
  have HRL := Lib.hid hrl
  have HBB1 := Lib.hid HB1
  clear hsq hsr hql hrl HB1 HB hb1
  obtain rfl : na = false := by rw [HNA.out]; simp; omega
  go_wp2_with (go_at_call 47; refine (made_any _ _ _ _ _).mono ?_; rintro e w2 ⟨rfl, rfl⟩)
  have kk := heap_four W1 (.cells #[.bool (mkN nb ql), .slice (mkA aq ql) (mkL ql) (mkC ql cq)] 27) (.cells #[.bool (mkN nb ql), .slice (mkA aq ql) (mkL ql) (mkC ql cq)] 27) (.cells #[.bool (mkN false rl), .slice (mkA ar rl) (mkL rl) (mkC rl cr)] 27) (.cells #[.bool (mkN false rl), .slice (mkA ar rl) (mkL rl) (mkC rl cr)] 27)
  have hW2 : Below W1.heap.size W1 ((((W1.alloc (.cells #[.bool (mkN nb ql), .slice (mkA aq ql) (mkL ql) (mkC ql cq)] 27)).alloc (.cells #[.bool (mkN nb ql), .slice (mkA aq ql) (mkL ql) (mkC ql cq)] 27)).alloc (.cells #[.bool (mkN false rl), .slice (mkA ar rl) (mkL rl) (mkC rl cr)] 27)).alloc (.cells #[.bool (mkN false rl), .slice (mkA ar rl) (mkL rl) (mkC rl cr)] 27)) := by go_grown
  revert kk hW2
  generalize ((((W1.alloc (.cells #[.bool (mkN nb ql), .slice (mkA aq ql) (mkL ql) (mkC ql cq)] 27)).alloc (.cells #[.bool (mkN nb ql), .slice (mkA aq ql) (mkL ql) (mkC ql cq)] 27)).alloc (.cells #[.bool (mkN false rl), .slice (mkA ar rl) (mkL rl) (mkC rl cr)] 27)).alloc (.cells #[.bool (mkN false rl), .slice (mkA ar rl) (mkL rl) (mkC rl cr)] 27)) = W2
  rintro ⟨_, k2, _, k4⟩ hW2
  obtain ⟨x0, x1, -⟩ := cells_two k2
  obtain ⟨y0, y1, -⟩ := cells_two k4
  have HQ2 := HBB1.out.q.below hW2
  have HR2' := HBB1.out.r.below hW2
  obtain ⟨u0, u1, uf0, uf1⟩ := HQ2.cells
  obtain ⟨v0, v1, vf0, vf1⟩ := HR2'.cells
  have K2 := Lib.hid k2
  have K4 := Lib.hid k4
  have HW2 := Lib.hid hW2
  have HQ2' := Lib.hid HQ2
  have HR2'' := Lib.hid HR2'
  have hgt := hlt1
  clear k2 k4 hW2 HQ2 HR2' f0' f1' g0' g1' q0' q1' qf0 qf1 r0' r1' rf0 rf1 f0 f1 g0 g1 HBL
  go_region
  obtain ⟨z0, z1, z2, z3⟩ := res_two HQ2'.out HR2''.out (.inl trivial) (.bool (mkN nb ql)) (.slice (mkA aq ql) (mkL ql) (mkC ql cq)) (.bool (mkN false rl)) (.slice (mkA ar rl) (mkL rl) (mkC rl cr))
  have hfin : Below w.heap.size w ((((W2.setCell ⟨w.heap.size + 1 + 1, 0, none⟩ (.bool (mkN nb ql))).setCell ⟨w.heap.size + 1 + 1, 1, none⟩ (.slice (mkA aq ql) (mkL ql) (mkC ql cq))).setCell ⟨w.heap.size + 1 + 1 + 1, 0, none⟩ (.bool (mkN false rl))).setCell ⟨w.heap.size + 1 + 1 + 1, 1, none⟩ (.slice (mkA ar rl) (mkL rl) (mkC rl cr))) :=
    ((((HBL1.trans (HW2.out.mono HBL1.size)).setCell (by simp; omega) _).setCell (by simp; omega) _).setCell (by simp; omega) _).setCell (by simp; omega) _
  have hsq3 := ((HSQ.out.below HW2.out).after2 (g := w.heap.size + 1 + 1) (by omega) (.bool (mkN nb ql)) (.slice (mkA aq ql) (mkL ql) (mkC ql cq))).after2 (g := w.heap.size + 1 + 1 + 1) (by omega) (.bool (mkN false rl)) (.slice (mkA ar rl) (mkL rl) (mkC rl cr))
  have hsr3 := ((HSR.out.below HW2.out).after2 (g := w.heap.size + 1 + 1) (by omega) (.bool (mkN nb ql)) (.slice (mkA aq ql) (mkL ql) (mkC ql cq))).after2 (g := w.heap.size + 1 + 1 + 1) (by omega) (.bool (mkN false rl)) (.slice (mkA ar rl) (mkL rl) (mkC rl cr))
  revert z0 z1 z2 z3 hfin hsq3 hsr3
  generalize ((((W2.setCell ⟨w.heap.size + 1 + 1, 0, none⟩ (.bool (mkN nb ql))).setCell ⟨w.heap.size + 1 + 1, 1, none⟩ (.slice (mkA aq ql) (mkL ql) (mkC ql cq))).setCell ⟨w.heap.size + 1 + 1 + 1, 0, none⟩ (.bool (mkN false rl))).setCell ⟨w.heap.size + 1 + 1 + 1, 1, none⟩ (.slice (mkA ar rl) (mkL rl) (mkC rl cr))) = W3
  intro z0 z1 z2 z3 hfin hsq3 hsr3
  have H1 := Lib.hid hsq3
  have H2 := Lib.hid hsr3
  have HF := Lib.hid hfin
  clear hsq3 hsr3 hfin x0 x1 y0 y1 u0 u1 uf0 uf1 v0 v1 vf0 vf1
  go_wp2
  refine bodyPost_ret (v := .tuple #[.agg #[.bool (mkN nb ql), .slice (mkA aq ql) (mkL ql) (mkC ql cq)], .agg #[.bool (mkN false rl), .slice (mkA ar rl) (mkL rl) (mkC rl cr)], .bool true]) (by simp [results, Tryz.results15, go_sem, z0, z1, z2, z3]) rfl ?_
  obtain ⟨p1, p2⟩ := D1.out (.inl h0)
  have m1 := mk_ok (n := ql) (ao := aq) (cap := cq) (z := a / b) (neg := nb) (by rw [p1]; exact HQL.out) (by rw [HQL.out]; exact Nat.le_trans (digs_mono (Nat.div_le_self _ _)) la) (fun hz => by have := D3.out hz; simpa using this) (fun _ => by rw [p1]; exact H1.out)
  have m2 := mk_ok (n := rl) (ao := ar) (cap := cr) (z := a % b) (neg := false) (by rw [p2]; exact HRL.out) (by rw [HRL.out]; exact Nat.le_trans (digs_mono (Nat.mod_le _ _)) la) (fun _ => by have := D4.out; simp; omega) (fun _ => by rw [p2]; exact H2.out)
  refine ⟨_, _, _, _, _, _, _, _, rfl, HF.out.drew, ⟨_, by rw [m1.1], m1.2.sl.below (Below.drew (Below.refl _ _)), ?_⟩, ⟨_, by rw [m2.1], m2.2.sl.below (Below.drew (Below.refl _ _)), ?_⟩⟩
  · rw [p1]; exact Nat.le_trans (digs_mono (Nat.div_le_self _ _)) la
  · rw [p2]; exact Nat.le_trans (digs_mono (Nat.mod_le _ _)) la

set_option maxRecDepth 10000 in
set_option maxHeartbeats 2000000 in
theorem div_neg_whole {w : World} {x y : Value} {a b : Int} (hx : Nu w x a) (hy : Nu w y b) (hb0 : b ≠ 0) (h0 : a < 0) (hm0 : a.natAbs % b.natAbs = 0)
    (hd : ∀ W va vb, Sl W va (digs a.natAbs) → Sl W vb (digs b.natAbs) → Calls Tryz.prog 44 #[va, vb] W (DivRes W a.natAbs b.natAbs)) :
    Calls Tryz.prog 15 #[x, y] w (DivOut w a b) := by
  obtain ⟨sa, rfl, ha, la⟩ := hx
  obtain ⟨sb, rfl, hb, lb'⟩ := hy
  obtain ⟨d1, d2, d3, d4⟩ := div_signs a b hb0
  have ra := rightB_digs a la
  have rb := rightB_digs b lb'
  obtain ⟨ab, cb, rfl⟩ := hb.mk'
  obtain ⟨lb, hlb⟩ : ∃ lb, lb = (digs b.natAbs).length := ⟨_, rfl⟩
  have hlb0 : lb ≠ 0 := by
    intro h0
    have : digs b.natAbs = [] := List.eq_nil_of_length_eq_zero (by omega)
    have : b.natAbs = 0 := digs_inj (by rw [this, digs_zero])
    omega
  rw [← hlb] at hb lb' ⊢
  obtain ⟨na, hna⟩ : ∃ na, na = decide (a < 0) := ⟨_, rfl⟩
  obtain ⟨nb, hnb⟩ : ∃ nb, nb = decide (b < 0) := ⟨_, rfl⟩
  rw [← hna] at ra d3 ⊢
  rw [← hnb] at rb d3 ⊢
  have R1 : ∀ W, Sl W sa (digs a.natAbs) → Calls Tryz.prog 32 #[.agg #[.bool na, sa]] W fun e w' => e = .returned (.bool true) ∧ w' = W.alloc (.cells #[.bool na, sa] 27) := fun W h => by have := right_any na h (by omega); rwa [ra] at this
  have R2 : ∀ W, Sl W (.slice ab lb cb) (digs b.natAbs) → Calls Tryz.prog 32 #[.agg #[.bool nb, .slice ab lb cb]] W fun e w' => e = .returned (.bool true) ∧ w' = W.alloc (.cells #[.bool nb, .slice ab lb cb] 27) := fun W h => by have := right_any nb h (by omega); rwa [rb] at this
  have HR1 := Lib.hid R1
  have HR2 := Lib.hid R2
  have HD := Lib.hid hd
  have HNA := Lib.hid hna
  have HNB := Lib.hid hnb
  have HLB := Lib.hid hlb
  have D1 := Lib.hid d1
  have D2 := Lib.hid d2
  have D3 := Lib.hid d3
  have D4 := Lib.hid d4
  have hlz : ((lb : Int) == 0) = false := by simp; omega
  clear R1 R2 ra rb hd hna hnb hlb d1 d2 d3 d4 hb0
  go_enter Tryz.func15, Tryz.ntmps15
  go_wp2_with (first | (go_at_call_of 32 (Value.agg #[.bool na, sa]); refine (HR1.out _ (ha.below (by go_grown))).mono ?_; rintro e w' ⟨rfl, rfl⟩) | (go_at_call_of 32 (Value.agg #[.bool nb, .slice ab lb cb]); refine (HR2.out _ (hb.below (by go_grown))).mono ?_; rintro e w' ⟨rfl, rfl⟩))
  have HB : Box4 ((((((w.alloc (.cells #[.bool na, sa] 27)).alloc (.cells #[.bool nb, .slice ab lb cb] 27)).alloc (.cells #[.bool false, .slice none 0 0] 27)).alloc (.cells #[.bool false, .slice none 0 0] 27)).alloc (.cells #[.bool na, sa] 27)).alloc (.cells #[.bool nb, .slice ab lb cb] 27)) w.heap.size na nb sa (.slice ab lb cb) a.natAbs b.natAbs := box4_new ha hb (by go_grown)
  have HBL : Below w.heap.size w ((((((w.alloc (.cells #[.bool na, sa] 27)).alloc (.cells #[.bool nb, .slice ab lb cb] 27)).alloc (.cells #[.bool false, .slice none 0 0] 27)).alloc (.cells #[.bool false, .slice none 0 0] 27)).alloc (.cells #[.bool na, sa] 27)).alloc (.cells #[.bool nb, .slice ab lb cb] 27)) := by go_grown
  obtain ⟨f0, f1, -⟩ := cells_two HB.a
  obtain ⟨g0, g1, -⟩ := cells_two HB.b
  revert HB HBL f0 f1 g0 g1
  generalize ((((((w.alloc (.cells #[.bool na, sa] 27)).alloc (.cells #[.bool nb, .slice ab lb cb] 27)).alloc (.cells #[.bool false, .slice none 0 0] 27)).alloc (.cells #[.bool false, .slice none 0 0] 27)).alloc (.cells #[.bool na, sa] 27)).alloc (.cells #[.bool nb, .slice ab lb cb] 27)) = W
  intro HB HBL f0 f1 g0 g1
  refine (HD.out _ _ _ HB.sa HB.sb).mono ?_
  rintro e W1 ⟨aq, cq, ar, cr, rfl, hsq, hsr, hb1⟩
  have HB1 := HB.below hb1
  have HBL1 := HBL.trans (hb1.mono HBL.size)
  replace hsq := hsq.mono (show w.heap.size + 4 ≤ W.heap.size from HB.lt)
  replace hsr := hsr.mono (show w.heap.size + 4 ≤ W.heap.size from HB.lt)
  obtain ⟨f0', f1', -⟩ := cells_two HB1.a
  obtain ⟨g0', g1', -⟩ := cells_two HB1.b
  obtain ⟨q0', q1', qf0, qf1⟩ := HB1.q.cells
  obtain ⟨r0', r1', rf0, rf1⟩ := HB1.r.cells
  have hlt1 := HB1.lt
  obtain ⟨ql, hql⟩ : ∃ ql, ql = (digs (a.natAbs / b.natAbs)).length := ⟨_, rfl⟩
  obtain ⟨rl, hrl⟩ : ∃ rl, rl = (digs (a.natAbs % b.natAbs)).length := ⟨_, rfl⟩
  rw [← hql] at hsq ⊢
  rw [← hrl] at hsr ⊢
  have HSQ := Lib.hid hsq
  have HSR := Lib.hid hsr
  have HQL := Lib.hid hql
  have HRL := Lib.hid hrl
  have HBB1 := Lib.hid HB1
  clear hsq hsr hql hrl HB1 HB hb1
  obtain rfl : na = true := by rw [HNA.out]; simp; omega
  obtain rfl : rl = 0 := by rw [HRL.out, hm0, digs_zero]; rfl
  go_wp2_with (go_at_call 47; refine (made_any _ _ _ _ _).mono ?_; rintro e w2 ⟨rfl, rfl⟩)
  have kk := heap_four W1 (.cells #[.bool (mkN (!nb) ql), .slice (mkA aq ql) (mkL ql) (mkC ql cq)] 27) (.cells #[.bool (mkN (!nb) ql), .slice (mkA aq ql) (mkL ql) (mkC ql cq)] 27) (.cells #[.bool (mkN false 0), .slice (mkA ar 0) (mkL 0) (mkC 0 cr)] 27) (.cells #[.bool (mkN false 0), .slice (mkA ar 0) (mkL 0) (mkC 0 cr)] 27)
  have hW2 : Below W1.heap.size W1 ((((W1.alloc (.cells #[.bool (mkN (!nb) ql), .slice (mkA aq ql) (mkL ql) (mkC ql cq)] 27)).alloc (.cells #[.bool (mkN (!nb) ql), .slice (mkA aq ql) (mkL ql) (mkC ql cq)] 27)).alloc (.cells #[.bool (mkN false 0), .slice (mkA ar 0) (mkL 0) (mkC 0 cr)] 27)).alloc (.cells #[.bool (mkN false 0), .slice (mkA ar 0) (mkL 0) (mkC 0 cr)] 27)) := by go_grown
  revert kk hW2
  generalize ((((W1.alloc (.cells #[.bool (mkN (!nb) ql), .slice (mkA aq ql) (mkL ql) (mkC ql cq)] 27)).alloc (.cells #[.bool (mkN (!nb) ql), .slice (mkA aq ql) (mkL ql) (mkC ql cq)] 27)).alloc (.cells #[.bool (mkN false 0), .slice (mkA ar 0) (mkL 0) (mkC 0 cr)] 27)).alloc (.cells #[.bool (mkN false 0), .slice (mkA ar 0) (mkL 0) (mkC 0 cr)] 27)) = W2
  rintro ⟨_, k2, _, k4⟩ hW2
  obtain ⟨x0, x1, -⟩ := cells_two k2
  obtain ⟨y0, y1, -⟩ := cells_two k4
  have HQ2 := HBB1.out.q.below hW2
  have HR2' := HBB1.out.r.below hW2
  obtain ⟨u0, u1, uf0, uf1⟩ := HQ2.cells
  obtain ⟨v0, v1, vf0, vf1⟩ := HR2'.cells
  have K2 := Lib.hid k2
  have K4 := Lib.hid k4
  have HW2 := Lib.hid hW2
  have HQ2' := Lib.hid HQ2
  have HR2'' := Lib.hid HR2'
  have hgt := hlt1
  clear k2 k4 hW2 HQ2 HR2' f0' f1' g0' g1' q0' q1' qf0 qf1 r0' r1' rf0 rf1 f0 f1 g0 g1 HBL
  go_region
  obtain ⟨z0, z1, z2, z3⟩ := res_two HQ2'.out HR2''.out (.inl trivial) (.bool (mkN (!nb) ql)) (.slice (mkA aq ql) (mkL ql) (mkC ql cq)) (.bool (mkN false 0)) (.slice (mkA ar 0) (mkL 0) (mkC 0 cr))
  have hfin : Below w.heap.size w ((((W2.setCell ⟨w.heap.size + 1 + 1, 0, none⟩ (.bool (mkN (!nb) ql))).setCell ⟨w.heap.size + 1 + 1, 1, none⟩ (.slice (mkA aq ql) (mkL ql) (mkC ql cq))).setCell ⟨w.heap.size + 1 + 1 + 1, 0, none⟩ (.bool (mkN false 0))).setCell ⟨w.heap.size + 1 + 1 + 1, 1, none⟩ (.slice (mkA ar 0) (mkL 0) (mkC 0 cr))) :=
    ((((HBL1.trans (HW2.out.mono HBL1.size)).setCell (by simp; omega) _).setCell (by simp; omega) _).setCell (by simp; omega) _).setCell (by simp; omega) _
  have hsq3 := ((HSQ.out.below HW2.out).after2 (g := w.heap.size + 1 + 1) (by omega) (.bool (mkN (!nb) ql)) (.slice (mkA aq ql) (mkL ql) (mkC ql cq))).after2 (g := w.heap.size + 1 + 1 + 1) (by omega) (.bool (mkN false 0)) (.slice (mkA ar 0) (mkL 0) (mkC 0 cr))
  have hsr3 := ((HSR.out.below HW2.out).after2 (g := w.heap.size + 1 + 1) (by omega) (.bool (mkN (!nb) ql)) (.slice (mkA aq ql) (mkL ql) (mkC ql cq))).after2 (g := w.heap.size + 1 + 1 + 1) (by omega) (.bool (mkN false 0)) (.slice (mkA ar 0) (mkL 0) (mkC 0 cr))
  revert z0 z1 z2 z3 hfin hsq3 hsr3
  generalize ((((W2.setCell ⟨w.heap.size + 1 + 1, 0, none⟩ (.bool (mkN (!nb) ql))).setCell ⟨w.heap.size + 1 + 1, 1, none⟩ (.slice (mkA aq ql) (mkL ql) (mkC ql cq))).setCell ⟨w.heap.size + 1 + 1 + 1, 0, none⟩ (.bool (mkN false 0))).setCell ⟨w.heap.size + 1 + 1 + 1, 1, none⟩ (.slice (mkA ar 0) (mkL 0) (mkC 0 cr))) = W3
  intro z0 z1 z2 z3 hfin hsq3 hsr3
  have H1 := Lib.hid hsq3
  have H2 := Lib.hid hsr3
  have HF := Lib.hid hfin
  clear hsq3 hsr3 hfin x0 x1 y0 y1 u0 u1 uf0 uf1 v0 v1 vf0 vf1
  go_wp2
  refine bodyPost_ret (v := .tuple #[.agg #[.bool (mkN (!nb) ql), .slice (mkA aq ql) (mkL ql) (mkC ql cq)], .agg #[.bool (mkN false 0), .slice (mkA ar 0) (mkL 0) (mkC 0 cr)], .bool true]) (by simp [results, Tryz.results15, go_sem, z0, z1, z2, z3]) rfl ?_
  obtain ⟨p1, p2⟩ := D1.out (.inr hm0)
  have m1 := mk_ok (n := ql) (ao := aq) (cap := cq) (z := a / b) (neg := !nb) (by rw [p1]; exact HQL.out) (by rw [HQL.out]; exact Nat.le_trans (digs_mono (Nat.div_le_self _ _)) la) (fun hz => by have := D3.out hz; simpa using this) (fun _ => by rw [p1]; exact H1.out)
  have m2 := mk_ok (B := w.heap.size + 4) (W := W3) (n := 0) (ao := ar) (cap := cr) (z := a % b) (neg := false) (by rw [p2]; exact HRL.out) (by omega) (fun _ => by have := D4.out; simp; omega) (fun h => absurd rfl h)
  refine ⟨_, _, _, _, _, _, _, _, rfl, HF.out.drew, ⟨_, by rw [m1.1], m1.2.sl.below (Below.drew (Below.refl _ _)), ?_⟩, ⟨_, by rw [m2.1], m2.2.sl.below (Below.drew (Below.refl _ _)), ?_⟩⟩
  · rw [p1]; exact Nat.le_trans (digs_mono (Nat.div_le_self _ _)) la
  · rw [p2]; exact Nat.le_trans (digs_mono (Nat.mod_le _ _)) la

end Go.Proofs.YtdgmjmckeeeljaaGreatDoor

namespace Go.Proofs.YtdgmjmckeeeljaaGreatDoor
open Go.RowKit

set_option maxRecDepth 10000 in
set_option maxHeartbeats 2000000 in
theorem div_adj {w : World} {x y : Value} {a b : Int} (hx : Nu w x a) (hy : Nu w y b) (hb0 : b ≠ 0) (h0 : a < 0) (hm0 : a.natAbs % b.natAbs ≠ 0)
    (hd : ∀ W va vb, Sl W va (digs a.natAbs) → Sl W vb (digs b.natAbs) → Calls Tryz.prog 44 #[va, vb] W (DivRes W a.natAbs b.natAbs)) :
    Calls Tryz.prog 15 #[x, y] w (DivOut w a b) := by
  obtain ⟨sa, rfl, ha, la⟩ := hx
  obtain ⟨sb, rfl, hb, lb'⟩ := hy
  obtain ⟨d1, d2, d3, d4⟩ := div_signs a b hb0
  have ra := rightB_digs a la
  have rb := rightB_digs b lb'
  obtain ⟨ab, cb, rfl⟩ := hb.mk'
  obtain ⟨lb, hlb⟩ : ∃ lb, lb = (digs b.natAbs).length := ⟨_, rfl⟩
  have hlb0 : lb ≠ 0 := by
    intro h0
    have : digs b.natAbs = [] := List.eq_nil_of_length_eq_zero (by omega)
    have : b.natAbs = 0 := digs_inj (by rw [this, digs_zero])
    omega
  rw [← hlb] at hb lb' ⊢
  obtain ⟨na, hna⟩ : ∃ na, na = decide (a < 0) := ⟨_, rfl⟩
  obtain ⟨nb, hnb⟩ : ∃ nb, nb = decide (b < 0) := ⟨_, rfl⟩
  rw [← hna] at ra d3 ⊢
  rw [← hnb] at rb d3 ⊢
  have R1 : ∀ W, Sl W sa (digs a.natAbs) → Calls Tryz.prog 32 #[.agg #[.bool na, sa]] W fun e w' => e = .returned (.bool true) ∧ w' = W.alloc (.cells #[.bool na, sa] 27) := fun W h => by have := right_any na h (by omega); rwa [ra] at this
  have R2 : ∀ W, Sl W (.slice ab lb cb) (digs b.natAbs) → Calls Tryz.prog 32 #[.agg #[.bool nb, .slice ab lb cb]] W fun e w' => e = .returned (.bool true) ∧ w' = W.alloc (.cells #[.bool nb, .slice ab lb cb] 27) := fun W h => by have := right_any nb h (by omega); rwa [rb] at this
  have HR1 := Lib.hid R1
  have HR2 := Lib.hid R2
  have HD := Lib.hid hd
  have HNA := Lib.hid hna
  have HNB := Lib.hid hnb
  have HLB := Lib.hid hlb
  have D1 := Lib.hid d1
  have D2 := Lib.hid d2
  have D3 := Lib.hid d3
  have D4 := Lib.hid d4
  have hlz : ((lb : Int) == 0) = false := by simp; omega
  clear R1 R2 ra rb hd hna hnb hlb d1 d2 d3 d4 hb0
  go_enter Tryz.func15, Tryz.ntmps15
  go_wp2_with (first | (go_at_call_of 32 (Value.agg #[.bool na, sa]); refine (HR1.out _ (ha.below (by go_grown))).mono ?_; rintro e w' ⟨rfl, rfl⟩) | (go_at_call_of 32 (Value.agg #[.bool nb, .slice ab lb cb]); refine (HR2.out _ (hb.below (by go_grown))).mono ?_; rintro e w' ⟨rfl, rfl⟩))
  have HB : Box4 ((((((w.alloc (.cells #[.bool na, sa] 27)).alloc (.cells #[.bool nb, .slice ab lb cb] 27)).alloc (.cells #[.bool false, .slice none 0 0] 27)).alloc (.cells #[.bool false, .slice none 0 0] 27)).alloc (.cells #[.bool na, sa] 27)).alloc (.cells #[.bool nb, .slice ab lb cb] 27)) w.heap.size na nb sa (.slice ab lb cb) a.natAbs b.natAbs := box4_new ha hb (by go_grown)
  have HBL : Below w.heap.size w ((((((w.alloc (.cells #[.bool na, sa] 27)).alloc (.cells #[.bool nb, .slice ab lb cb] 27)).alloc (.cells #[.bool false, .slice none 0 0] 27)).alloc (.cells #[.bool false, .slice none 0 0] 27)).alloc (.cells #[.bool na, sa] 27)).alloc (.cells #[.bool nb, .slice ab lb cb] 27)) := by go_grown
  obtain ⟨f0, f1, -⟩ := cells_two HB.a
  obtain ⟨g0, g1, -⟩ := cells_two HB.b
  revert HB HBL f0 f1 g0 g1
  generalize ((((((w.alloc (.cells #[.bool na, sa] 27)).alloc (.cells #[.bool nb, .slice ab lb cb] 27)).alloc (.cells #[.bool false, .slice none 0 0] 27)).alloc (.cells #[.bool false, .slice none 0 0] 27)).alloc (.cells #[.bool na, sa] 27)).alloc (.cells #[.bool nb, .slice ab lb cb] 27)) = W
  intro HB HBL f0 f1 g0 g1
  refine (HD.out _ _ _ HB.sa HB.sb).mono ?_
  rintro e W1 ⟨aq, cq, ar, cr, rfl, hsq, hsr, hb1⟩
  have HB1 := HB.below hb1
  have HBL1 := HBL.trans (hb1.mono HBL.size)
  replace hsq := hsq.mono (show w.heap.size + 4 ≤ W.heap.size from HB.lt)
  replace hsr := hsr.mono (show w.heap.size + 4 ≤ W.heap.size from HB.lt)
  obtain ⟨f0', f1', -⟩ := cells_two HB1.a
  obtain ⟨g0', g1', -⟩ := cells_two HB1.b
  obtain ⟨q0', q1', qf0, qf1⟩ := HB1.q.cells
  obtain ⟨r0', r1', rf0, rf1⟩ := HB1.r.cells
  have hlt1 := HB1.lt
  obtain ⟨ql, hql⟩ : ∃ ql, ql = (digs (a.natAbs / b.natAbs)).length := ⟨_, rfl⟩
  obtain ⟨rl, hrl⟩ : ∃ rl, rl = (digs (a.natAbs % b.natAbs)).length := ⟨_, rfl⟩
  rw [← hql] at hsq ⊢
  rw [← hrl] at hsr ⊢
  have HSQ := Lib.hid hsq
  have HSR := Lib.hid hsr
  have HQL := Lib.hid hql
  have HRL := Lib.hid hrl
  have HBB1 := Lib.hid HB1
  clear hsq hsr hql hrl HB1 HB hb1
  obtain rfl : na = true := by rw [HNA.out]; simp; omega
  have hrl0 : 0 < (rl : Int) := by
    have : rl ≠ 0 := by
      intro h
      apply hm0
      have : digs (a.natAbs % b.natAbs) = [] := List.eq_nil_of_length_eq_zero (by rw [← HRL.out]; exact h)
      exact digs_inj (by rw [this, digs_zero])
    omega
  have hone : digs 1 = [1] := digs_small (by omega) (by omega)
  have hq2 := digs_mono (x := a.natAbs / b.natAbs) (y := a.natAbs) (Nat.div_le_self _ _)
  have hr2 := digs_mono (x := a.natAbs % b.natAbs) (y := a.natAbs) (Nat.mod_le _ _)
  have hb0 : 0 < b.natAbs := by
    rcases Nat.eq_zero_or_pos b.natAbs with h | h
    · exfalso; apply hlb0; rw [HLB.out, h, digs_zero]; rfl
    · exact h
  have hmlt := Nat.mod_lt a.natAbs hb0
  have HO : Hid (∀ W : World, Sl (W.alloc (.cells #[.int .u32 1] 59)) (.slice (some ⟨W.heap.size, 0, none⟩) 1 1) (digs 1)) := fun W => by rw [hone]; exact (sl_one W 1 (by omega)).sl
  have HQ2 := Lib.hid hq2
  have HR2B := Lib.hid hr2
  have HML := Lib.hid hmlt
  clear hone hq2 hr2 hmlt hb0
  go_wp2_with fail
  refine (plus_at (HSQ.out.sl.below (by go_grown)) (HO.out W1) (by have := HQ2.out; omega) (by rw [digs_small (by omega) (by omega)]; simp) rfl).mono ?_
  rintro e W2' ⟨aq', cq', rfl, hsq', hb2'⟩
  have hb2 : Below W1.heap.size W1 W2' := Below.trans (by go_grown) (hb2'.mono (by simp))
  replace hsq' := hsq'.mono (B' := w.heap.size + 4) (by simp; omega)
  have HSQ' := Lib.hid hsq'
  have HSR' := Lib.hid (HSR.out.below hb2)
  clear hsq' HSQ HSR hb2' HQL
  have HB1 := HBB1.out.below hb2
  replace HBL1 := HBL1.trans (hb2.mono HBL1.size)
  clear hb2 f0' f1' g0' g1' q0' q1' qf0 qf1 r0' r1' rf0 rf1 HBB1
  obtain ⟨f0', f1', -⟩ := cells_two HB1.a
  obtain ⟨g0', g1', -⟩ := cells_two HB1.b
  obtain ⟨q0', q1', qf0, qf1⟩ := HB1.q.cells
  obtain ⟨r0', r1', rf0, rf1⟩ := HB1.r.cells
  replace hlt1 := HB1.lt
  have HBB1 := Lib.hid HB1
  clear HB1
  obtain ⟨W1, rfl⟩ : ∃ W1, W1 = W2' := ⟨_, rfl⟩
  go_wp2_with fail
  refine (minus_at HBB1.out.sb HSR'.out.sl (by rw [← HLB.out]; exact lb') (by have := HML.out; omega) rfl).mono ?_
  rintro e W3' ⟨ar', cr', rfl, hsr', hb3⟩
  replace hsr' := hsr'.mono (B' := w.heap.size + 4) (by omega)
  have HSR := Lib.hid hsr'
  have HSQ := Lib.hid (HSQ'.out.below hb3)
  clear hsr' HSQ' HSR' HRL hrl0
  have HB1 := HBB1.out.below hb3
  replace HBL1 := HBL1.trans (hb3.mono HBL1.size)
  clear hb3 f0' f1' g0' g1' q0' q1' qf0 qf1 r0' r1' rf0 rf1 HBB1
  obtain ⟨f0', f1', -⟩ := cells_two HB1.a
  obtain ⟨g0', g1', -⟩ := cells_two HB1.b
  obtain ⟨q0', q1', qf0, qf1⟩ := HB1.q.cells
  obtain ⟨r0', r1', rf0, rf1⟩ := HB1.r.cells
  replace hlt1 := HB1.lt
  have HBB1 := Lib.hid HB1
  clear HB1
  obtain ⟨W1, rfl⟩ : ∃ W1, W1 = W3' := ⟨_, rfl⟩
  obtain ⟨ql, hql⟩ : ∃ ql, ql = (digs (a.natAbs / b.natAbs + 1)).length := ⟨_, rfl⟩
  obtain ⟨rl, hrl⟩ : ∃ rl, rl = (digs (b.natAbs - a.natAbs % b.natAbs)).length := ⟨_, rfl⟩
  rw [← hql] at HSQ ⊢
  rw [← hrl] at HSR ⊢
  have HQL := Lib.hid hql
  have HRL := Lib.hid hrl
  clear hql hrl
  obtain ⟨aq, rfl⟩ : ∃ aq, aq = aq' := ⟨_, rfl⟩
  obtain ⟨cq, rfl⟩ : ∃ cq, cq = cq' := ⟨_, rfl⟩
  obtain ⟨ar, rfl⟩ : ∃ ar, ar = ar' := ⟨_, rfl⟩
  obtain ⟨cr, rfl⟩ : ∃ cr, cr = cr' := ⟨_, rfl⟩
  go_wp2_with (go_at_call 47; refine (made_any _ _ _ _ _).mono ?_; rintro e w2 ⟨rfl, rfl⟩)
  have kk := heap_four W1 (.cells #[.bool (mkN (!nb) ql), .slice (mkA aq ql) (mkL ql) (mkC ql cq)] 27) (.cells #[.bool (mkN (!nb) ql), .slice (mkA aq ql) (mkL ql) (mkC ql cq)] 27) (.cells #[.bool (mkN false rl), .slice (mkA ar rl) (mkL rl) (mkC rl cr)] 27) (.cells #[.bool (mkN false rl), .slice (mkA ar rl) (mkL rl) (mkC rl cr)] 27)
  have hW2 : Below W1.heap.size W1 ((((W1.alloc (.cells #[.bool (mkN (!nb) ql), .slice (mkA aq ql) (mkL ql) (mkC ql cq)] 27)).alloc (.cells #[.bool (mkN (!nb) ql), .slice (mkA aq ql) (mkL ql) (mkC ql cq)] 27)).alloc (.cells #[.bool (mkN false rl), .slice (mkA ar rl) (mkL rl) (mkC rl cr)] 27)).alloc (.cells #[.bool (mkN false rl), .slice (mkA ar rl) (mkL rl) (mkC rl cr)] 27)) := by go_grown
  revert kk hW2
  generalize ((((W1.alloc (.cells #[.bool (mkN (!nb) ql), .slice (mkA aq ql) (mkL ql) (mkC ql cq)] 27)).alloc (.cells #[.bool (mkN (!nb) ql), .slice (mkA aq ql) (mkL ql) (mkC ql cq)] 27)).alloc (.cells #[.bool (mkN false rl), .slice (mkA ar rl) (mkL rl) (mkC rl cr)] 27)).alloc (.cells #[.bool (mkN false rl), .slice (mkA ar rl) (mkL rl) (mkC rl cr)] 27)) = W2
  rintro ⟨_, k2, _, k4⟩ hW2
  obtain ⟨x0, x1, -⟩ := cells_two k2
  obtain ⟨y0, y1, -⟩ := cells_two k4
  have HQ2 := HBB1.out.q.below hW2
  have HR2' := HBB1.out.r.below hW2
  obtain ⟨u0, u1, uf0, uf1⟩ := HQ2.cells
  obtain ⟨v0, v1, vf0, vf1⟩ := HR2'.cells
  have K2 := Lib.hid k2
  have K4 := Lib.hid k4
  have HW2 := Lib.hid hW2
  have HQ2' := Lib.hid HQ2
  have HR2'' := Lib.hid HR2'
  have hgt := hlt1
  clear k2 k4 hW2 HQ2 HR2' f0' f1' g0' g1' q0' q1' qf0 qf1 r0' r1' rf0 rf1 f0 f1 g0 g1 HBL
  go_region
  obtain ⟨z0, z1, z2, z3⟩ := res_two HQ2'.out HR2''.out (.inl trivial) (.bool (mkN (!nb) ql)) (.slice (mkA aq ql) (mkL ql) (mkC ql cq)) (.bool (mkN false rl)) (.slice (mkA ar rl) (mkL rl) (mkC rl cr))
  have hfin : Below w.heap.size w ((((W2.setCell ⟨w.heap.size + 1 + 1, 0, none⟩ (.bool (mkN (!nb) ql))).setCell ⟨w.heap.size + 1 + 1, 1, none⟩ (.slice (mkA aq ql) (mkL ql) (mkC ql cq))).setCell ⟨w.heap.size + 1 + 1 + 1, 0, none⟩ (.bool (mkN false rl))).setCell ⟨w.heap.size + 1 + 1 + 1, 1, none⟩ (.slice (mkA ar rl) (mkL rl) (mkC rl cr))) :=
    ((((HBL1.trans (HW2.out.mono HBL1.size)).setCell (by simp; omega) _).setCell (by simp; omega) _).setCell (by simp; omega) _).setCell (by simp; omega) _
  have hsq3 := ((HSQ.out.below HW2.out).after2 (g := w.heap.size + 1 + 1) (by omega) (.bool (mkN (!nb) ql)) (.slice (mkA aq ql) (mkL ql) (mkC ql cq))).after2 (g := w.heap.size + 1 + 1 + 1) (by omega) (.bool (mkN false rl)) (.slice (mkA ar rl) (mkL rl) (mkC rl cr))
  have hsr3 := ((HSR.out.below HW2.out).after2 (g := w.heap.size + 1 + 1) (by omega) (.bool (mkN (!nb) ql)) (.slice (mkA aq ql) (mkL ql) (mkC ql cq))).after2 (g := w.heap.size + 1 + 1 + 1) (by omega) (.bool (mkN false rl)) (.slice (mkA ar rl) (mkL rl) (mkC rl cr))
  revert z0 z1 z2 z3 hfin hsq3 hsr3
  generalize ((((W2.setCell ⟨w.heap.size + 1 + 1, 0, none⟩ (.bool (mkN (!nb) ql))).setCell ⟨w.heap.size + 1 + 1, 1, none⟩ (.slice (mkA aq ql) (mkL ql) (mkC ql cq))).setCell ⟨w.heap.size + 1 + 1 + 1, 0, none⟩ (.bool (mkN false rl))).setCell ⟨w.heap.size + 1 + 1 + 1, 1, none⟩ (.slice (mkA ar rl) (mkL rl) (mkC rl cr))) = W3
  intro z0 z1 z2 z3 hfin hsq3 hsr3
  have H1 := Lib.hid hsq3
  have H2 := Lib.hid hsr3
  have HF := Lib.hid hfin
  clear hsq3 hsr3 hfin x0 x1 y0 y1 u0 u1 uf0 uf1 v0 v1 vf0 vf1
  go_wp2
  refine bodyPost_ret (v := .tuple #[.agg #[.bool (mkN (!nb) ql), .slice (mkA aq ql) (mkL ql) (mkC ql cq)], .agg #[.bool (mkN false rl), .slice (mkA ar rl) (mkL rl) (mkC rl cr)], .bool true]) (by simp [results, Tryz.results15, go_sem, z0, z1, z2, z3]) rfl ?_
  obtain ⟨p1, p2⟩ := D2.out h0 hm0
  have q1 : a.natAbs / b.natAbs + 1 ≤ a.natAbs := by
    have h1 := Nat.div_add_mod a.natAbs b.natAbs
    have h2 := HML.out
    have h3 : 2 * (a.natAbs / b.natAbs) ≤ b.natAbs * (a.natAbs / b.natAbs) := Nat.mul_le_mul_right _ (by omega)
    omega
  have m1 := mk_ok (n := ql) (ao := aq) (cap := cq) (z := a / b) (neg := !nb) (by rw [p1]; exact HQL.out) (by rw [HQL.out]; exact Nat.le_trans (digs_mono q1) la) (fun hz => by have := D3.out hz; simpa using this) (fun _ => by rw [p1]; exact H1.out)
  have m2 := mk_ok (n := rl) (ao := ar) (cap := cr) (z := a % b) (neg := false) (by rw [p2]; exact HRL.out) (by rw [HRL.out]; exact Nat.le_trans (digs_mono (Nat.sub_le _ _)) (by rw [← HLB.out]; exact lb')) (fun _ => by have := D4.out; simp; omega) (fun _ => by rw [p2]; exact H2.out)
  refine ⟨_, _, _, _, _, _, _, _, rfl, HF.out.drew, ⟨_, by rw [m1.1], m1.2.sl.below (Below.drew (Below.refl _ _)), ?_⟩, ⟨_, by rw [m2.1], m2.2.sl.below (Below.drew (Below.refl _ _)), ?_⟩⟩
  · rw [p1]; exact Nat.le_trans (digs_mono q1) la
  · rw [p2]; exact Nat.le_trans (digs_mono (Nat.sub_le _ _)) (by rw [← HLB.out]; exact lb')

/-- num.Div of right numbers. -/
theorem div_any {w : World} {x y : Value} {a b : Int} (hx : Nu w x a) (hy : Nu w y b) (hb0 : b ≠ 0)
    (hd : ∀ W va vb, Sl W va (digs a.natAbs) → Sl W vb (digs b.natAbs) → Calls Tryz.prog 44 #[va, vb] W (DivRes W a.natAbs b.natAbs)) :
    Calls Tryz.prog 15 #[x, y] w (DivOut w a b) := by
  by_cases h0 : 0 ≤ a
  · exact div_pos hx hy hb0 h0 hd
  · by_cases hm : a.natAbs % b.natAbs = 0
    · exact div_neg_whole hx hy hb0 (by omega) hm hd
    · exact div_adj hx hy hb0 (by omega) hm hd

end Go.Proofs.YtdgmjmckeeeljaaGreatDoor

namespace Go.Proofs.YtdgmjmckeeeljaaGreatDoor
open Go.RowKit

def WordRel (g : Nat) (w : World) (xv yv : Value) (wr : World) : Prop := ∃ x y m, xv = .int .u64 (x : Nat) ∧ yv = .int .u64 (y : Nat) ∧ x / 4294967296 < 4294967296 ∧ y / 4294967296 < 4294967296 ∧ Nat.gcd x y = g ∧ wr = w.drewN m

set_option maxRecDepth 10000 in
set_option maxHeartbeats 1000000 in
theorem commonWord_any (x y : Nat) (w : World) (hx : x / 4294967296 < 4294967296) (hy : y / 4294967296 < 4294967296) :
    Calls Tryz.prog 87 #[.int .u64 x, .int .u64 y] w fun e w' => e = .returned (.int .u64 (Nat.gcd x y : Nat)) ∧ ∃ m, w' = w.drewN m := by
  obtain ⟨g, hg⟩ : ∃ g, g = Nat.gcd x y := ⟨_, rfl⟩
  rw [← hg]
  go_enter Tryz.func87, Tryz.ntmps87
  go_wp2
  go_loopw [0, 1] (fun xv yv wr => WordRel g w xv yv wr) (fun _ yv _ => (intOf yv).toNat)
  case atStart => exact ⟨x, y, 0, rfl, rfl, hx, hy, hg.symm, rfl⟩
  case round =>
    obtain ⟨u, v, m, rfl, rfl, hu, hv, huv, rfl⟩ := hrel
    clear hg
    by_cases h0 : v = 0
    · subst h0
      have huv' : u = g := by simpa using huv
      subst huv'
      clear huv
      go_wp2
      go_ret
      exact ⟨rfl, m, rfl⟩
    · have hpos : 0 < (v : Int) := by omega
      have hz : ((v : Int) == 0) = false := by simp; omega
      have hm : u % v < v := Nat.mod_lt _ (by omega)
      have hn : Nat.gcd v (u % v) = g := by rw [← huv, Nat.gcd_comm u v, Nat.gcd_rec v u, Nat.gcd_comm]
      have HN := Lib.hid hn
      obtain ⟨r, hr⟩ : ∃ r, r = u % v := ⟨_, rfl⟩
      have er : (u : Int) % v = r := by rw [hr]; rfl
      rw [← hr] at hm HN
      clear hr huv hn h0
      go_wp2
      go_quiet (fail)
      go_wp2
      go_roundw
      case rel => exact ⟨v, r, m + nq, rfl, by rw [er], hv, by omega, HN.out, by rw [World.drewN_drewN]⟩
      case measure => simp only [intOf]; rw [er]; omega

/-- A slice of the digits of n in new memory, its length named. -/
def NewD (w : World) (n l : Nat) (e : Ending) (w' : World) : Prop := ∃ ao cap, e = .returned (.slice ao l cap) ∧ Sw w.heap.size w' (.slice ao l cap) (digs n) ∧ Below w.heap.size w w'

set_option maxRecDepth 10000 in
set_option maxHeartbeats 2000000 in
theorem common_ge {w : World} {va vb : Value} {x y l : Nat} (ha : Sl w va (digs x)) (hb : Sl w vb (digs y)) (hla : (digs x).length ≤ 256) (hlb : (digs y).length ≤ 2) (hc : y ≤ x) (hl : l = (digs (Nat.gcd x y)).length)
    (hd : ∀ W va vb, y ≠ 0 → Sl W va (digs x) → Sl W vb (digs y) → Calls Tryz.prog 44 #[va, vb] W (DivRes W x y)) :
    Calls Tryz.prog 51 #[va, vb] w (NewD w (Nat.gcd x y) l) := by
  have hcm := compare_any ha hb (by omega) (by omega)
  have hge : 0 ≤ cmpN x y := by unfold cmpN; rw [if_neg (by omega)]; split <;> decide
  obtain ⟨ab, cb, rfl⟩ := hb.mk'
  obtain ⟨lb, hlb'⟩ : ∃ lb, lb = (digs y).length := ⟨_, rfl⟩
  rw [← hlb'] at hb hlb hcm ⊢
  have HCM := Lib.hid hcm
  have HCL : Hid (∀ W, Sl W va (digs x) → Calls Tryz.prog 74 #[va] W (NewSl W (digs x))) := fun W h => clone_any h (by omega)
  have HD := Lib.hid hd
  have HLB := Lib.hid hlb'
  have HL := Lib.hid hl
  clear hcm hd hlb' hl
  by_cases h0 : lb = 0
  · subst h0
    have hy : y = 0 := digs_inj (by rw [digs_zero]; exact List.eq_nil_of_length_eq_zero HLB.out.symm)
    have HY := Lib.hid hy
    clear hy
    go_enter Tryz.func51, Tryz.ntmps51
    go_wp2_with (go_at_call 68; refine HCM.out.mono ?_; rintro e W1 ⟨rfl, hb1⟩)
    refine wp_loop_rounds 1 ?_
    rw [rounds_succ]
    go_wp2_with (go_at_call 74; refine (HCL.out _ (ha.below hb1)).mono ?_; rintro e W2 ⟨ao, cap, rfl, hs, hb2⟩)
    go_ret
    have hg : Nat.gcd x y = x := by rw [HY.out, Nat.gcd_zero_right]
    have hl := HL.out
    rw [hg] at hl ⊢
    rw [hl]
    exact ⟨_, _, rfl, hs.mono hb1.size, hb1.trans (hb2.mono hb1.size)⟩
  · have hy0 : y ≠ 0 := fun h => h0 (by rw [HLB.out, h, digs_zero]; rfl)
    have hlz : ((lb : Int) == 0) = false := by simp; omega
    have hyw : y / 4294967296 < 4294967296 := by
      have := digs_length_le.1 (show (digs y).length ≤ 2 by rw [← HLB.out]; exact hlb)
      rw [show (4294967296 : Nat) ^ 2 = 4294967296 * 4294967296 from rfl] at this
      omega
    have hr : x % y < y := Nat.mod_lt _ (by omega)
    have hrl : (digs (x % y)).length ≤ 2 := digs_word (by omega)
    have hg : Nat.gcd y (x % y) = Nat.gcd x y := by rw [Nat.gcd_comm x y, Nat.gcd_rec y x, Nat.gcd_comm]
    have hgl : Nat.gcd x y / 4294967296 < 4294967296 := by
      have := Nat.gcd_le_right x (show 0 < y by omega)
      omega
    have HW1 : Hid (∀ W v, Sl W v (digs y) → Calls Tryz.prog 66 #[v] W fun e w' => e = .returned (.int .u64 (y : Nat)) ∧ w' = W) := fun W v h => by
      have := word_any h (by rw [← HLB.out]; exact hlb)
      rwa [val_digs] at this
    have HW2 : Hid (∀ W v, Sl W v (digs (x % y)) → Calls Tryz.prog 66 #[v] W fun e w' => e = .returned (.int .u64 (x % y : Nat)) ∧ w' = W) := fun W v h => by
      have := word_any h hrl
      rwa [val_digs] at this
    have HCW : Hid (∀ W, Calls Tryz.prog 87 #[.int .u64 y, .int .u64 (x % y : Nat)] W fun e w' => e = .returned (.int .u64 (Nat.gcd x y : Nat)) ∧ ∃ m, w' = W.drewN m) := fun W => by
      have := commonWord_any y (x % y) W hyw (by omega)
      rwa [hg] at this
    have HDO : Hid (∀ W, Calls Tryz.prog 67 #[.int .u64 (Nat.gcd x y : Nat)] W (NewD W (Nat.gcd x y) l)) := fun W => by
      have := digitsOf_at (x := Nat.gcd x y) (n := l) W hgl HL.out.symm
      exact this
    have HY0 := Lib.hid hy0
    clear hyw hr hrl hg hgl hy0
    unfold DivRes at HD
    obtain ⟨g, hg⟩ : ∃ g, g = Nat.gcd x y := ⟨_, rfl⟩
    obtain ⟨r, hr⟩ : ∃ r, r = x % y := ⟨_, rfl⟩
    rw [← hg] at HCW HDO ⊢
    rw [← hr] at HCW HW2 HD
    clear hg hr
    go_enter Tryz.func51, Tryz.ntmps51
    go_wp2_with (go_at_call 68; refine HCM.out.mono ?_; rintro e W1 ⟨rfl, hb1⟩)
    refine wp_loop_rounds 1 ?_
    rw [rounds_succ]
    go_wp2_with fail
    refine (HD.out _ _ _ HY0.out (ha.below hb1) (hb.below hb1)).mono ?_
    rintro e W2 ⟨aq, cq, ar, cr, rfl, hsq, hsr, hb2⟩
    have hbb : Below w.heap.size w W2 := hb1.trans (hb2.mono hb1.size)
    have HSR := Lib.hid hsr
    clear hsq hsr
    go_wp2_with fail
    refine (HW1.out _ _ (hb.below hbb)).mono ?_
    rintro e w' ⟨rfl, rfl⟩
    go_wp2_with fail
    refine (HW2.out _ _ HSR.out.sl).mono ?_
    rintro e w'' ⟨rfl, rfl⟩
    go_wp2_with fail
    refine (HCW.out _).mono ?_
    rintro e w3 ⟨rfl, m, rfl⟩
    go_wp2_with fail
    refine (HDO.out _).mono ?_
    rintro e W4 ⟨ao, cap, rfl, hs4, hb4⟩
    have HS4 := Lib.hid hs4
    clear hs4
    go_wp2
    go_ret
    have hz : Below w.heap.size w (w''.drewN m) := below_drewN' hbb m
    exact ⟨_, _, rfl, HS4.out.mono hz.size, hz.trans (hb4.mono hz.size)⟩

end Go.Proofs.YtdgmjmckeeeljaaGreatDoor

namespace Go.Proofs.YtdgmjmckeeeljaaGreatDoor
open Go.RowKit

set_option maxRecDepth 10000 in
set_option maxHeartbeats 2000000 in
theorem common_lt {w : World} {va vb : Value} {x y l : Nat} (ha : Sl w va (digs x)) (hb : Sl w vb (digs y)) (hla : (digs x).length ≤ 256) (hlb : (digs y).length ≤ 2) (hc : y < x) (hl : l = (digs (Nat.gcd x y)).length)
    (hd : ∀ W va vb, y ≠ 0 → Sl W va (digs x) → Sl W vb (digs y) → Calls Tryz.prog 44 #[va, vb] W (DivRes W x y)) :
    Calls Tryz.prog 51 #[vb, va] w (NewD w (Nat.gcd x y) l) := by
  have hcm := compare_any hb ha (by omega) (by omega)
  have hge : cmpN y x < 0 := by rw [cmpN_lt hc]; decide
  obtain ⟨ab, cb, rfl⟩ := hb.mk'
  obtain ⟨lb, hlb'⟩ : ∃ lb, lb = (digs y).length := ⟨_, rfl⟩
  rw [← hlb'] at hb hlb hcm ⊢
  have HCM := Lib.hid hcm
  have HCL : Hid (∀ W, Sl W va (digs x) → Calls Tryz.prog 74 #[va] W (NewSl W (digs x))) := fun W h => clone_any h (by omega)
  have HD := Lib.hid hd
  have HLB := Lib.hid hlb'
  have HL := Lib.hid hl
  clear hcm hd hlb' hl
  by_cases h0 : lb = 0
  · subst h0
    have hy : y = 0 := digs_inj (by rw [digs_zero]; exact List.eq_nil_of_length_eq_zero HLB.out.symm)
    have HY := Lib.hid hy
    clear hy
    go_enter Tryz.func51, Tryz.ntmps51
    go_wp2_with (go_at_call 68; refine HCM.out.mono ?_; rintro e W1 ⟨rfl, hb1⟩)
    refine wp_loop_rounds 1 ?_
    rw [rounds_succ]
    go_wp2_with (go_at_call 74; refine (HCL.out _ (ha.below hb1)).mono ?_; rintro e W2 ⟨ao, cap, rfl, hs, hb2⟩)
    go_ret
    have hg : Nat.gcd x y = x := by rw [HY.out, Nat.gcd_zero_right]
    have hl := HL.out
    rw [hg] at hl ⊢
    rw [hl]
    exact ⟨_, _, rfl, hs.mono hb1.size, hb1.trans (hb2.mono hb1.size)⟩
  · have hy0 : y ≠ 0 := fun h => h0 (by rw [HLB.out, h, digs_zero]; rfl)
    have hlz : ((lb : Int) == 0) = false := by simp; omega
    have hyw : y / 4294967296 < 4294967296 := by
      have := digs_length_le.1 (show (digs y).length ≤ 2 by rw [← HLB.out]; exact hlb)
      rw [show (4294967296 : Nat) ^ 2 = 4294967296 * 4294967296 from rfl] at this
      omega
    have hr : x % y < y := Nat.mod_lt _ (by omega)
    have hrl : (digs (x % y)).length ≤ 2 := digs_word (by omega)
    have hg : Nat.gcd y (x % y) = Nat.gcd x y := by rw [Nat.gcd_comm x y, Nat.gcd_rec y x, Nat.gcd_comm]
    have hgl : Nat.gcd x y / 4294967296 < 4294967296 := by
      have := Nat.gcd_le_right x (show 0 < y by omega)
      omega
    have HW1 : Hid (∀ W v, Sl W v (digs y) → Calls Tryz.prog 66 #[v] W fun e w' => e = .returned (.int .u64 (y : Nat)) ∧ w' = W) := fun W v h => by
      have := word_any h (by rw [← HLB.out]; exact hlb)
      rwa [val_digs] at this
    have HW2 : Hid (∀ W v, Sl W v (digs (x % y)) → Calls Tryz.prog 66 #[v] W fun e w' => e = .returned (.int .u64 (x % y : Nat)) ∧ w' = W) := fun W v h => by
      have := word_any h hrl
      rwa [val_digs] at this
    have HCW : Hid (∀ W, Calls Tryz.prog 87 #[.int .u64 y, .int .u64 (x % y : Nat)] W fun e w' => e = .returned (.int .u64 (Nat.gcd x y : Nat)) ∧ ∃ m, w' = W.drewN m) := fun W => by
      have := commonWord_any y (x % y) W hyw (by omega)
      rwa [hg] at this
    have HDO : Hid (∀ W, Calls Tryz.prog 67 #[.int .u64 (Nat.gcd x y : Nat)] W (NewD W (Nat.gcd x y) l)) := fun W => by
      have := digitsOf_at (x := Nat.gcd x y) (n := l) W hgl HL.out.symm
      exact this
    have HY0 := Lib.hid hy0
    clear hyw hr hrl hg hgl hy0
    unfold DivRes at HD
    obtain ⟨g, hg⟩ : ∃ g, g = Nat.gcd x y := ⟨_, rfl⟩
    obtain ⟨r, hr⟩ : ∃ r, r = x % y := ⟨_, rfl⟩
    rw [← hg] at HCW HDO ⊢
    rw [← hr] at HCW HW2 HD
    clear hg hr
    go_enter Tryz.func51, Tryz.ntmps51
    go_wp2_with (go_at_call 68; refine HCM.out.mono ?_; rintro e W1 ⟨rfl, hb1⟩)
    refine wp_loop_rounds 1 ?_
    rw [rounds_succ]
    go_wp2_with fail
    refine (HD.out _ _ _ HY0.out (ha.below hb1) (hb.below hb1)).mono ?_
    rintro e W2 ⟨aq, cq, ar, cr, rfl, hsq, hsr, hb2⟩
    have hbb : Below w.heap.size w W2 := hb1.trans (hb2.mono hb1.size)
    have HSR := Lib.hid hsr
    clear hsq hsr
    go_wp2_with fail
    refine (HW1.out _ _ (hb.below hbb)).mono ?_
    rintro e w' ⟨rfl, rfl⟩
    go_wp2_with fail
    refine (HW2.out _ _ HSR.out.sl).mono ?_
    rintro e w'' ⟨rfl, rfl⟩
    go_wp2_with fail
    refine (HCW.out _).mono ?_
    rintro e w3 ⟨rfl, m, rfl⟩
    go_wp2_with fail
    refine (HDO.out _).mono ?_
    rintro e W4 ⟨ao, cap, rfl, hs4, hb4⟩
    have HS4 := Lib.hid hs4
    clear hs4
    go_wp2
    go_ret
    have hz : Below w.heap.size w (w''.drewN m) := below_drewN' hbb m
    exact ⟨_, _, rfl, HS4.out.mono hz.size, hz.trans (hb4.mono hz.size)⟩

theorem common_any {w : World} {va vb : Value} {x y l : Nat} (ha : Sl w va (digs x)) (hb : Sl w vb (digs y)) (hla : (digs x).length ≤ 256) (hlb : (digs y).length ≤ 256) (h2 : (digs x).length ≤ 2 ∨ (digs y).length ≤ 2) (hl : (digs (Nat.gcd x y)).length = l)
    (hd : ∀ (u v : Nat) W va vb, (u = x ∧ v = y ∨ u = y ∧ v = x) → v ≠ 0 → Sl W va (digs u) → Sl W vb (digs v) → Calls Tryz.prog 44 #[va, vb] W (DivRes W u v)) :
    Calls Tryz.prog 51 #[va, vb] w fun e w' => ∃ ao cap, e = .returned (.slice ao l cap) ∧ Sw w.heap.size w' (.slice ao l cap) (digs (Nat.gcd x y)) ∧ Below w.heap.size w w' := by
  rcases Nat.lt_or_ge x y with h | h
  · have := digs_mono (Nat.le_of_lt h)
    rw [Nat.gcd_comm] at hl ⊢
    exact common_lt hb ha hlb (by omega) h hl.symm (fun W va vb hv h1 h2 => hd y x W va vb (.inr ⟨rfl, rfl⟩) hv h1 h2)
  · have := digs_mono h
    exact common_ge ha hb hla (by omega) h hl.symm (fun W va vb hv h1 h2 => hd x y W va vb (.inl ⟨rfl, rfl⟩) hv h1 h2)

set_option maxRecDepth 10000 in
set_option maxHeartbeats 1000000 in
theorem gcd_any {w : World} {x y : Value} {a b : Int} (hx : Nu w x a) (hy : Nu w y b) (h2 : (digs a.natAbs).length ≤ 2 ∨ (digs b.natAbs).length ≤ 2)
    (hd : ∀ (u v : Nat) W va vb, (u = a.natAbs ∧ v = b.natAbs ∨ u = b.natAbs ∧ v = a.natAbs) → v ≠ 0 → Sl W va (digs u) → Sl W vb (digs v) → Calls Tryz.prog 44 #[va, vb] W (DivRes W u v)) :
    Calls Tryz.prog 17 #[x, y] w (NumRes w (Nat.gcd a.natAbs b.natAbs : Nat)) := by
  obtain ⟨sa, rfl, ha, la⟩ := hx
  obtain ⟨sb, rfl, hb, lb⟩ := hy
  have ra := rightB_digs a la
  have rb := rightB_digs b lb
  obtain ⟨na, hna⟩ : ∃ na, na = decide (a < 0) := ⟨_, rfl⟩
  obtain ⟨nb, hnb⟩ : ∃ nb, nb = decide (b < 0) := ⟨_, rfl⟩
  rw [← hna] at ra ⊢
  rw [← hnb] at rb ⊢
  have HNA := Lib.hid hna
  have HNB := Lib.hid hnb
  clear hna hnb
  have R1 : ∀ W, Sl W sa (digs a.natAbs) → Calls Tryz.prog 32 #[.agg #[.bool na, sa]] W fun e w' => e = .returned (.bool true) ∧ w' = W.alloc (.cells #[.bool na, sa] 27) := fun W h => by have := right_any na h (by omega); rwa [ra] at this
  have R2 : ∀ W, Sl W sb (digs b.natAbs) → Calls Tryz.prog 32 #[.agg #[.bool nb, sb]] W fun e w' => e = .returned (.bool true) ∧ w' = W.alloc (.cells #[.bool nb, sb] 27) := fun W h => by have := right_any nb h (by omega); rwa [rb] at this
  have HR1 := Lib.hid R1
  have HR2 := Lib.hid R2
  clear R1 R2 ra rb
  have HD := Lib.hid hd
  have H2 := Lib.hid h2
  clear hd h2
  go_enter Tryz.func17, Tryz.ntmps17
  go_wp2_with (first | (go_at_call_of 32 (Value.agg #[.bool na, sa]); refine (HR1.out _ (ha.below (by go_grown))).mono ?_; rintro e w' ⟨rfl, rfl⟩) | (go_at_call_of 32 (Value.agg #[.bool nb, sb]); refine (HR2.out _ (hb.below (by go_grown))).mono ?_; rintro e w' ⟨rfl, rfl⟩))
  have HB : Box3 ((((w.alloc (.cells #[.bool na, sa] 27)).alloc (.cells #[.bool nb, sb] 27)).alloc (.cells #[.bool false, .slice none 0 0] 27)).alloc (.cells #[.bool na, sa] 27) |>.alloc (.cells #[.bool nb, sb] 27)) w.heap.size na nb sa sb a.natAbs b.natAbs :=
    box3_new ha hb (by go_grown)
  have HBL : Below w.heap.size w ((((w.alloc (.cells #[.bool na, sa] 27)).alloc (.cells #[.bool nb, sb] 27)).alloc (.cells #[.bool false, .slice none 0 0] 27)).alloc (.cells #[.bool na, sa] 27) |>.alloc (.cells #[.bool nb, sb] 27)) := by go_grown
  revert HB HBL
  generalize ((((w.alloc (.cells #[.bool na, sa] 27)).alloc (.cells #[.bool nb, sb] 27)).alloc (.cells #[.bool false, .slice none 0 0] 27)).alloc (.cells #[.bool na, sa] 27) |>.alloc (.cells #[.bool nb, sb] 27)) = W
  intro HB HBL
  have a0 := HB.a0
  have a1 := HB.a1
  have b0 := HB.b0
  have b1 := HB.b1
  obtain ⟨n, hn⟩ : ∃ n, n = (digs (Nat.gcd a.natAbs b.natAbs)).length := ⟨_, rfl⟩
  have HN := Lib.hid hn
  clear hn
  refine (common_any HB.sa HB.sb la lb H2.out HN.out.symm HD.out).mono ?_
  rintro e w1 ⟨ao, cap, rfl, hs1, hb1'⟩
  have HB1 := HB.below hb1'
  obtain ⟨r0, r1, f0, f1⟩ := HB1.cells
  have hz := HB1.lt
  have hbw := hb1'.mono (Nat.le_of_lt HB.lt)
  have hbw0 := Nat.le_of_lt hz
  go_wp2_with (go_at_call 47; refine (made_any _ _ _ _ _).mono ?_; rintro e w2 ⟨rfl, rfl⟩)
  have HHs := Lib.hid hs1
  clear hs1
  have hfin : Below w.heap.size w (((w1.setCell ⟨w.heap.size + 1 + 1, 0, none⟩ (.bool (mkN false n))).setCell ⟨w.heap.size + 1 + 1, 1, none⟩ (.slice (mkA ao n) (mkL n) (mkC n cap))).alloc (.cells #[.bool (mkN false n), .slice (mkA ao n) (mkL n) (mkC n cap)] 27)) :=
    (((HBL.trans (hb1'.mono (by have := HB.lt; omega))).setCell (by simp; omega) _).setCell (by simp; omega) _).alloc (by simp; omega) _
  obtain ⟨q0, q1⟩ := res_cells HB1.r (.bool (mkN false n)) (.slice (mkA ao n) (mkL n) (mkC n cap)) (.cells #[.bool (mkN false n), .slice (mkA ao n) (mkL n) (mkC n cap)] 27)
  have hsw := HHs.out.after (g := w.heap.size + 1 + 1) HB.lt (.bool (mkN false n)) (.slice (mkA ao n) (mkL n) (mkC n cap)) (.cells #[.bool (mkN false n), .slice (mkA ao n) (mkL n) (mkC n cap)] 27)
  revert q0 q1 hfin hsw
  generalize (((w1.setCell ⟨w.heap.size + 1 + 1, 0, none⟩ (.bool (mkN false n))).setCell ⟨w.heap.size + 1 + 1, 1, none⟩ (.slice (mkA ao n) (mkL n) (mkC n cap))).alloc (.cells #[.bool (mkN false n), .slice (mkA ao n) (mkL n) (mkC n cap)] 27)) = W3
  intro hfin q0 q1 hsw
  have HSW := Lib.hid hsw
  clear hsw
  refine bodyPost_ret (v := .tuple #[.agg #[.bool (mkN false n), .slice (mkA ao n) (mkL n) (mkC n cap)], .bool (mkK n)]) (by simp [results, Tryz.results17, go_sem, q0, q1]) rfl ?_
  exact numRes_made hfin (by rw [Int.natAbs_natCast]; exact HN.out) (fun hz => by simp) (fun _ => by rw [Int.natAbs_natCast]; exact HSW.out.mono HBL.size)

end Go.Proofs.YtdgmjmckeeeljaaGreatDoor

namespace Go.Proofs.YtdgmjmckeeeljaaGreatDoor
open Go.RowKit

/-- The number of binary digits. -/
def bitsB (neg : Bool) (ds : List Nat) : Nat := if ds = [] then 0 else if rightB neg ds = true then 32 * (ds.length - 1) + Lib.bitLen (ds.getD (ds.length - 1) 0) else 0

set_option maxRecDepth 10000 in
set_option maxHeartbeats 1000000 in
theorem bits_any {w : World} {s : Value} {ds : List Nat} (neg : Bool) (h : Sl w s ds) (hreach : ds.length ≤ 140737488351232) :
    Calls Tryz.prog 33 #[.agg #[.bool neg, s]] w fun e w' => e = .returned (.int .i64 (bitsB neg ds : Nat)) ∧ Below w.heap.size w w' := by
  obtain ⟨ao, cap, rfl⟩ := h.mk'
  have HR := Lib.hid (fun W (h : Sl W (.slice ao ds.length cap) ds) => right_any neg h hreach)
  obtain ⟨n, hn⟩ : ∃ n, n = ds.length := ⟨_, rfl⟩
  by_cases h0 : n = 0
  · subst h0
    obtain rfl : ds = [] := List.eq_nil_of_length_eq_zero hn.symm
    have e0 : bitsB neg [] = 0 := rfl
    rw [e0]
    clear e0 hn HR h
    go_enter Tryz.func33, Tryz.ntmps33
    go_wp2
    go_returns
    exact ⟨rfl, by go_grown⟩
  · obtain ⟨d, hd⟩ : ∃ d, d = ds.getD (n - 1) 0 := ⟨_, rfl⟩
    have e0 : bitsB neg ds = if rightB neg ds = true then 32 * (n - 1) + Lib.bitLen d else 0 := by
      unfold bitsB
      rw [if_neg (by intro h; apply h0; rw [hn, h]; rfl), hd, hn]
    rw [e0]
    have hlen := h.len
    obtain ⟨rb, hrb⟩ : ∃ rb, rb = rightB neg ds := ⟨_, rfl⟩
    have hlim : rb = true → n ≤ 256 := by
      intro hr; rw [hrb] at hr; unfold rightB at hr
      rw [if_neg (by intro h; apply h0; rw [hn, h]; rfl)] at hr
      simp at hr; omega
    rw [← hrb]
    rw [← hrb] at HR
    rw [← hn] at h HR hreach ⊢
    obtain ⟨b, off, rfl, hcap, hbs, hcl⟩ := h.at h0
    have hc := hcl (n - 1) (by omega)
    have hd4 : d < 4294967296 := by rw [hd]; rw [val_digit h.bd]; exact Nat.mod_lt _ (by omega)
    rw [← hd] at hc
    have hD := Lib.hid hd
    have hN := Lib.hid hn
    have H4 := Lib.hid hd4
    clear hd hn e0 hcl hrb hlen hd4
    have hz : ((n : Int) == 0) = false := by simp; omega
    obtain ⟨m, rfl⟩ : ∃ m, n = m + 1 := ⟨n - 1, by omega⟩
    have hm1 : m + 1 - 1 = m := by omega
    rw [hm1] at hc ⊢
    cases rb with
    | false =>
      go_enter Tryz.func33, Tryz.ntmps33
      go_wp2_with (first | (go_at_call 32; refine (HR.out _ (h.below (by go_grown))).mono ?_; rintro e w' ⟨rfl, rfl⟩))
      go_returns
      exact ⟨rfl, by go_grown⟩
    | true =>
      have hm := hlim rfl
      clear hlim
      obtain ⟨L, hL⟩ : ∃ L, L = Lib.bitLen d := ⟨_, rfl⟩
      have hL64 : L ≤ 64 := by rw [hL]; exact Lib.bitLen_le d 64 (by omega) (by have := H4.out; omega)
      have HB := Lib.hid (fun W => Tryz.bits_Len32 (d : Int) W (by omega) (by have := H4.out; omega))
      rw [show (d : Int).toNat = d from rfl, ← hL] at HB
      rw [← hL]
      clear hL
      go_enter Tryz.func33, Tryz.ntmps33
      go_wp2_with (first | (go_at_call 32; refine (HR.out _ (h.below (by go_grown))).mono ?_; rintro e w' ⟨rfl, rfl⟩) | (go_at_call 70; refine (HB.out _).mono ?_; rintro e w' ⟨rfl, rfl⟩))
      go_returns
      refine ⟨?_, by go_grown⟩
      congr 2

end Go.Proofs.YtdgmjmckeeeljaaGreatDoor

namespace Go.Proofs.YtdgmjmckeeeljaaGreatDoor
open Go.RowKit

theorem eq_of_getD {xs ys : List Nat} (hl : xs.length = ys.length) (h : ∀ j, j < xs.length → xs.getD j 0 = ys.getD j 0) : xs = ys := by
  refine List.ext_getElem hl fun i h1 h2 => ?_
  have := h i h1
  simpa [List.getD, List.getElem?_eq_getElem h1, List.getElem?_eq_getElem h2] using this

def SameRes (w : World) (r : Bool) (e : Ending) (w' : World) : Prop := e = .returned (.bool r) ∧ Below w.heap.size w w'

set_option maxRecDepth 10000 in
set_option maxHeartbeats 1000000 in
theorem same_sign {w : World} {sa sb : Value} (na nb : Bool) (h : (na == nb) = false) :
    Calls Tryz.prog 19 #[.agg #[.bool na, sa], .agg #[.bool nb, sb]] w (SameRes w false) := by
  go_enter Tryz.func19, Tryz.ntmps19
  go_wp2
  go_returns
  exact ⟨rfl, by go_grown⟩

set_option maxRecDepth 10000 in
set_option maxHeartbeats 1000000 in
theorem same_len {w : World} {aa ab : Option Addr} {n m ca cb : Nat} (na : Bool) (h : ((n : Int) == (m : Int)) = false) :
    Calls Tryz.prog 19 #[.agg #[.bool na, .slice aa n ca], .agg #[.bool na, .slice ab m cb]] w (SameRes w false) := by
  go_enter Tryz.func19, Tryz.ntmps19
  go_wp2
  go_returns
  exact ⟨rfl, by go_grown⟩

set_option maxRecDepth 10000 in
set_option maxHeartbeats 1000000 in
theorem same_nil {w : World} {aa ab : Option Addr} {ca cb : Nat} (na : Bool) :
    Calls Tryz.prog 19 #[.agg #[.bool na, .slice aa 0 ca], .agg #[.bool na, .slice ab 0 cb]] w (SameRes w true) := by
  go_enter Tryz.func19, Tryz.ntmps19
  go_wp2
  go_rounds 1
  go_returns
  exact ⟨rfl, by go_grown⟩

set_option maxRecDepth 10000 in
set_option maxHeartbeats 1000000 in
theorem same_pos {w : World} {sa sb : Value} {xs ys : List Nat} {n : Nat} (na : Bool) (ha : Sl w sa xs) (hb : Sl w sb ys) (h1 : xs.length = n) (h2 : ys.length = n) (h0 : n ≠ 0) :
    Calls Tryz.prog 19 #[.agg #[.bool na, sa], .agg #[.bool na, sb]] w (SameRes w (decide (xs = ys))) := by
  obtain ⟨aa, ca, rfl⟩ := ha.mk'
  obtain ⟨ab, cb, rfl⟩ := hb.mk'
  rw [h1] at ha ⊢
  rw [h2] at hb ⊢
  have HE : Hid ((∀ j, j < n → xs.getD j 0 = ys.getD j 0) → xs = ys) := fun h => eq_of_getD (by omega) (by rw [h1]; exact h)
  have HD : Hid (∀ k, xs.getD k 0 ≠ ys.getD k 0 → xs ≠ ys) := fun k h e => h (by rw [e])
  obtain ⟨ba, oa, rfl, hca, hba, hcla⟩ := ha.at h0
  obtain ⟨bb, ob, rfl, hcb, hbb, hclb⟩ := hb.at h0
  have hlen : n ≤ maxLen := by rw [← h1]; exact ha.len
  unfold maxLen at hlen
  have HAL := Lib.hid h1
  have HBL := Lib.hid h2
  clear h1 h2 ha hb
  have HA := Lib.hid hcla
  have HB := Lib.hid hclb
  clear hcla hclb
  go_enter Tryz.func19, Tryz.ntmps19
  go_wp2
  go_loopw [5] (fun i wr => ∃ k m : Nat, k ≤ n ∧ i = .int .i64 (k : Nat) ∧ Hid (∀ j, j < k → xs.getD j 0 = ys.getD j 0) ∧ wr = ((w.alloc (.cells #[.bool na, .slice (some ⟨ba, oa, none⟩) n ca] 27)).alloc (.cells #[.bool na, .slice (some ⟨bb, ob, none⟩) n cb] 27)).drewN m) (fun i _ => n - (intOf i).toNat)
  case atStart => exact ⟨0, 0, by omega, rfl, Lib.hid (fun j hj => by omega), rfl⟩
  case round =>
    obtain ⟨k, m, hk, rfl, hj, rfl⟩ := hrel
    by_cases hkn : k = n
    · subst hkn
      have he := HE.out hj.out
      go_wp2
      go_ret
      exact ⟨by simp [he], below_drewN' (by go_grown) _⟩
    · have hlt : k < n := by omega
      have hA := HA.out
      have hB := HB.out
      have ea := HAL.out
      have eb := HBL.out
      have hx := hA k (by omega)
      have hy := hB k (by omega)
      obtain ⟨x, hxx⟩ : ∃ x, x = xs.getD k 0 := ⟨_, rfl⟩
      obtain ⟨y, hyy⟩ : ∃ y, y = ys.getD k 0 := ⟨_, rfl⟩
      rw [← hxx] at hx
      rw [← hyy] at hy
      have hlx := block_lt_of_cell hx
      by_cases hxy : x = y
      · have hj2 : ∀ j, j < k + 1 → xs.getD j 0 = ys.getD j 0 := fun j h => by
          by_cases hjk : j = k
          · rw [hjk, ← hxx, ← hyy, hxy]
          · exact hj.out j (by omega)
        have HJ := Lib.hid hj2
        clear hA hB hj2 hxx hyy
        subst hxy
        clear ea eb
        go_wp2
        go_quiet (fail)
        go_wp2
        go_roundw
        case rel => exact ⟨k + 1, m + nq, by omega, by go_num, HJ, rfl⟩
        case measure => simp only [intOf]; omega
      · have hne : xs ≠ ys := HD.out k (by rw [← hxx, ← hyy]; exact hxy)
        have hf : ((x : Int) != (y : Int)) = true := by simp; omega
        clear hA hB hxx hyy ea eb
        go_wp2
        go_quiet (fail)
        go_wp2
        go_ret
        exact ⟨by simp [hne], below_drewN' (below_drewN' (by go_grown) _) _⟩

/-- Same of two Nums whose slices read as digits. -/
theorem same_any {w : World} {sa sb : Value} {xs ys : List Nat} (na nb : Bool) (ha : Sl w sa xs) (hb : Sl w sb ys) :
    Calls Tryz.prog 19 #[.agg #[.bool na, sa], .agg #[.bool nb, sb]] w (SameRes w (decide (na = nb ∧ xs = ys))) := by
  by_cases hn : na = nb
  · subst hn
    by_cases hl : xs.length = ys.length
    · have e : decide (na = na ∧ xs = ys) = decide (xs = ys) := by simp
      rw [e]
      by_cases h0 : xs.length = 0
      · obtain rfl := List.eq_nil_of_length_eq_zero h0
        obtain rfl := List.eq_nil_of_length_eq_zero (hl.symm.trans h0)
        obtain ⟨aa, ca, rfl⟩ := ha.mk'
        obtain ⟨ab, cb, rfl⟩ := hb.mk'
        exact same_nil na
      · exact same_pos na ha hb rfl hl.symm h0
    · have e : decide (na = na ∧ xs = ys) = false := by
        rw [decide_eq_false_iff_not]; exact fun h => hl (by rw [h.2])
      rw [e]
      obtain ⟨aa, ca, rfl⟩ := ha.mk'
      obtain ⟨ab, cb, rfl⟩ := hb.mk'
      exact same_len na (by simp; omega)
  · have e : decide (na = nb ∧ xs = ys) = false := by
      rw [decide_eq_false_iff_not]; exact fun h => hn h.1
    rw [e]
    exact same_sign na nb (by cases na <;> cases nb <;> simp_all)

/-- Same of right Nums is equality. -/
theorem same_nu {w : World} {x y : Value} {a b : Int} (hx : Nu w x a) (hy : Nu w y b) : Calls Tryz.prog 19 #[x, y] w (SameRes w (decide (a = b))) := by
  obtain ⟨sa, rfl, ha, la⟩ := hx
  obtain ⟨sb, rfl, hb, lb⟩ := hy
  have := same_any (decide (a < 0)) (decide (b < 0)) ha hb
  have e : decide (decide (a < 0) = decide (b < 0) ∧ digs a.natAbs = digs b.natAbs) = decide (a = b) := by
    by_cases h : a = b
    · subst h; simp
    · rw [decide_eq_false h, decide_eq_false_iff_not]
      rintro ⟨h1, h2⟩
      have h3 := digs_inj h2
      apply h
      simp only [decide_eq_decide] at h1
      omega
  rwa [e] at this

end Go.Proofs.YtdgmjmckeeeljaaGreatDoor

namespace Go.Proofs.YtdgmjmckeeeljaaGreatDoor
open Go.RowKit

set_option maxRecDepth 10000 in
set_option maxHeartbeats 1000000 in
theorem is_any {w : World} {sa sb : Value} {xs ys : List Nat} (na nb r : Bool) (hr : r = decide (na = nb ∧ xs = ys)) (ha : Sl w sa xs) (hb : Sl w sb ys) :
    Calls Tryz.prog 34 #[.agg #[.bool na, sa], .bool true, .bool nb, sb] w (SameRes w r) := by
  have HS : Hid (∀ W, Sl W sa xs → Sl W sb ys → Calls Tryz.prog 19 #[.agg #[.bool na, sa], .agg #[.bool nb, sb]] W (SameRes W (decide (na = nb ∧ xs = ys)))) := fun W h1 h2 => same_any na nb h1 h2
  rw [← hr] at HS
  clear hr
  obtain ⟨aa, ca, rfl⟩ := ha.mk'
  obtain ⟨ab, cb, rfl⟩ := hb.mk'
  obtain ⟨n, hn⟩ : ∃ n, n = xs.length := ⟨_, rfl⟩
  obtain ⟨m, hm⟩ : ∃ m, m = ys.length := ⟨_, rfl⟩
  rw [← hn, ← hm] at HS
  rw [← hn] at ha ⊢
  rw [← hm] at hb ⊢
  clear hn hm
  go_enter Tryz.func34, Tryz.ntmps34
  go_wp2_with (go_at_call 19; refine (HS.out _ (ha.below (by go_grown)) (hb.below (by go_grown))).mono ?_; rintro e W2 ⟨rfl, hb2⟩)
  go_returns
  exact ⟨rfl, Below.trans (by go_grown) (hb2.mono (by simp))⟩

/-- divide by a divisor of one digit. -/
theorem divide_small {w : World} {va vb : Value} {x y : Nat} (ha : Sl w va (digs x)) (hb : Sl w vb (digs y)) (h0 : y ≠ 0) (hy : y < 4294967296) (hla : (digs x).length ≤ 256) :
    Calls Tryz.prog 44 #[va, vb] w (DivRes w x y) := by
  rcases Nat.lt_or_ge x y with h | h
  · exact divide_less ha hb h hla (by rw [digs_small h0 hy]; simp)
  · exact divide_one ha hb h0 h hy hla

theorem div_small {w : World} {x y : Value} {a b : Int} (hx : Nu w x a) (hy : Nu w y b) (hb0 : b ≠ 0) (hb : b.natAbs < 4294967296) : Calls Tryz.prog 15 #[x, y] w (DivOut w a b) :=
  div_any hx hy hb0 (fun W va vb h1 h2 => divide_small h1 h2 (by omega) hb hx.choose_spec.2.2)

/-- Gcd of numbers that have one digit each. -/
theorem gcd_small {w : World} {x y : Value} {a b : Int} (hx : Nu w x a) (hy : Nu w y b) (ha : a.natAbs < 4294967296) (hb : b.natAbs < 4294967296) : Calls Tryz.prog 17 #[x, y] w (NumRes w (Nat.gcd a.natAbs b.natAbs : Nat)) :=
  gcd_any hx hy (.inl (digs_length_le.2 (by omega))) (fun u v W va vb h hv h1 h2 => divide_small h1 h2 hv (by omega) (by
    rcases h with ⟨rfl, -⟩ | ⟨rfl, -⟩
    · exact hx.choose_spec.2.2
    · exact hy.choose_spec.2.2))

theorem fit_i64 {z : Int} (h1 : -9223372036854775808 ≤ z) (h2 : z ≤ 9223372036854775807) : (digs z.natAbs).length ≤ 256 :=
  Nat.le_trans (digs_word (by omega)) (by omega)

set_option maxRecDepth 10000 in
set_option maxHeartbeats 1000000 in
theorem divides_yes {w : World} (a b : Int) (hb0 : b ≠ 0) (hb : b.natAbs < 4294967296) (ha1 : -2147483648 ≤ a) (ha2 : a ≤ 2147483647) :
    Calls Tryz.prog 35 #[.int .i64 a, .int .i64 b, .int .i64 (a / b), .int .i64 (a % b)] w (SameRes w true) := by
  have hq : (a / b).natAbs ≤ a.natAbs := Int.natAbs_ediv_le_natAbs a b
  have hr : (a % b).natAbs < b.natAbs := by
    have h1 := Int.emod_nonneg a hb0
    have h2 := Int.emod_lt a hb0
    omega
  have O1 : Hid (∀ W, Calls Tryz.prog 27 #[.int .i64 a] W fun e w' => ∃ x, e = .returned x ∧ Nu w' x a ∧ Below W.heap.size W w') := fun W => (of_any a W (by omega) (by omega)).mono fun e w' h => h.nu (fit_i64 (by omega) (by omega))
  have O2 : Hid (∀ W, Calls Tryz.prog 27 #[.int .i64 b] W fun e w' => ∃ x, e = .returned x ∧ Nu w' x b ∧ Below W.heap.size W w') := fun W => (of_any b W (by omega) (by omega)).mono fun e w' h => h.nu (fit_i64 (by omega) (by omega))
  have DV : Hid (∀ W x y, Nu W x a → Nu W y b → Calls Tryz.prog 15 #[x, y] W (DivOut W a b)) := fun W x y h1 h2 => div_small h1 h2 hb0 hb
  obtain ⟨q, hq0⟩ : ∃ q, q = a / b := ⟨_, rfl⟩
  obtain ⟨r, hr0⟩ : ∃ r, r = a % b := ⟨_, rfl⟩
  have I1 : Hid (∀ W x, Nu W x q → Calls Tryz.prog 26 #[x] W (IntRes W q true)) := fun W x h => int_yes h (by omega) (by omega)
  have I2 : Hid (∀ W x, Nu W x r → Calls Tryz.prog 26 #[x] W (IntRes W r true)) := fun W x h => int_yes h (by omega) (by omega)
  unfold DivOut at DV
  rw [← hq0, ← hr0] at DV ⊢
  clear hq hr hq0 hr0 hb0 hb ha1 ha2
  go_enter Tryz.func35, Tryz.ntmps35
  go_wp2_with (first | (go_at_call_of 27 (Value.int IntKind.i64 a); refine (O1.out _).mono ?_; rintro e W1 ⟨x, rfl, hx, hb1⟩) | (go_at_call_of 27 (Value.int IntKind.i64 b); refine (O2.out _).mono ?_; rintro e W2 ⟨y, rfl, hy, hb2⟩) | (go_at_call 15; refine (DV.out _ _ _ (hx.below hb2) hy).mono ?_; rintro e W3 ⟨n1, a1, l1, c1, n2, a2, l2, c2, rfl, hb3, hq, hr⟩) | (go_at_call_of 26 (Value.agg #[Value.bool n1, Value.slice a1 l1 c1]); refine (I1.out _ _ (hq.below (by go_grown))).mono ?_; rintro e W4 ⟨rfl, hb4⟩; have k0 : W4.cell? ⟨W3.heap.size + 1, 0, none⟩ = some (.bool n2) := (hb4.cell (p := ⟨W3.heap.size + 1, 0, none⟩) (by simp)).trans (by simp [go_sem]); have k1 : W4.cell? ⟨W3.heap.size + 1, 1, none⟩ = some (.slice a2 l2 c2) := (hb4.cell (p := ⟨W3.heap.size + 1, 1, none⟩) (by simp)).trans (by simp [go_sem])) | (go_at_call_of 26 (Value.agg #[Value.bool n2, Value.slice a2 l2 c2]); refine (I2.out _ _ (hr.below (Below.trans (by go_grown) (hb4.mono (by simp; omega))))).mono ?_; rintro e W5 ⟨rfl, hb5⟩))
  go_returns
  have hx1 := hb1.size
  have hx2 := hb2.size
  have hx3 := hb3.size
  have hx4 := hb4.size
  simp at hx4
  have h5 : Below w.heap.size w W3 := (hb1.trans (hb2.mono hx1)).trans (hb3.mono (by omega))
  have h6 : Below w.heap.size w W4 := by
    refine Below.trans ?_ (hb4.mono (by simp; omega))
    refine Below.trans h5 ?_
    go_grown
  exact ⟨rfl, h6.trans (hb5.mono (by omega))⟩

end Go.Proofs.YtdgmjmckeeeljaaGreatDoor

namespace Go.Proofs.YtdgmjmckeeeljaaGreatDoor
open Go.RowKit

def digB (b : UInt8) : Bool := decide (48 ≤ b.toNat) && decide (b.toNat ≤ 57)

/-- Whether a string is the text of a number that is not negative, of at most 2467 digits. -/
def decB (s : ByteArray) : Bool := decide (s.size ≠ 0) && decide (s.size ≤ 2467) && (decide ((s.data.toList.getD 0 0).toNat ≠ 48) || decide (s.size = 1)) && s.data.toList.all digB

theorem eql_empty (s : ByteArray) (h : s.size ≠ 0) : binOp BinOp.eql 9 (.string s) (.string ⟨#[]⟩) = (pure (.bool false) : Sem Value) := by
  rw [binOp_string_eql]
  have : (s.toList == (ByteArray.mk #[]).toList) = false := by
    rw [beq_eq_false_iff_ne, ByteArray.toList_eq, ByteArray.toList_eq]
    intro hs
    apply h
    have : s.data.toList.length = 0 := by rw [hs]; rfl
    rw [Array.length_toList] at this
    exact this
  rw [this]

theorem neq_zero (s : ByteArray) (h0 : (s.data.toList.getD 0 0).toNat = 48) (h : s.size ≠ 0) : binOp BinOp.neq 9 (.string s) (.string ⟨#[48]⟩) = (pure (.bool (!decide (s.size = 1))) : Sem Value) := by
  rw [binOp_string_neq]
  have : (s.toList == (ByteArray.mk #[48]).toList) = decide (s.size = 1) := by
    rw [ByteArray.toList_eq, ByteArray.toList_eq]
    rw [Bool.eq_iff_iff, beq_iff_eq, decide_eq_true_iff]
    have hsz : s.size = s.data.toList.length := by rw [Array.length_toList]; rfl
    rw [hsz]
    constructor
    · intro e; rw [e]; rfl
    · intro e
      match hm : s.data.toList, e with
      | [b], _ =>
        rw [hm] at h0
        have hb : b = 48 := UInt8.toNat_inj.1 (by simpa using h0)
        rw [hb]
  rw [this]

theorem index_first (s : ByteArray) (h : s.size ≠ 0) (w : World) : (Instr.index 9 (.string s) (.int .i64 0)).run Tryz.prog w = .ok (.int .u8 (s.data.toList.getD 0 0).toNat) w := by
  rw [run_index_string _ _ _ _ _ (by first | exact Tryz.underlying9 | kernel_rfl)]
  have h1 : 0 < s.size := by omega
  have h2 : 0 < s.data.size := h1
  have e : s.data.toList.getD 0 0 = s[0] := by
    simp only [List.getD, Array.getElem?_toList]
    rw [Array.getElem?_eq_getElem h2]
    rfl
  rw [dif_pos ⟨by omega, by omega⟩, e]
  rfl

set_option maxRecDepth 10000 in
set_option maxHeartbeats 1000000 in
theorem decimal_empty (w : World) : Calls Tryz.prog 64 #[.string ⟨#[]⟩] w (SameRes w false) := by
  go_enter Tryz.func64, Tryz.ntmps64
  go_wp2
  go_returns
  exact ⟨rfl, by go_grown⟩

set_option maxRecDepth 10000 in
set_option maxHeartbeats 1000000 in
theorem decimal_long (s : ByteArray) (w : World) (h : 2467 < s.size) : Calls Tryz.prog 64 #[.string s] w (SameRes w false) := by
  have e1 := eql_empty s (by omega)
  go_enter Tryz.func64, Tryz.ntmps64
  go_wp2
  go_returns
  exact ⟨rfl, by go_grown⟩

set_option maxRecDepth 10000 in
set_option maxHeartbeats 1000000 in
theorem decimal_zeros (s : ByteArray) (w : World) (h1 : 1 < s.size) (h2 : s.size ≤ 2467) (h0 : (s.data.toList.getD 0 0).toNat = 48) : Calls Tryz.prog 64 #[.string s] w (SameRes w false) := by
  have e1 := eql_empty s (by omega)
  have e2 := neq_zero s h0 (by omega)
  have e3 := index_first s (by omega)
  rw [h0] at e3
  have e4 : (!decide (s.size = 1)) = true := by simp; omega
  rw [e4] at e2
  clear e4 h0
  go_enter Tryz.func64, Tryz.ntmps64
  go_wp2
  go_returns
  exact ⟨rfl, by go_grown⟩

set_option maxRecDepth 10000 in
set_option maxHeartbeats 1000000 in
theorem decimal_loop (s : ByteArray) (w : World) (c : Bool) (h1 : s.size ≠ 0) (h2 : s.size ≤ 2467) (h0 : (s.data.toList.getD 0 0).toNat ≠ 48 ∨ s.size = 1) (hc : c = s.data.toList.all digB) : Calls Tryz.prog 64 #[.string s] w (SameRes w c) := by
  have e1 := eql_empty s h1
  have e3 := index_first s h1
  have hlen : s.data.toList.length = s.size := by rw [Array.length_toList]; rfl
  have hall : (∀ j, j < s.size → digB (s.data.toList.getD j 0) = true) → c = true := fun h => by
    rw [hc, List.all_eq_true]
    intro x hx
    obtain ⟨j, hj, rfl⟩ := List.getElem_of_mem hx
    have := h j (by omega)
    simpa [List.getD, List.getElem?_eq_getElem hj] using this
  have hno : ∀ j, j < s.size → digB (s.data.toList.getD j 0) = false → c = false := fun j hj h => by
    rw [hc]
    rw [Bool.eq_false_iff]
    intro ha
    rw [List.all_eq_true] at ha
    have hj' : j < s.data.toList.length := by omega
    have := ha _ (List.getElem_mem hj')
    simp only [List.getD, List.getElem?_eq_getElem hj', Option.getD_some] at h
    rw [this] at h
    cases h
  have HALL := Lib.hid hall
  have HNO := Lib.hid hno
  have HC : Hid (∀ j, j < s.size → (Lib.bytesWorld w 5 s).cell? ⟨w.heap.size, j, none⟩ = some (.int .u8 (s.data.toList.getD j 0).toNat)) := fun j hj => Lib.bytesWorld_cell w 5 s j hj
  have HBW : Hid (Below w.heap.size w (Lib.bytesWorld w 5 s)) := Lib.bytesWorld_below _ _ _
  have hconv := Lib.run_convert_string_bytes (P := Tryz.prog) w 9 56 5 s (by first | exact Tryz.underlying9 | kernel_rfl) (by first | exact Tryz.underlying56 | kernel_rfl) (by first | exact Tryz.underlying5 | kernel_rfl)
  obtain ⟨W, hW⟩ : ∃ W, W = Lib.bytesWorld w 5 s := ⟨_, rfl⟩
  rw [← hW] at HC HBW hconv
  obtain ⟨d, hd⟩ : ∃ d, d = (s.data.toList.getD 0 0).toNat := ⟨_, rfl⟩
  obtain ⟨n, hn⟩ : ∃ n, n = s.size := ⟨_, rfl⟩
  have hcap : n ≤ grownCap w n 0 5 := grownCap_ge _ _ _ _
  rw [← hd] at e3 h0
  clear hall hno hlen hc hW
  have HN := Lib.hid hn
  rw [← hn] at hconv
  by_cases h48 : d = 48
  · have e2 := neq_zero s (by rw [← hd, h48]) h1
    have hs1 : s.size = 1 := by omega
    rw [hs1] at e2
    subst h48
    have en : n = 1 := by rw [hn, hs1]
    clear hn hd hs1
    have e4 : (!decide ((1 : Nat) = 1)) = false := rfl
    rw [e4] at e2
    clear e4
    go_enter Tryz.func64, Tryz.ntmps64
    go_wp2
    go_loop [24] (fun i => ∃ k : Nat, k ≤ n ∧ i = .int .i64 (k : Nat) ∧ Hid (∀ j, j < k → digB (s.data.toList.getD j 0) = true)) (fun i => n - (intOf i).toNat)
    case atStart => exact ⟨0, by omega, rfl, Lib.hid (fun j hj => by omega)⟩
    case round =>
      obtain ⟨k, hk, rfl, hj⟩ := hrel
      by_cases hkn : k = n
      · have he := HALL.out (fun j hj' => hj.out j (by rw [hkn, HN.out]; exact hj'))
        subst he
        subst hkn
        go_wp2
        go_ret
        exact ⟨rfl, HBW.out⟩
      · have hx := HC.out k (by rw [← HN.out]; omega)
        have hkl : k < s.size := by rw [← HN.out]; omega
        by_cases hg : digB (s.data.toList.getD k 0) = true
        · have hJ : ∀ j, j < k + 1 → digB (s.data.toList.getD j 0) = true := fun j hj' => by
            by_cases hjk : j = k
            · rw [hjk]; exact hg
            · exact hj.out j (by omega)
          have HJ := Lib.hid hJ
          clear hJ
          obtain ⟨x, hxx⟩ : ∃ x, x = (s.data.toList.getD k 0).toNat := ⟨_, rfl⟩
          unfold digB at hg
          rw [← hxx] at hx hg
          simp only [Bool.and_eq_true, decide_eq_true_eq] at hg
          obtain ⟨g1, g2⟩ := hg
          clear hxx
          go_wp2
          go_round
          case rel => exact ⟨k + 1, by omega, by go_num, HJ⟩
          case measure => simp only [intOf]; omega
        · have he := HNO.out k hkl (by simpa using hg)
          subst he
          obtain ⟨x, hxx⟩ : ∃ x, x = (s.data.toList.getD k 0).toNat := ⟨_, rfl⟩
          unfold digB at hg
          rw [← hxx] at hx hg
          simp only [Bool.and_eq_true, decide_eq_true_eq] at hg
          clear hxx
          by_cases g1 : x < 48
          · go_wp2
            go_ret
            exact ⟨rfl, HBW.out⟩
          · have g2 : 57 < x := by omega
            go_wp2
            go_ret
            exact ⟨rfl, HBW.out⟩
  · have h49 : ((d : Int) == 48) = false := by simp; omega
    clear hn hd
    go_enter Tryz.func64, Tryz.ntmps64
    go_wp2
    go_loop [24] (fun i => ∃ k : Nat, k ≤ n ∧ i = .int .i64 (k : Nat) ∧ Hid (∀ j, j < k → digB (s.data.toList.getD j 0) = true)) (fun i => n - (intOf i).toNat)
    case atStart => exact ⟨0, by omega, rfl, Lib.hid (fun j hj => by omega)⟩
    case round =>
      obtain ⟨k, hk, rfl, hj⟩ := hrel
      by_cases hkn : k = n
      · have he := HALL.out (fun j hj' => hj.out j (by rw [hkn, HN.out]; exact hj'))
        subst he
        subst hkn
        go_wp2
        go_ret
        exact ⟨rfl, HBW.out⟩
      · have hx := HC.out k (by rw [← HN.out]; omega)
        have hkl : k < s.size := by rw [← HN.out]; omega
        by_cases hg : digB (s.data.toList.getD k 0) = true
        · have hJ : ∀ j, j < k + 1 → digB (s.data.toList.getD j 0) = true := fun j hj' => by
            by_cases hjk : j = k
            · rw [hjk]; exact hg
            · exact hj.out j (by omega)
          have HJ := Lib.hid hJ
          clear hJ
          obtain ⟨x, hxx⟩ : ∃ x, x = (s.data.toList.getD k 0).toNat := ⟨_, rfl⟩
          unfold digB at hg
          rw [← hxx] at hx hg
          simp only [Bool.and_eq_true, decide_eq_true_eq] at hg
          obtain ⟨g1, g2⟩ := hg
          clear hxx
          go_wp2
          go_round
          case rel => exact ⟨k + 1, by omega, by go_num, HJ⟩
          case measure => simp only [intOf]; omega
        · have he := HNO.out k hkl (by simpa using hg)
          subst he
          obtain ⟨x, hxx⟩ : ∃ x, x = (s.data.toList.getD k 0).toNat := ⟨_, rfl⟩
          unfold digB at hg
          rw [← hxx] at hx hg
          simp only [Bool.and_eq_true, decide_eq_true_eq] at hg
          clear hxx
          by_cases g1 : x < 48
          · go_wp2
            go_ret
            exact ⟨rfl, HBW.out⟩
          · have g2 : 57 < x := by omega
            go_wp2
            go_ret
            exact ⟨rfl, HBW.out⟩

/-- num.decimal. -/
theorem decimal_any (s : ByteArray) (w : World) : Calls Tryz.prog 64 #[.string s] w (SameRes w (decB s)) := by
  by_cases h1 : s.size = 0
  · have e : s = ⟨#[]⟩ := by
      apply ByteArray.ext
      exact Array.eq_empty_of_size_eq_zero h1
    have e2 : decB s = false := by unfold decB; rw [h1]; rfl
    rw [e2, e]
    exact decimal_empty w
  · by_cases h2 : 2467 < s.size
    · have e2 : decB s = false := by
        unfold decB
        have : decide (s.size ≤ 2467) = false := decide_eq_false (by omega)
        rw [this, Bool.and_false]; rfl
      rw [e2]
      exact decimal_long s w h2
    · by_cases h0 : (s.data.toList.getD 0 0).toNat = 48 ∧ s.size ≠ 1
      · have e2 : decB s = false := by
          unfold decB
          have : (decide ((s.data.toList.getD 0 0).toNat ≠ 48) || decide (s.size = 1)) = false := by rw [decide_eq_false (by intro h; exact h h0.1), decide_eq_false h0.2]; rfl
          rw [this, Bool.and_false]; rfl
        rw [e2]
        exact decimal_zeros s w (by omega) (by omega) h0.1
      · refine decimal_loop s w (decB s) h1 (by omega) (by omega) ?_
        unfold decB
        have a1 : decide (s.size ≠ 0) = true := decide_eq_true h1
        have a2 : decide (s.size ≤ 2467) = true := decide_eq_true (by omega)
        have a3 : (decide ((s.data.toList.getD 0 0).toNat ≠ 48) || decide (s.size = 1)) = true := by
          rw [Bool.or_eq_true, decide_eq_true_iff, decide_eq_true_iff]; omega
        rw [a1, a2, a3]; rfl

end Go.Proofs.YtdgmjmckeeeljaaGreatDoor
