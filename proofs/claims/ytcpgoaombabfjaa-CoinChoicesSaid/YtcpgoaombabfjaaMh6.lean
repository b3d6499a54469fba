/- Contract of coin: unevenness, Uneven. Condition: the slices read as ints, at most eight arms. Contracts of coin: Uneven, Next. Condition: the slices read as ints, at most eight arms. Contract of coin: Next. Condition: the slices read as ints, at most eight arms. What the calls of CoinEven return. No condition beyond those that are stated. Regions that draw their order, by what each result is and what the world is, where the world is told by the results. No condition. Contract of coin: Preferred: what its loop keeps; the results in its round. No condition beyond those that are stated. -/
import Derived.Test.YtcpgoaombabfjaaMh5
import Derived.Test.YtcpgoaombabfjaaMh2
import Derived.Test.YtcpgoaombabfjaaMh3
import Derived.Test.YtcpgoaombabfjaaMh4
namespace Go.Proofs.Ytcpgoaombabfjaa
open Go.RowKit Go.Shelf
attribute [local go_sem] Oper.semAt_some
attribute [local go_sem] run_store_func

abbrev ubox (W : World) (kd : Int) (vr : Value) (cn cd : Int) : World := ((dbox W kd vr cn cd).alloc (.cells #[.func (.func 43) #[] #[]] 75)).alloc (.cells #[.func (.func 44) #[] #[]] 75)
theorem ubox_size (W : World) (kd : Int) (vr : Value) (cn cd : Int) : (ubox W kd vr cn cd).heap.size = W.heap.size + 3 := by simp [ubox, dbox]
theorem ubox_below (W : World) (kd : Int) (vr : Value) (cn cd : Int) : Below W.heap.size W (ubox W kd vr cn cd) := ((dbox_below W kd vr cn cd).alloc (by simp) _).alloc (by simp; omega) _
theorem ubox_cells (W : World) (kd : Int) (vr : Value) (cn cd : Int) : Box (ubox W kd vr cn cd) (W.heap.size + 1) (.func (.func 43) #[] #[]) 75 ∧ Box (ubox W kd vr cn cd) (W.heap.size + 2) (.func (.func 44) #[] #[]) 75 := by
  constructor
  · have h := Box.new (dbox W kd vr cn cd) (.func (.func 43) #[] #[]) 75
    rw [dbox_size] at h
    exact h.alloc _
  · have h := Box.new ((dbox W kd vr cn cd).alloc (.cells #[.func (.func 43) #[] #[]] 75)) (.func (.func 44) #[] #[]) 75
    rw [World.size_alloc, dbox_size] at h
    exact h
theorem ubox_d (W : World) (kd : Int) (vr : Value) (cn cd : Int) : DBox (ubox W kd vr cn cd) W.heap.size kd vr cn cd := ((dbox_is W kd vr cn cd).below ((Below.refl _ _).alloc (Nat.le_refl _) _)).below ((Below.refl _ _).alloc (Nat.le_refl _) _)

theorem ldN_fit {r l : List Int} {m : Nat} (hm : m ≤ 840) (hl : ∀ k, 0 ≤ l.getD k 0 ∧ l.getD k 0 ≤ 1048576) (n k : Nat) : I64 ((ldN r l m n).getD k 0) := by
  by_cases hk : k < (ldN r l m n).length
  · obtain ⟨j, h1, h2, h3⟩ := mem_ldN.1 (getI_mem hk)
    rw [h3]
    have := load_in (k := j) h2 hm (hl j)
    exact ⟨by omega, by omega⟩
  · rw [out_zero (by omega)]; decide

set_option maxRecDepth 100000 in
set_option maxHeartbeats 4000000 in
theorem unevenness_any {W : World} {ar al : Option Addr} {nr cr nl cl : Nat} {r l : List Int} (hr : Ix W (.slice ar nr cr) r) (hl : Ix W (.slice al nl cl) l) (hp : prB r = true) (hlr : l.length = r.length) (hl20 : ∀ k, 0 ≤ l.getD k 0 ∧ l.getD k 0 ≤ 1048576) (kd cn cd : Int) :
    Calls Try.prog 26 #[DV kd (.slice ar nr cr) cn cd, .slice al nl cl] W fun e w' => e = .returned (.int .i64 (unev r l)) ∧ Below W.heap.size W w' := by
  have hB0 := ubox_below W kd (.slice ar nr cr) cn cd
  have HB := Lib.hid hB0
  have h6 := (prB_iff.1 hp).1
  have h8 := fun k => (prB_all hp k).2
  have HL := Lib.hid (loads_any (hr.below hB0) (hl.below hB0) hlr (by omega) h8 hl20 kd cn cd)
  have hcnt := (prB_iff.1 hp).2.2
  have hcl := cnt_le r r.length
  have hnr := hr.size
  have hU := unev_in hp hl20
  have hm := mulN_le h8 r.length
  have hfit := ldN_fit (r := r) hm hl20 r.length
  have hlen := ldN_len r l (mulN r r.length) r.length
  have hmx : 0 ≤ minL (ldN r l (mulN r r.length) r.length) ∧ minL (ldN r l (mulN r r.length) r.length) ≤ 880803840 := by
    obtain ⟨j, h1, h2, h3⟩ := mem_ldN.1 (minL_is (ld_ne (l := l) (m := mulN r r.length) hp)).1
    rw [h3]; exact load_in h2 hm (hl20 j)
  have hunf : unev r l = maxL (ldN r l (mulN r r.length) r.length) - minL (ldN r l (mulN r r.length) r.length) := rfl
  have hw : IntKind.i64.wrap (maxL (ldN r l (mulN r r.length) r.length) - minL (ldN r l (mulN r r.length) r.length)) = unev r l := by rw [← hunf]; exact IntWalk.i64_in _ (by omega)
  rw [← hnr] at hlen hfit hw hcl hcnt
  obtain ⟨L, hL⟩ : ∃ L, L = ldN r l (mulN r nr) nr := ⟨_, rfl⟩
  rw [← hL] at hlen hfit hw HL
  obtain ⟨c, hc⟩ : ∃ c, c = cnt r nr := ⟨_, rfl⟩
  rw [← hc] at hlen hcl hcnt
  have HO : Hid (∀ W' B ao n cap, OwI W' B (.slice ao n cap) n L → Ix W' (.slice ao n cap) L ∧ n ≠ 0 ∧ n ≤ 1000) := Lib.hid (fun W' B ao n cap h => by
    have hn := owI_len h
    exact ⟨h.ix (by omega) hfit, by omega, by omega⟩)
  obtain ⟨U, hUU⟩ : ∃ U, U = unev r l := ⟨_, rfl⟩
  rw [← hUU] at hw ⊢
  have HS : Hid (∀ W', Below (ubox W kd (.slice ar nr cr) cn cd).heap.size (ubox W kd (.slice ar nr cr) cn cd) W' → W'.cell? ⟨W.heap.size + 1, 0, none⟩ = some (.func (.func 43) #[] #[]) ∧ W'.cell? ⟨W.heap.size + 2, 0, none⟩ = some (.func (.func 44) #[] #[])) := Lib.hid (fun W' hb => ⟨((ubox_cells W kd (.slice ar nr cr) cn cd).1.below hb).cell, ((ubox_cells W kd (.slice ar nr cr) cn cd).2.below hb).cell⟩)
  obtain ⟨c0, c1, c2, c3, c4, c5⟩ := (ubox_d W kd (.slice ar nr cr) cn cd).cells
  obtain ⟨x, hx⟩ : ∃ x, x = maxL L := ⟨_, rfl⟩
  obtain ⟨y, hy⟩ : ∃ y, y = minL L := ⟨_, rfl⟩
  have HMX : Hid (∀ W' ao n cap, Ix W' (.slice ao n cap) L → n ≠ 0 → n ≤ 1000 → Calls Try.prog 46 #[.agg #[.func (.func 43) #[] #[]], .slice ao n cap] W' fun e w' => e = .returned (.int .i64 x) ∧ Below W'.heap.size W' w') := Lib.hid (fun W' ao n cap h1 h2 h3 => by rw [hx]; exact ofmax_any h1 h2 h3)
  have HMN : Hid (∀ W' ao n cap, Ix W' (.slice ao n cap) L → n ≠ 0 → n ≤ 1000 → Calls Try.prog 46 #[.agg #[.func (.func 44) #[] #[]], .slice ao n cap] W' fun e w' => e = .returned (.int .i64 y) ∧ Below W'.heap.size W' w') := Lib.hid (fun W' ao n cap h1 h2 h3 => by rw [hy]; exact ofmin_any h1 h2 h3)
  rw [← hx, ← hy] at hw
  have HBR := Lib.hid (Below.refl (ubox W kd (.slice ar nr cr) cn cd).heap.size (ubox W kd (.slice ar nr cr) cn cd))
  clear hr hl hp hlr hl20 hB0 h6 h8 hcnt hcl hnr hU hm hfit hlen hmx hunf hL hc hUU hx hy
  go_enter Try.func26, Try.ntmps26
  go_wp2_with (go_at_call 45; (with_reducible refine HL.out.mono ?_); rintro e w1 ⟨ao, n, cap, rfl, ho, hb1⟩; obtain ⟨hi, hn0, hn1⟩ := HO.out _ _ _ _ _ ho; have HI := Lib.hid hi; have HN := Lib.hid (And.intro hn0 hn1); have HB1 := Lib.hid hb1; clear ho hi hn0 hn1 hb1)
  clear c0 c1 c2 c3 c4 c5
  obtain ⟨k0, k1⟩ := HS.out _ HB1.out
  have HBX := Lib.hid HB1.out.drew
  have HIX := Lib.hid (HI.out.below (Below.refl _ _).drew)
  go_region_held3 (fun W' => W'.cell? ⟨W.heap.size + 1, 0, none⟩ = some (.func (.func 43) #[] #[]) ∧ W'.cell? ⟨W.heap.size + 2, 0, none⟩ = some (.func (.func 44) #[] #[]))
    (first | (with_reducible exact HS.out _ HBX.out) | (with_reducible exact HS.out _ HB1.out.drew) | (with_reducible exact HS.out _ HB1.out))
    ((first
    | (go_at_call_of 46 (Value.agg #[.func (.func 43) #[] #[]]); (with_reducible refine (HMX.out _ _ _ _ HIX.out HN.out.1 HN.out.2).mono ?_); rintro e w2 ⟨rfl, hb⟩; have HIX := Lib.hid (HIX.out.below hb); have HBX := Lib.hid (HBX.out.trans (hb.mono HBX.out.size)); clear hb)
    | (go_at_call_of 46 (Value.agg #[.func (.func 44) #[] #[]]); (with_reducible refine (HMN.out _ _ _ _ HIX.out HN.out.1 HN.out.2).mono ?_); rintro e w2 ⟨rfl, hb⟩; have HIX := Lib.hid (HIX.out.below hb); have HBX := Lib.hid (HBX.out.trans (hb.mono HBX.out.size)); clear hb)))
  go_wp2
  go_ret
  exact ⟨rfl, HB.out.trans (HBX.out.mono (by have := HB.out.size; omega))⟩

end Go.Proofs.Ytcpgoaombabfjaa

namespace Go.Proofs.Ytcpgoaombabfjaa
open Go.RowKit Go.Shelf
attribute [local go_sem] Oper.semAt_some

set_option maxRecDepth 100000 in
set_option maxHeartbeats 4000000 in
theorem uneven_any {W : World} {ar aw : Option Addr} {nr cr nw cw : Nat} {r row : List Int} (hr : Ix W (.slice ar nr cr) r) (hw : Ix W (.slice aw nw cw) row) (lr : r.length ≤ 8) (kd cn cd : Int) :
    Calls Try.prog 12 #[DV kd (.slice ar nr cr) cn cd, .slice aw nw cw] W fun e w' => e = .returned (.int .i64 (uneV r row)) ∧ Below W.heap.size W w' := by
  have hB0 := dbox_below W kd (.slice ar nr cr) cn cd
  have hs0 := dbox_size W kd (.slice ar nr cr) cn cd
  have hB1 : Below W.heap.size W ((dbox W kd (.slice ar nr cr) cn cd).alloc (.cells #[.slice aw nw cw] 22)) := hB0.alloc (by simp) _
  have HB1 := Lib.hid hB1
  have hD1 : DBox ((dbox W kd (.slice ar nr cr) cn cd).alloc (.cells #[.slice aw nw cw] 22)) W.heap.size kd (.slice ar nr cr) cn cd := (dbox_is W kd (.slice ar nr cr) cn cd).below ((Below.refl _ _).alloc (Nat.le_refl _) _)
  have hR := rx_one (hw.below hB0)
  rw [hs0] at hR
  have HP := Lib.hid (proper_any (hr.below hB1) hR lr kd cn cd)
  obtain ⟨q, hq⟩ : ∃ q, q = (prB r && [row].all (fiB r)) := ⟨_, rfl⟩
  rw [← hq] at HP
  have hq2 : (prB r && fiB r row) = q := by rw [hq]; simp
  have hU : uneV r row = if q = true then unev r (unV r row) else 0 := by unfold uneV; rw [hq2]
  have hun : Hid (∀ W', Below W.heap.size W W' → Calls Try.prog 27 #[DV kd (.slice ar nr cr) cn cd, .slice aw nw cw] W' fun e w' => ∃ ao n cap, e = .returned (.slice ao n cap) ∧ Ix w' (.slice ao n cap) (unV r row) ∧ Below W'.heap.size W' w') := Lib.hid (fun W' hb => units_any hr.size (hw.below hb) lr kd cn cd)
  obtain ⟨c0, c1, c2, c3, c4, c5⟩ := (dbox_is W kd (.slice ar nr cr) cn cd).cells
  have hl0 : W.heap.size < (dbox W kd (.slice ar nr cr) cn cd).heap.size := by simp
  cases q with
  | false =>
    rw [if_neg Bool.false_ne_true] at hU
    rw [hU]
    clear hr hw lr hB0 hs0 hB1 hD1 hR hq hq2 hU hun
    go_enter Try.func12, Try.ntmps12
    go_wp2_with (go_at_call 25; (with_reducible refine HP.out.mono ?_); rintro e w1 ⟨rfl, hb1⟩; have HB := Lib.hid (HB1.out.trans (hb1.mono HB1.out.size)); clear hb1)
    go_ret
    exact ⟨rfl, HB.out⟩
  | true =>
    rw [if_pos rfl] at hU
    obtain ⟨hp, hf⟩ := (Bool.and_eq_true _ _).mp hq2
    have HV : Hid (∀ W' ao n cap, Below W.heap.size W W' → Ix W' (.slice ao n cap) (unV r row) → Calls Try.prog 26 #[DV kd (.slice ar nr cr) cn cd, .slice ao n cap] W' fun e w' => e = .returned (.int .i64 (uneV r row)) ∧ Below W'.heap.size W' w') := Lib.hid (fun W' ao n cap hb hx => by
      rw [hU]
      exact unevenness_any (hr.below hb) hx hp (unV_len hf) (fun k => by have := unV_in hf k; omega) kd cn cd)
    obtain ⟨Z, hZ⟩ : ∃ Z, Z = uneV r row := ⟨_, rfl⟩
    rw [← hZ] at HV ⊢
    obtain ⟨L, hL⟩ : ∃ L, L = unV r row := ⟨_, rfl⟩
    rw [← hL] at HV hun
    have HS : Hid (∀ W', Below ((dbox W kd (.slice ar nr cr) cn cd).alloc (.cells #[.slice aw nw cw] 22)).heap.size ((dbox W kd (.slice ar nr cr) cn cd).alloc (.cells #[.slice aw nw cw] 22)) W' → W'.cell? ⟨W.heap.size, 0, none⟩ = some (.int .i64 kd) ∧ W'.cell? ⟨W.heap.size, 1, none⟩ = some (.slice ar nr cr) ∧ W'.cell? ⟨W.heap.size, 2, none⟩ = some (.slice none 0 0) ∧ W'.cell? ⟨W.heap.size, 3, none⟩ = some (.int .i64 0) ∧ W'.cell? ⟨W.heap.size, 4, none⟩ = some (.int .i64 cn) ∧ W'.cell? ⟨W.heap.size, 5, none⟩ = some (.int .i64 cd)) := Lib.hid (fun W' hb => (hD1.below hb).cells)
    clear hr hw lr hB0 hs0 hB1 hD1 hR hq hq2 hU hp hf hZ hL
    go_enter Try.func12, Try.ntmps12
    go_wp2_with (go_at_call 25; (with_reducible refine HP.out.mono ?_); rintro e w1 ⟨rfl, hb1⟩; have HX := Lib.hid hb1; clear hb1)
    clear c0 c1 c2 c3 c4 c5 hl0
    obtain ⟨k0, k1, k2, k3, k4, k5⟩ := HS.out _ HX.out
    have HBX := Lib.hid HX.out.drew
    go_region_held3 (fun W' => W'.cell? ⟨W.heap.size, 0, none⟩ = some (.int .i64 kd) ∧ W'.cell? ⟨W.heap.size, 1, none⟩ = some (.slice ar nr cr) ∧ W'.cell? ⟨W.heap.size, 2, none⟩ = some (.slice none 0 0) ∧ W'.cell? ⟨W.heap.size, 3, none⟩ = some (.int .i64 0) ∧ W'.cell? ⟨W.heap.size, 4, none⟩ = some (.int .i64 cn) ∧ W'.cell? ⟨W.heap.size, 5, none⟩ = some (.int .i64 cd))
      (first | (with_reducible exact HS.out _ HBX.out) | (with_reducible exact HS.out _ HX.out.drew) | (with_reducible exact HS.out _ HX.out))
      ((first
      | (go_at_call 27; (with_reducible refine (hun.out _ (HB1.out.trans (HBX.out.mono HB1.out.size))).mono ?_); rintro e w2 ⟨ao, n, cap, rfl, hi, hb⟩; have HIX := Lib.hid hi; have HBX := Lib.hid (HBX.out.trans (hb.mono HBX.out.size)); clear hb hi)
      | (go_at_call 26; (with_reducible refine (HV.out _ _ _ _ (HB1.out.trans (HBX.out.mono HB1.out.size)) HIX.out).mono ?_); rintro e w3 ⟨rfl, hb⟩; have HBX := Lib.hid (HBX.out.trans (hb.mono HBX.out.size)); clear hb)))
    go_wp2
    go_ret
    exact ⟨rfl, HB1.out.trans (HBX.out.mono HB1.out.size)⟩

end Go.Proofs.Ytcpgoaombabfjaa

namespace Go.Proofs.Ytcpgoaombabfjaa
open Go.RowKit Go.Shelf
attribute [local go_sem] Oper.semAt_some

theorem nxV_no {r row : List Int} {arm : Int} (h : nxB r row arm = false) : nxV r row arm = [] := by unfold nxV; rw [h]; rfl
theorem nxV_yes {r row : List Int} {arm : Int} (h : nxB r row arm = true) : nxV r row arm = mor (unV r row) arm.toNat := by unfold nxV; rw [if_pos h]

set_option maxRecDepth 100000 in
set_option maxHeartbeats 4000000 in
theorem next_any {W : World} {ar aw : Option Addr} {nr cr nw cw : Nat} {r row : List Int} (hr : Ix W (.slice ar nr cr) r) (hw : Ix W (.slice aw nw cw) row) (lr : r.length ≤ 8) (kd cn cd arm : Int) :
    Calls Try.prog 15 #[DV kd (.slice ar nr cr) cn cd, .slice aw nw cw, .int .i64 arm] W fun e w' => ∃ ao n cap, e = .returned (.tuple #[.slice ao n cap, .bool (nxB r row arm)]) ∧ OwI w' W.heap.size (.slice ao n cap) n (nxV r row arm) ∧ Below W.heap.size W w' := by
  have hB0 := dbox_below W kd (.slice ar nr cr) cn cd
  have hs0 := dbox_size W kd (.slice ar nr cr) cn cd
  have hB1 : Below W.heap.size W ((dbox W kd (.slice ar nr cr) cn cd).alloc (.cells #[.slice aw nw cw] 22)) := hB0.alloc (by simp) _
  have HB1 := Lib.hid hB1
  have hD1 : DBox ((dbox W kd (.slice ar nr cr) cn cd).alloc (.cells #[.slice aw nw cw] 22)) W.heap.size kd (.slice ar nr cr) cn cd := (dbox_is W kd (.slice ar nr cr) cn cd).below ((Below.refl _ _).alloc (Nat.le_refl _) _)
  have HD1 := Lib.hid hD1
  have hR := rx_one (hw.below hB0)
  rw [hs0] at hR
  have HP := Lib.hid (proper_any (hr.below hB1) hR lr kd cn cd)
  obtain ⟨q, hq⟩ : ∃ q, q = (prB r && [row].all (fiB r)) := ⟨_, rfl⟩
  rw [← hq] at HP
  have hq2 : (prB r && fiB r row) = q := by rw [hq]; simp
  have hun : Hid (∀ W', Below W.heap.size W W' → Calls Try.prog 27 #[DV kd (.slice ar nr cr) cn cd, .slice aw nw cw] W' fun e w' => ∃ ao n cap, e = .returned (.slice ao n cap) ∧ Ix w' (.slice ao n cap) (unV r row) ∧ Below W'.heap.size W' w') := Lib.hid (fun W' hb => units_any hr.size (hw.below hb) lr kd cn cd)
  have hnr := hr.size
  have HX := Lib.hid hr
  obtain ⟨c0, c1, c2, c3, c4, c5⟩ := (dbox_is W kd (.slice ar nr cr) cn cd).cells
  have hl0 : W.heap.size < (dbox W kd (.slice ar nr cr) cn cd).heap.size := by simp
  have hN : nxB r row arm = (q && (decide (0 ≤ arm) && decide (arm < (nr : Int))) && decide (0 < r.getD arm.toNat 0) && decide ((unV r row).getD arm.toNat 0 ≠ 1048575)) := by unfold nxB; rw [hq2, hnr]
  cases q with
  | false =>
    have hno : nxB r row arm = false := by rw [hN]; simp
    rw [hno, nxV_no hno]
    clear hr hw lr hB0 hs0 hB1 hD1 hR hq hq2 hun hN hno hnr
    go_enter Try.func15, Try.ntmps15
    go_wp2_with (go_at_call 25; (with_reducible refine HP.out.mono ?_); rintro e w1 ⟨rfl, hb1⟩; have HB := Lib.hid (HB1.out.trans (hb1.mono HB1.out.size)); clear hb1)
    go_returns
    exact ⟨_, _, _, rfl, World.ownsRow_nil _ _ _ _, HB.out⟩
  | true =>
    rw [Bool.true_and] at hN
    by_cases ha0 : 0 ≤ arm
    · by_cases ha1 : arm < (nr : Int)
      · obtain ⟨k, rfl⟩ : ∃ k : Nat, arm = (k : Int) := ⟨arm.toNat, by omega⟩
        rw [decide_eq_true ha0, decide_eq_true ha1, Int.toNat_natCast, Bool.true_and, Bool.true_and] at hN
        obtain ⟨hp, hf⟩ := (Bool.and_eq_true _ _).mp hq2
        have hpos := (prB_all hp k).1
        have hlt : k < nr := by omega
        have hk0 : ¬ (k : Int) < 0 := by omega
        have hk1 : ¬ nr ≤ k := by omega
        obtain ⟨b', off, har, -, -, -, hc⟩ := hr.at (show nr ≠ 0 by omega)
        have hck := hc k hlt
        have hck1 := cell_later hB1 hck
        by_cases h0 : r.getD k 0 = 0
        · have hno : nxB r row (k : Int) = false := by rw [hN, h0]; rfl
          rw [hno, nxV_no hno]
          rw [h0] at hck
          subst har
          clear hck1
          have HC := Lib.hid hck
          clear hr hw lr hB0 hs0 hB1 hD1 hR hq hq2 hun hN hno hnr hp hf hpos h0 hc hck
          go_enter Try.func15, Try.ntmps15
          go_wp2_with (go_at_call 25; (with_reducible refine HP.out.mono ?_); rintro e w1 ⟨rfl, hb1⟩; have HB := Lib.hid (HB1.out.trans (hb1.mono HB1.out.size)); clear c0 c1 c2 c3 c4 c5; obtain ⟨c0, c1, c2, c3, c4, c5⟩ := (HD1.out.below hb1).cells; have hcx := cell_later HB.out HC.out; clear hb1)
          go_returns
          exact ⟨_, _, _, rfl, World.ownsRow_nil _ _ _ _, HB.out⟩
        · rw [decide_eq_true (by omega : 0 < r.getD k 0), Bool.true_and] at hN
          have hul : (unV r row).length = nr := by rw [unV_len hf, hnr]
          have hui := unV_in hf
          obtain ⟨x, hx⟩ : ∃ x, x = r.getD k 0 := ⟨_, rfl⟩
          rw [← hx] at hck h0
          have HC := Lib.hid hck
          have hx0 : (x == 0) = false := by simpa using h0
          obtain ⟨u, hu⟩ : ∃ u, u = (unV r row).getD k 0 := ⟨_, rfl⟩
          obtain ⟨L, hL⟩ : ∃ L, L = unV r row := ⟨_, rfl⟩
          rw [← hu] at hN
          subst har
          have HG : Hid (∀ W' ao n cap, Ix W' (.slice ao n cap) (unV r row) → n = nr ∧ ∃ b off, ao = some ⟨b, off, none⟩ ∧ W'.cell? ⟨b, off + k, none⟩ = some (.int .i64 u)) := Lib.hid (fun W' ao n cap hi => by
            have hn := hi.size
            obtain ⟨b, off, e, -, -, -, hcc⟩ := hi.at (by omega)
            exact ⟨by omega, b, off, e, by rw [hu]; exact hcc k (by omega)⟩)
          by_cases hm : u = 1048575
          · have hno : nxB r row (k : Int) = false := by rw [hN, hm]; rfl
            rw [hno, nxV_no hno]
            rw [← hL] at hun HG
            clear hr hw lr hB0 hs0 hB1 hD1 hR hq hq2 hN hno hnr hp hf hpos hc hck hck1 hul hui hx hu hL
            subst hm
            go_enter Try.func15, Try.ntmps15
            go_wp2_with (first
              | (go_at_call 25; (with_reducible refine HP.out.mono ?_); rintro e w1 ⟨rfl, hb1⟩; have HB := Lib.hid (HB1.out.trans (hb1.mono HB1.out.size)); clear c0 c1 c2 c3 c4 c5; obtain ⟨c0, c1, c2, c3, c4, c5⟩ := (HD1.out.below hb1).cells; have hcx := cell_later HB.out HC.out; clear hb1)
              | (go_at_call 27; (with_reducible refine (hun.out _ HB.out).mono ?_); rintro e w2 ⟨ao, n, cap, rfl, hi, hb⟩; have HIX := Lib.hid hi; have HB := Lib.hid (HB.out.trans (hb.mono HB.out.size)); obtain ⟨rfl, b2, off2, rfl, hcu⟩ := HG.out _ _ _ _ hi; clear hb hi))
            go_returns
            exact ⟨_, _, _, rfl, World.ownsRow_nil _ _ _ _, HB.out⟩
          · have hyes : nxB r row (k : Int) = true := by rw [hN]; simpa using hm
            rw [hyes, nxV_yes hyes, Int.toNat_natCast]
            have HOM : Hid (∀ W' ao n cap, Ix W' (.slice ao n cap) (unV r row) → Calls Try.prog 32 #[.slice ao n cap, .int .i64 (k : Int)] W' fun e w' => ∃ ao2 cap2, e = .returned (.slice ao2 n cap2) ∧ OwI w' W'.heap.size (.slice ao2 n cap2) n (mor (unV r row) k) ∧ Below W'.heap.size W' w') := Lib.hid (fun W' ao n cap hi => by
              have hn := hi.size
              exact oneMore_any hi (by omega) (by omega) (by have := hui k; omega))
            rw [← hL] at hun HG HOM ⊢
            clear hr hw lr hB0 hs0 hB1 hD1 hR hq hq2 hN hyes hnr hp hf hpos hc hck hck1 hul hui hx hu hL
            go_enter Try.func15, Try.ntmps15
            go_wp2_with (first
              | (go_at_call 25; (with_reducible refine HP.out.mono ?_); rintro e w1 ⟨rfl, hb1⟩; have HB := Lib.hid (HB1.out.trans (hb1.mono HB1.out.size)); clear c0 c1 c2 c3 c4 c5; obtain ⟨c0, c1, c2, c3, c4, c5⟩ := (HD1.out.below hb1).cells; have hcx := cell_later HB.out HC.out; clear hb1)
              | (go_at_call 27; (with_reducible refine (hun.out _ HB.out).mono ?_); rintro e w2 ⟨ao, n, cap, rfl, hi, hb⟩; have HIX := Lib.hid hi; have HB := Lib.hid (HB.out.trans (hb.mono HB.out.size)); obtain ⟨rfl, b2, off2, rfl, hcu⟩ := HG.out _ _ _ _ hi; clear hb hi)
              | (go_at_call 32; (with_reducible refine (HOM.out _ _ _ _ HIX.out).mono ?_); rintro e w3 ⟨ao2, cap2, rfl, ho, hb⟩; have HO := Lib.hid (owns_mono ho HB.out.size); have HB := Lib.hid (HB.out.trans (hb.mono HB.out.size)); clear hb ho))
            go_returns
            exact ⟨_, _, _, rfl, HO.out, HB.out⟩
      · have hno : nxB r row arm = false := by rw [hN, decide_eq_false ha1]; simp
        rw [hno, nxV_no hno]
        clear hr hw lr hB0 hs0 hB1 hD1 hR hq hq2 hun hN hno hnr
        go_enter Try.func15, Try.ntmps15
        go_wp2_with (go_at_call 25; (with_reducible refine HP.out.mono ?_); rintro e w1 ⟨rfl, hb1⟩; have HB := Lib.hid (HB1.out.trans (hb1.mono HB1.out.size)); clear c0 c1 c2 c3 c4 c5; obtain ⟨c0, c1, c2, c3, c4, c5⟩ := (HD1.out.below hb1).cells; clear hb1)
        go_returns
        exact ⟨_, _, _, rfl, World.ownsRow_nil _ _ _ _, HB.out⟩
    · have hno : nxB r row arm = false := by rw [hN, decide_eq_false ha0]; simp
      rw [hno, nxV_no hno]
      clear hr hw lr hB0 hs0 hB1 hD1 hR hq hq2 hun hN hno hnr
      go_enter Try.func15, Try.ntmps15
      go_wp2_with (go_at_call 25; (with_reducible refine HP.out.mono ?_); rintro e w1 ⟨rfl, hb1⟩; have HB := Lib.hid (HB1.out.trans (hb1.mono HB1.out.size)); clear hb1)
      go_returns
      exact ⟨_, _, _, rfl, World.ownsRow_nil _ _ _ _, HB.out⟩

end Go.Proofs.Ytcpgoaombabfjaa

namespace Go.Proofs.Ytcpgoaombabfjaa
open Go.RowKit

theorem unV_row {r row : List Int} (h : row.length ≠ 0) : unV r row = row := by unfold unV; rw [if_neg h]
theorem fi_row {r row : List Int} (hl : row.length = r.length) (hi : ∀ k, 0 ≤ row.getD k 0 ∧ row.getD k 0 ≤ 1048575) : fiB r row = true := by
  unfold fiB
  rw [decide_eq_true hl, Bool.true_and, (inB_iff (lo := 0) (hi := 1048575)).2 (fun k _ => hi k), Bool.or_true]
theorem fi_nil (r : List Int) : fiB r [] = true := rfl
theorem rwL_in {r : List Int} {c : Int} (hc : 0 ≤ c ∧ c ≤ 255) (hr : ∀ k, 0 ≤ r.getD k 0 ∧ r.getD k 0 ≤ 3) (n k : Nat) : 0 ≤ (rwL r c n).getD k 0 ∧ (rwL r c n).getD k 0 ≤ 765 := by
  by_cases hk : k < n
  · rw [rwL_get hk]
    have := hr k
    refine ⟨Int.mul_nonneg hc.1 this.1, ?_⟩
    exact Int.le_trans (Int.mul_le_mul hc.2 this.2 this.1 (by omega)) (by omega)
  · rw [out_zero (by rw [rwL_len]; omega)]; omega

section
variable {r : List Int} {cn cd : Nat} {c : Int}
theorem even_une (h : MadeOk r cn cd) (hc : 0 ≤ c ∧ c ≤ 255) : uneV r (rwL r c r.length) = 0 := by
  have hl : (rwL r c r.length).length = r.length := rwL_len _ _ _
  have hf := fi_row hl (fun k => by have := rwL_in hc h.rr r.length k; omega)
  have h2 := h.l2
  unfold uneV
  rw [h.pr, hf, Bool.true_and, if_pos rfl, unV_row (by omega)]
  refine unev_flat (c := c * (mulN r r.length : Nat)) h.pr (fun j h1 h2 => ?_)
  have := load_even (l := rwL r c r.length) (c := c) (d := 0) h1 h2 (by rw [rwL_get h1]; omega)
  rw [this]; simp

theorem mor_load {l : List Int} {c d : Int} {K : Nat} (h : MadeOk r cn cd) (hl : l.length = r.length) (hK : K < r.length ∧ 0 < r.getD K 0) (hd : 0 ≤ d) (hg : ∀ j, j < r.length → l.getD j 0 = c * r.getD j 0 + if j = K then d else 0) : unev r l = d * ((mulN r r.length : Nat) / r.getD K 0) := by
  have hq : 0 ≤ ((mulN r r.length : Nat) : Int) / r.getD K 0 := Int.ediv_nonneg (by omega) (by omega)
  refine unev_line (c := c * (mulN r r.length : Nat)) (K := K) h.pr hK (Int.mul_nonneg hd hq) ?_ (fun j h1 h2 h3 => ?_)
  · have e := hg K hK.1
    rw [if_pos rfl] at e
    exact load_even hK.1 hK.2 e
  · have e := hg j h1
    rw [if_neg h2] at e
    rw [load_even h1 h3 e, Int.zero_mul, Int.add_zero]

theorem even_prf (h : MadeOk r cn cd) (hc : 0 ≤ c ∧ c ≤ 255) : prfV r (rwL r c r.length) [] = wnL r (grL r r.length) r.length := by
  have hl : (rwL r c r.length).length = r.length := rwL_len _ _ _
  have hf := fi_row hl (fun k => by have := rwL_in hc h.rr r.length k; omega)
  have h2 := h.l2
  unfold prfV prfB
  rw [h.pr, hf, fi_nil, Bool.true_and, Bool.true_and, if_pos rfl, unV_row (by omega)]
  have hm : (0 : Int) < (mulN r r.length : Nat) := by have := mulN_pos (r := r) r.length; omega
  have hz : (unV r []).length = r.length := unV_len (fi_nil r)
  rcases best_even (s := rwL r c r.length) (t := unV r []) hm (fun j => (h.rr j).1) r.length (fun j h1 h2 => by
    refine ⟨?_, r_dvd h1 h2⟩
    unfold tog
    rw [mor_load (c := c) (d := 1) h (by rw [mor_len]; exact hl) ⟨h1, h2⟩ (by omega) (fun i hi => by
      rw [mor_get (by omega)]
      split
      · rename_i e; subst e; rw [rwL_get hi]
      · rw [rwL_get hi]; omega)]
    rw [mor_load (c := 0) (d := 1) h (by rw [mor_len]; exact hz) ⟨h1, h2⟩ (by omega) (fun i hi => by
      rw [mor_get (by omega)]
      split
      · rename_i e; subst e; rw [unV_get0 rfl]; omega
      · rw [unV_get0 rfl]; omega)]
    omega) with ⟨g0, _⟩ | ⟨_, hb, _⟩
  · exfalso
    obtain ⟨j, j1, _, j2⟩ := cnt_other r.length (prB_iff.1 h.pr).2.2
    have := grL_ge r j1
    omega
  · rw [hb]

theorem even_nx {l : List Int} {K : Nat} (h : MadeOk r cn cd) (hl : l.length = r.length) (hi : ∀ k, 0 ≤ l.getD k 0 ∧ l.getD k 0 ≤ 1000) (hK : K < r.length) : nxB r l (K : Int) = decide (0 < r.getD K 0) ∧ (0 < r.getD K 0 → nxV r l (K : Int) = mor l K) := by
  have hf := fi_row hl (fun k => by have := hi k; omega)
  have h2 := h.l2
  have e : nxB r l (K : Int) = decide (0 < r.getD K 0) := by
    unfold nxB
    rw [h.pr, hf, Int.toNat_natCast, unV_row (by omega), decide_eq_true (show (0 : Int) ≤ (K : Int) by omega), decide_eq_true (show (K : Int) < (r.length : Int) by omega), decide_eq_true (show l.getD K 0 ≠ 1048575 by have := hi K; omega)]
    simp
  refine ⟨e, fun hp => ?_⟩
  rw [nxV_yes (by rw [e]; exact decide_eq_true hp), Int.toNat_natCast, unV_row (by omega)]
theorem even_step {K : Nat} {l : List Int} {d : Int} (h : MadeOk r cn cd) (hl : l.length = r.length) (hi : ∀ k, 0 ≤ l.getD k 0 ∧ l.getD k 0 ≤ 1000) (hK : K < r.length ∧ 0 < r.getD K 0) (hd : 0 ≤ d) (hg : ∀ j, j < r.length → l.getD j 0 = c * r.getD j 0 + if j = K then d else 0) : uneV r l = d * ((mulN r r.length : Nat) / r.getD K 0) := by
  have hf := fi_row hl (fun k => by have := hi k; omega)
  have h2 := h.l2
  unfold uneV
  rw [h.pr, hf, Bool.true_and, if_pos rfl, unV_row (by omega)]
  exact mor_load h hl hK hd hg
theorem even_pos {K : Nat} (hK : K < r.length ∧ 0 < r.getD K 0) : 0 < ((mulN r r.length : Nat) : Int) / r.getD K 0 := by
  obtain ⟨b, hb⟩ := r_dvd hK.1 hK.2
  have hm : (0 : Int) < (mulN r r.length : Nat) := by have := mulN_pos (r := r) r.length; omega
  rw [hb, Int.mul_ediv_cancel_left _ (by omega)]
  apply Classical.byContradiction
  intro h
  have : r.getD K 0 * b ≤ 0 := Int.mul_nonpos_of_nonneg_of_nonpos (by omega) (by omega)
  omega
end

end Go.Proofs.Ytcpgoaombabfjaa

namespace Go.Proofs.Ytcpgoaombabfjaa
open Go Go.RowKit

/-- A region by what each operation's result is, and what the world is. -/
structure RH (ch : List (Nat × Nat)) (T : Array Value) (ds : List (Option Nat)) (Wd : Array Bool → (Nat → Value) → World → Prop) (V : Nat → Value → World → Prop) (vals : Nat → Value) (l : Array Bool) (a : Act) (w : World) : Prop where
  size : l.size = ds.length
  fr : FrT (tOwn ds vals) T l a
  dep : ∀ i j, (i, j) ∈ ch → l.getD i true = true → l.getD j true = true
  wd : Wd l vals w
  vl : ∀ i, i < ds.length → l.getD i true = true → V i (vals i) w

section
variable {ch : List (Nat × Nat)} {T : Array Value} {ds : List (Option Nat)} {Wd : Array Bool → (Nat → Value) → World → Prop} {V : Nat → Value → World → Prop} {vals : Nat → Value} {l : Array Bool} {a : Act} {w w' : World}

theorem RH.no (h : RH ch T ds Wd V vals l a w) {i s : Nat} (hl : l.getD i true = false) (hr : l.getD s true = true → l.getD i true = true) : l.getD s true = false := by
  cases hs : l.getD s true with
  | false => rfl
  | true => rw [hr hs] at hl; cases hl

theorem RH.get (h : RH ch T ds Wd V vals l a w) {i j : Nat} (hd : ds.findIdx? (fun x => x == some j) = some i) (hl : l.getD i false = true) (hj : j < T.size) : a.tmps.getD j undef = vals i := h.fr.done (tOwn_some hd) hl hj

/-- An operation that writes a slot. -/
theorem RH.op (h : RH ch T ds Wd V vals l a w) (i d : Nat) (v : Value) (hd : ds.findIdx? (fun x => x == some d) = some i) (hi : i < ds.length) (hl : l.getD i true = false) (hc : ∀ j, (i, j) ∈ ch → l.getD j true = true)
    (hW : Wd (l.setIfInBounds i true) (fun u => if u = i then v else vals u) w') (hS : ∀ j u, V j u w → V j u w') (hV : V i v w') :
    ∃ vals, RH ch T ds Wd V vals (l.setIfInBounds i true) (a.put (some d) v) w' := by
  refine ⟨fun u => if u = i then v else vals u, by rw [Array.size_setIfInBounds]; exact h.size, h.fr.stepT hd (by rw [h.size]; exact hi) hl v, dep_set h.dep hc, hW, fun j hj hs => ?_⟩
  by_cases e : j = i
  · subst e; rw [if_pos rfl]; exact hV
  · simp only [e, if_false]
    rcases gset_true hs with e2 | hs
    · exact absurd e2 e
    · exact hS _ _ (h.vl j hj hs)

/-- An operation that writes none. -/
theorem RH.bare (h : RH ch T ds Wd V vals l a w) (i : Nat) (v : Value) (hds : ds[i]? = some none) (hl : l.getD i true = false) (hc : ∀ j, (i, j) ∈ ch → l.getD j true = true)
    (hW : Wd (l.setIfInBounds i true) vals w') (hS : ∀ j u, V j u w → V j u w') (hV : ∀ u, V i u w') :
    ∃ vals, RH ch T ds Wd V vals (l.setIfInBounds i true) (a.put none v) w' := by
  refine ⟨vals, by rw [Array.size_setIfInBounds]; exact h.size, h.fr.bare v (fun j p hp e => ?_), dep_set h.dep hc, hW, fun j hj hs => ?_⟩
  · obtain ⟨e1, _⟩ := tOwn_inv hp
    rw [e, hds] at e1
    cases e1
  · by_cases e : j = i
    · subst e; exact hV _
    · rcases gset_true hs with e2 | hs
      · exact absurd e2 e
      · exact hS _ _ (h.vl j hj hs)

theorem RH.start (hT : l = Array.replicate ds.length false) (hch : ∀ i j, (i, j) ∈ ch → i < ds.length) (hW : Wd l (fun _ => undef) w) : ∃ vals, RH ch T ds Wd V vals l ⟨T, []⟩ w := by
  have hf : ∀ j, j < ds.length → l.getD j true = false := fun j hj => by rw [hT]; simp [Array.getD, hj]
  refine ⟨fun _ => undef, by rw [hT]; simp, FrT.start _ _ _ (fun j i v h => hf i ?_), fun i j hm h => ?_, hW, fun i hi hl => ?_⟩
  · obtain ⟨h1, _⟩ := tOwn_inv h
    exact (List.getElem?_eq_some_iff.1 h1).1
  · rw [hf _ (hch _ _ hm)] at h
    cases h
  · rw [hf _ hi] at hl
    cases hl
end

theorem RH.all {ch : List (Nat × Nat)} {T : Array Value} {ds : List (Option Nat)} {Wd : Array Bool → (Nat → Value) → World → Prop} {V : Nat → Value → World → Prop} {vals : Nat → Value} {l : Array Bool} {a : Act} {w : World} (h : RH ch T ds Wd V vals l a w) (hl : ∀ i, i < ds.length → l.getD i true = true) {T' : Array Value} (hT : T'.size = T.size)
    (ht : ∀ j, j < T.size → T'.getD j undef = match tOwn ds vals j with | some (_, v) => v | none => T.getD j undef) : a = ⟨T', []⟩ :=
  h.fr.all (fun j i v hj => hl i (List.getElem?_eq_some_iff.1 (tOwn_inv hj).1).1) hT ht


/-- Ints of one's own or not do not lie in a box that holds a slice. -/
theorem ix_set {w : World} {ao : Option Addr} {n cap : Nat} {l : List Int} (h : Ix w (.slice ao n cap) l) {q : Nat} {bo : Option Addr} {m d : Nat} (hb : Box w q (.slice bo m d) 22) (u : Value) : Ix (w.setCell ⟨q, 0, none⟩ u) (.slice ao n cap) l := by
  obtain ⟨h1, h2, h3⟩ := h
  refine ⟨h1, h2, ?_⟩
  rcases h3 with h3 | ⟨b, off, cap2, hv, hc, hlt, hl⟩
  · exact .inl h3
  · by_cases h0 : l = []
    · subst h0
      exact .inl ⟨rfl, some ⟨b, off, none⟩, cap2, hv, fun e => by cases e⟩
    · have hn : 0 < l.length := List.length_pos_iff.2 h0
      have hbq : b ≠ q := fun e => by
        subst e
        have c := hl 0 hn
        rw [cell_of_row _ _ _ _ _ _ hb] at c
        by_cases ho : off = 0
        · subst ho; simp at c
        · rw [show (#[Value.slice bo m d] : Array Value)[off + 0]? = none by simp; omega] at c
          cases c
      refine .inr ⟨b, off, cap2, hv, hc, by simp only [World.setCell, Array.size_modify]; exact hlt, fun j hj => ?_⟩
      exact (World.cell?_of_block (Below.heap_setCell _ _ _ _ (by simpa using hbq))).trans (hl j hj)

/-- What holds while two boxes are filled. -/
structure PG (W1 : World) (S T : List Int) (l : Array Bool) (vals : Nat → Value) (w : World) : Prop where
  b : Below W1.heap.size W1 w
  i2 : l.getD 2 true = true → ∃ ao n cap, vals 2 = .slice ao n cap ∧ Ix w (.slice ao n cap) S
  i5 : l.getD 5 true = true → ∃ ao n cap, vals 5 = .slice ao n cap ∧ Ix w (.slice ao n cap) T
  p6 : l.getD 6 true = true → ∃ q ao n cap, vals 6 = .pointer (some ⟨q, 0, none⟩) ∧ W1.heap.size ≤ q ∧ Box w q (.slice ao n cap) 22
  p7 : l.getD 7 true = true → ∃ q ao n cap, vals 7 = .pointer (some ⟨q, 0, none⟩) ∧ W1.heap.size ≤ q ∧ Box w q (.slice ao n cap) 22
  ne : l.getD 6 true = true → l.getD 7 true = true → vals 6 ≠ vals 7
  s8 : l.getD 8 true = true → ∃ q, vals 6 = .pointer (some ⟨q, 0, none⟩) ∧ Box w q (vals 2) 22
  s9 : l.getD 9 true = true → ∃ q, vals 7 = .pointer (some ⟨q, 0, none⟩) ∧ Box w q (vals 5) 22

theorem PG.later {W1 : World} {S T : List Int} {l : Array Bool} {vals : Nat → Value} {w w' : World} (h : PG W1 S T l vals w) (hb : Below w.heap.size w w') : PG W1 S T l vals w' :=
  ⟨h.b.trans (hb.mono h.b.size), fun e => by obtain ⟨a, n, c, h1, h2⟩ := h.i2 e; exact ⟨a, n, c, h1, h2.below hb⟩, fun e => by obtain ⟨a, n, c, h1, h2⟩ := h.i5 e; exact ⟨a, n, c, h1, h2.below hb⟩,
   fun e => by obtain ⟨q, a, n, c, h1, h2, h3⟩ := h.p6 e; exact ⟨q, a, n, c, h1, h2, h3.below hb⟩, fun e => by obtain ⟨q, a, n, c, h1, h2, h3⟩ := h.p7 e; exact ⟨q, a, n, c, h1, h2, h3.below hb⟩, h.ne,
   fun e => by obtain ⟨q, h1, h2⟩ := h.s8 e; exact ⟨q, h1, h2.below hb⟩, fun e => by obtain ⟨q, h1, h2⟩ := h.s9 e; exact ⟨q, h1, h2.below hb⟩⟩

theorem PG.const {W1 : World} {S T : List Int} {l : Array Bool} {vals : Nat → Value} {w : World} (h : PG W1 S T l vals w) {i : Nat} (hi : i = 0 ∨ i = 1 ∨ i = 3 ∨ i = 4) (v : Value) : PG W1 S T (l.setIfInBounds i true) (fun u => if u = i then v else vals u) w := by
  have e : ∀ j, j ≠ i → (l.setIfInBounds i true).getD j true = l.getD j true := fun j hj => gset_ne hj
  refine ⟨h.b, ?_, ?_, ?_, ?_, ?_, ?_, ?_⟩
  · rw [e 2 (by omega)]; simpa [show ¬ 2 = i by omega] using h.i2
  · rw [e 5 (by omega)]; simpa [show ¬ 5 = i by omega] using h.i5
  · rw [e 6 (by omega)]; simpa [show ¬ 6 = i by omega] using h.p6
  · rw [e 7 (by omega)]; simpa [show ¬ 7 = i by omega] using h.p7
  · rw [e 6 (by omega), e 7 (by omega)]; simpa [show ¬ 6 = i by omega, show ¬ 7 = i by omega] using h.ne
  · rw [e 8 (by omega)]; simpa [show ¬ 6 = i by omega, show ¬ 2 = i by omega] using h.s8
  · rw [e 9 (by omega)]; simpa [show ¬ 7 = i by omega, show ¬ 5 = i by omega] using h.s9

theorem PG.call2 {W1 : World} {S T : List Int} {l : Array Bool} {vals : Nat → Value} {w : World} (h : PG W1 S T l vals w) (h8 : l.getD 8 true = false) {ao : Option Addr} {n cap : Nat} (hi : Ix w (.slice ao n cap) S) : PG W1 S T (l.setIfInBounds 2 true) (fun u => if u = 2 then .slice ao n cap else vals u) w := by
  have e : ∀ j, j ≠ 2 → (l.setIfInBounds 2 true).getD j true = l.getD j true := fun j hj => gset_ne hj
  refine ⟨h.b, fun _ => ⟨ao, n, cap, by simp, hi⟩, ?_, ?_, ?_, ?_, ?_, ?_⟩
  · rw [e 5 (by omega)]; simpa using h.i5
  · rw [e 6 (by omega)]; simpa using h.p6
  · rw [e 7 (by omega)]; simpa using h.p7
  · rw [e 6 (by omega), e 7 (by omega)]; simpa using h.ne
  · rw [e 8 (by omega), h8]; intro hc; cases hc
  · rw [e 9 (by omega)]; simpa using h.s9
theorem PG.call5 {W1 : World} {S T : List Int} {l : Array Bool} {vals : Nat → Value} {w : World} (h : PG W1 S T l vals w) (h9 : l.getD 9 true = false) {ao : Option Addr} {n cap : Nat} (hi : Ix w (.slice ao n cap) T) : PG W1 S T (l.setIfInBounds 5 true) (fun u => if u = 5 then .slice ao n cap else vals u) w := by
  have e : ∀ j, j ≠ 5 → (l.setIfInBounds 5 true).getD j true = l.getD j true := fun j hj => gset_ne hj
  refine ⟨h.b, ?_, fun _ => ⟨ao, n, cap, by simp, hi⟩, ?_, ?_, ?_, ?_, ?_⟩
  · rw [e 2 (by omega)]; simpa using h.i2
  · rw [e 6 (by omega)]; simpa using h.p6
  · rw [e 7 (by omega)]; simpa using h.p7
  · rw [e 6 (by omega), e 7 (by omega)]; simpa using h.ne
  · rw [e 8 (by omega)]; simpa using h.s8
  · rw [e 9 (by omega), h9]; intro hc; cases hc
theorem PG.alloc6 {W1 : World} {S T : List Int} {l : Array Bool} {vals : Nat → Value} {w : World} (h : PG W1 S T l vals w) (h8 : l.getD 8 true = false) : PG W1 S T (l.setIfInBounds 6 true) (fun u => if u = 6 then .pointer (some ⟨w.heap.size, 0, none⟩) else vals u) (w.alloc (.cells #[.slice none 0 0] 22)) := by
  have h2 := h.later (w' := w.alloc (.cells #[.slice none 0 0] 22)) ((Below.refl _ _).alloc (Nat.le_refl _) _)
  have e : ∀ j, j ≠ 6 → (l.setIfInBounds 6 true).getD j true = l.getD j true := fun j hj => gset_ne hj
  refine ⟨h2.b, ?_, ?_, fun _ => ⟨w.heap.size, none, 0, 0, by simp, h.b.size, Box.new _ _ _⟩, ?_, ?_, ?_, ?_⟩
  · rw [e 2 (by omega)]; simpa using h2.i2
  · rw [e 5 (by omega)]; simpa using h2.i5
  · rw [e 7 (by omega)]; simpa using h2.p7
  · rw [e 7 (by omega)]
    intro _ h7
    obtain ⟨q, a, n, c, e1, _, e3⟩ := h.p7 h7
    have := e3.lt
    simp only [if_true, show ¬ (7 = 6) by omega, if_false, e1, ne_eq, Value.pointer.injEq, Option.some.injEq, Addr.mk.injEq, not_and]
    intro he; omega
  · rw [e 8 (by omega), h8]; intro hc; cases hc
  · rw [e 9 (by omega)]; simpa using h2.s9
theorem PG.alloc7 {W1 : World} {S T : List Int} {l : Array Bool} {vals : Nat → Value} {w : World} (h : PG W1 S T l vals w) (h9 : l.getD 9 true = false) : PG W1 S T (l.setIfInBounds 7 true) (fun u => if u = 7 then .pointer (some ⟨w.heap.size, 0, none⟩) else vals u) (w.alloc (.cells #[.slice none 0 0] 22)) := by
  have h2 := h.later (w' := w.alloc (.cells #[.slice none 0 0] 22)) ((Below.refl _ _).alloc (Nat.le_refl _) _)
  have e : ∀ j, j ≠ 7 → (l.setIfInBounds 7 true).getD j true = l.getD j true := fun j hj => gset_ne hj
  refine ⟨h2.b, ?_, ?_, ?_, fun _ => ⟨w.heap.size, none, 0, 0, by simp, h.b.size, Box.new _ _ _⟩, ?_, ?_, ?_⟩
  · rw [e 2 (by omega)]; simpa using h2.i2
  · rw [e 5 (by omega)]; simpa using h2.i5
  · rw [e 6 (by omega)]; simpa using h2.p6
  · rw [e 6 (by omega)]
    intro h6 _
    obtain ⟨q, a, n, c, e1, _, e3⟩ := h.p6 h6
    have := e3.lt
    simp only [if_true, show ¬ (6 = 7) by omega, if_false, e1, ne_eq, Value.pointer.injEq, Option.some.injEq, Addr.mk.injEq, not_and]
    intro he; omega
  · rw [e 8 (by omega)]; simpa using h2.s8
  · rw [e 9 (by omega), h9]; intro hc; cases hc
theorem PG.store8 {W1 : World} {S T : List Int} {l : Array Bool} {vals : Nat → Value} {w : World} (h : PG W1 S T l vals w) (h6 : l.getD 6 true = true) (h7 : l.getD 7 true = true) {q : Nat} {ao bo : Option Addr} {n c m d : Nat} (hv : vals 6 = .pointer (some ⟨q, 0, none⟩)) (hq : W1.heap.size ≤ q) (hb : Box w q (.slice bo m d) 22) (h2 : vals 2 = .slice ao n c) : PG W1 S T (l.setIfInBounds 8 true) vals (w.setCell ⟨q, 0, none⟩ (.slice ao n c)) := by
  have e : ∀ j, j ≠ 8 → (l.setIfInBounds 8 true).getD j true = l.getD j true := fun j hj => gset_ne hj
  have hn := h.ne h6 h7
  refine ⟨h.b.setCell hq _, ?_, ?_, ?_, ?_, ?_, fun _ => ⟨q, hv, by rw [h2]; exact hb.set _⟩, ?_⟩
  · rw [e 2 (by omega)]; intro hl; obtain ⟨a, n, c, e1, e2⟩ := h.i2 hl; exact ⟨a, n, c, e1, ix_set e2 hb _⟩
  · rw [e 5 (by omega)]; intro hl; obtain ⟨a, n, c, e1, e2⟩ := h.i5 hl; exact ⟨a, n, c, e1, ix_set e2 hb _⟩
  · exact fun _ => ⟨q, _, _, _, hv, hq, hb.set _⟩
  · rw [e 7 (by omega)]; intro hl; obtain ⟨q7, a, n, c, e1, e2, e3⟩ := h.p7 hl
    exact ⟨q7, a, n, c, e1, e2, e3.other (fun he => hn (by rw [hv, e1, he]))⟩
  · rw [e 6 (by omega), e 7 (by omega)]; exact h.ne
  · rw [e 9 (by omega)]; intro hl; obtain ⟨q7, e1, e3⟩ := h.s9 hl
    exact ⟨q7, e1, e3.other (fun he => hn (by rw [hv, e1, he]))⟩
theorem PG.store9 {W1 : World} {S T : List Int} {l : Array Bool} {vals : Nat → Value} {w : World} (h : PG W1 S T l vals w) (h6 : l.getD 6 true = true) (h7 : l.getD 7 true = true) {q : Nat} {ao bo : Option Addr} {n c m d : Nat} (hv : vals 7 = .pointer (some ⟨q, 0, none⟩)) (hq : W1.heap.size ≤ q) (hb : Box w q (.slice bo m d) 22) (h2 : vals 5 = .slice ao n c) : PG W1 S T (l.setIfInBounds 9 true) vals (w.setCell ⟨q, 0, none⟩ (.slice ao n c)) := by
  have e : ∀ j, j ≠ 9 → (l.setIfInBounds 9 true).getD j true = l.getD j true := fun j hj => gset_ne hj
  have hn := h.ne h6 h7
  refine ⟨h.b.setCell hq _, ?_, ?_, ?_, ?_, ?_, ?_, fun _ => ⟨q, hv, by rw [h2]; exact hb.set _⟩⟩
  · rw [e 2 (by omega)]; intro hl; obtain ⟨a, n, c, e1, e2⟩ := h.i2 hl; exact ⟨a, n, c, e1, ix_set e2 hb _⟩
  · rw [e 5 (by omega)]; intro hl; obtain ⟨a, n, c, e1, e2⟩ := h.i5 hl; exact ⟨a, n, c, e1, ix_set e2 hb _⟩
  · rw [e 6 (by omega)]; intro hl; obtain ⟨q6, a, n, c, e1, e2, e3⟩ := h.p6 hl
    exact ⟨q6, a, n, c, e1, e2, e3.other (fun he => hn (by rw [hv, e1, he]))⟩
  · exact fun _ => ⟨q, _, _, _, hv, hq, hb.set _⟩
  · rw [e 6 (by omega), e 7 (by omega)]; exact h.ne
  · rw [e 8 (by omega)]; intro hl; obtain ⟨q6, e1, e3⟩ := h.s8 hl
    exact ⟨q6, e1, e3.other (fun he => hn (by rw [hv, e1, he]))⟩

end Go.Proofs.Ytcpgoaombabfjaa

namespace Go.Proofs.Ytcpgoaombabfjaa
open Go.RowKit Go.Shelf

/-- What lay ahead of a loop's own boxes lies there still. -/
theorem Fr.up {W Wx W' W3 : World} {ex : List Nat} (h : Fr W Wx ex W') (h3 : Below W.heap.size W W3) (h34 : Below W3.heap.size W3 Wx) (hex : ∀ j ∈ ex, W3.heap.size ≤ j) : Below W3.heap.size W3 W' :=
  ⟨h.b.os.trans h3.os.symm, h.b.tape.trans h3.tape.symm, h.b.output.trans h3.output.symm, Nat.le_trans h34.size h.s, fun j hj => (h.k j (Nat.lt_of_lt_of_le hj h34.size) (fun hx => by have := hex j hx; omega)).trans (h34.block j hj)⟩

/-- What Preferred's loop keeps. -/
def BeI (W Wx : World) (q p : Nat) (r s t : List Int) (k : Nat) (W' : World) : Prop :=
  ∃ ao n cap, OwBox W Wx q Wx.heap.size [q, p, Wx.heap.size] (best r s t k).1 W' ao n cap ∧ Box W' p (.int .i64 (best r s t k).2) 3
theorem beI_own {W Wx : World} {q p : Nat} {r s t : List Int} (hB : W.heap.size ≤ Wx.heap.size) (hq : q < Wx.heap.size) (hp : p < Wx.heap.size) : OwnFrom Wx.heap.size (BeI W Wx q p r s t) := fun k => keep_ex fun ao => keep_ex fun n => keep_ex fun cap => keep_and (keep_owbox hB hq) (keep_box hp)

/-- What the operations of Preferred's round return. -/
def PV (D S T K : Value) (n m : Nat) (ls lt : List Int) (x y z : Int) : Nat → Value → World → Prop
  | 0, u, _ => u = D
  | 1, u, _ => u = S
  | 2, u, _ => u = K
  | 3, u, w => ∃ ao cap, u = .slice ao n cap ∧ Ix w (.slice ao n cap) ls
  | 4, u, _ => u = .int .i64 x
  | 5, u, _ => u = D
  | 6, u, _ => u = T
  | 7, u, _ => u = K
  | 8, u, w => ∃ ao cap, u = .slice ao m cap ∧ Ix w (.slice ao m cap) lt
  | 9, u, _ => u = .int .i64 y
  | 10, u, _ => u = .int .i64 z
  | 11, u, _ => u = .int .i64 z
  | _, _, _ => True
theorem PV.below {D S T K : Value} {n m : Nat} {ls lt : List Int} {x y z : Int} {w w' : World} (hb : Below w.heap.size w w') : ∀ j u, PV D S T K n m ls lt x y z j u w → PV D S T K n m ls lt x y z j u w'
  | 0, _, h => h
  | 1, _, h => h
  | 2, _, h => h
  | 3, _, ⟨a, c, e, h⟩ => ⟨a, c, e, h.below hb⟩
  | 4, _, h => h
  | 5, _, h => h
  | 6, _, h => h
  | 7, _, h => h
  | 8, _, ⟨a, c, e, h⟩ => ⟨a, c, e, h.below hb⟩
  | 9, _, h => h
  | 10, _, h => h
  | 11, _, h => h
  | _ + 12, _, h => h

theorem best_skip {r s t : List Int} {k : Nat} (h : ¬ 0 < r.getD k 0) : best r s t (k + 1) = best r s t k := by rw [best, if_neg h]
theorem best_new {r s t : List Int} {k : Nat} (h : 0 < r.getD k 0) (h2 : (best r s t k).1 = [] ∨ tog r s t k < (best r s t k).2) : best r s t (k + 1) = ([(k : Int)], tog r s t k) := by rw [best, if_pos h, if_pos h2]
theorem best_more {r s t : List Int} {k : Nat} (h : 0 < r.getD k 0) (h2 : ¬ ((best r s t k).1 = [] ∨ tog r s t k < (best r s t k).2)) (h3 : tog r s t k = (best r s t k).2) : best r s t (k + 1) = ((best r s t k).1 ++ [(k : Int)], (best r s t k).2) := by rw [best, if_pos h, if_neg h2, if_pos h3]
theorem best_less {r s t : List Int} {k : Nat} (h : 0 < r.getD k 0) (h2 : ¬ ((best r s t k).1 = [] ∨ tog r s t k < (best r s t k).2)) (h3 : ¬ tog r s t k = (best r s t k).2) : best r s t (k + 1) = best r s t k := by rw [best, if_pos h, if_neg h2, if_neg h3]

theorem OwBox.below {W Wx W' W2 : World} {q g0 : Nat} {ex : List Nat} {L : List Int} {ao : Option Addr} {n cap : Nat} (h : OwBox W Wx q g0 ex L W' ao n cap) (hb : Below W'.heap.size W' W2) : OwBox W Wx q g0 ex L W2 ao n cap :=
  ⟨h.fr.below hb, h.box.below hb, owns_later h.own hb, h.at'⟩
/-- One more is appended. -/
theorem OwBox.push2 {W Wx W' : World} {q g0 : Nat} {ex : List Nat} {L : List Int} {ao : Option Addr} {n cap : Nat} (h : OwBox W Wx q g0 ex L W' ao n cap) (hn : n ≤ 1000) (hB : W.heap.size ≤ Wx.heap.size) (hq : q ∈ ex) (hwq : W.heap.size ≤ q) (hqx : q < Wx.heap.size) (hg0 : g0 ∈ ex) (hne : q ≠ g0) (z : Int) :
    ∃ g cap2 w2, Sem.run Try.prog (appI 22 #[.slice ao n cap, .slice (some ⟨W'.heap.size, 0, none⟩) 1 1]) (W'.alloc (.cells #[.int .i64 z] 3)) = .ok (.slice (some ⟨g, 0, none⟩) (n + 1) cap2) w2 ∧ Box w2 q (.slice ao n cap) 22 ∧ OwBox W Wx q g0 ex (L ++ [z]) (w2.setCell ⟨q, 0, none⟩ (.slice (some ⟨g, 0, none⟩) (n + 1) cap2)) (some ⟨g, 0, none⟩) (n + 1) cap2 ∧ (∀ W0, KeepsFrom Wx.heap.size W0 W' → KeepsFrom Wx.heap.size W0 (w2.setCell ⟨q, 0, none⟩ (.slice (some ⟨g, 0, none⟩) (n + 1) cap2))) ∧ (∀ p v ty, p < Wx.heap.size → p ≠ g0 → Box W' p v ty → Box w2 p v ty) := by
  obtain ⟨g, cap2, w2, hrun, hown, hbl, hgr, hg, hgl⟩ := push_int h.own hn h.fr.b.size z
  have hblk : ∀ r, (Value.slice ao n cap).ownBlock = some r → W.heap.size ≤ r ∧ (r ∈ ex ∨ Wx.heap.size ≤ r) := fun r e => ⟨(own_lt h.own e).1, (h.at' r e).imp (fun e => by subst e; exact hg0) id⟩
  have hqne : (Value.slice ao n cap).ownBlock ≠ some q := fun e => by
    rcases h.at' q e with e | e
    · exact hne e
    · omega
  have hqw : q < W'.heap.size := h.box.lt
  have hbq : Box w2 q (.slice ao n cap) 22 := (grown_block hgr (by rw [World.size_alloc]; omega) hqne).trans (h.box.alloc _)
  have hgq : g ≠ q := fun e => by
    rcases hg with e2 | e2
    · rw [e] at e2; exact hqne e2
    · omega
  have hf2 : Fr W Wx ex w2 := (h.fr.below ((Below.refl _ _).alloc (Nat.le_refl _) _)).own' hgr hblk
  have hgw : W.heap.size ≤ g := (own_lt hown (g := g) rfl).1
  refine ⟨g, cap2, w2, hrun, hbq, ⟨hf2.set hq hwq, hbq.set _, owns_same hown fun k hk => Below.heap_setCell _ _ _ _ (by
    have e : g = k := by simpa [Value.ownBlock] using hk
    simp only; omega), fun k hk => ?_⟩, fun W0 hk0 => keeps_set ?_ hbq, fun p v ty hp hpg hbp => ?_⟩
  · have e : g = k := by simpa [Value.ownBlock] using hk
    subst e
    rcases hg with e2 | e2
    · exact h.at' g e2
    · right; have := h.fr.s; omega
  · have hk := keeps_own (B := Wx.heap.size) h.own hgr
    exact ⟨Nat.le_trans hk0.1 hk.1, fun j o hj ho hc => hk.2 j o hj (hk0.2 j o hj ho hc) hc⟩
  · exact (grown_block hgr (by rw [World.size_alloc]; have := hbp.lt; omega) (fun e => by
      rcases h.at' p e with e | e
      · exact hpg e
      · omega)).trans (hbp.alloc _)

/-- The box is emptied. -/
theorem OwBox.empty {W Wx W' : World} {q g0 : Nat} {ex : List Nat} {L : List Int} {ao : Option Addr} {n cap : Nat} (h : OwBox W Wx q g0 ex L W' ao n cap) (hq : q ∈ ex) (hw : W.heap.size ≤ q) : OwBox W Wx q g0 ex [] (W'.setCell ⟨q, 0, none⟩ (.slice none 0 0)) none 0 0 :=
  ⟨h.fr.set hq hw, h.box.set _, World.ownsRow_nil _ _ _ _, fun g e => by cases e⟩
/-- Another box is turned. -/
theorem OwBox.aside {W Wx W' : World} {q g0 p : Nat} {ex : List Nat} {L : List Int} {ao : Option Addr} {n cap : Nat} (h : OwBox W Wx q g0 ex L W' ao n cap) (hp : p ∈ ex) (hw : W.heap.size ≤ p) (hne : p ≠ q) (hx : p < Wx.heap.size) (hg : g0 ≠ p) (u : Value) : OwBox W Wx q g0 ex L (W'.setCell ⟨p, 0, none⟩ u) ao n cap :=
  ⟨h.fr.set hp hw, h.box.other hne, owns_same h.own fun g hg' => Below.heap_setCell _ _ _ _ (by
    rcases h.at' g hg' with e | e
    · subst e; simpa using hg
    · simp only; omega), h.at'⟩

end Go.Proofs.Ytcpgoaombabfjaa
