/- Contract of the reference: Next. Condition: the slices read as ints, at most eight arms. What CoinLeast asks of numbers: the arms with which both rows together are least uneven are those that best finds. No condition beyond those that are stated. What the calls of CoinLeast return; two slices of one's own at once; what its drawn region makes. No condition beyond those that are stated. What CoinShifts asks of numbers: the ratio, any number of times more, changes no difference of loads. No condition beyond those that are stated. What CoinShifts makes: blocks of ints that are written in place; two rows made at once; a round's new value. No condition beyond those that are stated. What CoinShifts' last calls return: the same for both pairs of rows. No condition beyond those that are stated. What the operations of CoinShifts' last region return. No condition. -/
import Derived.Test.YtcpgoaombabfjaaMh16
import Derived.Test.YtcpgoaombabfjaaMh6
import Derived.Test.YtcpgoaombabfjaaMh15
import Derived.Test.YtcpgoaombabfjaaMh5
namespace Go.Proofs.Ytcpgoaombabfjaa
set_option linter.unusedSimpArgs false
set_option linter.unusedVariables false
open Go.RowKit Go.Shelf

theorem fi_mor {r row : List Int} (hf : fiB r row = true) {k : Nat} (hk : k < r.length) : fiB r (mor (unV r row) k) = decide ((unV r row).getD k 0 ≠ 1048575) := by
  have hl := unV_len hf
  have hi := unV_in hf
  have e : fiB r (mor (unV r row) k) = inB 0 1048575 (mor (unV r row) k) := by
    unfold fiB
    rw [mor_len, hl, decide_eq_false (by omega), decide_eq_true rfl, Bool.false_or, Bool.true_and]
  rw [e, Bool.eq_iff_iff, inB_iff, decide_eq_true_iff]
  constructor
  · intro h e2
    have h1 := (h k (by rw [mor_len, hl]; exact hk)).2
    rw [mor_get (by omega), if_pos rfl] at h1
    omega
  · intro h j hj
    rw [mor_get (by omega)]
    have := hi j
    have := hi k
    split <;> omega

set_option maxRecDepth 100000 in
set_option maxHeartbeats 4000000 in
theorem rNext_any {W : World} {ar aw : Option Addr} {nr cr nw cw : Nat} {r row : List Int} (hr : Ix W (.slice ar nr cr) r) (hw : Ix W (.slice aw nw cw) row) (lr : r.length ≤ 8) (kd cn cd arm : Int) :
    Calls Try.prog 16 #[DV kd (.slice ar nr cr) cn cd, .slice aw nw cw, .int .i64 arm] W fun e w' => ∃ ao n cap, e = .returned (.tuple #[.slice ao n cap, .bool (nxB r row arm)]) ∧ OwI w' W.heap.size (.slice ao n cap) n (nxV r row arm) ∧ Below W.heap.size W w' := by
  have hB0 := dbox_below W kd (.slice ar nr cr) cn cd
  have HBB : Hid (∀ w', Below (W.alloc (.cells #[.int .i64 kd, .slice ar nr cr, .slice none 0 0, .int .i64 0, .int .i64 cn, .int .i64 cd] 30)).heap.size (W.alloc (.cells #[.int .i64 kd, .slice ar nr cr, .slice none 0 0, .int .i64 0, .int .i64 cn, .int .i64 cd] 30)) w' → Below W.heap.size W w') := Lib.hid (fun w' hb => hB0.trans (hb.mono hB0.size))
  have HS : Hid (∀ w', Below (W.alloc (.cells #[.int .i64 kd, .slice ar nr cr, .slice none 0 0, .int .i64 0, .int .i64 cn, .int .i64 cd] 30)).heap.size (W.alloc (.cells #[.int .i64 kd, .slice ar nr cr, .slice none 0 0, .int .i64 0, .int .i64 cn, .int .i64 cd] 30)) w' → w'.cell? ⟨W.heap.size, 0, none⟩ = some (.int .i64 kd) ∧ w'.cell? ⟨W.heap.size, 1, none⟩ = some (.slice ar nr cr) ∧ w'.cell? ⟨W.heap.size, 2, none⟩ = some (.slice none 0 0) ∧ w'.cell? ⟨W.heap.size, 3, none⟩ = some (.int .i64 0) ∧ w'.cell? ⟨W.heap.size, 4, none⟩ = some (.int .i64 cn) ∧ w'.cell? ⟨W.heap.size, 5, none⟩ = some (.int .i64 cd)) := Lib.hid (fun w' hb => ((dbox_is W kd (.slice ar nr cr) cn cd).below hb).cells)
  have HPR : Hid (∀ w', Below (W.alloc (.cells #[.int .i64 kd, .slice ar nr cr, .slice none 0 0, .int .i64 0, .int .i64 cn, .int .i64 cd] 30)).heap.size (W.alloc (.cells #[.int .i64 kd, .slice ar nr cr, .slice none 0 0, .int .i64 0, .int .i64 cn, .int .i64 cd] 30)) w' → Calls Try.prog 28 #[DV kd (.slice ar nr cr) cn cd] w' fun e w2 => e = .returned (.bool (prB r)) ∧ Below w'.heap.size w' w2) := Lib.hid (fun w' hb => rProper_any (hr.below (HBB.out _ hb)) kd cn cd)
  have HFI : Hid (∀ w', Below (W.alloc (.cells #[.int .i64 kd, .slice ar nr cr, .slice none 0 0, .int .i64 0, .int .i64 cn, .int .i64 cd] 30)).heap.size (W.alloc (.cells #[.int .i64 kd, .slice ar nr cr, .slice none 0 0, .int .i64 0, .int .i64 cn, .int .i64 cd] 30)) w' → Calls Try.prog 29 #[DV kd (.slice ar nr cr) cn cd, .slice aw nw cw] w' fun e w2 => e = .returned (.bool (fiB r row)) ∧ Below w'.heap.size w' w2) := Lib.hid (fun w' hb => rFine_any hr.size (hw.below (HBB.out _ hb)) kd cn cd)
  obtain ⟨c0, c1, c2, c3, c4, c5⟩ := (dbox_is W kd (.slice ar nr cr) cn cd).cells
  have hnr := hr.size
  have hN : nxB r row arm = (prB r && fiB r row && (decide (0 ≤ arm) && decide (arm < (nr : Int))) && decide (0 < r.getD arm.toNat 0) && decide ((unV r row).getD arm.toNat 0 ≠ 1048575)) := by unfold nxB; rw [hnr]
  cases hp : prB r with
  | false =>
    have hno : nxB r row arm = false := by rw [hN, hp]; simp
    rw [hp] at HPR
    rw [hno, nxV_no hno]
    clear hr hw lr hB0 hp hN hno hnr
    go_enter Try.func16, Try.ntmps16
    go_wp2_with (first
      | (go_at_call 28; (with_reducible refine (HPR.out _ (Below.refl _ _)).mono ?_); rintro e w1 ⟨rfl, hb1⟩; have HB := Lib.hid hb1; clear c0 c1 c2 c3 c4 c5; obtain ⟨c0, c1, c2, c3, c4, c5⟩ := HS.out _ hb1; clear hb1))
    go_returns
    exact ⟨_, _, _, rfl, World.ownsRow_nil _ _ _ _, HBB.out _ HB.out⟩
  | true =>
    rw [hp] at HPR hN
    cases hf : fiB r row with
    | false =>
      have hno : nxB r row arm = false := by rw [hN, hf]; simp
      rw [hf] at HFI
      rw [hno, nxV_no hno]
      clear hr hw lr hB0 hp hN hf hno hnr
      go_enter Try.func16, Try.ntmps16
      go_wp2_with (first
        | (go_at_call 28; (with_reducible refine (HPR.out _ (Below.refl _ _)).mono ?_); rintro e w1 ⟨rfl, hb1⟩; have HB := Lib.hid hb1; clear c0 c1 c2 c3 c4 c5; obtain ⟨c0, c1, c2, c3, c4, c5⟩ := HS.out _ hb1; clear hb1)
        | (go_at_call 29; (with_reducible refine (HFI.out _ HB.out).mono ?_); rintro e w2 ⟨rfl, hb1⟩; have HB := Lib.hid (HB.out.trans (hb1.mono HB.out.size)); clear c0 c1 c2 c3 c4 c5; obtain ⟨c0, c1, c2, c3, c4, c5⟩ := HS.out _ HB.out; clear hb1))
      go_returns
      exact ⟨_, _, _, rfl, World.ownsRow_nil _ _ _ _, HBB.out _ HB.out⟩
    | true =>
      rw [hf] at HFI hN
      rw [Bool.true_and, Bool.true_and] at hN
      by_cases ha0 : 0 ≤ arm
      · by_cases ha1 : arm < (nr : Int)
        · obtain ⟨k, rfl⟩ : ∃ k : Nat, arm = (k : Int) := ⟨arm.toNat, by omega⟩
          rw [decide_eq_true ha0, decide_eq_true ha1, Int.toNat_natCast, Bool.true_and, Bool.true_and] at hN
          have hpos := (prB_all hp k).1
          have hlt : k < nr := by omega
          have hk0 : ¬ (k : Int) < 0 := by omega
          have hk1 : ¬ nr ≤ k := by omega
          obtain ⟨b', off, har, -, -, -, hc⟩ := hr.at (show nr ≠ 0 by omega)
          have HC : Hid (∀ w', Below W.heap.size W w' → w'.cell? ⟨b', off + k, none⟩ = some (.int .i64 (r.getD k 0))) := Lib.hid (fun w' hb => cell_later hb (hc k hlt))
          by_cases h0 : r.getD k 0 = 0
          · have hno : nxB r row (k : Int) = false := by rw [hN, h0]; rfl
            rw [h0] at HC
            subst har
            rw [hno, nxV_no hno]
            clear hr hw lr hB0 hp hN hf hno hnr hpos h0 hc
            go_enter Try.func16, Try.ntmps16
            go_wp2_with (first
              | (go_at_call 28; (with_reducible refine (HPR.out _ (Below.refl _ _)).mono ?_); rintro e w1 ⟨rfl, hb1⟩; have HB := Lib.hid hb1; clear c0 c1 c2 c3 c4 c5; obtain ⟨c0, c1, c2, c3, c4, c5⟩ := HS.out _ hb1; have hck := HC.out _ (HBB.out _ HB.out); clear hb1)
              | (go_at_call 29; (with_reducible refine (HFI.out _ HB.out).mono ?_); rintro e w2 ⟨rfl, hb1⟩; have HB := Lib.hid (HB.out.trans (hb1.mono HB.out.size)); clear c0 c1 c2 c3 c4 c5; obtain ⟨c0, c1, c2, c3, c4, c5⟩ := HS.out _ HB.out; have hck := HC.out _ (HBB.out _ HB.out); clear hb1))
            go_returns
            exact ⟨_, _, _, rfl, World.ownsRow_nil _ _ _ _, HBB.out _ HB.out⟩
          · rw [decide_eq_true (by omega : 0 < r.getD k 0), Bool.true_and] at hN
            have hx0 : (r.getD k 0 == 0) = false := by simpa using h0
            obtain ⟨x, hx⟩ : ∃ x, x = r.getD k 0 := ⟨_, rfl⟩
            rw [← hx] at HC hx0
            have h6 := (prB_iff.1 hp).1
            have hnw := hw.size
            have hul := unV_len hf
            have lw : nw ≤ 8 := by
              have h := hul
              unfold unV at h
              split at h
              · omega
              · omega
            have hun : Hid (∀ w', Below (W.alloc (.cells #[.int .i64 kd, .slice ar nr cr, .slice none 0 0, .int .i64 0, .int .i64 cn, .int .i64 cd] 30)).heap.size (W.alloc (.cells #[.int .i64 kd, .slice ar nr cr, .slice none 0 0, .int .i64 0, .int .i64 cn, .int .i64 cd] 30)) w' → Calls Try.prog 31 #[DV kd (.slice ar nr cr) cn cd, .slice aw nw cw] w' fun e w2 => ∃ ao cap, e = .returned (.slice ao nr cap) ∧ Ix w2 (.slice ao nr cap) (unV r row) ∧ Below w'.heap.size w' w2) := Lib.hid (fun w' hb => by
              refine (rFull_any hr.size (hw.below (HBB.out _ hb)) lr lw kd cn cd).mono fun e w2 h => ?_
              obtain ⟨ao, n, cap, h1, h2, h3⟩ := h
              have hn := owI_len h2
              rw [hul, ← hnr] at hn
              subst hn
              exact ⟨ao, cap, h1, h2.ix (by omega) (fun k => by have := unV_in hf k; exact ⟨by omega, by omega⟩), h3⟩)
            have HOM : Hid (∀ w' ao cap, Below W.heap.size W w' → Ix w' (.slice ao nr cap) (unV r row) → Calls Try.prog 33 #[.slice ao nr cap, .int .i64 (k : Int)] w' fun e w2 => ∃ ao2 cap2, e = .returned (.slice ao2 nr cap2) ∧ OwI w2 W.heap.size (.slice ao2 nr cap2) nr (mor (unV r row) k) ∧ Ix w2 (.slice ao2 nr cap2) (mor (unV r row) k) ∧ Below w'.heap.size w' w2) := Lib.hid (fun w' ao cap hb hi => by
              refine (rMore_any hi (by omega) (by omega) (by have := unV_in hf k; omega)).mono fun e w2 h => ?_
              obtain ⟨ao2, cap2, h1, h2, h3⟩ := h
              exact ⟨ao2, cap2, h1, owns_mono h2 hb.size, h2.ix (by omega) (fun j => by have := mor_in (unV_in hf) k j; exact ⟨by omega, by omega⟩), h3⟩)
            have HF2 : Hid (∀ w' ao cap, Below W.heap.size W w' → Ix w' (.slice ao nr cap) (mor (unV r row) k) → Calls Try.prog 29 #[DV kd (.slice ar nr cr) cn cd, .slice ao nr cap] w' fun e w2 => e = .returned (.bool (decide ((unV r row).getD k 0 ≠ 1048575))) ∧ Below w'.heap.size w' w2) := Lib.hid (fun w' ao cap hb hi => by
              have h := rFine_any hr.size hi (cr := cr) (ar := ar) kd cn cd
              rwa [fi_mor hf (by omega)] at h)
            subst har
            by_cases hm : (unV r row).getD k 0 = 1048575
            · have hno : nxB r row (k : Int) = false := by rw [hN, hm]; rfl
              rw [decide_eq_false (fun h => h hm)] at HF2
              rw [hno, nxV_no hno]
              obtain ⟨L, hL⟩ : ∃ L, L = unV r row := ⟨_, rfl⟩
              rw [← hL] at hun HOM HF2
              clear hr hw lr hB0 hp hN hno hnr hpos h0 hc hx h6 hnw hul lw hf hm hL
              go_enter Try.func16, Try.ntmps16
              go_wp2_with (first
                | (go_at_call 28; (with_reducible refine (HPR.out _ (Below.refl _ _)).mono ?_); rintro e w1 ⟨rfl, hb1⟩; have HB := Lib.hid hb1; clear c0 c1 c2 c3 c4 c5; obtain ⟨c0, c1, c2, c3, c4, c5⟩ := HS.out _ hb1; have hck := HC.out _ (HBB.out _ HB.out); clear hb1)
                | (go_at_call 29; (with_reducible refine (HF2.out _ _ _ (HBB.out _ HB.out) HIO.out).mono ?_); rintro e w5 ⟨rfl, hb1⟩; have HO := Lib.hid (owns_later HO.out hb1); have HB := Lib.hid (HB.out.trans (hb1.mono HB.out.size)); clear hb1)
                | (go_at_call 29; (with_reducible refine (HFI.out _ HB.out).mono ?_); rintro e w2 ⟨rfl, hb1⟩; have HB := Lib.hid (HB.out.trans (hb1.mono HB.out.size)); clear c0 c1 c2 c3 c4 c5; obtain ⟨c0, c1, c2, c3, c4, c5⟩ := HS.out _ HB.out; have hck := HC.out _ (HBB.out _ HB.out); clear hb1)
                | (go_at_call 31; (with_reducible refine (hun.out _ HB.out).mono ?_); rintro e w3 ⟨ao, cap, rfl, hi, hb1⟩; have HIX := Lib.hid hi; have HB := Lib.hid (HB.out.trans (hb1.mono HB.out.size)); clear c0 c1 c2 c3 c4 c5; obtain ⟨c0, c1, c2, c3, c4, c5⟩ := HS.out _ HB.out; clear hb1 hi)
                | (go_at_call 33; (with_reducible refine (HOM.out _ _ _ (HBB.out _ HB.out) HIX.out).mono ?_); rintro e w4 ⟨ao2, cap2, rfl, ho, hi, hb1⟩; have HO := Lib.hid ho; have HIO := Lib.hid hi; have HB := Lib.hid (HB.out.trans (hb1.mono HB.out.size)); clear c0 c1 c2 c3 c4 c5; obtain ⟨c0, c1, c2, c3, c4, c5⟩ := HS.out _ HB.out; clear hb1 hi ho))
              go_returns
              exact ⟨_, _, _, rfl, World.ownsRow_nil _ _ _ _, HBB.out _ HB.out⟩
            · have hyes : nxB r row (k : Int) = true := by rw [hN]; simpa using hm
              rw [decide_eq_true hm] at HF2
              rw [hyes, nxV_yes hyes, Int.toNat_natCast]
              obtain ⟨L, hL⟩ : ∃ L, L = unV r row := ⟨_, rfl⟩
              rw [← hL] at hun HOM HF2 ⊢
              clear hr hw lr hB0 hp hN hyes hnr hpos h0 hc hx h6 hnw hul lw hf hm hL
              go_enter Try.func16, Try.ntmps16
              go_wp2_with (first
                | (go_at_call 28; (with_reducible refine (HPR.out _ (Below.refl _ _)).mono ?_); rintro e w1 ⟨rfl, hb1⟩; have HB := Lib.hid hb1; clear c0 c1 c2 c3 c4 c5; obtain ⟨c0, c1, c2, c3, c4, c5⟩ := HS.out _ hb1; have hck := HC.out _ (HBB.out _ HB.out); clear hb1)
                | (go_at_call 29; (with_reducible refine (HF2.out _ _ _ (HBB.out _ HB.out) HIO.out).mono ?_); rintro e w5 ⟨rfl, hb1⟩; have HO := Lib.hid (owns_later HO.out hb1); have HB := Lib.hid (HB.out.trans (hb1.mono HB.out.size)); clear hb1)
                | (go_at_call 29; (with_reducible refine (HFI.out _ HB.out).mono ?_); rintro e w2 ⟨rfl, hb1⟩; have HB := Lib.hid (HB.out.trans (hb1.mono HB.out.size)); clear c0 c1 c2 c3 c4 c5; obtain ⟨c0, c1, c2, c3, c4, c5⟩ := HS.out _ HB.out; have hck := HC.out _ (HBB.out _ HB.out); clear hb1)
                | (go_at_call 31; (with_reducible refine (hun.out _ HB.out).mono ?_); rintro e w3 ⟨ao, cap, rfl, hi, hb1⟩; have HIX := Lib.hid hi; have HB := Lib.hid (HB.out.trans (hb1.mono HB.out.size)); clear c0 c1 c2 c3 c4 c5; obtain ⟨c0, c1, c2, c3, c4, c5⟩ := HS.out _ HB.out; clear hb1 hi)
                | (go_at_call 33; (with_reducible refine (HOM.out _ _ _ (HBB.out _ HB.out) HIX.out).mono ?_); rintro e w4 ⟨ao2, cap2, rfl, ho, hi, hb1⟩; have HO := Lib.hid ho; have HIO := Lib.hid hi; have HB := Lib.hid (HB.out.trans (hb1.mono HB.out.size)); clear c0 c1 c2 c3 c4 c5; obtain ⟨c0, c1, c2, c3, c4, c5⟩ := HS.out _ HB.out; clear hb1 hi ho))
              go_returns
              exact ⟨_, _, _, rfl, HO.out, HBB.out _ HB.out⟩
        · have hno : nxB r row arm = false := by rw [hN, decide_eq_false ha1]; simp
          rw [hno, nxV_no hno]
          clear hr hw lr hB0 hp hN hf hno hnr
          go_enter Try.func16, Try.ntmps16
          go_wp2_with (first
            | (go_at_call 28; (with_reducible refine (HPR.out _ (Below.refl _ _)).mono ?_); rintro e w1 ⟨rfl, hb1⟩; have HB := Lib.hid hb1; clear c0 c1 c2 c3 c4 c5; obtain ⟨c0, c1, c2, c3, c4, c5⟩ := HS.out _ hb1; clear hb1)
            | (go_at_call 29; (with_reducible refine (HFI.out _ HB.out).mono ?_); rintro e w2 ⟨rfl, hb1⟩; have HB := Lib.hid (HB.out.trans (hb1.mono HB.out.size)); clear c0 c1 c2 c3 c4 c5; obtain ⟨c0, c1, c2, c3, c4, c5⟩ := HS.out _ HB.out; clear hb1))
          go_returns
          exact ⟨_, _, _, rfl, World.ownsRow_nil _ _ _ _, HBB.out _ HB.out⟩
      · have hno : nxB r row arm = false := by rw [hN, decide_eq_false ha0]; simp
        rw [hno, nxV_no hno]
        clear hr hw lr hB0 hp hN hf hno hnr
        go_enter Try.func16, Try.ntmps16
        go_wp2_with (first
          | (go_at_call 28; (with_reducible refine (HPR.out _ (Below.refl _ _)).mono ?_); rintro e w1 ⟨rfl, hb1⟩; have HB := Lib.hid hb1; clear c0 c1 c2 c3 c4 c5; obtain ⟨c0, c1, c2, c3, c4, c5⟩ := HS.out _ hb1; clear hb1)
          | (go_at_call 29; (with_reducible refine (HFI.out _ HB.out).mono ?_); rintro e w2 ⟨rfl, hb1⟩; have HB := Lib.hid (HB.out.trans (hb1.mono HB.out.size)); clear c0 c1 c2 c3 c4 c5; obtain ⟨c0, c1, c2, c3, c4, c5⟩ := HS.out _ HB.out; clear hb1))
        go_returns
        exact ⟨_, _, _, rfl, World.ownsRow_nil _ _ _ _, HBB.out _ HB.out⟩

end Go.Proofs.Ytcpgoaombabfjaa

namespace Go.Proofs.Ytcpgoaombabfjaa
open Go.RowKit

/-- The open arms among the first. -/
def opN (r : List Int) : Nat → List Nat
  | 0 => []
  | k + 1 => opN r k ++ if 0 < r.getD k 0 then [k] else []
theorem opN_yes {r : List Int} {k : Nat} (h : 0 < r.getD k 0) : opN r (k + 1) = opN r k ++ [k] := by rw [opN, if_pos h]
theorem opN_no {r : List Int} {k : Nat} (h : ¬ 0 < r.getD k 0) : opN r (k + 1) = opN r k := by rw [opN, if_neg h, List.append_nil]
theorem opN_len (r : List Int) : ∀ k, (opN r k).length ≤ k
  | 0 => by simp [opN]
  | k + 1 => by have := opN_len r k; rw [opN]; split <;> simp <;> omega
theorem mem_opN {r : List Int} {x : Nat} : ∀ {k : Nat}, x ∈ opN r k → x < k ∧ 0 < r.getD x 0
  | 0, h => by simp [opN] at h
  | k + 1, h => by
    rw [opN] at h
    rcases List.mem_append.1 h with h | h
    · have := mem_opN h; exact ⟨by omega, this.2⟩
    · split at h
      · rename_i hp; have e : x = k := by simpa using h
        subst e; exact ⟨by omega, hp⟩
      · simp at h
def asI (l : List Nat) : List Int := l.map (fun k : Nat => (k : Int))
theorem asI_add (a b : List Nat) : asI (a ++ b) = asI a ++ asI b := by simp [asI]
def lsL (r s t : List Int) (o : List Nat) : Nat → List Nat := fun i => (o.take i).filter (fun k => o.all fun j => decide (tog r s t k ≤ tog r s t j))

theorem best_is (r s t : List Int) : ∀ n : Nat, (opN r n = [] ∧ best r s t n = ([], 0)) ∨ ((∀ k ∈ opN r n, (best r s t n).2 ≤ tog r s t k) ∧ (best r s t n).1 = asI ((opN r n).filter fun k => decide (tog r s t k = (best r s t n).2)) ∧ (best r s t n).1 ≠ [])
  | 0 => .inl ⟨rfl, rfl⟩
  | n + 1 => by
    have ih := best_is r s t n
    by_cases hp : 0 < r.getD n 0
    · right
      rw [opN_yes hp]
      obtain ⟨b, hb⟩ : ∃ b, b = best r s t n := ⟨_, rfl⟩
      have hst : best r s t (n + 1) = if b.1 = [] ∨ tog r s t n < b.2 then ([(n : Int)], tog r s t n) else if tog r s t n = b.2 then (b.1 ++ [(n : Int)], b.2) else b := by rw [best, if_pos hp, hb]
      rw [← hb] at ih
      rw [hst]
      by_cases h1 : b.1 = [] ∨ tog r s t n < b.2
      · rw [if_pos h1]
        have hall : ∀ k ∈ opN r n, tog r s t n < tog r s t k := by
          intro k hk
          rcases ih with ⟨e, _⟩ | ⟨h2, h3, h4⟩
          · rw [e] at hk; simp at hk
          · have := h2 k hk
            rcases h1 with h1 | h1
            · exact absurd h1 h4
            · omega
        have hf : (opN r n).filter (fun k => decide (tog r s t k = tog r s t n)) = [] := List.filter_eq_nil_iff.2 (fun k hk => by have := hall k hk; simp; omega)
        refine ⟨fun k hk => ?_, ?_, by simp⟩
        · rcases List.mem_append.1 hk with hk | hk
          · exact Int.le_of_lt (hall k hk)
          · have e : k = n := by simpa using hk
            rw [e]; exact Int.le_refl _
        · show [(n : Int)] = _
          rw [List.filter_append, hf]
          simp [asI]
      · rw [if_neg h1]
        rcases ih with ⟨_, e⟩ | ⟨h2, h3, h4⟩
        · rw [e] at h1; exact absurd (.inl rfl) h1
        · have hge : b.2 ≤ tog r s t n := by
            apply Classical.byContradiction; intro h; exact h1 (.inr (by omega))
          by_cases h5 : tog r s t n = b.2
          · rw [if_pos h5]
            refine ⟨fun k hk => ?_, ?_, by simp⟩
            · rcases List.mem_append.1 hk with hk | hk
              · exact h2 k hk
              · have e : k = n := by simpa using hk
                rw [e]; exact hge
            · show b.1 ++ [(n : Int)] = _
              rw [List.filter_append, asI_add, ← h3]
              simp [asI, h5]
          · rw [if_neg h5]
            refine ⟨fun k hk => ?_, ?_, h4⟩
            · rcases List.mem_append.1 hk with hk | hk
              · exact h2 k hk
              · have e : k = n := by simpa using hk
                rw [e]; exact hge
            · rw [List.filter_append, asI_add, ← h3]
              simp [asI, h5]
    · rw [opN_no hp, show best r s t (n + 1) = best r s t n by rw [best, if_neg hp]]
      exact ih

theorem least_is (r s t : List Int) (n : Nat) : asI (lsL r s t (opN r n) (opN r n).length) = (best r s t n).1 := by
  unfold lsL
  rw [List.take_length]
  rcases best_is r s t n with ⟨h1, h2⟩ | ⟨h1, h2, h3⟩
  · rw [h1, h2]; rfl
  · rw [h2]
    congr 1
    have hex : ∃ j ∈ opN r n, tog r s t j = (best r s t n).2 := by
      cases hf : (opN r n).filter (fun k => decide (tog r s t k = (best r s t n).2)) with
      | nil => rw [h2, hf] at h3; exact absurd rfl h3
      | cons a l =>
        have : a ∈ (opN r n).filter (fun k => decide (tog r s t k = (best r s t n).2)) := by rw [hf]; simp
        exact ⟨a, (List.mem_filter.1 this).1, by simpa using (List.mem_filter.1 this).2⟩
    obtain ⟨j, hj, hjm⟩ := hex
    refine List.filter_congr fun k hk => ?_
    rw [Bool.eq_iff_iff, List.all_eq_true, decide_eq_true_iff]
    constructor
    · intro h
      have := h j hj
      simp at this
      have := h1 k hk
      omega
    · intro h i hi
      have := h1 i hi
      simp; omega

theorem lsL_step (r s t : List Int) {o : List Nat} {i k : Nat} (h : o[i]? = some k) : lsL r s t o (i + 1) = lsL r s t o i ++ if (∀ j, j < o.length → tog r s t k ≤ tog r s t (o.getD j 0)) then [k] else [] := by
  unfold lsL
  have hi : i < o.length := (List.getElem?_eq_some_iff.1 h).1
  rw [List.take_add_one, h, List.filter_append]
  congr 1
  have e : (o.all fun j => decide (tog r s t k ≤ tog r s t j)) = decide (∀ j, j < o.length → tog r s t k ≤ tog r s t (o.getD j 0)) := by
    rw [Bool.eq_iff_iff, List.all_eq_true, decide_eq_true_iff]
    constructor
    · intro h j hj
      have := h o[j] (List.getElem_mem hj)
      simpa [List.getD, hj] using this
    · intro h x hx
      obtain ⟨j, hj, e⟩ := List.getElem_of_mem hx
      have := h j hj
      simp [List.getD, hj, e] at this
      simpa using this
  by_cases hc : ∀ j, j < o.length → tog r s t k ≤ tog r s t (o.getD j 0)
  · rw [if_pos hc]; simp only [Option.toList_some, List.filter_cons, e, decide_eq_true hc, if_true, List.filter_nil]
  · rw [if_neg hc]; simp only [Option.toList_some, List.filter_cons, e, decide_eq_false hc]; simp
theorem lsL_len (r s t : List Int) (o : List Nat) (i : Nat) : (lsL r s t o i).length ≤ o.length := by
  unfold lsL
  refine Nat.le_trans (List.length_filter_le _ _) ?_
  rw [List.length_take]; omega

end Go.Proofs.Ytcpgoaombabfjaa

namespace Go.Proofs.Ytcpgoaombabfjaa
open Go Go.RowKit

/-- Two slices of one's own, which lie apart. -/
structure TwO (W wr : World) (B : Nat) (v : Value) (n : Nat) (R : List Int) (u : Value) (m : Nat) (S : List Int) : Prop where
  o : OwI wr B v n R
  p : OwI wr B u m S
  ne : ∀ g, v.ownBlock = some g → u.ownBlock ≠ some g
  bl : Below B W wr
  lt : B ≤ wr.heap.size
theorem TwO.swap {W wr : World} {B : Nat} {v : Value} {n : Nat} {R : List Int} {u : Value} {m : Nat} {S : List Int} (h : TwO W wr B v n R u m S) : TwO W wr B u m S v n R :=
  ⟨h.p, h.o, fun g h1 h2 => h.ne g h2 h1, h.bl, h.lt⟩
theorem TwO.later {W wr w' : World} {B : Nat} {v : Value} {n : Nat} {R : List Int} {u : Value} {m : Nat} {S : List Int} (h : TwO W wr B v n R u m S) (hb : Below wr.heap.size wr w') : TwO W w' B v n R u m S :=
  ⟨owns_later h.o hb, owns_later h.p hb, h.ne, h.bl.trans (hb.mono h.lt), Nat.le_trans h.lt hb.size⟩
theorem TwO.step {W wr : World} {B : Nat} {v : Value} {n : Nat} {R : List Int} {u : Value} {m : Nat} {S : List Int} (h : TwO W wr B v n R u m S) (hn : n ≤ 1000) (x : Int) :
    ∃ g cap w2, Sem.run Try.prog (appI 22 #[v, .slice (some ⟨wr.heap.size, 0, none⟩) 1 1]) (wr.alloc (.cells #[.int .i64 x] 3)) = .ok (.slice (some ⟨g, 0, none⟩) (n + 1) cap) w2 ∧ TwO W w2 B (.slice (some ⟨g, 0, none⟩) (n + 1) cap) (n + 1) (R ++ [x]) u m S := by
  obtain ⟨g, cap, w2, hrun, hown, hb, hgr, hg, hgl⟩ := push_int h.o hn h.lt x
  refine ⟨g, cap, w2, hrun, ⟨hown, owns_same h.p (fun j hj => ?_), fun j h1 h2 => ?_, h.bl.trans hb, Nat.le_trans h.lt hb.size⟩⟩
  · have hl := (own_lt h.p hj).2
    rw [grown_block hgr (by rw [World.size_alloc]; omega) (fun e => h.ne j e hj)]
    exact Below.heap_alloc wr _ j hl
  · have e : g = j := by simpa [Value.ownBlock] using h1
    subst e
    rcases hg with e2 | e2
    · exact h.ne g e2 h2
    · have := (own_lt h.p h2).2; omega

/-- One more is appended; what else one owns stays. -/
theorem TwO.step3 {W wr : World} {B : Nat} {v : Value} {n : Nat} {R : List Int} {u : Value} {m : Nat} {S : List Int} (h : TwO W wr B v n R u m S) (hn : n ≤ 1000) (x : Int) :
    ∃ g cap w2, Sem.run Try.prog (appI 22 #[v, .slice (some ⟨wr.heap.size, 0, none⟩) 1 1]) (wr.alloc (.cells #[.int .i64 x] 3)) = .ok (.slice (some ⟨g, 0, none⟩) (n + 1) cap) w2 ∧ TwO W w2 B (.slice (some ⟨g, 0, none⟩) (n + 1) cap) (n + 1) (R ++ [x]) u m S ∧ ∀ z nz Z Bz, OwI wr Bz z nz Z → (∀ g, v.ownBlock = some g → g < Bz) → OwI w2 Bz z nz Z := by
  obtain ⟨g, cap, w2, hrun, hown, hb, hgr, hg, hgl⟩ := push_int h.o hn h.lt x
  refine ⟨g, cap, w2, hrun, ⟨hown, owns_same h.p (fun j hj => ?_), fun j h1 h2 => ?_, h.bl.trans hb, Nat.le_trans h.lt hb.size⟩, fun z nz Z Bz hz hlt => owns_same hz (fun j hj => ?_)⟩
  · have hl := (own_lt h.p hj).2
    rw [grown_block hgr (by rw [World.size_alloc]; omega) (fun e => h.ne j e hj)]
    exact Below.heap_alloc wr _ j hl
  · have e : g = j := by simpa [Value.ownBlock] using h1
    subst e
    rcases hg with e2 | e2
    · exact h.ne g e2 h2
    · have := (own_lt h.p h2).2; omega
  · have hl := own_lt hz hj
    rw [grown_block hgr (by rw [World.size_alloc]; omega) (fun e => by have := hlt j e; omega)]
    exact Below.heap_alloc wr _ j hl.2

/-- What holds in the region that makes the sum. -/
structure LW (W0 Wx : World) (B : Nat) (vO : Value) (n : Nat) (O : List Int) (m : Nat) (S : List Int) (g : Int) (l : Array Bool) (vals : Nat → Value) (w : World) : Prop where
  a : l.getD 8 true = false → Below Wx.heap.size Wx w
  b : l.getD 8 true = true → l.getD 9 true = false → ∃ w1, Below Wx.heap.size Wx w1 ∧ w = w1.alloc (.cells #[.int .i64 g] 3) ∧ vals 8 = .slice (some ⟨w1.heap.size, 0, none⟩) 1 1
  c : l.getD 9 true = true → ∃ q cap, vals 9 = .slice (some ⟨q, 0, none⟩) (m + 1) cap ∧ TwO W0 w B vO n O (.slice (some ⟨q, 0, none⟩) (m + 1) cap) (m + 1) (S ++ [g])
  d : l.getD 10 true = true → vals 10 = vals 9
section
variable {W0 Wx w w' : World} {B : Nat} {vO : Value} {n : Nat} {O : List Int} {m : Nat} {S : List Int} {g : Int} {l : Array Bool} {vals : Nat → Value}
theorem LW.const (h : LW W0 Wx B vO n O m S g l vals w) {i : Nat} (hi : i < 8) (v : Value) : LW W0 Wx B vO n O m S g (l.setIfInBounds i true) (fun u => if u = i then v else vals u) w := by
  refine ⟨?_, ?_, ?_, ?_⟩
  · rw [gset_ne (by omega)]; exact h.a
  · rw [gset_ne (by omega), gset_ne (by omega)]; simpa [show ¬ 8 = i by omega] using h.b
  · rw [gset_ne (by omega)]; simpa [show ¬ 9 = i by omega] using h.c
  · rw [gset_ne (by omega)]; simpa [show ¬ 9 = i by omega, show ¬ 10 = i by omega] using h.d
theorem LW.grow (h : LW W0 Wx B vO n O m S g l vals w) (h8 : l.getD 8 true = false) (h9 : l.getD 9 true = false) (hb : Below w.heap.size w w') : LW W0 Wx B vO n O m S g l vals w' :=
  ⟨fun _ => (h.a h8).trans (hb.mono (h.a h8).size), fun h1 _ => (by rw [h8] at h1; cases h1), fun h1 => (by rw [h9] at h1; cases h1), h.d⟩
theorem LW.made (h : LW W0 Wx B vO n O m S g l vals w) (hsz : 8 < l.size) (h8 : l.getD 8 true = false) (h9 : l.getD 9 true = false) (h10 : l.getD 10 true = false) : LW W0 Wx B vO n O m S g (l.setIfInBounds 8 true) (fun u => if u = 8 then .slice (some ⟨w.heap.size, 0, none⟩) 1 1 else vals u) (w.alloc (.cells #[.int .i64 g] 3)) := by
  refine ⟨fun h1 => ?_, fun _ _ => ⟨w, h.a h8, rfl, by simp⟩, fun h1 => ?_, fun h1 => ?_⟩
  · simp [Array.getD, hsz] at h1
  · rw [gset_ne (by omega), h9] at h1; cases h1
  · rw [gset_ne (by omega), h10] at h1; cases h1
theorem LW.app (h : LW W0 Wx B vO n O m S g l vals w) (h8 : l.getD 8 true = true) (hsz : 9 < l.size) (h10 : l.getD 10 true = false) {q cap : Nat} (ht : TwO W0 w' B vO n O (.slice (some ⟨q, 0, none⟩) (m + 1) cap) (m + 1) (S ++ [g])) : LW W0 Wx B vO n O m S g (l.setIfInBounds 9 true) (fun u => if u = 9 then .slice (some ⟨q, 0, none⟩) (m + 1) cap else vals u) w' := by
  refine ⟨fun h1 => ?_, fun _ h1 => ?_, fun _ => ⟨q, cap, by simp, ht⟩, fun h1 => ?_⟩
  · rw [gset_ne (by omega), h8] at h1; cases h1
  · simp [Array.getD, hsz] at h1
  · rw [gset_ne (by omega), h10] at h1; cases h1
theorem LW.set (h : LW W0 Wx B vO n O m S g l vals w) (h8 : l.getD 8 true = true) (h9 : l.getD 9 true = true) {v : Value} (hv : v = vals 9) : LW W0 Wx B vO n O m S g (l.setIfInBounds 10 true) (fun u => if u = 10 then v else vals u) w := by
  refine ⟨fun h1 => ?_, fun _ h1 => ?_, ?_, fun _ => by simpa using hv⟩
  · rw [gset_ne (by omega), h8] at h1; cases h1
  · rw [gset_ne (by omega), h9] at h1; cases h1
  · rw [gset_ne (by omega)]; simpa using h.c
end

section
variable {r row : List Int} {cn cd : Nat}
theorem nx_row (h : MadeOk r cn cd) (hf : RowOk r row) {K : Nat} (hK : K < r.length) : nxB r row (K : Int) = decide (0 < r.getD K 0) ∧ (0 < r.getD K 0 → nxV r row (K : Int) = mor (unV r row) K) := by
  have hfi := hf.fi
  have e : nxB r row (K : Int) = decide (0 < r.getD K 0) := by
    have h5 : (unV r row).getD K 0 ≠ 1048575 := by
      by_cases h0 : row.length = 0
      · rw [unV_get0 h0]; omega
      · rw [unV_row h0]; have := hf.2 K; omega
    unfold nxB
    rw [h.pr, hfi, Int.toNat_natCast, decide_eq_true (show (0 : Int) ≤ (K : Int) by omega), decide_eq_true (show (K : Int) < (r.length : Int) by omega), decide_eq_true h5]
    simp
  refine ⟨e, fun hp => ?_⟩
  rw [nxV_yes (by rw [e]; exact decide_eq_true hp), Int.toNat_natCast]
theorem une_mor (h : MadeOk r cn cd) (hf : RowOk r row) (K : Nat) : uneV r (mor (unV r row) K) = unev r (mor (unV r row) K) := by
  have hl : (mor (unV r row) K).length = r.length := by rw [mor_len]; exact unV_len hf.fi
  have hi : ∀ i, 0 ≤ (unV r row).getD i 0 ∧ (unV r row).getD i 0 ≤ 6 := fun i => by
    by_cases h0 : row.length = 0
    · rw [unV_get0 h0]; omega
    · rw [unV_row h0]; exact hf.2 i
  have hm : ∀ i, 0 ≤ (mor (unV r row) K).getD i 0 ∧ (mor (unV r row) K).getD i 0 ≤ 1048575 := fun i => by
    by_cases hk : K < (unV r row).length
    · rw [mor_get hk]; have := hi i; have := hi K; split <;> omega
    · unfold mor; rw [List.set_eq_of_length_le (by omega)]; have := hi i; omega
  have h2 := h.l2
  unfold uneV
  rw [h.pr, fi_row hl hm, Bool.true_and, if_pos rfl, unV_row (by omega)]
end

theorem map_get (f : Nat → Int) {o : List Nat} {i : Nat} (h : i < o.length) : (o.map f).getD i 0 = f (o.getD i 0) := by simp [List.getD, h]
theorem map_fit {f : Nat → Int} (h : ∀ k, 0 ≤ f k ∧ f k ≤ 1761607680) (o : List Nat) (j : Nat) : 0 ≤ (o.map f).getD j 0 ∧ (o.map f).getD j 0 ≤ 1761607680 := by
  by_cases hj : j < o.length
  · rw [map_get f hj]; exact h _
  · rw [out_zero (by simpa using hj)]; omega
theorem asI_fit {o : List Nat} {n : Nat} (h : ∀ x ∈ o, x < n) (j : Nat) : 0 ≤ (asI o).getD j 0 ∧ (asI o).getD j 0 ≤ (n : Int) := by
  by_cases hj : j < o.length
  · unfold asI
    rw [map_get _ hj]
    have : o.getD j 0 ∈ o := by
      have e : o.getD j 0 = o[j] := by simp [List.getD, hj]
      rw [e]; exact List.getElem_mem hj
    have := h _ this
    omega
  · rw [out_zero (by simpa [asI] using hj)]; omega
theorem op_fit (r : List Int) (n j : Nat) : 0 ≤ (asI (opN r n)).getD j 0 ∧ (asI (opN r n)).getD j 0 ≤ (n : Int) := asI_fit (fun _ h => (mem_opN h).1) j
theorem ls_fit (r s t : List Int) (n i j : Nat) : 0 ≤ (asI (lsL r s t (opN r n) i)).getD j 0 ∧ (asI (lsL r s t (opN r n) i)).getD j 0 ≤ (n : Int) :=
  asI_fit (fun x h => by unfold lsL at h; exact (mem_opN (List.mem_of_mem_take (List.mem_filter.1 h).1)).1) j

end Go.Proofs.Ytcpgoaombabfjaa

namespace Go.Proofs.Ytcpgoaombabfjaa
open Go Go.RowKit

theorem unev_shift {r l l' : List Int} {c : Int} (h : prB r = true) (hl : ∀ j, j < r.length → 0 < r.getD j 0 → load r l' (mulN r r.length) j = load r l (mulN r r.length) j + c) : unev r l' = unev r l := by
  obtain ⟨a, b, ⟨a1, a2⟩, ⟨b1, b2⟩, hu, hc⟩ := unev_is (l := l) h
  obtain ⟨a', b', ⟨a1', a2'⟩, ⟨b1', b2'⟩, hu', hc'⟩ := unev_is (l := l') h
  rw [hu, hu']
  have x1 := hc a' a1' a2'
  have x2 := hc b' b1' b2'
  have y1 := hc' a a1 a2
  have y2 := hc' b b1 b2
  rw [hl a a1 a2] at y1
  rw [hl b b1 b2] at y2
  rw [hl a' a1' a2'] at y1 y2 ⊢
  rw [hl b' b1' b2'] at y1 y2 ⊢
  omega

/-- What CoinShifts makes of a row. -/
structure Sh (r s u : List Int) (c d : Int) : Prop where
  len : u.length = r.length
  at' : ∀ j, j < r.length → u.getD j 0 = s.getD j 0 + c * r.getD j 0 + if r.getD j 0 = 0 then d else 0

theorem load_shift {r l l' : List Int} {c : Int} {k : Nat} (hk : k < r.length) (hp : 0 < r.getD k 0) (hl : l'.getD k 0 = l.getD k 0 + c * r.getD k 0) : load r l' (mulN r r.length) k = load r l (mulN r r.length) k + c * (mulN r r.length : Nat) := by
  obtain ⟨b, hb⟩ := r_dvd hk hp
  unfold load
  have e : ((mulN r r.length : Nat) : Int) / r.getD k 0 = b := by rw [hb]; exact Int.mul_ediv_cancel_left _ (by omega)
  rw [hl, e, Int.add_mul, Int.mul_assoc, ← hb]

theorem Sh.unev {r s u : List Int} {c d : Int} (h : Sh r s u c d) (hp : prB r = true) : unev r u = unev r s :=
  unev_shift (c := c * (mulN r r.length : Nat)) hp (fun j h1 h2 => load_shift h1 h2 (by rw [h.at' j h1, if_neg (by omega), Int.add_zero]))
theorem Sh.mor {r s u : List Int} {c d : Int} (h : Sh r s u c d) (hs : s.length = r.length) {k : Nat} (hk : k < r.length) : Sh r (mor s k) (mor u k) c d := by
  refine ⟨by rw [mor_len, h.len], fun j hj => ?_⟩
  rw [mor_get (by rw [h.len]; exact hk), mor_get (by rw [hs]; exact hk)]
  by_cases e : j = k
  · subst e; rw [if_pos rfl, if_pos rfl, h.at' j hj]; omega
  · rw [if_neg e, if_neg e]; exact h.at' j hj
theorem tog_shift {r s t u v : List Int} {c c' d d' : Int} (hp : prB r = true) (h : Sh r s u c d) (h' : Sh r t v c' d') (hs : s.length = r.length) (ht : t.length = r.length) {k : Nat} (hk : k < r.length) : tog r u v k = tog r s t k := by
  unfold tog
  rw [(h.mor hs hk).unev hp, (h'.mor ht hk).unev hp]
theorem best_shift {r s t u v : List Int} {c c' d d' : Int} (hp : prB r = true) (h : Sh r s u c d) (h' : Sh r t v c' d') (hs : s.length = r.length) (ht : t.length = r.length) : ∀ k, k ≤ r.length → best r u v k = best r s t k
  | 0, _ => rfl
  | k + 1, hk => by
    have ih := best_shift hp h h' hs ht k (by omega)
    rw [best, best, ih, tog_shift hp h h' hs ht (show k < r.length by omega)]
theorem prf_shift {r s t u v : List Int} {c c' d d' : Int} (hp : prB r = true) (hs : fiB r s = true) (ht : fiB r t = true) (h0 : r.length ≠ 0) (h : Sh r (unV r s) u c d) (h' : Sh r (unV r t) v c' d') (hu : fiB r u = true) (hv : fiB r v = true) : prfV r u v = prfV r s t := by
  unfold prfV prfB
  rw [hp, hs, ht, hu, hv, unV_row (show u.length ≠ 0 by rw [h.len]; exact h0), unV_row (show v.length ≠ 0 by rw [h'.len]; exact h0), best_shift hp h h' (unV_len hs) (unV_len ht) _ (Nat.le_refl _)]
theorem une_shift {r s u : List Int} {c d : Int} (hp : prB r = true) (hs : fiB r s = true) (h0 : r.length ≠ 0) (h : Sh r (unV r s) u c d) (hu : fiB r u = true) : uneV r u = uneV r s := by
  unfold uneV
  rw [hp, hs, hu, unV_row (show u.length ≠ 0 by rw [h.len]; exact h0), h.unev hp]

end Go.Proofs.Ytcpgoaombabfjaa

namespace Go.Proofs.Ytcpgoaombabfjaa
open Go Go.RowKit

/-- A block that holds ints. -/
abbrev IB (W : World) (g : Nat) (L : List Int) : Prop := W.heap[g]? = some (.cells (ints L).toArray 3 (0, 0))
section
variable {W W' : World} {g : Nat} {L : List Int}
theorem ints_get {L : List Int} {k : Nat} (h : k < L.length) : (ints L)[k]? = some (.int .i64 (L.getD k 0)) := by
  simp [ints, List.getD, h]
theorem IB.cell (h : IB W g L) {k : Nat} (hk : k < L.length) : W.cell? ⟨g, k, none⟩ = some (.int .i64 (L.getD k 0)) := by
  refine cell_of_row _ _ _ _ _ _ h |>.trans ?_
  simp [ints_get hk]
theorem IB.lt (h : IB W g L) : g < W.heap.size := (Array.getElem?_eq_some_iff.1 h).1
theorem IB.free (h : IB W g L) (k : Nat) : W.frozen? ⟨g, k, none⟩ = false := frozen_of_row _ _ k _ _ h
theorem IB.set (h : IB W g L) {k : Nat} (x : Int) : IB (W.setCell ⟨g, k, none⟩ (.int .i64 x)) g (L.set k x) := by
  have h2 := heap_setCell_same _ g k _ 3 (.int .i64 x) h
  rw [IB, h2]
  congr 2
  simp [ints, List.map_set]
theorem IB.other (h : IB W g L) {q k : Nat} {v : Value} (hq : g ≠ q) : IB (W.setCell ⟨q, k, none⟩ v) g L := (Below.heap_setCell _ _ _ _ (by simpa using hq)).trans h
theorem IB.later (h : IB W g L) (hb : Below W.heap.size W W') : IB W' g L := (hb.block g h.lt).trans h
theorem IB.ix (h : IB W g L) {cap : Nat} (hn : L.length ≤ cap) (hl : L.length ≤ 1000) (hf : ∀ k, I64 (L.getD k 0)) : Ix W (.slice (some ⟨g, 0, none⟩) L.length cap) L :=
  ⟨by unfold maxLen; omega, hf, .inr ⟨g, 0, cap, rfl, hn, h.lt, fun j hj => by rw [Nat.zero_add]; exact h.cell hj⟩⟩
end

/-- make([]int, n) -/
theorem made_full (k : Nat) (hk : k ≤ 1000) (W : World) : (Instr.makeSlice 22 (.int .i64 (k : Int)) (.int .i64 (k : Int))).run Try.prog W = .ok (.slice (some ⟨W.heap.size, 0, none⟩) k k) (W.alloc (.cells (ints (List.replicate k 0)).toArray 3)) := by
  obtain ⟨i0, hii, hz0, hz1, hz2⟩ := info_parts Try.info3
  have h := run_makeSlice (P := Try.prog) W 22 3 i0 (.int .i64 0) Try.underlying22 hii hz0 .i64 .i64 (k : Int) (k : Int) (by omega) (by omega) (by rw [hz1]; simp; omega) (by rw [hz2]; omega) (by omega)
  rw [hz1] at h
  simp only [Int.toNat_natCast] at h
  have e : madeCells (Value.int .i64 0).cells (k * 1) = (ints (List.replicate k 0)).toArray := by
    apply Array.ext'
    rw [show (Value.int .i64 0).cells = #[.int .i64 0] from rfl, toList_madeCells_one]
    simp [ints]
  rw [e] at h
  exact h

/-- What holds while two rows are made. -/
structure MK (Wx : World) (n : Nat) (l : Array Bool) (vals : Nat → Value) (w : World) : Prop where
  b : Below Wx.heap.size Wx w
  p3 : l.getD 3 true = true → ∃ g, vals 3 = .slice (some ⟨g, 0, none⟩) n n ∧ Wx.heap.size ≤ g ∧ IB w g (List.replicate n 0)
  p7 : l.getD 7 true = true → ∃ g, vals 7 = .slice (some ⟨g, 0, none⟩) n n ∧ Wx.heap.size ≤ g ∧ IB w g (List.replicate n 0)
  ne : l.getD 3 true = true → l.getD 7 true = true → vals 3 ≠ vals 7
  s8 : l.getD 8 true = true → vals 8 = vals 3
  s9 : l.getD 9 true = true → vals 9 = vals 7
section
variable {Wx w : World} {n : Nat} {l : Array Bool} {vals : Nat → Value}
theorem MK.const (h : MK Wx n l vals w) {i : Nat} (hi : i = 0 ∨ i = 1 ∨ i = 2 ∨ i = 4 ∨ i = 5 ∨ i = 6) (v : Value) : MK Wx n (l.setIfInBounds i true) (fun u => if u = i then v else vals u) w := by
  refine ⟨h.b, ?_, ?_, ?_, ?_, ?_⟩
  · rw [gset_ne (by omega)]; simpa [show ¬ 3 = i by omega] using h.p3
  · rw [gset_ne (by omega)]; simpa [show ¬ 7 = i by omega] using h.p7
  · rw [gset_ne (by omega), gset_ne (by omega)]; simpa [show ¬ 3 = i by omega, show ¬ 7 = i by omega] using h.ne
  · rw [gset_ne (by omega)]; simpa [show ¬ 8 = i by omega, show ¬ 3 = i by omega] using h.s8
  · rw [gset_ne (by omega)]; simpa [show ¬ 9 = i by omega, show ¬ 7 = i by omega] using h.s9
theorem MK.make3 (h : MK Wx n l vals w) (h8 : l.getD 8 true = false) : MK Wx n (l.setIfInBounds 3 true) (fun u => if u = 3 then .slice (some ⟨w.heap.size, 0, none⟩) n n else vals u) (w.alloc (.cells (ints (List.replicate n 0)).toArray 3)) := by
  have ha : Below w.heap.size w (w.alloc (.cells (ints (List.replicate n 0)).toArray 3)) := (Below.refl _ _).alloc (Nat.le_refl _) _
  refine ⟨h.b.alloc h.b.size _, fun _ => ⟨w.heap.size, by simp, h.b.size, heap_alloc_new _ _⟩, ?_, fun _ => ?_, fun h1 => ?_, ?_⟩
  · rw [gset_ne (by omega)]; intro h1
    obtain ⟨g, e1, e2, e3⟩ := h.p7 h1
    exact ⟨g, by simpa using e1, e2, e3.later ha⟩
  · rw [gset_ne (by omega)]; intro h1
    obtain ⟨g, e1, e2, e3⟩ := h.p7 h1
    simp only [if_true, show ¬ 7 = 3 by omega, if_false]
    rw [e1]
    intro e
    have := e3.lt
    have e := (Value.slice.inj e).1
    have e := (Addr.mk.inj (Option.some.inj e)).1
    omega
  · rw [gset_ne (by omega), h8] at h1; cases h1
  · rw [gset_ne (by omega)]; simpa using h.s9
theorem MK.make7 (h : MK Wx n l vals w) (h9 : l.getD 9 true = false) : MK Wx n (l.setIfInBounds 7 true) (fun u => if u = 7 then .slice (some ⟨w.heap.size, 0, none⟩) n n else vals u) (w.alloc (.cells (ints (List.replicate n 0)).toArray 3)) := by
  have ha : Below w.heap.size w (w.alloc (.cells (ints (List.replicate n 0)).toArray 3)) := (Below.refl _ _).alloc (Nat.le_refl _) _
  refine ⟨h.b.alloc h.b.size _, ?_, fun _ => ⟨w.heap.size, by simp, h.b.size, heap_alloc_new _ _⟩, ?_, ?_, fun h1 => ?_⟩
  · rw [gset_ne (by omega)]; intro h1
    obtain ⟨g, e1, e2, e3⟩ := h.p3 h1
    exact ⟨g, by simpa using e1, e2, e3.later ha⟩
  · rw [gset_ne (by omega)]; intro h1 _
    obtain ⟨g, e1, e2, e3⟩ := h.p3 h1
    simp only [if_true, show ¬ 3 = 7 by omega, if_false]
    rw [e1]
    intro e
    have := e3.lt
    have e := (Value.slice.inj e).1
    have e := (Addr.mk.inj (Option.some.inj e)).1
    omega
  · rw [gset_ne (by omega)]; simpa using h.s8
  · rw [gset_ne (by omega), h9] at h1; cases h1
theorem MK.put8 (h : MK Wx n l vals w) {v : Value} (hv : v = vals 3) : MK Wx n (l.setIfInBounds 8 true) (fun u => if u = 8 then v else vals u) w := by
  refine ⟨h.b, ?_, ?_, ?_, fun _ => by simpa using hv, ?_⟩
  · rw [gset_ne (by omega)]; simpa using h.p3
  · rw [gset_ne (by omega)]; simpa using h.p7
  · rw [gset_ne (by omega), gset_ne (by omega)]; simpa using h.ne
  · rw [gset_ne (by omega)]; simpa using h.s9
theorem MK.put9 (h : MK Wx n l vals w) {v : Value} (hv : v = vals 7) : MK Wx n (l.setIfInBounds 9 true) (fun u => if u = 9 then v else vals u) w := by
  refine ⟨h.b, ?_, ?_, ?_, ?_, fun _ => by simpa using hv⟩
  · rw [gset_ne (by omega)]; simpa using h.p3
  · rw [gset_ne (by omega)]; simpa using h.p7
  · rw [gset_ne (by omega), gset_ne (by omega)]; simpa using h.ne
  · rw [gset_ne (by omega)]; simpa using h.s8
end

/-- A region that stores once. -/
structure ST (W1 W2 : World) (si : Nat) (l : Array Bool) (w : World) : Prop where
  a : l.getD si true = false → w = W1
  b : l.getD si true = true → w = W2
theorem ST.const {W1 W2 w : World} {si i : Nat} {l : Array Bool} (h : ST W1 W2 si l w) (hi : si ≠ i) : ST W1 W2 si (l.setIfInBounds i true) w := ⟨by rw [gset_ne hi]; exact h.a, by rw [gset_ne hi]; exact h.b⟩
theorem ST.done {W1 W2 : World} {si : Nat} {l : Array Bool} : ST W1 W2 si (l.setIfInBounds si true) W2 := ⟨fun h => (by rw [gset_self] at h; cases h), fun _ => rfl⟩
theorem set_id {L : List Int} {k : Nat} (hk : k < L.length) : L.set k (L.getD k 0) = L := by
  have e : L.getD k 0 = L[k] := by simp [List.getD, hk]
  rw [e, List.set_getElem_self]
theorem set_get {L : List Int} {k j : Nat} (x : Int) (hk : k < L.length) : (L.set k x).getD j 0 = if j = k then x else L.getD j 0 := by
  by_cases h : j = k
  · subst h; rw [if_pos rfl]; simp [List.getD, hk]
  · rw [if_neg h]; simp [List.getD, List.getElem?_set_ne (fun e => h e.symm)]
/-- What a row becomes. -/
def nwV (r s : List Int) (c d : Int) (j : Nat) : Int := s.getD j 0 + c * r.getD j 0 + if r.getD j 0 = 0 then d else 0
/-- What lies in memory while the rows are made. -/
structure ShI (W0 w : World) (g1 g2 : Nat) (r s t : List Int) (c1 c2 d : Int) (n k : Nat) (L M : List Int) : Prop where
  u : IB w g1 L
  v : IB w g2 M
  b : Below W0.heap.size W0 w
  lu : L.length = n
  lv : M.length = n
  gu : ∀ j, j < n → L.getD j 0 = if j < k then nwV r s c1 d j else 0
  gv : ∀ j, j < n → M.getD j 0 = if j < k then nwV r t c2 0 j else 0

end Go.Proofs.Ytcpgoaombabfjaa

namespace Go.Proofs.Ytcpgoaombabfjaa
open Go Go.RowKit

theorem ShI.sh {W0 w : World} {g1 g2 : Nat} {r s t : List Int} {c1 c2 d : Int} {n : Nat} {L M : List Int} (h : ShI W0 w g1 g2 r s t c1 c2 d n n L M) (hn : n = r.length) : Sh r s L c1 d ∧ Sh r t M c2 0 := by
  refine ⟨⟨by rw [h.lu, hn], fun j hj => ?_⟩, ⟨by rw [h.lv, hn], fun j hj => ?_⟩⟩
  · rw [h.gu j (by omega), if_pos (show j < n by omega)]; rfl
  · rw [h.gv j (by omega), if_pos (show j < n by omega)]; rfl
theorem Sh.bound {r s u : List Int} {c d : Int} (h : Sh r s u c d) (hr : ∀ k, 0 ≤ r.getD k 0 ∧ r.getD k 0 ≤ 3) (hs : ∀ k, 0 ≤ s.getD k 0 ∧ s.getD k 0 ≤ 6) (hc : 0 ≤ c ∧ c ≤ 255) (hd : 0 ≤ d ∧ d ≤ 255) (k : Nat) : 0 ≤ u.getD k 0 ∧ u.getD k 0 ≤ 1048575 := by
  by_cases hk : k < r.length
  · rw [h.at' k hk]
    have h1 := hr k
    have h2 := hs k
    have h3 : 0 ≤ c * r.getD k 0 := Int.mul_nonneg hc.1 h1.1
    have h4 : c * r.getD k 0 ≤ 765 := Int.le_trans (Int.mul_le_mul hc.2 h1.2 h1.1 (by omega)) (by omega)
    split <;> omega
  · rw [out_zero (by rw [h.len]; omega)]; omega
theorem shifts_all {r row row2 L M : List Int} {cn cd : Nat} {c1 c2 d : Int} (hok : MadeOk r cn cd) (h1 : RowOk r row) (h2 : RowOk r row2) (hL : Sh r (unV r row) L c1 d) (hM : Sh r (unV r row2) M c2 0) (b1 : ∀ k, 0 ≤ L.getD k 0 ∧ L.getD k 0 ≤ 1048575) (b2 : ∀ k, 0 ≤ M.getD k 0 ∧ M.getD k 0 ≤ 1048575) :
    uneV r L = uneV r row ∧ uneV r M = uneV r row2 ∧ prfV r L M = prfV r row row2 ∧ chV r L M (cn : Int) (cd : Int) = chV r row row2 (cn : Int) (cd : Int) := by
  have hl := hok.l2
  have f1 := fi_row hL.len b1
  have f2 := fi_row hM.len b2
  have hp := prf_shift hok.pr h1.fi h2.fi (by omega) hL hM f1 f2
  exact ⟨une_shift hok.pr h1.fi (by omega) hL f1, une_shift hok.pr h2.fi (by omega) hM f2, hp, by unfold chV; rw [hp]⟩

end Go.Proofs.Ytcpgoaombabfjaa

namespace Go.Proofs.Ytcpgoaombabfjaa
open Go Go.RowKit

/-- What each operation returns. -/
def SV (D s t a b : Value) (p q : Int) (P : List Int) (C : List Ch) : Nat → Value → World → Prop
  | 0, u, _ => u = .bool true
  | 1, u, _ => u = .bool true
  | 2, u, _ => u = D
  | 3, u, _ => u = s
  | 4, u, _ => u = .int .i64 p
  | 5, u, _ => u = D
  | 6, u, _ => u = a
  | 7, u, _ => u = .int .i64 p
  | 8, u, _ => u = .bool true
  | 9, u, _ => u = .bool true
  | 10, u, _ => u = .bool true
  | 11, u, _ => u = D
  | 12, u, _ => u = t
  | 13, u, _ => u = .int .i64 q
  | 14, u, _ => u = D
  | 15, u, _ => u = b
  | 16, u, _ => u = .int .i64 q
  | 17, u, _ => u = .bool true
  | 18, u, _ => u = .bool true
  | 19, u, _ => u = .bool true
  | 20, u, _ => u = D
  | 21, u, _ => u = s
  | 22, u, _ => u = t
  | 23, u, w => ∃ ao n cap, u = .slice ao n cap ∧ Ix w (.slice ao n cap) P
  | 24, u, _ => u = D
  | 25, u, _ => u = a
  | 26, u, _ => u = b
  | 27, u, w => ∃ ao n cap, u = .slice ao n cap ∧ Ix w (.slice ao n cap) P
  | 28, u, _ => u = .bool true
  | 29, u, _ => u = .bool true
  | 30, u, _ => u = .bool true
  | 31, u, _ => u = D
  | 32, u, _ => u = s
  | 33, u, _ => u = t
  | 34, u, w => ∃ ao n cap, u = .slice ao n cap ∧ Cx w (.slice ao n cap) C
  | 35, u, _ => u = D
  | 36, u, _ => u = a
  | 37, u, _ => u = b
  | 38, u, w => ∃ ao n cap, u = .slice ao n cap ∧ Cx w (.slice ao n cap) C
  | 39, u, _ => u = .bool true
  | 40, u, _ => u = .bool true
  | 41, u, _ => u = .bool true
  | _, _, _ => True
theorem SV.below {D s t a b : Value} {p q : Int} {P : List Int} {C : List Ch} {w w' : World} (hb : Below w.heap.size w w') : ∀ i x, SV D s t a b p q P C i x w → SV D s t a b p q P C i x w'
  | 0, _, h => h
  | 1, _, h => h
  | 2, _, h => h
  | 3, _, h => h
  | 4, _, h => h
  | 5, _, h => h
  | 6, _, h => h
  | 7, _, h => h
  | 8, _, h => h
  | 9, _, h => h
  | 10, _, h => h
  | 11, _, h => h
  | 12, _, h => h
  | 13, _, h => h
  | 14, _, h => h
  | 15, _, h => h
  | 16, _, h => h
  | 17, _, h => h
  | 18, _, h => h
  | 19, _, h => h
  | 20, _, h => h
  | 21, _, h => h
  | 22, _, h => h
  | 23, _, ⟨a, n, c, e, h⟩ => ⟨a, n, c, e, h.below hb⟩
  | 24, _, h => h
  | 25, _, h => h
  | 26, _, h => h
  | 27, _, ⟨a, n, c, e, h⟩ => ⟨a, n, c, e, h.below hb⟩
  | 28, _, h => h
  | 29, _, h => h
  | 30, _, h => h
  | 31, _, h => h
  | 32, _, h => h
  | 33, _, h => h
  | 34, _, ⟨a, n, c, e, h⟩ => ⟨a, n, c, e, h.below hb⟩
  | 35, _, h => h
  | 36, _, h => h
  | 37, _, h => h
  | 38, _, ⟨a, n, c, e, h⟩ => ⟨a, n, c, e, h.below hb⟩
  | 39, _, h => h
  | 40, _, h => h
  | 41, _, h => h
  | _ + 42, _, h => h

theorem got_true {T : Array Value} {j : Nat} (h : T.getD j undef = .bool true) : T[j]? = some (.bool true) := by
  rw [Array.getD_eq_getD_getElem?] at h
  cases hj : T[j]? with
  | none => rw [hj] at h; cases h
  | some v => rw [hj] at h; simp at h; rw [h]

end Go.Proofs.Ytcpgoaombabfjaa
