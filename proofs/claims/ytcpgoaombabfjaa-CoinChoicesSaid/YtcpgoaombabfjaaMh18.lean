/- Contract of the reference: Preferred. Condition: the slices read as ints, at most eight arms. -/
import Derived.Test.YtcpgoaombabfjaaMh17
import Derived.Test.YtcpgoaombabfjaaMh15
namespace Go.Proofs.Ytcpgoaombabfjaa
set_option linter.unusedSimpArgs false
set_option linter.unusedVariables false
open Go Go.RowKit Go.Shelf
attribute [local go_sem ↓] appI_rw

/-- What the operations of the drawn region return. -/
def RPV (D s t : Value) (k : Int) (n : Nat) (S MS U MU : List Int) (x1 x2 g : Int) : Nat → Value → World → Prop
  | 0, u, _ => u = D
  | 1, u, _ => u = D
  | 2, u, _ => u = s
  | 3, u, w => ∃ ao cap, u = .slice ao n cap ∧ Ix w (.slice ao n cap) S
  | 4, u, _ => u = .int .i64 k
  | 5, u, w => ∃ ao cap, u = .slice ao n cap ∧ Ix w (.slice ao n cap) MS
  | 6, u, _ => u = .int .i64 x1
  | 7, u, _ => u = D
  | 8, u, _ => u = D
  | 9, u, _ => u = t
  | 10, u, w => ∃ ao cap, u = .slice ao n cap ∧ Ix w (.slice ao n cap) U
  | 11, u, _ => u = .int .i64 k
  | 12, u, w => ∃ ao cap, u = .slice ao n cap ∧ Ix w (.slice ao n cap) MU
  | 13, u, _ => u = .int .i64 x2
  | 14, u, _ => u = .int .i64 g
  | 15, u, _ => u = .int .i64 g
  | _, _, _ => True
theorem RPV.below {D s t : Value} {k : Int} {n : Nat} {S MS U MU : List Int} {x1 x2 g : Int} {w w' : World} (hb : Below w.heap.size w w') : ∀ i x, RPV D s t k n S MS U MU x1 x2 g i x w → RPV D s t k n S MS U MU x1 x2 g i x w'
  | 0, _, h => h
  | 1, _, h => h
  | 2, _, h => h
  | 3, _, ⟨a, c, e, h⟩ => ⟨a, c, e, h.below hb⟩
  | 4, _, h => h
  | 5, _, ⟨a, c, e, h⟩ => ⟨a, c, e, h.below hb⟩
  | 6, _, h => h
  | 7, _, h => h
  | 8, _, h => h
  | 9, _, h => h
  | 10, _, ⟨a, c, e, h⟩ => ⟨a, c, e, h.below hb⟩
  | 11, _, h => h
  | 12, _, ⟨a, c, e, h⟩ => ⟨a, c, e, h.below hb⟩
  | 13, _, h => h
  | 14, _, h => h
  | 15, _, h => h
  | _ + 16, _, h => h
def rpvCh : List (Nat × Nat) := [(3, 1), (3, 2), (5, 3), (5, 4), (6, 0), (6, 5), (10, 8), (10, 9), (12, 10), (12, 11), (13, 7), (13, 12), (14, 6), (14, 13), (15, 14)]

set_option maxRecDepth 100000 in
set_option maxHeartbeats 8000000 in
theorem rPreferred_any {W : World} {ar aw bw : Option Addr} {nr cr nw cw mw dw : Nat} {r s t : List Int} (hr : Ix W (.slice ar nr cr) r) (hs : Ix W (.slice aw nw cw) s) (ht : Ix W (.slice bw mw dw) t) (lr : r.length ≤ 8) (kd cn cd : Int) :
    Calls Try.prog 19 #[DV kd (.slice ar nr cr) cn cd, .slice aw nw cw, .slice bw mw dw] W fun e w' => ∃ ao n cap, e = .returned (.slice ao n cap) ∧ OwI w' W.heap.size (.slice ao n cap) n (prfV r s t) ∧ Below W.heap.size W w' := by
  have hB0 := dbox_below W kd (.slice ar nr cr) cn cd
  have HBB : Hid (∀ w', Below (W.alloc (.cells #[.int .i64 kd, .slice ar nr cr, .slice none 0 0, .int .i64 0, .int .i64 cn, .int .i64 cd] 30)).heap.size (W.alloc (.cells #[.int .i64 kd, .slice ar nr cr, .slice none 0 0, .int .i64 0, .int .i64 cn, .int .i64 cd] 30)) w' → Below W.heap.size W w') := Lib.hid (fun w' hb => hB0.trans (hb.mono hB0.size))
  have HS : Hid (∀ w', Below (W.alloc (.cells #[.int .i64 kd, .slice ar nr cr, .slice none 0 0, .int .i64 0, .int .i64 cn, .int .i64 cd] 30)).heap.size (W.alloc (.cells #[.int .i64 kd, .slice ar nr cr, .slice none 0 0, .int .i64 0, .int .i64 cn, .int .i64 cd] 30)) w' → w'.cell? ⟨W.heap.size, 0, none⟩ = some (.int .i64 kd) ∧ w'.cell? ⟨W.heap.size, 1, none⟩ = some (.slice ar nr cr) ∧ w'.cell? ⟨W.heap.size, 2, none⟩ = some (.slice none 0 0) ∧ w'.cell? ⟨W.heap.size, 3, none⟩ = some (.int .i64 0) ∧ w'.cell? ⟨W.heap.size, 4, none⟩ = some (.int .i64 cn) ∧ w'.cell? ⟨W.heap.size, 5, none⟩ = some (.int .i64 cd)) := Lib.hid (fun w' hb => ((dbox_is W kd (.slice ar nr cr) cn cd).below hb).cells)
  have HPR : Hid (∀ w', Below (W.alloc (.cells #[.int .i64 kd, .slice ar nr cr, .slice none 0 0, .int .i64 0, .int .i64 cn, .int .i64 cd] 30)).heap.size (W.alloc (.cells #[.int .i64 kd, .slice ar nr cr, .slice none 0 0, .int .i64 0, .int .i64 cn, .int .i64 cd] 30)) w' → Calls Try.prog 28 #[DV kd (.slice ar nr cr) cn cd] w' fun e w2 => e = .returned (.bool (prB r)) ∧ Below w'.heap.size w' w2) := Lib.hid (fun w' hb => rProper_any (hr.below (HBB.out _ hb)) kd cn cd)
  have HFI : Hid (∀ w', Below (W.alloc (.cells #[.int .i64 kd, .slice ar nr cr, .slice none 0 0, .int .i64 0, .int .i64 cn, .int .i64 cd] 30)).heap.size (W.alloc (.cells #[.int .i64 kd, .slice ar nr cr, .slice none 0 0, .int .i64 0, .int .i64 cn, .int .i64 cd] 30)) w' → Calls Try.prog 29 #[DV kd (.slice ar nr cr) cn cd, .slice aw nw cw] w' fun e w2 => e = .returned (.bool (fiB r s)) ∧ Below w'.heap.size w' w2) := Lib.hid (fun w' hb => rFine_any hr.size (hs.below (HBB.out _ hb)) kd cn cd)
  have HFJ : Hid (∀ w', Below (W.alloc (.cells #[.int .i64 kd, .slice ar nr cr, .slice none 0 0, .int .i64 0, .int .i64 cn, .int .i64 cd] 30)).heap.size (W.alloc (.cells #[.int .i64 kd, .slice ar nr cr, .slice none 0 0, .int .i64 0, .int .i64 cn, .int .i64 cd] 30)) w' → Calls Try.prog 29 #[DV kd (.slice ar nr cr) cn cd, .slice bw mw dw] w' fun e w2 => e = .returned (.bool (fiB r t)) ∧ Below w'.heap.size w' w2) := Lib.hid (fun w' hb => rFine_any hr.size (ht.below (HBB.out _ hb)) kd cn cd)
  obtain ⟨c0, c1, c2, c3, c4, c5⟩ := (dbox_is W kd (.slice ar nr cr) cn cd).cells
  have hnr := hr.size
  have hN : prfV r s t = if prfB r s t = true then (best r (unV r s) (unV r t) r.length).1 else [] := rfl
  have hB : prfB r s t = (prB r && fiB r s && fiB r t) := rfl
  cases hp : prB r with
  | false =>
    have hno : prfV r s t = [] := by rw [hN, hB, hp]; simp
    rw [hp] at HPR
    rw [hno]
    clear hr hs ht lr hB0 hp hN hB hno hnr
    go_enter Try.func19, Try.ntmps19
    go_wp2_with (first
      | (go_at_call 28; (with_reducible refine (HPR.out _ (Below.refl _ _)).mono ?_); rintro e w1 ⟨rfl, hb1⟩; have HB := Lib.hid hb1; clear c0 c1 c2 c3 c4 c5; obtain ⟨c0, c1, c2, c3, c4, c5⟩ := HS.out _ hb1; clear hb1))
    go_ret
    exact ⟨_, _, _, rfl, World.ownsRow_nil _ _ _ _, HBB.out _ HB.out⟩
  | true =>
    rw [hp] at HPR hB
    cases hf : fiB r s with
    | false =>
      have hno : prfV r s t = [] := by rw [hN, hB, hf]; simp
      rw [hf] at HFI
      rw [hno]
      clear hr hs ht lr hB0 hp hN hB hf hno hnr
      go_enter Try.func19, Try.ntmps19
      go_wp2_with (first
        | (go_at_call 28; (with_reducible refine (HPR.out _ (Below.refl _ _)).mono ?_); rintro e w1 ⟨rfl, hb1⟩; have HB := Lib.hid hb1; clear c0 c1 c2 c3 c4 c5; obtain ⟨c0, c1, c2, c3, c4, c5⟩ := HS.out _ hb1; clear hb1)
        | (go_at_call 29; (with_reducible refine (HFI.out _ HB.out).mono ?_); rintro e w2 ⟨rfl, hb1⟩; have HB := Lib.hid (HB.out.trans (hb1.mono HB.out.size)); clear c0 c1 c2 c3 c4 c5; obtain ⟨c0, c1, c2, c3, c4, c5⟩ := HS.out _ HB.out; clear hb1))
      go_ret
      exact ⟨_, _, _, rfl, World.ownsRow_nil _ _ _ _, HBB.out _ HB.out⟩
    | true =>
      rw [hf] at HFI hB
      cases hg : fiB r t with
      | false =>
        have hno : prfV r s t = [] := by rw [hN, hB, hg]; simp
        rw [hg] at HFJ
        rw [hno]
        clear hr hs ht lr hB0 hp hN hB hf hg hno hnr
        go_enter Try.func19, Try.ntmps19
        go_wp2_with (first
          | (go_at_call 28; (with_reducible refine (HPR.out _ (Below.refl _ _)).mono ?_); rintro e w1 ⟨rfl, hb1⟩; have HB := Lib.hid hb1; clear c0 c1 c2 c3 c4 c5; obtain ⟨c0, c1, c2, c3, c4, c5⟩ := HS.out _ hb1; clear hb1)
          | (go_at_call 29; (with_reducible refine (HFJ.out _ HB.out).mono ?_); rintro e w3 ⟨rfl, hb1⟩; have HB := Lib.hid (HB.out.trans (hb1.mono HB.out.size)); clear c0 c1 c2 c3 c4 c5; obtain ⟨c0, c1, c2, c3, c4, c5⟩ := HS.out _ HB.out; clear hb1)
          | (go_at_call 29; (with_reducible refine (HFI.out _ HB.out).mono ?_); rintro e w2 ⟨rfl, hb1⟩; have HB := Lib.hid (HB.out.trans (hb1.mono HB.out.size)); clear c0 c1 c2 c3 c4 c5; obtain ⟨c0, c1, c2, c3, c4, c5⟩ := HS.out _ HB.out; clear hb1))
        go_ret
        exact ⟨_, _, _, rfl, World.ownsRow_nil _ _ _ _, HBB.out _ HB.out⟩
      | true =>
        rw [hg] at HFJ hB
        have hyes : prfV r s t = (best r (unV r s) (unV r t) nr).1 := by rw [hN, hB, hnr]; simp
        rw [hyes]
        have h6 := (prB_iff.1 hp).1
        have hnw := hs.size
        have hmw := ht.size
        have hsl := unV_len hf
        have htl := unV_len hg
        have lw : nw ≤ 8 := by
          have h := hsl
          unfold unV at h
          split at h <;> omega
        have lm : mw ≤ 8 := by
          have h := htl
          unfold unV at h
          split at h <;> omega
        obtain ⟨S, hSe⟩ : ∃ S, S = unV r s := ⟨_, rfl⟩
        obtain ⟨U, hUe⟩ : ∃ U, U = unV r t := ⟨_, rfl⟩
        have hsi := unV_in hf
        have hti := unV_in hg
        have G31 : ∀ (q : List Int) (a : Option Addr) (n c : Nat), Ix W (.slice a n c) q → n ≤ 8 → fiB r q = true → ∀ w', Below W.heap.size W w' → Calls Try.prog 31 #[DV kd (.slice ar nr cr) cn cd, .slice a n c] w' fun e w2 => ∃ ao cap, e = .returned (.slice ao nr cap) ∧ Ix w2 (.slice ao nr cap) (unV r q) ∧ Below w'.heap.size w' w2 := fun q a n c hq hn hf w' hb => by
          refine (rFull_any hr.size (hq.below hb) lr hn kd cn cd).mono fun e w2 h => ?_
          obtain ⟨ao, n, cap, h1, h2, h3⟩ := h
          have hn := owI_len h2
          rw [unV_len hf, ← hnr] at hn
          subst hn
          exact ⟨ao, cap, h1, h2.ix (by omega) (fun k => by have := unV_in hf k; exact ⟨by omega, by omega⟩), h3⟩
        have G33 : ∀ (Q : List Int), (∀ k, 0 ≤ Q.getD k 0 ∧ Q.getD k 0 ≤ 1048575) → ∀ (w' : World) (k : Nat) ao cap, k < nr → Ix w' (.slice ao nr cap) Q → Calls Try.prog 33 #[.slice ao nr cap, .int .i64 (k : Int)] w' fun e w2 => ∃ ao2 cap2, e = .returned (.slice ao2 nr cap2) ∧ Ix w2 (.slice ao2 nr cap2) (mor Q k) ∧ Below w'.heap.size w' w2 := fun Q hQ w' k ao cap hk hi => by
          refine (rMore_any hi hk (by omega) (by have := hQ k; omega)).mono fun e w2 h => ?_
          obtain ⟨ao2, cap2, h1, h2, h3⟩ := h
          exact ⟨ao2, cap2, h1, h2.ix (by omega) (fun j => by have := mor_in hQ k j; exact ⟨by omega, by omega⟩), h3⟩
        have G30 : ∀ (Q : List Int), Q.length = r.length → (∀ k, 0 ≤ Q.getD k 0 ∧ Q.getD k 0 ≤ 1048575) → ∀ (w' : World) (k : Nat) ao cap, Below W.heap.size W w' → Ix w' (.slice ao nr cap) (mor Q k) → Calls Try.prog 30 #[DV kd (.slice ar nr cr) cn cd, .slice ao nr cap] w' fun e w2 => e = .returned (.int .i64 (unev r (mor Q k))) ∧ Below w'.heap.size w' w2 := fun Q hl hQ w' k ao cap hb hi =>
          rUnevenness_any (hr.below hb) hi hp (by rw [mor_len, hl]) (fun j => mor_in hQ k j) kd cn cd
        have K31 := Lib.hid (And.intro (G31 s _ _ _ hs lw hf) (G31 t _ _ _ ht lm hg))
        have K33 := Lib.hid (And.intro (G33 S (by rw [hSe]; exact hsi)) (G33 U (by rw [hUe]; exact hti)))
        have K30 := Lib.hid (And.intro (G30 S (by rw [hSe]; exact hsl) (by rw [hSe]; exact hsi)) (G30 U (by rw [hUe]; exact htl) (by rw [hUe]; exact hti)))
        rw [← hSe, ← hUe] at K31
        rw [← hSe, ← hUe]
        have HTG := Lib.hid (tog_in hp (s := S) (t := U) (by rw [hSe]; exact hsi) (by rw [hUe]; exact hti))
        have HBS := Lib.hid (fun k => best_len r S U k)
        have HBI := Lib.hid (best_in hp (s := S) (t := U) (by rw [hSe]; exact hsi) (by rw [hUe]; exact hti))
        have HRX : Hid (∀ w', Below W.heap.size W w' → Ix w' (.slice ar nr cr) r) := Lib.hid (fun w' hb => hr.below hb)
        have HR8 : Hid (∀ k, 0 ≤ r.getD k 0) := Lib.hid (fun k => (prB_all hp k).1)
        have hn6 : nr ≤ 6 := by omega
        clear G30 G31 G33 hr hs ht lr hB0 hp hN hB hf hg hyes hnr h6 hnw hmw hsl htl lw lm hSe hUe hsi hti
        go_enter Try.func19, Try.ntmps19
        go_wp2_with (first
          | (go_at_call 28; (with_reducible refine (HPR.out _ (Below.refl _ _)).mono ?_); rintro e w1 ⟨rfl, hb1⟩; have HB := Lib.hid hb1; clear c0 c1 c2 c3 c4 c5; obtain ⟨c0, c1, c2, c3, c4, c5⟩ := HS.out _ hb1; clear hb1)
          | (go_at_call 29; (with_reducible refine (HFI.out _ HB.out).mono ?_); rintro e w2 ⟨rfl, hb1⟩; have HB2 := Lib.hid (HB.out.trans (hb1.mono HB.out.size)); clear c0 c1 c2 c3 c4 c5; obtain ⟨c0, c1, c2, c3, c4, c5⟩ := HS.out _ HB2.out; clear hb1)
          | (go_at_call 29; (with_reducible refine (HFJ.out _ HB2.out).mono ?_); rintro e w3 ⟨rfl, hb1⟩; have HB3 := Lib.hid (HB2.out.trans (hb1.mono HB2.out.size)); clear c0 c1 c2 c3 c4 c5; clear hb1))
        have HBW := Lib.hid (HBB.out _ HB3.out)
        have HSW : Hid (∀ w', Below w3.heap.size w3 w' → w'.cell? ⟨W.heap.size, 0, none⟩ = some (.int .i64 kd) ∧ w'.cell? ⟨W.heap.size, 1, none⟩ = some (.slice ar nr cr) ∧ w'.cell? ⟨W.heap.size, 2, none⟩ = some (.slice none 0 0) ∧ w'.cell? ⟨W.heap.size, 3, none⟩ = some (.int .i64 0) ∧ w'.cell? ⟨W.heap.size, 4, none⟩ = some (.int .i64 cn) ∧ w'.cell? ⟨W.heap.size, 5, none⟩ = some (.int .i64 cd)) := Lib.hid (fun w' hb => HS.out w' (HB3.out.trans (hb.mono HB3.out.size)))
        have HBX : Hid (∀ w', Below w3.heap.size w3 w' → Below W.heap.size W w') := Lib.hid (fun w' hb => HBW.out.trans (hb.mono HBW.out.size))
        clear HB HB2 HB3 HPR HFI HFJ HS HBB
        go_loopw [7, 8, 9, 10] (fun ov lv kv _ wr => ∃ (k : Nat) (vO : Value) (n : Nat) (m : Int), k ≤ nr ∧ kv = .int .i64 (k : Nat) ∧ ov = vO ∧ lv = .int .i64 m ∧ n ≤ k ∧ Hid (m = (best r S U k).2) ∧ Hid (OwL w3 wr w3.heap.size vO n (best r S U k).1)) (fun _ _ kv _ _ => nr - (intOf kv).toNat)
        case atStart => exact ⟨0, _, 0, 0, by omega, rfl, rfl, rfl, by omega, Lib.hid rfl, Lib.hid ⟨World.ownsRow_nil _ _ _ _, Below.refl _ _, Nat.le_refl _⟩⟩
        case round =>
          obtain ⟨w, hw⟩ : ∃ w, w = wr := ⟨_, rfl⟩
          subst hw
          obtain ⟨k, vO, n, m, hk, rfl, rfl, rfl, hnk, HM, HO⟩ := hrel
          obtain ⟨aO, cO, rfl⟩ := slice_of_owns HO.out.o
          obtain ⟨c0, c1, c2, c3, c4, c5⟩ := HSW.out w HO.out.bl
          by_cases hkn : k = nr
          · subst hkn
            go_wp2
            go_ret
            exact ⟨_, _, _, rfl, owns_mono HO.out.o HBW.out.size, HBX.out _ HO.out.bl⟩
          · have hlt : k < nr := by omega
            have hltI : (k : Int) < (nr : Int) := by omega
            have hmb := HBI.out k
            rw [← HM.out] at hmb
            have HLN := Lib.hid (owI_len HO.out.o)
            obtain ⟨b, off, rfl, -, -, -, hcl⟩ := (HRX.out w (HBX.out w HO.out.bl)).at (by omega)
            have hc := hcl k hlt
            have hr0 := HR8.out k
            obtain ⟨x, hx⟩ : ∃ x, x = r.getD k 0 := ⟨_, rfl⟩
            rw [← hx] at hc hr0
            by_cases hx0 : x = 0
            · have HE : Hid (best r S U (k + 1) = best r S U k) := Lib.hid (by rw [best, if_neg (by rw [← hx]; omega)])
              clear hcl hx hr0
              subst hx0
              go_wp2
              go_roundw
              case rel => exact ⟨k + 1, _, n, m, by omega, by go_num, rfl, rfl, by omega, by rw [HE.out]; exact HM, by rw [HE.out]; exact HO⟩
              case measure => simp [intOf]; omega
            · have hx1 : (x == 0) = false := by simpa using hx0
              have HE : Hid (best r S U (k + 1) = if (best r S U k).1 = [] ∨ tog r S U k < (best r S U k).2 then ([(k : Int)], tog r S U k) else if tog r S U k = (best r S U k).2 then ((best r S U k).1 ++ [(k : Int)], (best r S U k).2) else best r S U k) := Lib.hid (by rw [best, if_pos (by rw [← hx]; omega)])
              have htb := HTG.out k
              obtain ⟨g, hg⟩ : ∃ g, g = tog r S U k := ⟨_, rfl⟩
              obtain ⟨x1, hx1e⟩ : ∃ y, y = unev r (mor S k) := ⟨_, rfl⟩
              obtain ⟨x2, hx2e⟩ : ∃ y, y = unev r (mor U k) := ⟨_, rfl⟩
              have hgg : g = x1 + x2 := by rw [hg, hx1e, hx2e]; rfl
              rw [← hg] at htb HE
              rw [← HM.out] at HE
              have wg : IntKind.i64.wrap (x1 + x2) = g := by rw [← hgg]; exact IntWalk.i64_in _ (by omega)
              have hBd : Below w3.heap.size w3 w.drew := HO.out.bl.drew
              have hTo : ∀ w', Below w.drew.heap.size w.drew w' → Below w3.heap.size w3 w' := fun w' hb => hBd.trans (hb.mono hBd.size)
              have HCL : Hid (∀ w', Below w.drew.heap.size w.drew w' → w'.cell? ⟨W.heap.size, 0, none⟩ = some (.int .i64 kd) ∧ w'.cell? ⟨W.heap.size, 1, none⟩ = some (.slice (some ⟨b, off, none⟩) nr cr) ∧ w'.cell? ⟨W.heap.size, 2, none⟩ = some (.slice none 0 0) ∧ w'.cell? ⟨W.heap.size, 3, none⟩ = some (.int .i64 0) ∧ w'.cell? ⟨W.heap.size, 4, none⟩ = some (.int .i64 cn) ∧ w'.cell? ⟨W.heap.size, 5, none⟩ = some (.int .i64 cd)) := Lib.hid (fun w' hb => HSW.out w' (hTo w' hb))
              obtain ⟨MS, hMS⟩ : ∃ M, M = mor S k := ⟨_, rfl⟩
              obtain ⟨MU, hMU⟩ : ∃ M, M = mor U k := ⟨_, rfl⟩
              have HU1 : Hid (∀ w', Below w.drew.heap.size w.drew w' → Calls Try.prog 31 #[DV kd (.slice (some ⟨b, off, none⟩) nr cr) cn cd, .slice aw nw cw] w' fun e w2 => ∃ ao cap, e = .returned (.slice ao nr cap) ∧ Ix w2 (.slice ao nr cap) S ∧ Below w'.heap.size w' w2) := Lib.hid (fun w' hb => K31.out.1 w' (HBX.out w' (hTo w' hb)))
              have HU2 : Hid (∀ w', Below w.drew.heap.size w.drew w' → Calls Try.prog 31 #[DV kd (.slice (some ⟨b, off, none⟩) nr cr) cn cd, .slice bw mw dw] w' fun e w2 => ∃ ao cap, e = .returned (.slice ao nr cap) ∧ Ix w2 (.slice ao nr cap) U ∧ Below w'.heap.size w' w2) := Lib.hid (fun w' hb => K31.out.2 w' (HBX.out w' (hTo w' hb)))
              have HM1 : Hid (∀ w' ao cap, Below w.drew.heap.size w.drew w' → Ix w' (.slice ao nr cap) S → Calls Try.prog 33 #[.slice ao nr cap, .int .i64 (k : Int)] w' fun e w2 => ∃ ao2 cap2, e = .returned (.slice ao2 nr cap2) ∧ Ix w2 (.slice ao2 nr cap2) MS ∧ Below w'.heap.size w' w2) := Lib.hid (fun w' ao cap _ hi => by rw [hMS]; exact K33.out.1 w' k ao cap hlt hi)
              have HM2 : Hid (∀ w' ao cap, Below w.drew.heap.size w.drew w' → Ix w' (.slice ao nr cap) U → Calls Try.prog 33 #[.slice ao nr cap, .int .i64 (k : Int)] w' fun e w2 => ∃ ao2 cap2, e = .returned (.slice ao2 nr cap2) ∧ Ix w2 (.slice ao2 nr cap2) MU ∧ Below w'.heap.size w' w2) := Lib.hid (fun w' ao cap _ hi => by rw [hMU]; exact K33.out.2 w' k ao cap hlt hi)
              have HV1 : Hid (∀ w' ao cap, Below w.drew.heap.size w.drew w' → Ix w' (.slice ao nr cap) MS → Calls Try.prog 30 #[DV kd (.slice (some ⟨b, off, none⟩) nr cr) cn cd, .slice ao nr cap] w' fun e w2 => e = .returned (.int .i64 x1) ∧ Below w'.heap.size w' w2) := Lib.hid (fun w' ao cap hb hi => by rw [hx1e]; rw [hMS] at hi; exact K30.out.1 w' k ao cap (HBX.out w' (hTo w' hb)) hi)
              have HV2 : Hid (∀ w' ao cap, Below w.drew.heap.size w.drew w' → Ix w' (.slice ao nr cap) MU → Calls Try.prog 30 #[DV kd (.slice (some ⟨b, off, none⟩) nr cr) cn cd, .slice ao nr cap] w' fun e w2 => e = .returned (.int .i64 x2) ∧ Below w'.heap.size w' w2) := Lib.hid (fun w' ao cap hb hi => by rw [hx2e]; rw [hMU] at hi; exact K30.out.2 w' k ao cap (HBX.out w' (hTo w' hb)) hi)
              clear hcl hx hg hx1e hx2e hgg hBd hTo hMS hMU
              go_upto_region 9 with fail
              clear hc c0 c1 c2 c3 c4 c5
              refine (wpIn_wide (n := 6)).1 ?_
              refine frame_namedIn ?_
              intro T hT
              obtain ⟨R, hRd⟩ : ∃ R : Array Bool → Act → World → Prop, R = (fun l a w' => ∃ vals, RH rpvCh T [some 39, some 40, some 41, some 42, some 43, some 44, some 45, some 46, some 47, some 48, some 49, some 50, some 51, some 52, some 53, some 10] (fun _ _ w' => Below w.drew.heap.size w.drew w') (RPV (DV kd (.slice (some ⟨b, off, none⟩) nr cr) cn cd) (.slice aw nw cw) (.slice bw mw dw) (k : Int) nr S MS U MU x1 x2 g) vals l a w') := ⟨_, rfl⟩
              refine region_inv (by kernel_rfl) R ?h0r1 ?stepr1 ?finr1
              case h0r1 => rw [hRd]; exact RH.start rfl (fun i j h => by simp [rpvCh] at h; simp only [List.length_cons, List.length_nil]; omega) (by exact (Below.refl _ _))
              case stepr1 =>
                rintro l a w' i' hR0 hi'
                have hR1 := hR0
                rw [hRd] at hR1
                obtain ⟨vals, hR⟩ := hR1
                obtain ⟨hl0, o, ho, hdep⟩ := mem_ready.1 hi'
                have h15 : i' < 16 := by
                  have := (Array.getElem?_eq_some_iff.1 ho).1
                  simpa using this
                rcases (show i' = 0 ∨ i' = 1 ∨ i' = 2 ∨ i' = 3 ∨ i' = 4 ∨ i' = 5 ∨ i' = 6 ∨ i' = 7 ∨ i' = 8 ∨ i' = 9 ∨ i' = 10 ∨ i' = 11 ∨ i' = 12 ∨ i' = 13 ∨ i' = 14 ∨ i' = 15 by omega) with rfl | rfl | rfl | rfl | rfl | rfl | rfl | rfl | rfl | rfl | rfl | rfl | rfl | rfl | rfl | rfl
                · simp at ho
                  subst ho
                  simp [Region.binds] at hdep
                  have k0 : a.tmps.getD 3 undef = .pointer (some ⟨W.heap.size, 0, none⟩) := (hR.fr.kept rfl (by simp [hT])).trans (by rw [hT]; try rfl)
                  have hc : ∀ j, (0, j) ∈ rpvCh → l.getD j true = true := by intro j hj; simp [rpvCh] at hj
                  clear hi' hdep
                  obtain ⟨d0, d1, d2, d3, d4, d5⟩ := HCL.out _ hR.wd
                  have k0g := k0
                  rw [Array.getD_eq_getD_getElem?] at k0g
                  unfold wpOpIn
                  simp [Region.wanted]
                  unfold Oper.wpIn
                  simp [Oper.about, execOp, go_sem, Act.eval, k0, k0g, d0, d1, d2, d3, d4, d5]
                  rw [hRd]
                  exact hR.op 0 39 _ rfl (by decide) hl0 hc (hR.wd) (fun _ _ h => h) (rfl)
                · simp at ho
                  subst ho
                  simp [Region.binds] at hdep
                  have k0 : a.tmps.getD 3 undef = .pointer (some ⟨W.heap.size, 0, none⟩) := (hR.fr.kept rfl (by simp [hT])).trans (by rw [hT]; try rfl)
                  have hc : ∀ j, (1, j) ∈ rpvCh → l.getD j true = true := by intro j hj; simp [rpvCh] at hj
                  clear hi' hdep
                  obtain ⟨d0, d1, d2, d3, d4, d5⟩ := HCL.out _ hR.wd
                  have k0g := k0
                  rw [Array.getD_eq_getD_getElem?] at k0g
                  unfold wpOpIn
                  simp [Region.wanted]
                  unfold Oper.wpIn
                  simp [Oper.about, execOp, go_sem, Act.eval, k0, k0g, d0, d1, d2, d3, d4, d5]
                  rw [hRd]
                  exact hR.op 1 40 _ rfl (by decide) hl0 hc (hR.wd) (fun _ _ h => h) (rfl)
                · simp at ho
                  subst ho
                  simp [Region.binds] at hdep
                  have k0 : a.tmps.getD 1 undef = .slice aw nw cw := (hR.fr.kept rfl (by simp [hT])).trans (by rw [hT]; try rfl)
                  have hc : ∀ j, (2, j) ∈ rpvCh → l.getD j true = true := by intro j hj; simp [rpvCh] at hj
                  clear hi' hdep
                  have k0g := k0
                  rw [Array.getD_eq_getD_getElem?] at k0g
                  unfold wpOpIn
                  simp [Region.wanted]
                  unfold Oper.wpIn
                  simp [Oper.about, execOp, go_sem, Act.eval, k0, k0g]
                  rw [hRd]
                  exact hR.op 2 41 _ rfl (by decide) hl0 hc (hR.wd) (fun _ _ h => h) (rfl)
                · simp at ho
                  subst ho
                  simp [Region.binds] at hdep
                  have d0 : l.getD 1 true = true := getD_true (by simp_all)
                  have k0 : a.tmps.getD 40 undef = vals 1 := hR.get rfl (by simp_all) (by simp [hT])
                  have e0 : vals 1 = DV kd (.slice (some ⟨b, off, none⟩) nr cr) cn cd := hR.vl 1 (by decide) d0
                  rw [e0] at k0
                  have d1 : l.getD 2 true = true := getD_true (by simp_all)
                  have k1 : a.tmps.getD 41 undef = vals 2 := hR.get rfl (by simp_all) (by simp [hT])
                  have e1 : vals 2 = .slice aw nw cw := hR.vl 2 (by decide) d1
                  rw [e1] at k1
                  have hc : ∀ j, (3, j) ∈ rpvCh → l.getD j true = true := by intro j hj; simp [rpvCh] at hj; rcases hj with rfl | rfl <;> exact getD_true (by simp_all)
                  clear hi' hdep
                  have k0g := k0
                  rw [Array.getD_eq_getD_getElem?] at k0g
                  have k1g := k1
                  rw [Array.getD_eq_getD_getElem?] at k1g
                  unfold wpOpIn
                  simp [Region.wanted]
                  unfold Oper.wpIn
                  simp [Oper.about, execOp, go_sem, Act.eval, k0, k1, k0g, k1g]
                  refine ⟨trivial, (callsIn_wide.2 (HU1.out _ hR.wd)).mono ?_⟩
                  rintro e w'' ⟨ao, cap, rfl, hi, hb⟩
                  rw [hRd]
                  exact hR.op 3 42 _ rfl (by decide) hl0 hc (hR.wd.trans (hb.mono hR.wd.size)) (RPV.below hb) (⟨_, _, rfl, hi⟩)
                · simp at ho
                  subst ho
                  simp [Region.binds] at hdep
                  have k0 : a.tmps.getD 9 undef = .int .i64 (k : Int) := (hR.fr.kept rfl (by simp [hT])).trans (by rw [hT]; try rfl)
                  have hc : ∀ j, (4, j) ∈ rpvCh → l.getD j true = true := by intro j hj; simp [rpvCh] at hj
                  clear hi' hdep
                  have k0g := k0
                  rw [Array.getD_eq_getD_getElem?] at k0g
                  unfold wpOpIn
                  simp [Region.wanted]
                  unfold Oper.wpIn
                  simp [Oper.about, execOp, go_sem, Act.eval, k0, k0g]
                  rw [hRd]
                  exact hR.op 4 43 _ rfl (by decide) hl0 hc (hR.wd) (fun _ _ h => h) (rfl)
                · simp at ho
                  subst ho
                  simp [Region.binds] at hdep
                  have d0 : l.getD 3 true = true := getD_true (by simp_all)
                  have k0 : a.tmps.getD 42 undef = vals 3 := hR.get rfl (by simp_all) (by simp [hT])
                  obtain ⟨ao0, cap0, e0, hi0⟩ : ∃ ao cap, vals 3 = .slice ao nr cap ∧ Ix w' (.slice ao nr cap) S := hR.vl 3 (by decide) d0
                  rw [e0] at k0
                  have d1 : l.getD 4 true = true := getD_true (by simp_all)
                  have k1 : a.tmps.getD 43 undef = vals 4 := hR.get rfl (by simp_all) (by simp [hT])
                  have e1 : vals 4 = .int .i64 (k : Int) := hR.vl 4 (by decide) d1
                  rw [e1] at k1
                  have hc : ∀ j, (5, j) ∈ rpvCh → l.getD j true = true := by intro j hj; simp [rpvCh] at hj; rcases hj with rfl | rfl <;> exact getD_true (by simp_all)
                  clear hi' hdep
                  have k0g := k0
                  rw [Array.getD_eq_getD_getElem?] at k0g
                  have k1g := k1
                  rw [Array.getD_eq_getD_getElem?] at k1g
                  unfold wpOpIn
                  simp [Region.wanted]
                  unfold Oper.wpIn
                  simp [Oper.about, execOp, go_sem, Act.eval, k0, k1, k0g, k1g]
                  refine ⟨trivial, (callsIn_wide.2 (HM1.out _ _ _ hR.wd hi0)).mono ?_⟩
                  rintro e w'' ⟨ao, cap, rfl, hi, hb⟩
                  rw [hRd]
                  exact hR.op 5 44 _ rfl (by decide) hl0 hc (hR.wd.trans (hb.mono hR.wd.size)) (RPV.below hb) (⟨_, _, rfl, hi⟩)
                · simp at ho
                  subst ho
                  simp [Region.binds] at hdep
                  have d0 : l.getD 0 true = true := getD_true (by simp_all)
                  have k0 : a.tmps.getD 39 undef = vals 0 := hR.get rfl (by simp_all) (by simp [hT])
                  have e0 : vals 0 = DV kd (.slice (some ⟨b, off, none⟩) nr cr) cn cd := hR.vl 0 (by decide) d0
                  rw [e0] at k0
                  have d1 : l.getD 5 true = true := getD_true (by simp_all)
                  have k1 : a.tmps.getD 44 undef = vals 5 := hR.get rfl (by simp_all) (by simp [hT])
                  obtain ⟨ao1, cap1, e1, hi1⟩ : ∃ ao cap, vals 5 = .slice ao nr cap ∧ Ix w' (.slice ao nr cap) MS := hR.vl 5 (by decide) d1
                  rw [e1] at k1
                  have hc : ∀ j, (6, j) ∈ rpvCh → l.getD j true = true := by intro j hj; simp [rpvCh] at hj; rcases hj with rfl | rfl <;> exact getD_true (by simp_all)
                  clear hi' hdep
                  have k0g := k0
                  rw [Array.getD_eq_getD_getElem?] at k0g
                  have k1g := k1
                  rw [Array.getD_eq_getD_getElem?] at k1g
                  unfold wpOpIn
                  simp [Region.wanted]
                  unfold Oper.wpIn
                  simp [Oper.about, execOp, go_sem, Act.eval, k0, k1, k0g, k1g]
                  refine ⟨trivial, (callsIn_wide.2 (HV1.out _ _ _ hR.wd hi1)).mono ?_⟩
                  rintro e w'' ⟨rfl, hb⟩
                  rw [hRd]
                  exact hR.op 6 45 _ rfl (by decide) hl0 hc (hR.wd.trans (hb.mono hR.wd.size)) (RPV.below hb) (rfl)
                · simp at ho
                  subst ho
                  simp [Region.binds] at hdep
                  have k0 : a.tmps.getD 3 undef = .pointer (some ⟨W.heap.size, 0, none⟩) := (hR.fr.kept rfl (by simp [hT])).trans (by rw [hT]; try rfl)
                  have hc : ∀ j, (7, j) ∈ rpvCh → l.getD j true = true := by intro j hj; simp [rpvCh] at hj
                  clear hi' hdep
                  obtain ⟨d0, d1, d2, d3, d4, d5⟩ := HCL.out _ hR.wd
                  have k0g := k0
                  rw [Array.getD_eq_getD_getElem?] at k0g
                  unfold wpOpIn
                  simp [Region.wanted]
                  unfold Oper.wpIn
                  simp [Oper.about, execOp, go_sem, Act.eval, k0, k0g, d0, d1, d2, d3, d4, d5]
                  rw [hRd]
                  exact hR.op 7 46 _ rfl (by decide) hl0 hc (hR.wd) (fun _ _ h => h) (rfl)
                · simp at ho
                  subst ho
                  simp [Region.binds] at hdep
                  have k0 : a.tmps.getD 3 undef = .pointer (some ⟨W.heap.size, 0, none⟩) := (hR.fr.kept rfl (by simp [hT])).trans (by rw [hT]; try rfl)
                  have hc : ∀ j, (8, j) ∈ rpvCh → l.getD j true = true := by intro j hj; simp [rpvCh] at hj
                  clear hi' hdep
                  obtain ⟨d0, d1, d2, d3, d4, d5⟩ := HCL.out _ hR.wd
                  have k0g := k0
                  rw [Array.getD_eq_getD_getElem?] at k0g
                  unfold wpOpIn
                  simp [Region.wanted]
                  unfold Oper.wpIn
                  simp [Oper.about, execOp, go_sem, Act.eval, k0, k0g, d0, d1, d2, d3, d4, d5]
                  rw [hRd]
                  exact hR.op 8 47 _ rfl (by decide) hl0 hc (hR.wd) (fun _ _ h => h) (rfl)
                · simp at ho
                  subst ho
                  simp [Region.binds] at hdep
                  have k0 : a.tmps.getD 2 undef = .slice bw mw dw := (hR.fr.kept rfl (by simp [hT])).trans (by rw [hT]; try rfl)
                  have hc : ∀ j, (9, j) ∈ rpvCh → l.getD j true = true := by intro j hj; simp [rpvCh] at hj
                  clear hi' hdep
                  have k0g := k0
                  rw [Array.getD_eq_getD_getElem?] at k0g
                  unfold wpOpIn
                  simp [Region.wanted]
                  unfold Oper.wpIn
                  simp [Oper.about, execOp, go_sem, Act.eval, k0, k0g]
                  rw [hRd]
                  exact hR.op 9 48 _ rfl (by decide) hl0 hc (hR.wd) (fun _ _ h => h) (rfl)
                · simp at ho
                  subst ho
                  simp [Region.binds] at hdep
                  have d0 : l.getD 8 true = true := getD_true (by simp_all)
                  have k0 : a.tmps.getD 47 undef = vals 8 := hR.get rfl (by simp_all) (by simp [hT])
                  have e0 : vals 8 = DV kd (.slice (some ⟨b, off, none⟩) nr cr) cn cd := hR.vl 8 (by decide) d0
                  rw [e0] at k0
                  have d1 : l.getD 9 true = true := getD_true (by simp_all)
                  have k1 : a.tmps.getD 48 undef = vals 9 := hR.get rfl (by simp_all) (by simp [hT])
                  have e1 : vals 9 = .slice bw mw dw := hR.vl 9 (by decide) d1
                  rw [e1] at k1
                  have hc : ∀ j, (10, j) ∈ rpvCh → l.getD j true = true := by intro j hj; simp [rpvCh] at hj; rcases hj with rfl | rfl <;> exact getD_true (by simp_all)
                  clear hi' hdep
                  have k0g := k0
                  rw [Array.getD_eq_getD_getElem?] at k0g
                  have k1g := k1
                  rw [Array.getD_eq_getD_getElem?] at k1g
                  unfold wpOpIn
                  simp [Region.wanted]
                  unfold Oper.wpIn
                  simp [Oper.about, execOp, go_sem, Act.eval, k0, k1, k0g, k1g]
                  refine ⟨trivial, (callsIn_wide.2 (HU2.out _ hR.wd)).mono ?_⟩
                  rintro e w'' ⟨ao, cap, rfl, hi, hb⟩
                  rw [hRd]
                  exact hR.op 10 49 _ rfl (by decide) hl0 hc (hR.wd.trans (hb.mono hR.wd.size)) (RPV.below hb) (⟨_, _, rfl, hi⟩)
                · simp at ho
                  subst ho
                  simp [Region.binds] at hdep
                  have k0 : a.tmps.getD 9 undef = .int .i64 (k : Int) := (hR.fr.kept rfl (by simp [hT])).trans (by rw [hT]; try rfl)
                  have hc : ∀ j, (11, j) ∈ rpvCh → l.getD j true = true := by intro j hj; simp [rpvCh] at hj
                  clear hi' hdep
                  have k0g := k0
                  rw [Array.getD_eq_getD_getElem?] at k0g
                  unfold wpOpIn
                  simp [Region.wanted]
                  unfold Oper.wpIn
                  simp [Oper.about, execOp, go_sem, Act.eval, k0, k0g]
                  rw [hRd]
                  exact hR.op 11 50 _ rfl (by decide) hl0 hc (hR.wd) (fun _ _ h => h) (rfl)
                · simp at ho
                  subst ho
                  simp [Region.binds] at hdep
                  have d0 : l.getD 10 true = true := getD_true (by simp_all)
                  have k0 : a.tmps.getD 49 undef = vals 10 := hR.get rfl (by simp_all) (by simp [hT])
                  obtain ⟨ao0, cap0, e0, hi0⟩ : ∃ ao cap, vals 10 = .slice ao nr cap ∧ Ix w' (.slice ao nr cap) U := hR.vl 10 (by decide) d0
                  rw [e0] at k0
                  have d1 : l.getD 11 true = true := getD_true (by simp_all)
                  have k1 : a.tmps.getD 50 undef = vals 11 := hR.get rfl (by simp_all) (by simp [hT])
                  have e1 : vals 11 = .int .i64 (k : Int) := hR.vl 11 (by decide) d1
                  rw [e1] at k1
                  have hc : ∀ j, (12, j) ∈ rpvCh → l.getD j true = true := by intro j hj; simp [rpvCh] at hj; rcases hj with rfl | rfl <;> exact getD_true (by simp_all)
                  clear hi' hdep
                  have k0g := k0
                  rw [Array.getD_eq_getD_getElem?] at k0g
                  have k1g := k1
                  rw [Array.getD_eq_getD_getElem?] at k1g
                  unfold wpOpIn
                  simp [Region.wanted]
                  unfold Oper.wpIn
                  simp [Oper.about, execOp, go_sem, Act.eval, k0, k1, k0g, k1g]
                  refine ⟨trivial, (callsIn_wide.2 (HM2.out _ _ _ hR.wd hi0)).mono ?_⟩
                  rintro e w'' ⟨ao, cap, rfl, hi, hb⟩
                  rw [hRd]
                  exact hR.op 12 51 _ rfl (by decide) hl0 hc (hR.wd.trans (hb.mono hR.wd.size)) (RPV.below hb) (⟨_, _, rfl, hi⟩)
                · simp at ho
                  subst ho
                  simp [Region.binds] at hdep
                  have d0 : l.getD 7 true = true := getD_true (by simp_all)
                  have k0 : a.tmps.getD 46 undef = vals 7 := hR.get rfl (by simp_all) (by simp [hT])
                  have e0 : vals 7 = DV kd (.slice (some ⟨b, off, none⟩) nr cr) cn cd := hR.vl 7 (by decide) d0
                  rw [e0] at k0
                  have d1 : l.getD 12 true = true := getD_true (by simp_all)
                  have k1 : a.tmps.getD 51 undef = vals 12 := hR.get rfl (by simp_all) (by simp [hT])
                  obtain ⟨ao1, cap1, e1, hi1⟩ : ∃ ao cap, vals 12 = .slice ao nr cap ∧ Ix w' (.slice ao nr cap) MU := hR.vl 12 (by decide) d1
                  rw [e1] at k1
                  have hc : ∀ j, (13, j) ∈ rpvCh → l.getD j true = true := by intro j hj; simp [rpvCh] at hj; rcases hj with rfl | rfl <;> exact getD_true (by simp_all)
                  clear hi' hdep
                  have k0g := k0
                  rw [Array.getD_eq_getD_getElem?] at k0g
                  have k1g := k1
                  rw [Array.getD_eq_getD_getElem?] at k1g
                  unfold wpOpIn
                  simp [Region.wanted]
                  unfold Oper.wpIn
                  simp [Oper.about, execOp, go_sem, Act.eval, k0, k1, k0g, k1g]
                  refine ⟨trivial, (callsIn_wide.2 (HV2.out _ _ _ hR.wd hi1)).mono ?_⟩
                  rintro e w'' ⟨rfl, hb⟩
                  rw [hRd]
                  exact hR.op 13 52 _ rfl (by decide) hl0 hc (hR.wd.trans (hb.mono hR.wd.size)) (RPV.below hb) (rfl)
                · simp at ho
                  subst ho
                  simp [Region.binds] at hdep
                  have d0 : l.getD 6 true = true := getD_true (by simp_all)
                  have k0 : a.tmps.getD 45 undef = vals 6 := hR.get rfl (by simp_all) (by simp [hT])
                  have e0 : vals 6 = .int .i64 x1 := hR.vl 6 (by decide) d0
                  rw [e0] at k0
                  have d1 : l.getD 13 true = true := getD_true (by simp_all)
                  have k1 : a.tmps.getD 52 undef = vals 13 := hR.get rfl (by simp_all) (by simp [hT])
                  have e1 : vals 13 = .int .i64 x2 := hR.vl 13 (by decide) d1
                  rw [e1] at k1
                  have hc : ∀ j, (14, j) ∈ rpvCh → l.getD j true = true := by intro j hj; simp [rpvCh] at hj; rcases hj with rfl | rfl <;> exact getD_true (by simp_all)
                  clear hi' hdep
                  have k0g := k0
                  rw [Array.getD_eq_getD_getElem?] at k0g
                  have k1g := k1
                  rw [Array.getD_eq_getD_getElem?] at k1g
                  unfold wpOpIn
                  simp [Region.wanted]
                  unfold Oper.wpIn
                  simp [Oper.about, execOp, go_sem, Act.eval, k0, k1, k0g, k1g, wg]
                  rw [hRd]
                  exact hR.op 14 53 _ rfl (by decide) hl0 hc (hR.wd) (fun _ _ h => h) (rfl)
                · simp at ho
                  subst ho
                  simp [Region.binds] at hdep
                  have d0 : l.getD 14 true = true := getD_true (by simp_all)
                  have k0 : a.tmps.getD 53 undef = vals 14 := hR.get rfl (by simp_all) (by simp [hT])
                  have e0 : vals 14 = .int .i64 g := hR.vl 14 (by decide) d0
                  rw [e0] at k0
                  have hc : ∀ j, (15, j) ∈ rpvCh → l.getD j true = true := by intro j hj; simp [rpvCh] at hj; rcases hj with rfl <;> exact getD_true (by simp_all)
                  clear hi' hdep
                  have k0g := k0
                  rw [Array.getD_eq_getD_getElem?] at k0g
                  unfold wpOpIn
                  simp [Region.wanted]
                  unfold Oper.wpIn
                  simp [Oper.about, execOp, go_sem, Act.eval, k0, k0g]
                  rw [hRd]
                  exact hR.op 15 10 _ rfl (by decide) hl0 hc (hR.wd) (fun _ _ h => h) (rfl)
              case' finr1 =>
                rintro l a w' hR0 hz
                rw [hRd] at hR0
                obtain ⟨vals, hR⟩ := hR0
                clear hRd R
                have hnot := List.eq_nil_iff_forall_not_mem.1 hz
                have hk : ∀ k, k < 16 → (l.getD k true = false → False) → l.getD k false = true := fun k h12 h => by
                  have hs := hR.size
                  cases h' : l.getD k true with
                  | false => exact (h h').elim
                  | true => simp at hs; simp [Array.getD, hs, h12] at h' ⊢; exact h'
                have st0 := hk 0 (by omega) (fun h => hnot 0 (mem_ready.2 ⟨h, _, rfl, by simp [Region.binds]⟩))
                have st1 := hk 1 (by omega) (fun h => hnot 1 (mem_ready.2 ⟨h, _, rfl, by simp [Region.binds]⟩))
                have st2 := hk 2 (by omega) (fun h => hnot 2 (mem_ready.2 ⟨h, _, rfl, by simp [Region.binds]⟩))
                have st3 := hk 3 (by omega) (fun h => hnot 3 (mem_ready.2 ⟨h, _, rfl, by simp [Region.binds] <;> simp_all⟩))
                have st4 := hk 4 (by omega) (fun h => hnot 4 (mem_ready.2 ⟨h, _, rfl, by simp [Region.binds]⟩))
                have st5 := hk 5 (by omega) (fun h => hnot 5 (mem_ready.2 ⟨h, _, rfl, by simp [Region.binds] <;> simp_all⟩))
                have st6 := hk 6 (by omega) (fun h => hnot 6 (mem_ready.2 ⟨h, _, rfl, by simp [Region.binds] <;> simp_all⟩))
                have st7 := hk 7 (by omega) (fun h => hnot 7 (mem_ready.2 ⟨h, _, rfl, by simp [Region.binds]⟩))
                have st8 := hk 8 (by omega) (fun h => hnot 8 (mem_ready.2 ⟨h, _, rfl, by simp [Region.binds]⟩))
                have st9 := hk 9 (by omega) (fun h => hnot 9 (mem_ready.2 ⟨h, _, rfl, by simp [Region.binds]⟩))
                have st10 := hk 10 (by omega) (fun h => hnot 10 (mem_ready.2 ⟨h, _, rfl, by simp [Region.binds] <;> simp_all⟩))
                have st11 := hk 11 (by omega) (fun h => hnot 11 (mem_ready.2 ⟨h, _, rfl, by simp [Region.binds]⟩))
                have st12 := hk 12 (by omega) (fun h => hnot 12 (mem_ready.2 ⟨h, _, rfl, by simp [Region.binds] <;> simp_all⟩))
                have st13 := hk 13 (by omega) (fun h => hnot 13 (mem_ready.2 ⟨h, _, rfl, by simp [Region.binds] <;> simp_all⟩))
                have st14 := hk 14 (by omega) (fun h => hnot 14 (mem_ready.2 ⟨h, _, rfl, by simp [Region.binds] <;> simp_all⟩))
                have st15 := hk 15 (by omega) (fun h => hnot 15 (mem_ready.2 ⟨h, _, rfl, by simp [Region.binds] <;> simp_all⟩))
                have hall : ∀ i, i < 16 → l.getD i true = true := fun i hi => by
                  rcases (show i = 0 ∨ i = 1 ∨ i = 2 ∨ i = 3 ∨ i = 4 ∨ i = 5 ∨ i = 6 ∨ i = 7 ∨ i = 8 ∨ i = 9 ∨ i = 10 ∨ i = 11 ∨ i = 12 ∨ i = 13 ∨ i = 14 ∨ i = 15 by omega) with rfl | rfl | rfl | rfl | rfl | rfl | rfl | rfl | rfl | rfl | rfl | rfl | rfl | rfl | rfl | rfl
                  · exact getD_true st0
                  · exact getD_true st1
                  · exact getD_true st2
                  · exact getD_true st3
                  · exact getD_true st4
                  · exact getD_true st5
                  · exact getD_true st6
                  · exact getD_true st7
                  · exact getD_true st8
                  · exact getD_true st9
                  · exact getD_true st10
                  · exact getD_true st11
                  · exact getD_true st12
                  · exact getD_true st13
                  · exact getD_true st14
                  · exact getD_true st15
                clear st0 st1 st2 st3 st4 st5 st6 st7 st8 st9 st10 st11 st12 st13 st14 st15 hk hnot hz
                have hTs : T.size = 71 := by rw [hT]; rfl
                have ha := hR.all (T' := ((((((((((((((((T.setIfInBounds 39 (vals 0)).setIfInBounds 40 (vals 1)).setIfInBounds 41 (vals 2)).setIfInBounds 42 (vals 3)).setIfInBounds 43 (vals 4)).setIfInBounds 44 (vals 5)).setIfInBounds 45 (vals 6)).setIfInBounds 46 (vals 7)).setIfInBounds 47 (vals 8)).setIfInBounds 48 (vals 9)).setIfInBounds 49 (vals 10)).setIfInBounds 50 (vals 11)).setIfInBounds 51 (vals 12)).setIfInBounds 52 (vals 13)).setIfInBounds 53 (vals 14)).setIfInBounds 10 (vals 15))) (fun i hi => hall i (by simpa using hi)) (by simp) (fun j hj => by
                  by_cases h1 : j = 39 ∨ j = 40 ∨ j = 41 ∨ j = 42 ∨ j = 43 ∨ j = 44 ∨ j = 45 ∨ j = 46 ∨ j = 47 ∨ j = 48 ∨ j = 49 ∨ j = 50 ∨ j = 51 ∨ j = 52 ∨ j = 53 ∨ j = 10
                  · rcases h1 with rfl | rfl | rfl | rfl | rfl | rfl | rfl | rfl | rfl | rfl | rfl | rfl | rfl | rfl | rfl | rfl <;> simp [rv_sets, tOwn, List.findIdx?, List.findIdx?.go, hTs]
                  · simp only [not_or] at h1
                    obtain ⟨m39, m40, m41, m42, m43, m44, m45, m46, m47, m48, m49, m50, m51, m52, m53, m10⟩ := h1
                    have e : tOwn [some 39, some 40, some 41, some 42, some 43, some 44, some 45, some 46, some 47, some 48, some 49, some 50, some 51, some 52, some 53, some 10] vals j = none := by
                      unfold tOwn
                      simp [List.findIdx?, List.findIdx?.go, Ne.symm m39, Ne.symm m40, Ne.symm m41, Ne.symm m42, Ne.symm m43, Ne.symm m44, Ne.symm m45, Ne.symm m46, Ne.symm m47, Ne.symm m48, Ne.symm m49, Ne.symm m50, Ne.symm m51, Ne.symm m52, Ne.symm m53, Ne.symm m10]
                    rw [e]
                    simp only [rv_sets]
                    repeat rw [if_neg (by omega)])
                have v0 : vals 0 = DV kd (.slice (some ⟨b, off, none⟩) nr cr) cn cd := hR.vl 0 (by decide) (hall 0 (by decide))
                have v1 : vals 1 = DV kd (.slice (some ⟨b, off, none⟩) nr cr) cn cd := hR.vl 1 (by decide) (hall 1 (by decide))
                have v2 : vals 2 = .slice aw nw cw := hR.vl 2 (by decide) (hall 2 (by decide))
                have v4 : vals 4 = .int .i64 (k : Int) := hR.vl 4 (by decide) (hall 4 (by decide))
                have v6 : vals 6 = .int .i64 x1 := hR.vl 6 (by decide) (hall 6 (by decide))
                have v7 : vals 7 = DV kd (.slice (some ⟨b, off, none⟩) nr cr) cn cd := hR.vl 7 (by decide) (hall 7 (by decide))
                have v8 : vals 8 = DV kd (.slice (some ⟨b, off, none⟩) nr cr) cn cd := hR.vl 8 (by decide) (hall 8 (by decide))
                have v9 : vals 9 = .slice bw mw dw := hR.vl 9 (by decide) (hall 9 (by decide))
                have v11 : vals 11 = .int .i64 (k : Int) := hR.vl 11 (by decide) (hall 11 (by decide))
                have v13 : vals 13 = .int .i64 x2 := hR.vl 13 (by decide) (hall 13 (by decide))
                have v14 : vals 14 = .int .i64 g := hR.vl 14 (by decide) (hall 14 (by decide))
                have v15 : vals 15 = .int .i64 g := hR.vl 15 (by decide) (hall 15 (by decide))
                have HWD : Hid (Below w.drew.heap.size w.drew w') := Lib.hid hR.wd
                subst ha
                clear hR hall hTs
                rw [v0, v1, v2, v4, v6, v7, v8, v9, v11, v13, v14, v15, hT]
                simp only [List.setIfInBounds_toArray, List.set_cons_succ, List.set_cons_zero]
                clear v0 v1 v2 v4 v6 v7 v8 v9 v11 v13 v14 v15 hT T
              generalize vals 3 = y3
              generalize vals 5 = y5
              generalize vals 10 = y10
              generalize vals 12 = y12
              have hbw : Below w.heap.size w w' := (Below.refl w.heap.size w).drew.trans HWD.out
              have HOW : Hid (OwL w3 w' w3.heap.size (.slice aO n cO) n (best r S U k).1) := Lib.hid ⟨owns_later HO.out.o hbw, HO.out.bl.trans (hbw.mono HO.out.lt), Nat.le_trans HO.out.lt hbw.size⟩
              have HNL : Hid (OwL w3 w' w3.heap.size (.slice none 0 0) 0 []) := Lib.hid ⟨World.ownsRow_nil _ _ _ _, HOW.out.bl, HOW.out.lt⟩
              clear HO HCL HU1 HU2 HM1 HM2 HV1 HV2 HWD hbw
              by_cases hn0 : n = 0
              · have HN : Hid (best r S U (k + 1) = ([(k : Int)], g)) := Lib.hid (by
                  rw [HE.out, if_pos (.inl (List.eq_nil_of_length_eq_zero (by have := HLN.out; omega)))])
                obtain ⟨gA, capA, wA, hrunA, hMA⟩ := HNL.out.step (by omega) (k : Int)
                have HMA := Lib.hid hMA
                clear hMA HE HLN HNL HOW
                subst hn0
                go_wp2
                go_roundw
                case rel => exact ⟨k + 1, _, 1, _, by omega, by go_num, rfl, rfl, by omega, by rw [HN.out]; exact Lib.hid rfl, by rw [HN.out]; exact HMA⟩
                case measure => simp [intOf]; omega
              · have hnI : ¬ (n : Int) = 0 := by omega
                by_cases hgm : g < m
                · have HN : Hid (best r S U (k + 1) = ([(k : Int)], g)) := Lib.hid (by rw [HE.out, if_pos (.inr hgm)])
                  obtain ⟨gA, capA, wA, hrunA, hMA⟩ := HNL.out.step (by omega) (k : Int)
                  have HMA := Lib.hid hMA
                  clear hMA HE HLN HNL HOW
                  go_wp2
                  go_roundw
                  case rel => exact ⟨k + 1, _, 1, _, by omega, by go_num, rfl, rfl, by omega, by rw [HN.out]; exact Lib.hid rfl, by rw [HN.out]; exact HMA⟩
                  case measure => simp [intOf]; omega
                · have hne : ¬ ((best r S U k).1 = [] ∨ g < m) := by
                    rintro (h | h)
                    · have := HLN.out; rw [h] at this; simp at this; omega
                    · exact hgm h
                  by_cases hge : g = m
                  · have HN : Hid (best r S U (k + 1) = ((best r S U k).1 ++ [(k : Int)], m)) := Lib.hid (by rw [HE.out, if_neg hne, if_pos hge])
                    obtain ⟨gA, capA, wA, hrunA, hMA⟩ := HOW.out.step (by omega) (k : Int)
                    have HMA := Lib.hid hMA
                    clear hMA HE HLN HNL HOW hne
                    subst hge
                    go_wp2
                    go_roundw
                    case rel => exact ⟨k + 1, _, n + 1, _, by omega, by go_num, rfl, rfl, by omega, by rw [HN.out]; exact Lib.hid rfl, by rw [HN.out]; exact HMA⟩
                    case measure => simp [intOf]; omega
                  · have HN : Hid (best r S U (k + 1) = best r S U k) := Lib.hid (by rw [HE.out, if_neg hne, if_neg hge])
                    clear HE HLN HNL hne
                    go_wp2
                    go_roundw
                    case rel => exact ⟨k + 1, _, n, _, by omega, by go_num, rfl, rfl, by omega, by rw [HN.out]; exact HM, by rw [HN.out]; exact HOW⟩
                    case measure => simp [intOf]; omega

end Go.Proofs.Ytcpgoaombabfjaa
