/- The given statement NumRing: whatever the input, the law returns true and leaves its arguments as they were. Condition: the listed variables hold what the program's text lays in them (the given tie). What NumDigits says of texts and of binary digits, as facts about numbers alone. No condition beyond those that each states. Guessing a digit of a quotient, and taking a multiple away: arithmetic alone. No condition. One digit of a long quotient, and what is taken away for it: arithmetic alone. No condition. The contract of guessed: a digit of a long quotient, or one more. Conditions: the part has one digit more than the divisor, which has at least two, the highest not 0; the quotient is one digit. The contracts of takeAway and giveBack: a multiple taken away from a part of a row, a number given back. Conditions: the part has one digit more than the divisor may have, and the divisor lies elsewhere. A region that draws its order, of which each operation's result is known by its kind, and which lays at most one number into a box of its own. No condition. A region that draws its order, of which each operation's result is known beforehand, and which stores once into a cell that it may load. No condition. The contract of giveBack: a number given back to a part of a row. Conditions: the part has one digit more than the number may have, and the number lies elsewhere. Digits moved up and down by binary digits: arithmetic. No condition. -/
import Derived.Test.YtdgmjmckeeeljaaGreatDoorCards
import Derived.Test.YtdgmjmckeeeljaaGreatDoorTie
import Derived.Test.YtdgmjmckeeeljaaGreatDoorGe4
import Derived.Test.YtdgmjmckeeeljaaGreatDoorGe5
import Derived.ChangeSlices
import Derived.ProofKit
import Derived.OpenShut
import Derived.ChangeVars
import Derived.SevenTiedAt
import Derived.Lib.SlBytesRow
import Derived.Test.YtdgmjmckeeeljaaGreatDoorGe1
import Derived.Deep.QuietTactic
import Derived.BigQuiet
import Derived.BigRegion
import Derived.Lib.ItoaNum
import Derived.Test.YtdgmjmckeeeljaaGreatDoorGe2
namespace Go.Proofs.YtdgmjmckeeeljaaGreatDoor
open Go.ChangeShapes Go.WideShapes Go.ChangeAt Go.RowKit

theorem ownR : ownKnob Tryz.prog.godebug = none := by kernel_rfl

theorem u8_wfR {a : Int} (h : (Lit.int .u8 a).wf = true) : ∃ b : UInt8, a = b.toNat := by
  have h2 : 0 ≤ a ∧ a ≤ 255 := by
    simp only [Lit.wf, IntKind.min, IntKind.max, IntKind.signed, IntKind.bits, Bool.and_eq_true, decide_eq_true_eq] at h
    simpa using h
  refine ⟨UInt8.ofNat a.toNat, ?_⟩
  simp
  omega

theorem cells52 : Tryz.prog.cellsOf 52 = 3 := by kernel_rfl
theorem cells53 : Tryz.prog.cellsOf 53 = 2 := by kernel_rfl
theorem cells22 : Tryz.prog.cellsOf 22 = 1 := by kernel_rfl
theorem cells3 : Tryz.prog.cellsOf 3 = 1 := by kernel_rfl
theorem cells5 : Tryz.prog.cellsOf 5 = 1 := by kernel_rfl
theorem laidOut : laidOutB Tryz.prog = true := by kernel_rfl

theorem trod_arr2 {H : Type} {enc : TypeId × Value → H} {P : Program} {w : World} {base : Nat} {spare : Nat → Bool} {held : Bool} {t e : TypeId} {fuel : Nat} {c0 c1 : Value} {x : DataW H × List MemPlace} (ht : P.underlying t = some (.array 2 e)) (hce : P.cellsOf e = 1)
    (h : DataW.trod enc P w base spare held fuel t [c0, c1] = some x) :
    ∃ y0 y1 n, DataW.trod enc P w base spare held n e [c0] = some y0 ∧ DataW.trod enc P w base spare held n e [c1] = some y1 := by
  cases fuel with
  | zero => simp [DataW.trod] at h
  | succ n =>
    unfold DataW.trod at h
    rw [ht] at h
    have r2 : List.range 2 = [0, 1] := rfl
    simp [r2, hce] at h
    obtain ⟨_, h⟩ := h
    cases h0 : DataW.trod enc P w base spare held n e [c0] with
    | none => simp [h0] at h
    | some y0 =>
      cases h1 : DataW.trod enc P w base spare held n e [c1] with
      | none => simp [h0, h1] at h
      | some y1 => exact ⟨y0, y1, n, h0, h1⟩

theorem trod_arr3 {H : Type} {enc : TypeId × Value → H} {P : Program} {w : World} {base : Nat} {spare : Nat → Bool} {held : Bool} {t e : TypeId} {fuel : Nat} {c0 c1 c2 : Value} {x : DataW H × List MemPlace} (ht : P.underlying t = some (.array 3 e)) (hce : P.cellsOf e = 1)
    (h : DataW.trod enc P w base spare held fuel t [c0, c1, c2] = some x) :
    ∃ y0 y1 y2 n, DataW.trod enc P w base spare held n e [c0] = some y0 ∧ DataW.trod enc P w base spare held n e [c1] = some y1 ∧ DataW.trod enc P w base spare held n e [c2] = some y2 := by
  cases fuel with
  | zero => simp [DataW.trod] at h
  | succ n =>
    unfold DataW.trod at h
    rw [ht] at h
    have r2 : List.range 3 = [0, 1, 2] := rfl
    simp [r2, hce] at h
    obtain ⟨_, h⟩ := h
    cases h0 : DataW.trod enc P w base spare held n e [c0] with
    | none => simp [h0] at h
    | some y0 =>
      cases h1 : DataW.trod enc P w base spare held n e [c1] with
      | none => simp [h0, h1] at h
      | some y1 =>
        cases h2 : DataW.trod enc P w base spare held n e [c2] with
        | none => simp [h0, h1, h2] at h
        | some y2 => exact ⟨y0, y1, y2, n, h0, h1, h2⟩

theorem okWide_arr {P : Program} {W : World} {r : Reach} {b0 : Nat} {t e : TypeId} {n : Nat} {v : Value} (ht : P.underlying t = some (.array n e)) (h : Value.okWide P W r b0 t v) : ∃ cs, v = .agg cs ∧ cs.size = P.cellsOf t := by
  simp only [Value.okWide, ht] at h
  cases v <;> simp_all [Cell.okWide, Cell.ok]

theorem array_two {cs : Array Value} (h : cs.size = 2) : ∃ a b, cs = #[a, b] := by
  obtain ⟨l⟩ := cs
  match l, h with
  | [a, b], _ => exact ⟨a, b, rfl⟩
theorem array_three {cs : Array Value} (h : cs.size = 3) : ∃ a b c, cs = #[a, b, c] := by
  obtain ⟨l⟩ := cs
  match l, h with
  | [a, b, c], _ => exact ⟨a, b, c, rfl⟩

theorem spotless {W : World} {a : Addr} {v : Value} (h : W.cell? a = some v) : a.spot = none := by
  unfold World.cell? at h
  cases hb : W.heap[a.block]? with
  | none => rw [hb] at h; cases h
  | some o =>
    rw [hb] at h
    cases o <;> simp at h
    exact h.1

/-- A slice of ints that came in. -/
theorem open_li {H : Type} {enc : TypeId × Value → H} {W : World} {fuel : Nat} {c : Value} {y : DataW H × List MemPlace} (h : DataW.trod enc Tryz.prog W 0 (fun _ => true) true fuel 22 [c] = some y) : ∃ ao n cap zs, c = .slice ao n cap ∧ Li W (.slice ao n cap) zs := by
  rcases open_ints Tryz.underlying22 Tryz.underlying3 cells3 h with ⟨hcs, _⟩ | ⟨a, len, cap, zs, hcs, _, hl, hm, hz, _, hcell, _⟩
  · simp only [List.cons.injEq, and_true] at hcs
    subst hcs
    exact ⟨none, 0, 0, [], rfl, none, 0, rfl, Nat.le_refl _, Nat.zero_le _, fun h => absurd rfl h⟩
  · simp only [List.cons.injEq, and_true] at hcs
    subst hcs
    simp only [if_true] at hz
    have hlen : (zs.take len).length = len := by rw [List.length_take]; omega
    refine ⟨some a, len, cap, zs.take len, rfl, some a, cap, by rw [hlen], by rw [hlen]; exact hl, by rw [hlen]; omega, fun h0 => ?_⟩
    rw [hlen] at h0
    have hs0 := spotless (hcell 0 (by omega))
    obtain ⟨b, off, spot⟩ := a
    have hs1 : spot = none := hs0
    subst hs1
    refine ⟨b, off, rfl, fun j hj => ?_⟩
    rw [hlen] at hj
    have hc := hcell j (by omega)
    have e : (Addr.mk b off none).add j = ⟨b, off + j, none⟩ := by
      unfold Addr.add
      by_cases hj0 : j = 0
      · subst hj0; rfl
      · rw [if_neg hj0]
    rw [e] at hc
    rw [hc]
    simp [List.getD, List.getElem?_take, hj]

set_option maxRecDepth 100000 in
theorem ring_lifted (os : Os) (started : os.Started) (H : Type) (enc : TypeId × Value → H) :
    ReturnsInHanded {} Tryz.checked os 7 .any (fun w args => (Rows.numRingSpec.pre enc Tryz.prog Tryz.f7 [] false w args ∧ laidMetH Tryz.prog laidL w) ∧ sizedMet enc Tryz.prog Tryz.f7 (OpenSpec.ofChange Rows.numRingSpec) false w args)
      (Rows.numRingSpec.post enc Tryz.prog Tryz.f7 false true false false) := by
  refine returnsInHanded_of_change_and (C := Tryz.checked) (X := fun w _ => laidMetH Tryz.prog laidL w) (fun _ _ _ hh h => h.of_heap hh) ownR started (by kernel_rfl) Tryz.func7
    (ChangeSpec.witness_at (enc := enc) (C := Tryz.checked) (os := os) (X := fun w _ => laidMetH Tryz.prog laidL w) false (laidWorld os) #[.agg #[.slice none 0 0, .slice none 0 0, .slice none 0 0], .agg #[.int .u8 0, .int .u8 0]] 8 rfl (by kernel_rfl) (by kernel_rfl) (by kernel_rfl) (by kernel_rfl) (by kernel_rfl) (laidWorld_met os _)) ?_
  intro W base args ds gs before hval0 hW _ _ hL _
  have hval : ∀ (j : Nat) t v, Tryz.f7.params[j]? = some t → args[j]? = some v → Value.okWide Tryz.prog W .any base t v := hval0
  have hW' := hW
  obtain ⟨p, q, hA0, hV, rfl, hfz, hnd⟩ := hW
  have hA : DataW.TrodAll enc Tryz.prog W 0 (fun _ => true) true Tryz.f7.params.toList args.toList ds p := hA0
  rw [Tryz.params7] at hA hval
  obtain ⟨v0, vs0, d0, ds0, p0, q0, hargs, rfl, rfl, h0, r0⟩ := trodAll_cons hA
  obtain ⟨v1, vs1, d1, ds1, p1, q1, rfl, rfl, rfl, h1, r1⟩ := trodAll_cons r0
  obtain ⟨rfl, rfl, rfl⟩ := trodAll_nil r1
  obtain rfl : args = #[v0, v1] := by cases args; simp_all
  obtain ⟨rfl, rfl⟩ := trodVars_none hV
  have k0 := h0
  have k1 := h1
  have lt0 : ∀ x ∈ p0, x.block < W.heap.size := by obtain ⟨m, hm⟩ := k0; exact DataW.trod_lt m _ _ _ hm
  have lt1 : ∀ x ∈ p1, x.block < W.heap.size := by obtain ⟨m, hm⟩ := k1; exact DataW.trod_lt m _ _ _ hm
  obtain ⟨cs0, rfl, hs0⟩ := okWide_arr Tryz.underlying52 (hval 0 52 v0 rfl rfl)
  obtain ⟨u0, u1, u2, rfl⟩ := array_three (hs0.trans cells52)
  obtain ⟨cs1, rfl, hs1⟩ := okWide_arr Tryz.underlying53 (hval 1 53 v1 rfl rfl)
  obtain ⟨e0, e1, rfl⟩ := array_two (hs1.trans cells53)
  obtain ⟨f0, hf0⟩ := h0
  obtain ⟨y0, y1, y2, n, t0, t1, t2⟩ := trod_arr3 Tryz.underlying52 cells22 hf0
  obtain ⟨ao0, n0, c0, z0, rfl, L0⟩ := open_li t0
  obtain ⟨ao1, n1, c1, z1, rfl, L1⟩ := open_li t1
  obtain ⟨ao2, n2, c2, z2, rfl, L2⟩ := open_li t2
  obtain ⟨f1, hf1⟩ := h1
  obtain ⟨x0, x1, n', b0, b1⟩ := trod_arr2 Tryz.underlying53 cells5 hf1
  obtain ⟨a0, q0, _, w0⟩ := DataW.trod_int Tryz.underlying5 b0
  obtain ⟨a1, q1, _, w1⟩ := DataW.trod_int Tryz.underlying5 b1
  simp only [List.cons.injEq, and_true] at q0 q1
  subst q0 q1
  obtain ⟨E0, rfl⟩ := u8_wfR w0
  obtain ⟨E1, rfl⟩ := u8_wfR w1
  clear hA0 hval0
  simp only [List.append_nil] at hW'
  have htab := tab_of_laid hL
  refine (ring_any L0 L1 L2 E0 E1 (fun W' hb => tab_below htab hb)).mono fun e W' ⟨he, bel⟩ => ?_
  subst he
  exact ⟨_, rfl, _, _, _, [], _, [], hW', trodAll_mk1 (shut_bool Tryz.underlying4 _), (trodAll_cons_mk (Below.trod laidOut (by kernel_rfl) (of_decide_eq_true (by kernel_rfl)) k0 bel lt0) (trodAll_cons_mk (Below.trod laidOut (by kernel_rfl) (of_decide_eq_true (by kernel_rfl)) k1 bel lt1) trodAll_mk0)), rfl, bel.frame _, fun h => by cases h⟩

theorem ring_over : Rows.NumRingSaid :=
  OpenClaim.holds_of_wide 7 Tryz.f7 rfl rfl rfl rfl rfl rfl rfl ⟨rfl, rfl, rfl, rfl, rfl⟩ rfl rfl rfl rfl rfl (by kernel_rfl) Tryz.func7 (by kernel_rfl)
    (of_decide_eq_true (by kernel_rfl)) (by unfold Func.isWrapper; first | (rw [if_pos (by decide +kernel)]; kernel_rfl) | (rw [if_neg (by decide +kernel)]; exact ⟨rfl, rfl⟩))
    (fun os started H enc _ => ring_lifted os started H enc)

/-- The statement. -/
theorem numRing_holds : Rows.NumRingCardSaid :=
  Claim7.holds_tied_plain_at .later [] [.data, .data, .data, .sentinel, .sentinel] true (true, "958520932160259f8438aa7be4506227f44fa7fbd0be64069e22fe8a588b6fcf") true
    ring_over (fun _ h => by cases h) (by kernel_rfl) (fun _ h => by cases h) numRing_row_tie rfl ⟨rfl, rfl⟩ (by kernel_rfl) rfl
    (fun f fn hf hfn => by
      obtain rfl : f = 7 := Option.some.inj ((show Tryz.prog.funcNamed "equipoise/equipoiselaw01.NumRing" = some 7 by kernel_rfl).symm.trans hf) |>.symm
      obtain rfl : fn = Tryz.f7 := (Option.some.inj (Tryz.func7.symm.trans hfn)).symm
      exact ⟨by kernel_rfl, fun j t ht => by
        rw [Tryz.params7] at ht
        have h3 : t = 52 ∨ t = 53 := by
          rcases j with _ | _ | j
          · exact .inl (by simpa using ht.symm)
          · exact .inr (by simpa using ht.symm)
          · simp at ht
        rcases h3 with rfl | rfl
        · exact (show Tryz.prog.wantsStandIn 52 = false by kernel_rfl)
        · exact (show Tryz.prog.wantsStandIn 53 = false by kernel_rfl)⟩)
    (by kernel_rfl)

end Go.Proofs.YtdgmjmckeeeljaaGreatDoor

namespace Go.Proofs.YtdgmjmckeeeljaaGreatDoor
open Go.RowKit Go.Lib

theorem dec_snoc {a d : Nat} (ha : a ≠ 0) (hd : d < 10) : decDigits (a * 10 + d) = decDigits a ++ [UInt8.ofNat (48 + d)] := by
  rw [dec_ge (by omega), show (a * 10 + d) / 10 = a by omega, show (a * 10 + d) % 10 = d by omega]

theorem dig_nat {d : Nat} (hd : d < 10) : (UInt8.ofNat (48 + d)).toNat = 48 + d := by
  rw [UInt8.toNat_ofNat']
  omega

theorem dec_ne (u : Nat) : decDigits u ≠ [] := by
  by_cases h : u < 10
  · rw [decDigits_one h]; simp
  · rw [dec_ge h]; simp

theorem dig_digB {d : Nat} (hd : d < 10) : digB (UInt8.ofNat (48 + d)) = true := by
  unfold digB
  rw [dig_nat hd]
  simp
  omega

theorem dec_digB (u : Nat) : (decDigits u).all digB = true := by
  induction u using Nat.strongRecOn with
  | _ u ih =>
    by_cases h : u < 10
    · rw [decDigits_one h]
      simp only [List.all_cons, List.all_nil, Bool.and_true]
      exact dig_digB h
    · rw [dec_ge h, List.all_append, ih (u / 10) (by omega)]
      simp only [List.all_cons, List.all_nil, Bool.and_true, Bool.true_and]
      exact dig_digB (by omega)

theorem dec_val (u : Nat) : decV 0 (decDigits u) = u := by
  induction u using Nat.strongRecOn with
  | _ u ih =>
    by_cases h : u < 10
    · rw [decDigits_one h]
      show 0 * 10 + ((UInt8.ofNat (48 + u)).toNat - 48) = u
      rw [dig_nat h]
      omega
    · rw [dec_ge h, decV_append, ih (u / 10) (by omega)]
      show u / 10 * 10 + ((UInt8.ofNat (48 + u % 10)).toNat - 48) = u
      rw [dig_nat (by omega)]
      omega

theorem dec_head (u : Nat) (h0 : u ≠ 0) : ((decDigits u).getD 0 0).toNat ≠ 48 := by
  induction u using Nat.strongRecOn with
  | _ u ih =>
    by_cases h : u < 10
    · rw [decDigits_one h]
      show (UInt8.ofNat (48 + u)).toNat ≠ 48
      rw [dig_nat h]
      omega
    · have hl : 0 < (decDigits (u / 10)).length := List.length_pos_iff.2 (dec_ne _)
      rw [dec_ge h, List.getD_eq_getElem?_getD, List.getElem?_append_left hl, ← List.getD_eq_getElem?_getD]
      exact ih (u / 10) (by omega) (by omega)

theorem dec_len : ∀ (k u : Nat), u < 10 ^ (k + 1) → (decDigits u).length ≤ k + 1
  | 0, u, h => by rw [decDigits_one (by simpa using h)]; simp
  | k + 1, u, h => by
    by_cases h2 : u < 10
    · rw [decDigits_one h2]; simp
    · rw [dec_ge h2, List.length_append, List.length_singleton]
      have := dec_len k (u / 10) (by rw [Nat.div_lt_iff_lt_mul (by omega)]; rwa [Nat.pow_succ] at h)
      omega

theorem dec_one {u : Nat} (h : (decDigits u).length = 1) : u < 10 := by
  by_cases h2 : u < 10
  · exact h2
  · rw [dec_ge h2, List.length_append, List.length_singleton] at h
    have := List.length_pos_iff.2 (dec_ne (u / 10))
    omega

theorem dec_minus (u : Nat) : (decDigits u).getD 0 0 ≠ 45 := by
  have h := dec_digB u
  match hm : decDigits u with
  | [] => exact absurd hm (dec_ne u)
  | b :: r =>
    rw [hm] at h
    simp only [List.all_cons, Bool.and_eq_true] at h
    have h5 := h.1
    unfold digB at h5
    simp only [Bool.and_eq_true, decide_eq_true_eq] at h5
    show b ≠ 45
    intro e
    subst e
    exact absurd h5.1 (by decide)

set_option exponentiation.threshold 3000 in
theorem decB_dec (u : Nat) (h : u < 10 ^ 2467) : decB ⟨(decDigits u).toArray⟩ = true := by
  have hl := dec_len 2466 u h
  have hp := List.length_pos_iff.2 (dec_ne u)
  have hs : (⟨(decDigits u).toArray⟩ : ByteArray).size = (decDigits u).length := rfl
  unfold decB
  rw [hs]
  simp only [Bool.and_eq_true, Bool.or_eq_true, decide_eq_true_eq]
  refine ⟨⟨⟨by omega, by omega⟩, ?_⟩, dec_digB u⟩
  by_cases h0 : u = 0
  · right; rw [h0, decDigits_one (by omega)]; rfl
  · left; exact dec_head u h0

theorem pre_minus (l : List UInt8) : hasPrefix (45 :: l) [45] = true ∧ trimPrefix (45 :: l) [45] = l := by
  have h : hasPrefix (45 :: l) [45] = true := by
    unfold hasPrefix
    rw [List.isPrefixOf, beq_self_eq_true]
    rfl
  refine ⟨h, ?_⟩
  unfold trimPrefix
  rw [if_pos h]
  rfl

theorem pre_none (l : List UInt8) (h0 : l ≠ []) (h : l.getD 0 0 ≠ 45) : hasPrefix l [45] = false ∧ trimPrefix l [45] = l := by
  have e : hasPrefix l [45] = false := by
    match l, h0, h with
    | b :: r, _, h =>
      have h : b ≠ 45 := h
      unfold hasPrefix
      rw [List.isPrefixOf, beq_eq_false_iff_ne.2 (Ne.symm h)]
      rfl
  refine ⟨e, ?_⟩
  unfold trimPrefix
  rw [e]
  rfl

set_option exponentiation.threshold 3000 in
theorem parse_txt (a : Int) (h : a.natAbs < 10 ^ 2467) : parseZ ⟨(txt a).toArray⟩ = some a := by
  have hd := decB_dec a.natAbs h
  by_cases ha : a < 0
  · have e : txt a = 45 :: decDigits a.natAbs := by unfold txt; rw [if_pos ha]; rfl
    have h1 : cutT ⟨(45 :: decDigits a.natAbs).toArray⟩ = ⟨(decDigits a.natAbs).toArray⟩ := by
      unfold cutT
      rw [show (⟨(45 :: decDigits a.natAbs).toArray⟩ : ByteArray).data.toList = 45 :: decDigits a.natAbs from rfl, (pre_minus _).2]
    have h2 : cutN ⟨(45 :: decDigits a.natAbs).toArray⟩ = true := (pre_minus _).1
    have h3 : isZ ⟨(decDigits a.natAbs).toArray⟩ = false := by
      unfold isZ
      rw [beq_eq_false_iff_ne]
      intro e
      have e : decDigits a.natAbs = [48] := e
      have := dec_head a.natAbs (by omega)
      rw [e] at this
      exact this rfl
    unfold parseZ
    rw [e, h1, h2, h3, hd]
    simp only [true_and, Bool.false_eq_true, and_false, not_false_eq_true, if_true]
    rw [dec_val]
    congr 1
    omega
  · have e : txt a = decDigits a.natAbs := by unfold txt; rw [if_neg ha]; rfl
    have hn := pre_none _ (dec_ne a.natAbs) (dec_minus a.natAbs)
    have h1 : cutT ⟨(decDigits a.natAbs).toArray⟩ = ⟨(decDigits a.natAbs).toArray⟩ := by
      unfold cutT
      rw [show (⟨(decDigits a.natAbs).toArray⟩ : ByteArray).data.toList = decDigits a.natAbs from rfl, hn.2]
    have h2 : cutN ⟨(decDigits a.natAbs).toArray⟩ = false := hn.1
    unfold parseZ
    rw [e, h1, h2, hd]
    simp only [Bool.false_eq_true, false_and, not_false_eq_true, and_self, if_true, if_false]
    rw [dec_val]
    congr 1
    omega

theorem pow_bits (k : Nat) : 4294967296 ^ k = 2 ^ (32 * k) := by rw [Nat.pow_mul]

/-- The number of binary digits of a number other than 0. -/
theorem bits_bounds {n : Nat} (h0 : n ≠ 0) (hl : (digs n).length ≤ 256) (neg : Bool) (L : Nat) (hL : bitsB neg (digs n) = L) : 1 ≤ L ∧ 2 ^ (L - 1) ≤ n ∧ n < 2 ^ L := by
  have hne : digs n ≠ [] := by rw [digs_pos h0]; simp
  obtain ⟨m, hm⟩ : ∃ m, (digs n).length = m + 1 := ⟨(digs n).length - 1, by have := List.length_pos_iff.2 hne; omega⟩
  have hlast := digs_last n
  rw [List.getLast?_eq_getElem?, hm, Nat.add_sub_cancel] at hlast
  obtain ⟨d, hd⟩ : ∃ d, d = (digs n).getD m 0 := ⟨_, rfl⟩
  have hd0 : d ≠ 0 := by
    intro e
    apply hlast
    rw [List.getElem?_eq_getElem (by omega)]
    rw [List.getD_eq_getElem?_getD, List.getElem?_eq_getElem (by omega)] at hd
    rw [← e, hd]
    rfl
  have hr : rightB neg (digs n) = true := by
    unfold rightB
    rw [if_neg hne, hm, Nat.add_sub_cancel, ← hd]
    simp only [Bool.and_eq_true, decide_eq_true_eq]
    exact ⟨by omega, hd0⟩
  unfold bitsB at hL
  rw [if_neg hne, if_pos hr, hm, Nat.add_sub_cancel, ← hd] at hL
  have hdl : d < 4294967296 := by rw [hd, digs_getD]; exact Nat.mod_lt _ (by omega)
  obtain ⟨b1, b2, b3⟩ := bitLenAux_bounds 64 d (by omega) hd0
  have hL : 32 * m + bitLenAux 64 d = L := hL
  obtain ⟨c, hc⟩ : ∃ c, c = bitLenAux 64 d := ⟨_, rfl⟩
  rw [← hc] at b1 b2 b3 hL
  have hn : n = n % 4294967296 ^ m + 4294967296 ^ m * d := by
    have h1 : n / 4294967296 ^ m = d := by
      rw [hd, digs_getD]
      rw [Nat.mod_eq_of_lt]
      rw [Nat.div_lt_iff_lt_mul (Nat.pow_pos (by omega)), Nat.mul_comm, ← Nat.pow_succ]
      exact digs_length_le.1 (by omega)
    have := Nat.mod_add_div n (4294967296 ^ m)
    rw [h1] at this
    exact this.symm
  have hm2 : n % 4294967296 ^ m < 4294967296 ^ m := Nat.mod_lt _ (Nat.pow_pos (by omega))
  rw [pow_bits] at hn hm2
  obtain ⟨P, hP⟩ : ∃ P, P = 2 ^ (32 * m) := ⟨_, rfl⟩
  obtain ⟨R, hR⟩ : ∃ R, R = n % P := ⟨_, rfl⟩
  rw [← hP, ← hR] at hn hm2
  refine ⟨by omega, ?_, ?_⟩
  · rw [← hL, show 32 * m + c - 1 = 32 * m + (c - 1) by omega, Nat.pow_add, ← hP]
    have := Nat.mul_le_mul_left P b2
    omega
  · rw [← hL, Nat.pow_add, ← hP]
    have h1 : P * (d + 1) ≤ P * 2 ^ c := Nat.mul_le_mul_left P b3
    rw [Nat.mul_succ] at h1
    omega

theorem bits_unique {n i j : Nat} (h1 : 2 ^ (i - 1) ≤ n) (h2 : n < 2 ^ i) (h3 : 2 ^ (j - 1) ≤ n) (h4 : n < 2 ^ j) (hi : 1 ≤ i) (hj : 1 ≤ j) : i = j := by
  rcases Nat.lt_trichotomy i j with h | h | h
  · have := Nat.pow_le_pow_right (n := 2) (by omega) (show i ≤ j - 1 by omega)
    omega
  · exact h
  · have := Nat.pow_le_pow_right (n := 2) (by omega) (show j ≤ i - 1 by omega)
    omega

/-- Bits of a product. -/
theorem bits_mul {n m i j k : Nat} (hi : 1 ≤ i ∧ 2 ^ (i - 1) ≤ n ∧ n < 2 ^ i) (hj : 1 ≤ j ∧ 2 ^ (j - 1) ≤ m ∧ m < 2 ^ j) (hk : 1 ≤ k ∧ 2 ^ (k - 1) ≤ n * m ∧ n * m < 2 ^ k) : k = i + j ∨ k = i + j - 1 := by
  have h1 : 2 ^ (i + j - 2) ≤ n * m := by
    have := Nat.mul_le_mul hi.2.1 hj.2.1
    rwa [← Nat.pow_add, show i - 1 + (j - 1) = i + j - 2 by omega] at this
  have h2 : n * m < 2 ^ (i + j) := by
    rw [Nat.pow_add]
    exact Nat.mul_lt_mul'' hi.2.2 hj.2.2
  rcases Nat.lt_trichotomy k (i + j - 1) with h | h | h
  · have := Nat.pow_le_pow_right (n := 2) (by omega) (show k ≤ i + j - 2 by omega)
    omega
  · exact .inr h
  · rcases Nat.lt_or_ge (i + j) k with h3 | h3
    · have := Nat.pow_le_pow_right (n := 2) (by omega) (show i + j ≤ k - 1 by omega)
      omega
    · left; omega

theorem dec_minus_txt (U : Nat) : txt (U : Int) = decDigits U := by
  unfold txt
  rw [if_neg (by omega)]
  rfl
theorem txt_next {U D : Nat} (h : U ≠ 0) (hD : D < 10) : txt ((U : Int) * 10 + (D : Int)) = txt (U : Int) ++ [UInt8.ofNat (48 + D)] := by
  rw [show (U : Int) * 10 + (D : Int) = ((U * 10 + D : Nat) : Int) by omega, dec_minus_txt, dec_minus_txt, dec_snoc h hD]
theorem txt_dig {D : Nat} (hD : D < 10) : txt (D : Int) = [UInt8.ofNat (48 + D)] := by
  rw [dec_minus_txt, decDigits_one hD]
theorem txt_zero : txt 0 = [48] := by
  rw [show (0 : Int) = ((0 : Nat) : Int) from rfl, dec_minus_txt, decDigits_one (by omega)]
  rfl
theorem txt_neg {A : Int} (h : A < 0) : txt A = 45 :: txt (A.natAbs : Int) := by
  rw [dec_minus_txt]
  unfold txt
  rw [if_pos h]
  rfl
set_option exponentiation.threshold 3000 in
theorem six_dec {n : Nat} (h : n < 4294967296 ^ 6) : n < 10 ^ 2467 := by
  have h1 : 4294967296 ^ 6 ≤ (10 ^ 10) ^ 6 := Nat.pow_le_pow_left (by decide) 6
  rw [← Nat.pow_mul] at h1
  have h2 : 10 ^ (10 * 6) ≤ 10 ^ 2467 := Nat.pow_le_pow_right (by decide) (by decide)
  exact Nat.lt_of_lt_of_le h (Nat.le_trans h1 h2)
theorem parse_back {A : Int} (h : A.natAbs < 4294967296 ^ 6) : parseZ ⟨(txt A).toArray⟩ = some A := parse_txt A (six_dec h)

theorem conv_one {W : World} {g D : Nat} {TD : ByteArray} (hD : D < 10) (hT : (⟨#[UInt8.ofNat (48 + D)]⟩ : ByteArray) = TD) (hg : W.heap[g]? = some (.cells #[.int .u8 (48 + (D : Int))] 5 (0, 0))) : (convert 56 9 (.slice (some ⟨g, 0, none⟩) 1 1)).run Tryz.prog W = .ok (.string TD) W := by
  subst hT
  have h : Lib.Bytes W g 0 ⟨#[UInt8.ofNat (48 + D)]⟩ := fun i hi => by
    have hi : i < 1 := hi
    obtain rfl : i = 0 := by omega
    rw [cell_of_row _ _ _ _ _ _ hg]
    show some (Value.int .u8 (48 + (D : Int))) = some (Value.int .u8 (((UInt8.ofNat (48 + D)).toNat : Nat) : Int))
    rw [dig_nat hD]
    rfl
  exact Lib.run_convert_whole (P := Tryz.prog) W 56 5 9 Tryz.underlying56 Tryz.underlying5 Tryz.underlying9 g 0 ⟨#[UInt8.ofNat (48 + D)]⟩ h 1
set_option exponentiation.threshold 3000 in
theorem txt_size {U : Nat} (h : U < 4294967296 ^ 6) : (⟨(txt (U : Int)).toArray⟩ : ByteArray).size < 10000 := by
  have := dec_len 2466 U (six_dec h)
  show (txt (U : Int)).toArray.size < 10000
  rw [dec_minus_txt, List.size_toArray]
  omega
theorem str_room {A B : ByteArray} (h1 : A.size < 10000) (h2 : B.size < 10000) : ¬ 9223372036854775807 < A.size + B.size := by omega

theorem nu_len {W : World} {neg : Bool} {ao : Option Addr} {n cap : Nat} {z : Int} (h : Nu W (.agg #[.bool neg, .slice ao n cap]) z) : n = (digs z.natAbs).length := by
  obtain ⟨s, e, hs, hl⟩ := h
  injection e with e
  simp only [Array.mk.injEq, List.cons.injEq, and_true] at e
  obtain ⟨_, rfl⟩ := e
  exact hs.size
theorem nu_sign {W : World} {neg : Bool} {s : Value} {z : Int} (h : Nu W (.agg #[.bool neg, s]) z) : neg = decide (z < 0) := by
  obtain ⟨s', e, hs, hl⟩ := h
  injection e with e
  simp only [Array.mk.injEq, List.cons.injEq, and_true] at e
  obtain ⟨e1, _⟩ := e
  cases e1
  rfl
theorem zero_digit {U D : Nat} {TA TD TB : ByteArray} {TN NX : Int} (hD : D < 10) (hU : U = 0) (h1 : (⟨(txt (U : Int)).toArray⟩ : ByteArray) = TA) (h2 : (⟨#[UInt8.ofNat (48 + D)]⟩ : ByteArray) = TD) (h3 : (⟨(txt NX).toArray⟩ : ByteArray) = TB) (h4 : NX = TN + (D : Int)) (h5 : TN = (U : Int) * 10) :
    (TA ++ TD).size = 2 ∧ (TA ++ TD).extract (min (1 : Int) 2).toNat 2 = TB := by
  subst hU
  rw [show ((0 : Nat) : Int) = 0 from rfl, txt_zero] at h1
  rw [h5, show ((0 : Nat) : Int) * 10 = 0 from rfl, Int.zero_add] at h4
  rw [h4, txt_dig hD] at h3
  subst h1 h2 h3
  exact ⟨rfl, rfl⟩
theorem some_digit {U D : Nat} {TA TD TB : ByteArray} {TN NX : Int} (hD : D < 10) (hU : U ≠ 0) (h1 : (⟨(txt (U : Int)).toArray⟩ : ByteArray) = TA) (h2 : (⟨#[UInt8.ofNat (48 + D)]⟩ : ByteArray) = TD) (h3 : (⟨(txt NX).toArray⟩ : ByteArray) = TB) (h4 : NX = TN + (D : Int)) (h5 : TN = (U : Int) * 10) :
    TA ++ TD = TB := by
  rw [h4, h5, txt_next hU hD] at h3
  subst h1 h2 h3
  apply ByteArray.ext
  simp

theorem parse_txt_yes (W : World) {A : Int} {TX : ByteArray} (h : A.natAbs < 4294967296 ^ 6) (e : (⟨(txt A).toArray⟩ : ByteArray) = TX) : Calls Tryz.prog 24 #[.string TX] W (YesN W A) := by
  subst e
  refine (parse_any _ W).mono fun e w' hp => ?_
  rw [parse_back h] at hp
  exact NumRes.yes hp (decide_eq_true (Nat.le_trans (digs_length_le.2 h) (by omega)))
theorem neg_text {A : Int} {U : Nat} {TA TX : ByteArray} (h : A < 0) (hU : U = A.natAbs) (h1 : (⟨(txt (U : Int)).toArray⟩ : ByteArray) = TA) (h2 : (⟨(txt A).toArray⟩ : ByteArray) = TX) : (⟨#[45]⟩ : ByteArray) ++ TA = TX := by
  rw [txt_neg h, ← hU] at h2
  subst h1 h2
  apply ByteArray.ext
  simp
theorem b_drew (w : World) : Below w.heap.size w w.drew := ⟨rfl, rfl, rfl, Nat.le_refl _, fun _ _ => rfl⟩

theorem bits_facts {A : Int} {K : Nat} (h : A.natAbs < 4294967296 ^ 6) (h0 : ¬ A = 0) (hK : bitsB (decide (A < 0)) (digs A.natAbs) = K) : 1 ≤ K ∧ 2 ^ (K - 1) ≤ A.natAbs ∧ A.natAbs < 2 ^ K :=
  bits_bounds (by omega) (Nat.le_trans (digs_length_le.2 h) (by omega)) _ _ hK
theorem bits_least {U K : Nat} (b2 : 2 ^ (K - 1) ≤ U) (h : U < 4294967296 ^ 6) (b1 : 1 ≤ K) : K ≤ 192 := by
  have h1 : 2 ^ (K - 1) < 2 ^ 192 := by
    have e : (4294967296 : Nat) ^ 6 = 2 ^ 192 := by decide
    rw [e] at h
    exact Nat.lt_of_le_of_lt b2 h
  have := (Nat.pow_lt_pow_iff_right (show 1 < 2 by omega)).1 h1
  omega
theorem bits_prod {A B M : Int} {KA KB : Nat} (hA : A.natAbs < 4294967296 ^ 6) (hB : B.natAbs < 4294967296 ^ 6) (a0 : ¬ A = 0) (b0 : ¬ B = 0) (hM : M = A * B) (hKA : KA = bitsB (decide (A < 0)) (digs A.natAbs)) (hKB : KB = bitsB (decide (B < 0)) (digs B.natAbs)) :
    bitsB (decide (M < 0)) (digs M.natAbs) = KA + KB ∨ bitsB (decide (M < 0)) (digs M.natAbs) = KA + KB - 1 := by
  have ha := bits_facts hA a0 hKA.symm
  have hb := bits_facts hB b0 hKB.symm
  have e : M.natAbs = A.natAbs * B.natAbs := by rw [hM, Int.natAbs_mul]
  have hm0 : M.natAbs ≠ 0 := by rw [e]; exact Nat.mul_ne_zero (by omega) (by omega)
  have hml : M.natAbs < 4294967296 ^ 12 := by
    rw [e, show (4294967296 : Nat) ^ 12 = 4294967296 ^ 6 * 4294967296 ^ 6 from by rw [← Nat.pow_add]]
    exact Nat.mul_lt_mul'' hA hB
  have hm := bits_bounds hm0 (Nat.le_trans (digs_length_le.2 hml) (by omega)) (decide (M < 0)) _ rfl
  rw [e] at hm ⊢
  exact bits_mul ha hb hm
theorem prod_len {A B M : Int} {l : Nat} (hl : l = (digs M.natAbs).length) (hM : M = A * B) (a0 : ¬ A = 0) (b0 : ¬ B = 0) : l ≠ 0 := by
  intro e
  rw [hl] at e
  have : M.natAbs = 0 := digs_inj (by rw [List.eq_nil_of_length_eq_zero e, digs_zero])
  rw [hM, Int.natAbs_mul] at this
  rcases Nat.mul_eq_zero.1 this with h | h <;> omega
theorem fits_two {k : Nat} (h : k ≤ 250) : fitsB ((2 : Int) ^ k).natAbs = true := by
  refine decide_eq_true (Nat.le_trans ((digs_length_le (k := 8)).2 ?_) (by omega))
  rw [Int.natAbs_pow, show (4294967296 : Nat) = 2 ^ 32 from rfl, ← Nat.pow_mul]
  exact Nat.pow_lt_pow_right (by decide) (by omega)
theorem nat_lt_pow {u k : Nat} (h : u < 2 ^ k) : (u : Int) < 2 ^ k := by exact_mod_cast h
theorem nat_pow_le {u k : Nat} (h : 2 ^ k ≤ u) : (2 : Int) ^ k ≤ (u : Int) := by exact_mod_cast h
theorem cmp_less {w : World} {x y : Value} {a b : Int} (hx : Nu w x a) (hy : Nu w y b) (h : a < b) : Calls Tryz.prog 31 #[x, y] w fun e w' => e = .returned (.int .i64 (-1)) ∧ Below w.heap.size w w' := by
  have := cmp_any hx hy
  rwa [show cmpZ a b = -1 by unfold cmpZ; rw [if_pos h]] at this
theorem cmp_ge {a b : Int} (h : b ≤ a) : 0 ≤ cmpZ a b := by
  unfold cmpZ
  rw [if_neg (by omega)]
  split <;> decide

end Go.Proofs.YtdgmjmckeeeljaaGreatDoor

namespace Go.Proofs.YtdgmjmckeeeljaaGreatDoor

theorem pull_top (top p1 T : Nat) : (top * 4294967296 + p1 + 1) * T = (top * 4294967296 + p1) * T + T := by grind

theorem pull_low (q hi b1 T bl : Nat) : q * ((hi * 4294967296 + b1) * T + bl) = q * (hi * 4294967296 + b1) * T + q * bl := by grind

/-- If the second digit says that the guess is too great, it is. -/
theorem guess_less {q hi b1 top p1 rest T bl rl : Nat} (hq : q * hi + rest = top) (h : rest * 4294967296 + p1 < q * b1) (hrl : rl < T) :
    (top * 4294967296 + p1) * T + rl < q * ((hi * 4294967296 + b1) * T + bl) := by
  have e : q * (hi * 4294967296 + b1) = q * hi * 4294967296 + q * b1 := by grind
  have h1 : top * 4294967296 + p1 + 1 ≤ q * (hi * 4294967296 + b1) := by
    rw [e, ← hq]
    omega
  have h2 := Nat.mul_le_mul_right T h1
  rw [pull_top] at h2
  rw [pull_low]
  omega


set_option maxRecDepth 10000 in
theorem guess_most {q hi b1 top p1 rest T bl rl : Nat} (hq : q * hi + rest = top) (hx : 4294967296 ≤ rest ∨ q * b1 ≤ rest * 4294967296 + p1) (hqb : q < 4294967296) (hb1 : b1 < 4294967296) (hhi : 1 ≤ hi) (hbl : bl < T) :
    q * ((hi * 4294967296 + b1) * T + bl) ≤ (top * 4294967296 + p1) * T + rl + ((hi * 4294967296 + b1) * T + bl) := by
  have e : q * (hi * 4294967296 + b1) = q * hi * 4294967296 + q * b1 := by grind
  have h0 : q * b1 ≤ rest * 4294967296 + p1 := by
    rcases hx with h | h
    · have h1 : q * b1 ≤ 4294967296 * 4294967296 := Nat.mul_le_mul (by omega) (by omega)
      have h2 : 4294967296 * 4294967296 ≤ rest * 4294967296 := Nat.mul_le_mul_right _ h
      omega
    · exact h
  have h1 : q * (hi * 4294967296 + b1) ≤ top * 4294967296 + p1 := by
    rw [e, ← hq]
    omega
  have h2 := Nat.mul_le_mul_right T h1
  have h3 : q * bl ≤ 4294967296 * T := Nat.mul_le_mul (by omega) (by omega)
  have h4 : 4294967296 * T ≤ (hi * 4294967296 + b1) * T := Nat.mul_le_mul_right T (by omega)
  rw [pull_low]
  omega

theorem drop_val {ds : List Nat} {i : Nat} (h : i < ds.length) : val (ds.drop i) = ds.getD i 0 + 4294967296 * val (ds.drop (i + 1)) := by
  rw [List.drop_eq_getElem_cons h]
  simp [val, List.getD, h]

theorem val_take_drop (ds : List Nat) {m : Nat} (h : m ≤ ds.length) : val ds = val (ds.take m) + 4294967296 ^ m * val (ds.drop m) := by
  have := val_append (ds.take m) (ds.drop m)
  rw [List.take_append_drop, List.length_take, Nat.min_eq_left h] at this
  exact this

theorem val_top2 {ds : List Nat} {m : Nat} (h : ds.length = m + 2) : val ds = (ds.getD (m + 1) 0 * 4294967296 + ds.getD m 0) * 4294967296 ^ m + val (ds.take m) := by
  rw [val_take_drop ds (m := m) (by omega), drop_val (by omega), drop_val (by omega), List.drop_eq_nil_of_le (by omega)]
  simp only [val]
  grind

theorem val_top3 {ds : List Nat} {m : Nat} (h : ds.length = m + 3) : val ds = ((ds.getD (m + 2) 0 * 4294967296 + ds.getD (m + 1) 0) * 4294967296 + ds.getD m 0) * 4294967296 ^ m + val (ds.take m) := by
  rw [val_take_drop ds (m := m) (by omega), drop_val (by omega), drop_val (by omega), drop_val (by omega), List.drop_eq_nil_of_le (by omega)]
  simp only [val]
  grind

theorem take_lt {ds : List Nat} (hb : Bd ds) {m : Nat} (h : m ≤ ds.length) : val (ds.take m) < 4294967296 ^ m := by
  have := val_lt (ds := ds.take m) (fun x hx => hb x (List.mem_of_mem_take hx))
  rwa [List.length_take, Nat.min_eq_left h] at this


set_option maxRecDepth 10000 in
theorem top_le {ps bs : List Nat} {m : Nat} (hp : ps.length = m + 3) (hb : bs.length = m + 2) (hbd : Bd bs) (hlt : val ps < 4294967296 * val bs) : ps.getD (m + 2) 0 ≤ bs.getD (m + 1) 0 := by
  have e1 := val_top3 hp
  have e2 := val_take_drop bs (m := m + 1) (by omega)
  rw [drop_val (by omega), List.drop_eq_nil_of_le (by omega)] at e2
  have h3 := take_lt hbd (m := m + 1) (by omega)
  simp only [val, Nat.mul_zero, Nat.add_zero] at e2
  have hT := pow_pos' m
  rw [Nat.pow_succ] at e2 h3
  obtain ⟨x, hx⟩ : ∃ x, x = ps.getD (m + 2) 0 := ⟨_, rfl⟩
  obtain ⟨x1, hx1⟩ : ∃ x1, x1 = ps.getD (m + 1) 0 := ⟨_, rfl⟩
  obtain ⟨x0, hx0⟩ : ∃ x0, x0 = ps.getD m 0 := ⟨_, rfl⟩
  obtain ⟨y, hy⟩ : ∃ y, y = bs.getD (m + 1) 0 := ⟨_, rfl⟩
  obtain ⟨T, hTe⟩ : ∃ T, T = 4294967296 ^ m := ⟨_, rfl⟩
  obtain ⟨P, hP⟩ : ∃ P, P = val (ps.take m) := ⟨_, rfl⟩
  obtain ⟨Q, hQ⟩ : ∃ Q, Q = val (bs.take (m + 1)) := ⟨_, rfl⟩
  rw [← hx, ← hx1, ← hx0, ← hTe, ← hP] at e1
  rw [← hy, ← hTe, ← hQ] at e2
  rw [← hTe, ← hQ] at h3
  rw [← hTe] at hT
  rw [← hx, ← hy]
  clear hx hx1 hx0 hy hTe hP hQ hp hb hbd
  by_cases h : x ≤ y
  · exact h
  · have h5 : (y + 1) * 4294967296 * 4294967296 * T ≤ x * 4294967296 * 4294967296 * T := Nat.mul_le_mul_right _ (Nat.mul_le_mul_right _ (Nat.mul_le_mul_right _ (by omega)))
    have e6 : val ps = x * 4294967296 * 4294967296 * T + (x1 * 4294967296 + x0) * T + P := by rw [e1]; grind
    have e7 : 4294967296 * val bs = 4294967296 * Q + y * 4294967296 * 4294967296 * T := by rw [e2]; grind
    have e8 : (y + 1) * 4294967296 * 4294967296 * T = y * 4294967296 * 4294967296 * T + 4294967296 * (T * 4294967296) := by grind
    omega

end Go.Proofs.YtdgmjmckeeeljaaGreatDoor

namespace Go.Proofs.YtdgmjmckeeeljaaGreatDoor

/-- A guessed digit: the quotient's, or one more. -/
def Guess (S B q : Nat) : Prop := q < 4294967296 ∧ S < (q + 1) * B ∧ q * B ≤ S + B

theorem guess_first {q hi b1 top p1 rest T bl rl : Nat} (hq : q * hi + rest = top) (hr : rest < hi) (hrl : rl < T) :
    (top * 4294967296 + p1) * T + rl < (q + 1) * ((hi * 4294967296 + b1) * T + bl) ∨ 4294967296 ≤ p1 := by
  by_cases hp : 4294967296 ≤ p1
  · exact .inr hp
  · left
    have e1 : (q + 1) * ((hi * 4294967296 + b1) * T + bl) = (q * hi + hi) * 4294967296 * T + (q + 1) * b1 * T + (q + 1) * bl := by grind
    have h1 : (top * 4294967296 + p1 + 1) * T ≤ (q * hi + hi) * 4294967296 * T := Nat.mul_le_mul_right T (by rw [← hq]; omega)
    rw [pull_top] at h1
    rw [e1]
    omega

/-- What is known while a digit is guessed. -/
def Guessing (hi top S B q rest : Nat) : Prop := q * hi + rest = top ∧ S < (q + 1) * B

theorem guess_down {hi top S B q rest : Nat} (h : Guessing hi top S B q rest) (hlt : S < q * B) : 1 ≤ q ∧ Guessing hi top S B (q - 1) (rest + hi) := by
  obtain ⟨h1, h2⟩ := h
  have hq : 1 ≤ q := by
    rcases Nat.eq_zero_or_pos q with e | e
    · subst e; omega
    · exact e
  obtain ⟨r, rfl⟩ : ∃ r, q = r + 1 := ⟨q - 1, by omega⟩
  refine ⟨hq, ?_, ?_⟩
  · rw [Nat.add_sub_cancel, ← h1]; grind
  · rw [Nat.add_sub_cancel]; exact hlt

section
variable {ps bs : List Nat} {m : Nat}

theorem parts_S (hp : ps.length = m + 3) : val ps = ((ps.getD (m + 2) 0 * 4294967296 + ps.getD (m + 1) 0) * 4294967296 + ps.getD m 0) * 4294967296 ^ m + val (ps.take m) := val_top3 hp

theorem guessing_start (hp : ps.length = m + 3) (hb : bs.length = m + 2) (hbp : Bd ps) (h0 : bs.getD (m + 1) 0 ≠ 0) :
    Guessing (bs.getD (m + 1) 0) (ps.getD (m + 2) 0 * 4294967296 + ps.getD (m + 1) 0) (val ps) (val bs)
      ((ps.getD (m + 2) 0 * 4294967296 + ps.getD (m + 1) 0) / bs.getD (m + 1) 0) ((ps.getD (m + 2) 0 * 4294967296 + ps.getD (m + 1) 0) % bs.getD (m + 1) 0) := by
  have e := Nat.div_add_mod (ps.getD (m + 2) 0 * 4294967296 + ps.getD (m + 1) 0) (bs.getD (m + 1) 0)
  rw [Nat.mul_comm] at e
  refine ⟨e, ?_⟩
  have hd : ps.getD m 0 < 4294967296 := by rw [val_digit hbp]; exact Nat.mod_lt _ (by omega)
  rw [val_top3 hp, val_top2 hb]
  rcases guess_first e (Nat.mod_lt _ (by omega)) (take_lt hbp (m := m) (by omega)) with h | h
  · exact h
  · omega

/-- The guess is too great: it is past a digit. -/
theorem guess_big {q : Nat} (hlt : val ps < 4294967296 * val bs) (hq : 4294967296 ≤ q) : val ps < q * val bs :=
  Nat.lt_of_lt_of_le hlt (Nat.mul_le_mul_right _ hq)

/-- The guess is too great: the second digit says so. -/
theorem guess_second {q rest : Nat} (hp : ps.length = m + 3) (hb : bs.length = m + 2) (hbp : Bd ps)
    (h : Guessing (bs.getD (m + 1) 0) (ps.getD (m + 2) 0 * 4294967296 + ps.getD (m + 1) 0) (val ps) (val bs) q rest) (hx : rest * 4294967296 + ps.getD m 0 < q * bs.getD m 0) : val ps < q * val bs := by
  rw [val_top3 hp, val_top2 hb]
  exact guess_less h.1 hx (take_lt hbp (by omega))

/-- A guess that is kept. -/
theorem guess_kept {q rest : Nat} (hp : ps.length = m + 3) (hb : bs.length = m + 2) (hbp : Bd ps) (hbb : Bd bs) (h0 : bs.getD (m + 1) 0 ≠ 0) (hlt : val ps < 4294967296 * val bs)
    (h : Guessing (bs.getD (m + 1) 0) (ps.getD (m + 2) 0 * 4294967296 + ps.getD (m + 1) 0) (val ps) (val bs) q rest)
    (hx : 4294967296 ≤ rest ∨ (q < 4294967296 ∧ q * bs.getD m 0 ≤ rest * 4294967296 + ps.getD m 0)) : Guess (val ps) (val bs) q := by
  have htop := top_le hp hb hbb hlt
  have hd1 : ps.getD (m + 1) 0 < 4294967296 := by rw [val_digit hbp]; exact Nat.mod_lt _ (by omega)
  have hb1 : bs.getD m 0 < 4294967296 := by rw [val_digit hbb]; exact Nat.mod_lt _ (by omega)
  have hq : q < 4294967296 := by
    rcases hx with hx | hx
    · by_cases hq : q < 4294967296
      · exact hq
      · have h1 := h.1
        have h2 : 4294967296 * bs.getD (m + 1) 0 ≤ q * bs.getD (m + 1) 0 := Nat.mul_le_mul_right _ (by omega)
        omega
    · exact hx.1
  refine ⟨hq, h.2, ?_⟩
  rw [val_top3 hp, val_top2 hb]
  refine guess_most h.1 ?_ hq hb1 (by omega) (take_lt hbb (by omega))
  rcases hx with hx | hx
  · exact .inl hx
  · exact .inr hx.2
end

theorem take_next (ds : List Nat) (k : Nat) : val (ds.take (k + 1)) = val (ds.take k) + 4294967296 ^ k * ds.getD k 0 := by
  by_cases h : k < ds.length
  · rw [List.take_add_one, List.getElem?_eq_getElem h, val_append, List.length_take, Nat.min_eq_left (by omega)]
    simp [val, List.getD, h]
  · rw [List.take_of_length_le (by omega), List.take_of_length_le (by omega)]
    simp [List.getD, h]

theorem take_set {zs : List Nat} {k d : Nat} (h : k < zs.length) : val ((zs.set k d).take (k + 1)) = val (zs.take k) + 4294967296 ^ k * d := by
  rw [take_next, List.take_set_of_le (Nat.le_refl _)]
  simp [List.getD, h]

theorem drop_set {zs ms : List Nat} {k d : Nat} (h : zs.drop k = ms.drop k) : (zs.set k d).drop (k + 1) = ms.drop (k + 1) := by
  rw [List.drop_set_of_lt (by omega), ← List.drop_drop, ← List.drop_drop, h]

theorem drop_at {zs ms : List Nat} {k : Nat} (h : zs.drop k = ms.drop k) : zs.getD k 0 = ms.getD k 0 := by
  have e1 : zs.getD k 0 = (zs.drop k).getD 0 0 := by simp [List.getD]
  have e2 : ms.getD k 0 = (ms.drop k).getD 0 0 := by simp [List.getD]
  rw [e1, e2, h]

/-- What is known while a multiple is taken away: k digits are done. -/
def Taking (q : Nat) (ms bs zs : List Nat) (k c bo : Nat) : Prop :=
  zs.length = ms.length ∧ Bd zs ∧ zs.drop k = ms.drop k ∧ c < 4294967296 ∧ bo ≤ 1 ∧ ∃ M, M < 4294967296 ^ k ∧ q * val (bs.take k) = M + 4294967296 ^ k * c ∧ val (zs.take k) + M = val (ms.take k) + 4294967296 ^ k * bo

theorem taking_start (q : Nat) (ms bs : List Nat) (h : Bd ms) : Taking q ms bs ms 0 0 0 :=
  ⟨rfl, h, rfl, by omega, by omega, 0, by simp, by simp [val], by simp [val]⟩

theorem taking_step {q : Nat} {ms bs zs : List Nat} {k c bo d low c' bo' : Nat} (h : Taking q ms bs zs k c bo) (hk : k < ms.length) (hc : c + q * bs.getD k 0 = low + 4294967296 * c') (hl : low < 4294967296) (hc' : c' < 4294967296)
    (hd : d + low + bo = ms.getD k 0 + 4294967296 * bo') (hdl : d < 4294967296) (hbo : bo' ≤ 1) : Taking q ms bs (zs.set k d) (k + 1) c' bo' := by
  obtain ⟨h1, h2, h3, h4, h5, M, h6, h7, h8⟩ := h
  refine ⟨by rw [List.length_set]; exact h1, h2.set _ hdl, drop_set h3, hc', hbo, M + 4294967296 ^ k * low, ?_, ?_, ?_⟩
  · rw [Nat.pow_succ]
    have := Nat.mul_le_mul_left (4294967296 ^ k) (show low + 1 ≤ 4294967296 by omega)
    rw [Nat.mul_succ] at this
    omega
  · rw [take_next, Nat.mul_add, h7, Nat.pow_succ]
    have e : q * (4294967296 ^ k * bs.getD k 0) = 4294967296 ^ k * (q * bs.getD k 0) := by grind
    have e2 : 4294967296 ^ k * c + 4294967296 ^ k * (q * bs.getD k 0) = 4294967296 ^ k * (low + 4294967296 * c') := by rw [← Nat.mul_add, hc]
    rw [e, Nat.add_assoc, e2, Nat.mul_add, Nat.mul_assoc, Nat.add_assoc]
  · rw [take_set (by omega), take_next, Nat.pow_succ]
    have e2 : 4294967296 ^ k * (d + low + bo) = 4294967296 ^ k * (ms.getD k 0 + 4294967296 * bo') := by rw [hd]
    rw [Nat.mul_add, Nat.mul_add, Nat.mul_add] at e2
    rw [Nat.mul_assoc]
    omega

/-- What is left when a multiple has been taken away. -/
theorem taking_end {q : Nat} {ms bs zs : List Nat} {c bo n : Nat} (h : Taking q ms bs zs ms.length c bo) (hn : ms.length = n + 1) (hq : q < 4294967296) (hb : bs.length ≤ n) (hbb : Bd bs) :
    val zs + q * val bs = val ms + 4294967296 ^ (n + 1) * bo := by
  obtain ⟨h1, h2, h3, h4, h5, M, h6, h7, h8⟩ := h
  rw [hn] at h6 h7 h8
  rw [List.take_of_length_le (by omega)] at h7 h8
  rw [List.take_of_length_le (by omega)] at h8
  have hv : val bs < 4294967296 ^ n := Nat.lt_of_lt_of_le (val_lt hbb) (Nat.pow_le_pow_right (by omega) hb)
  have hp : q * val bs < 4294967296 ^ (n + 1) := by
    rw [Nat.pow_succ, Nat.mul_comm (4294967296 ^ n)]
    exact Nat.mul_lt_mul'' hq hv
  have hc : c = 0 := by
    rcases Nat.eq_zero_or_pos c with e | e
    · exact e
    · have := Nat.mul_le_mul_left (4294967296 ^ (n + 1)) e
      omega
  subst hc
  omega

/-- What is known while a number is given back: k digits are done. -/
def Giving (ms bs zs : List Nat) (k c : Nat) : Prop :=
  zs.length = ms.length ∧ Bd zs ∧ zs.drop k = ms.drop k ∧ c ≤ 1 ∧ val (zs.take k) + 4294967296 ^ k * c = val (ms.take k) + val (bs.take k)

theorem giving_start (ms bs : List Nat) (h : Bd ms) : Giving ms bs ms 0 0 := ⟨rfl, h, rfl, by omega, by simp [val]⟩

theorem giving_step {ms bs zs : List Nat} {k c d c' : Nat} (h : Giving ms bs zs k c) (hk : k < ms.length) (hd : d + 4294967296 * c' = ms.getD k 0 + bs.getD k 0 + c) (hdl : d < 4294967296) (hc : c' ≤ 1) : Giving ms bs (zs.set k d) (k + 1) c' := by
  obtain ⟨h1, h2, h3, h4, h5⟩ := h
  refine ⟨by rw [List.length_set]; exact h1, h2.set _ hdl, drop_set h3, hc, ?_⟩
  rw [take_set (by omega), take_next, take_next, Nat.pow_succ]
  have e2 : 4294967296 ^ k * (d + 4294967296 * c') = 4294967296 ^ k * (ms.getD k 0 + bs.getD k 0 + c) := by rw [hd]
  rw [Nat.mul_add, Nat.mul_add, Nat.mul_add] at e2
  rw [Nat.mul_assoc]
  omega

theorem giving_end {ms bs zs : List Nat} {c n : Nat} (h : Giving ms bs zs ms.length c) (hn : ms.length = n + 1) (hb : bs.length ≤ n) : val zs + 4294967296 ^ (n + 1) * c = val ms + val bs := by
  obtain ⟨h1, h2, h3, h4, h5⟩ := h
  rw [hn] at h5
  rw [List.take_of_length_le (by omega), List.take_of_length_le (by omega), List.take_of_length_le (by omega)] at h5
  exact h5

/-- The digit of the quotient and what is left: the guess was right. -/
theorem digit_right {S B q Z P bo : Nat} (hg : Guess S B q) (hz : Z + q * B = S + P * bo) (hZ : Z < P) (hBP : B ≤ P) (hbo : bo = 0) : Z + q * B = S ∧ Z < B := by
  obtain ⟨g1, g2, g3⟩ := hg
  subst hbo
  rw [Nat.add_mul, Nat.one_mul] at g2
  omega

/-- The digit of the quotient and what is left: the guess was one more. -/
theorem digit_less {S B q Z P Y c : Nat} (hg : Guess S B q) (hz : Z + q * B = S + P * 1) (hZ : Z < P) (hy : Y + P * c = Z + B) (hY : Y < P) (hc : c ≤ 1) (hBP : B ≤ P) (hS : S < P) : 1 ≤ q ∧ Y + (q - 1) * B = S ∧ Y < B := by
  obtain ⟨g1, g2, g3⟩ := hg
  have hq : 1 ≤ q := by
    rcases Nat.eq_zero_or_pos q with e | e
    · subst e; omega
    · exact e
  obtain ⟨r, rfl⟩ : ∃ r, q = r + 1 := ⟨q - 1, by omega⟩
  rw [Nat.add_sub_cancel]
  rw [Nat.add_mul, Nat.one_mul] at hz g3
  refine ⟨hq, ?_⟩
  rcases (show c = 0 ∨ c = 1 by omega) with rfl | rfl
  · omega
  · omega

/-- The division, digit by digit: k digits of the quotient are still to come. -/
def Dividing (A B : Nat) (n : Nat) (qs rs : List Nat) (k : Nat) : Prop :=
  Bd qs ∧ Bd rs ∧ rs.length = qs.length + n ∧ k ≤ qs.length ∧ A = B * (4294967296 ^ k * val (qs.drop k)) + val rs ∧ val (rs.drop k) < B

theorem dividing_part {A B n : Nat} {qs rs : List Nat} {k : Nat} (h : Dividing A B n qs rs (k + 1)) (hB : B < 4294967296 ^ n) (hn : 1 ≤ n) :
    val ((rs.drop k).take (n + 1)) < 4294967296 * B ∧ val (rs.drop (k + (n + 1))) = 0 ∧ ((rs.drop k).take (n + 1)).length = n + 1 := by
  obtain ⟨h1, h2, h3, h4, h5, h6⟩ := h
  have e1 := drop_val (ds := rs) (i := k) (by omega)
  have hd : rs.getD k 0 < 4294967296 := by rw [val_digit h2]; exact Nat.mod_lt _ (by omega)
  have e2 := val_take_drop (rs.drop k) (m := n + 1) (by rw [List.length_drop]; omega)
  rw [List.drop_drop] at e2
  have hlt : val (rs.drop k) < 4294967296 * B := by omega
  refine ⟨by omega, ?_, by rw [List.length_take, List.length_drop]; omega⟩
  rcases Nat.eq_zero_or_pos (val (rs.drop (k + (n + 1)))) with e | e
  · exact e
  · have := Nat.mul_le_mul_left (4294967296 ^ (n + 1)) e
    rw [Nat.pow_succ] at this e2
    omega

theorem dividing_step {A B n : Nat} {qs rs zs : List Nat} {k q : Nat} (h : Dividing A B n qs rs (k + 1)) (hB : B < 4294967296 ^ n) (hn : 1 ≤ n) (hq : q < 4294967296) (hz : zs.length = n + 1) (hbz : Bd zs)
    (hv : val zs + q * B = val ((rs.drop k).take (n + 1))) (hlt : val zs < B) : Dividing A B n (qs.set k q) (rs.take k ++ zs ++ rs.drop (k + (n + 1))) k := by
  obtain ⟨p1, p2, p3⟩ := dividing_part h hB hn
  obtain ⟨h1, h2, h3, h4, h5, h6⟩ := h
  have hlk : (rs.take k).length = k := by rw [List.length_take]; omega
  have ev : val rs = val (rs.take k) + 4294967296 ^ k * val ((rs.drop k).take (n + 1)) := by
    have e1 := val_take_drop rs (m := k) (by omega)
    have e2 := val_take_drop (rs.drop k) (m := n + 1) (by rw [List.length_drop]; omega)
    rw [List.drop_drop, p2, Nat.mul_zero, Nat.add_zero] at e2
    rw [e1, e2]
  have ez : val (zs ++ rs.drop (k + (n + 1))) = val zs := by rw [val_append, p2]; omega
  refine ⟨h1.set _ hq, ?_, ?_, by rw [List.length_set]; omega, ?_, ?_⟩
  · intro x hx
    rcases List.mem_append.1 hx with hx | hx
    · rcases List.mem_append.1 hx with hx | hx
      · exact h2 x (List.mem_of_mem_take hx)
      · exact hbz x hx
    · exact h2 x (List.mem_of_mem_drop hx)
  · simp only [List.length_append, List.length_take, List.length_drop, List.length_set]
    omega
  · have eq2 : val ((qs.set k q).drop k) = q + 4294967296 * val (qs.drop (k + 1)) := by
      rw [drop_val (by rw [List.length_set]; omega), List.drop_set_of_lt (by omega)]
      simp [List.getD, show k < qs.length by omega]
    rw [eq2, List.append_assoc, val_append, ez, hlk, h5, ev, Nat.pow_succ]
    have e3 : 4294967296 ^ k * (val zs + q * B) = 4294967296 ^ k * val ((rs.drop k).take (n + 1)) := by rw [hv]
    rw [← e3]
    grind
  · rw [List.append_assoc, List.drop_append_of_le_length (by omega), List.drop_of_length_le (by omega), List.nil_append, ez]
    exact hlt

theorem dividing_start {A B n : Nat} {qs rs : List Nat} (hq : qs = List.replicate qs.length 0) (hr : Bd rs) (hl : rs.length = qs.length + n) (hA : val rs = A) (hlt : A < B * 4294967296 ^ qs.length) : Dividing A B n qs rs qs.length := by
  refine ⟨?_, hr, hl, Nat.le_refl _, ?_, ?_⟩
  · intro x hx
    rw [hq] at hx
    have := List.eq_of_mem_replicate hx
    omega
  · rw [List.drop_of_length_le (Nat.le_refl _)]
    simp [val, hA]
  · have e := val_take_drop rs (m := qs.length) (by omega)
    rw [hA] at e
    have h2 : val (rs.drop qs.length) * 4294967296 ^ qs.length < B * 4294967296 ^ qs.length := by
      rw [Nat.mul_comm]; omega
    exact Nat.lt_of_mul_lt_mul_right h2

theorem dividing_end {A B n : Nat} {qs rs : List Nat} (h : Dividing A B n qs rs 0) (hB : B < 4294967296 ^ n) : A = B * val qs + val rs ∧ val rs < B ∧ val (rs.take n) = val rs := by
  obtain ⟨h1, h2, h3, h4, h5, h6⟩ := h
  rw [List.drop_zero] at h5 h6
  refine ⟨by rw [h5]; simp, h6, ?_⟩
  have e := val_take_drop rs (m := n) (by omega)
  rcases Nat.eq_zero_or_pos (val (rs.drop n)) with e0 | e0
  · rw [e0] at e; omega
  · have := Nat.mul_le_mul_left (4294967296 ^ n) e0
    omega

/-- What the division of the numbers moved up says of the numbers themselves. -/
theorem shift_back {a b s Q R : Nat} (h : a * 2 ^ s = b * 2 ^ s * Q + R) (hR : R < b * 2 ^ s) : Q = a / b ∧ R / 2 ^ s = a % b := by
  have hp : 0 < 2 ^ s := Nat.pow_pos (by omega)
  have hd : R = (a - b * Q) * 2 ^ s := by
    rw [Nat.sub_mul, h]
    have : b * 2 ^ s * Q = b * Q * 2 ^ s := by grind
    omega
  have hb : a - b * Q < b := by
    rw [hd] at hR
    exact Nat.lt_of_mul_lt_mul_right hR
  have hle : b * Q ≤ a := by
    have h1 : b * Q * 2 ^ s ≤ a * 2 ^ s := by
      have : b * 2 ^ s * Q = b * Q * 2 ^ s := by grind
      omega
    exact Nat.le_of_mul_le_mul_right h1 hp
  have e : a = b * Q + (a - b * Q) := by omega
  have hb0 : 0 < b := by omega
  refine ⟨?_, ?_⟩
  · rw [e, Nat.mul_add_div hb0, Nat.div_eq_of_lt (by omega)]
    have : b * Q + (a - b * Q) - b * Q = a - b * Q := by omega
    omega
  · rw [hd, Nat.mul_div_cancel _ hp]
    rw [e, Nat.mul_add_mod, Nat.mod_eq_of_lt (by omega)]
    omega

/-- The highest digits of a number moved up. -/
theorem raised_lt {a b s la lb n m : Nat} (ha : a < 4294967296 ^ la) (hb : 4294967296 ^ (lb - 1) ≤ b) (hlb : 1 ≤ lb) (hn : n ≤ lb) (hm : m + n = la + 1) (hlt : b * 2 ^ s < 4294967296 ^ n) : a * 2 ^ s < b * 2 ^ s * 4294967296 ^ m := by
  have hn1 : lb ≤ n := by
    by_cases h : lb ≤ n
    · exact h
    · have h1 : 4294967296 ^ n ≤ 4294967296 ^ (lb - 1) := Nat.pow_le_pow_right (by omega) (by omega)
      have h2 : b * 1 ≤ b * 2 ^ s := Nat.mul_le_mul_left b (Nat.pow_pos (by omega))
      omega
  have e : n = lb := by omega
  subst e
  have h3 : 4294967296 ^ la ≤ b * 4294967296 ^ m := by
    have : 4294967296 ^ (n - 1) * 4294967296 ^ m ≤ b * 4294967296 ^ m := Nat.mul_le_mul_right _ hb
    rw [← Nat.pow_add, show n - 1 + m = la by omega] at this
    exact this
  have e2 : b * 2 ^ s * 4294967296 ^ m = b * 4294967296 ^ m * 2 ^ s := by grind
  rw [e2]
  exact Nat.mul_lt_mul_of_pos_right (by omega) (Nat.pow_pos (by omega))

end Go.Proofs.YtdgmjmckeeeljaaGreatDoor

namespace Go.Proofs.YtdgmjmckeeeljaaGreatDoor
open Go.RowKit

/-- What a loop of guesses holds. -/
def GuessR (w : World) (hi top S B : Nat) (qv rv : Value) (wr : World) : Prop :=
  ∃ q r : Nat, qv = .int .u64 q ∧ rv = .int .u64 r ∧ q / 4294967296 < 4294967296 ∧ r < 8589934592 ∧ Guessing hi top S B q r ∧ ∃ n, wr = w.drewN n

def GuessE (w : World) (S B : Nat) (e : Ending) (w' : World) : Prop := ∃ q : Nat, e = .returned (.int .u32 q) ∧ Guess S B q ∧ ∃ n, w' = w.drewN n

theorem dn2 (w : World) (a b : Nat) : ∃ k, (w.drewN a).drewN b = w.drewN k := ⟨_, by rw [World.drewN_drewN]⟩
theorem dn3 (w : World) (a b c : Nat) : ∃ k, ((w.drewN a).drewN b).drewN c = w.drewN k := ⟨_, by rw [World.drewN_drewN, World.drewN_drewN]⟩

set_option maxRecDepth 100000 in
theorem lss32 (x : Nat) (h : x < 4294967296) : binOp BinOp.lss 69 (.int .u64 (x : Int)) (.int .u64 4294967296) = (pure (.bool true) : Sem Value) := by
  have e : binOp BinOp.lss 69 (.int .u64 (x : Int)) (.int .u64 4294967296) = (pure (.bool (decide ((x : Int) < 4294967296))) : Sem Value) := rfl
  rw [e, decide_eq_true (by omega)]
set_option maxRecDepth 100000 in
theorem lss32' (x : Nat) (h : ¬ x < 4294967296) : binOp BinOp.lss 69 (.int .u64 (x : Int)) (.int .u64 4294967296) = (pure (.bool false) : Sem Value) := by
  have e : binOp BinOp.lss 69 (.int .u64 (x : Int)) (.int .u64 4294967296) = (pure (.bool (decide ((x : Int) < 4294967296))) : Sem Value) := rfl
  rw [e, decide_eq_false (by omega)]
set_option maxRecDepth 100000 in
theorem geq32 (x : Nat) (h : 4294967296 ≤ x) : binOp BinOp.geq 69 (.int .u64 (x : Int)) (.int .u64 4294967296) = (pure (.bool true) : Sem Value) := by
  have e : binOp BinOp.geq 69 (.int .u64 (x : Int)) (.int .u64 4294967296) = (pure (.bool (decide ((4294967296 : Int) ≤ x))) : Sem Value) := rfl
  rw [e, decide_eq_true (by omega)]
set_option maxRecDepth 100000 in
theorem geq32' (x : Nat) (h : ¬ 4294967296 ≤ x) : binOp BinOp.geq 69 (.int .u64 (x : Int)) (.int .u64 4294967296) = (pure (.bool false) : Sem Value) := by
  have e : binOp BinOp.geq 69 (.int .u64 (x : Int)) (.int .u64 4294967296) = (pure (.bool (decide ((4294967296 : Int) ≤ x))) : Sem Value) := rfl
  rw [e, decide_eq_false (by omega)]

theorem guess_div {top hi q r : Nat} (hq : top / hi = q) (hr : top % hi = r) : ((top : Int) / (hi : Int) = (q : Int)) ∧ ((top : Int) % (hi : Int) = (r : Int)) := by
  subst hq hr
  exact ⟨rfl, rfl⟩

set_option maxRecDepth 10000 in
set_option maxHeartbeats 2000000 in
theorem guessed_any {w : World} {b off pc d doff bc m : Nat} {ps bs : List Nat} (hp : ps.length = m + 3) (hb : bs.length = m + 2) (cp : Cl w b off ps) (cb : Cl w d doff bs) (hm : m ≤ 1000000)
    (hbp : Bd ps) (hbb : Bd bs) (h0 : bs.getD (m + 1) 0 ≠ 0) (hlt : val ps < 4294967296 * val bs) :
    Calls Tryz.prog 103 #[.slice (some ⟨b, off, none⟩) (m + 3) pc, .slice (some ⟨d, doff, none⟩) (m + 2) bc] w (GuessE w (val ps) (val bs)) := by
  have c0 := cp m (by omega)
  have c1 := cp (m + 1) (by omega)
  have c2 := cp (m + 2) (by omega)
  have e0 := cb m (by omega)
  have e1 := cb (m + 1) (by omega)
  have l0 : ps.getD m 0 < 4294967296 := by rw [val_digit hbp]; exact Nat.mod_lt _ (by omega)
  have l1 : ps.getD (m + 1) 0 < 4294967296 := by rw [val_digit hbp]; exact Nat.mod_lt _ (by omega)
  have l2 : ps.getD (m + 2) 0 < 4294967296 := by rw [val_digit hbp]; exact Nat.mod_lt _ (by omega)
  have k0 : bs.getD m 0 < 4294967296 := by rw [val_digit hbb]; exact Nat.mod_lt _ (by omega)
  have k1 : bs.getD (m + 1) 0 < 4294967296 := by rw [val_digit hbb]; exact Nat.mod_lt _ (by omega)
  have HST := guessing_start hp hb hbp h0
  have HSEC := Lib.hid (fun q r => guess_second (q := q) (rest := r) hp hb hbp)
  have HKEP := Lib.hid (fun q r => guess_kept (q := q) (rest := r) hp hb hbp hbb h0 hlt)
  have HBIG := Lib.hid (fun q => guess_big (q := q) hlt)
  obtain ⟨p0, hp0⟩ : ∃ p, p = ps.getD m 0 := ⟨_, rfl⟩
  obtain ⟨p1, hp1⟩ : ∃ p, p = ps.getD (m + 1) 0 := ⟨_, rfl⟩
  obtain ⟨p2, hp2⟩ : ∃ p, p = ps.getD (m + 2) 0 := ⟨_, rfl⟩
  obtain ⟨b1, hb1⟩ : ∃ p, p = bs.getD m 0 := ⟨_, rfl⟩
  obtain ⟨hi, hhi⟩ : ∃ p, p = bs.getD (m + 1) 0 := ⟨_, rfl⟩
  obtain ⟨S, hS⟩ : ∃ S, S = val ps := ⟨_, rfl⟩
  obtain ⟨B, hB⟩ : ∃ B, B = val bs := ⟨_, rfl⟩
  rw [← hp0] at c0 l0 HSEC HKEP
  rw [← hp1] at c1 l1 HST HSEC HKEP
  rw [← hp2] at c2 l2 HST HSEC HKEP
  rw [← hb1] at e0 k0 HSEC HKEP
  rw [← hhi] at e1 k1 h0 HST HSEC HKEP
  rw [← hS] at HST HSEC HKEP HBIG ⊢
  rw [← hB] at HST HSEC HKEP HBIG ⊢
  clear hp0 hp1 hp2 hb1 hhi hS hB hp hb hbp hbb hlt cp cb
  have ht := or_join p2 p1 l2 l1
  have etop : p2 * 4294967296 + p1 = p1 + 4294967296 * p2 := by omega
  rw [etop] at HST HSEC HKEP
  have hth : (p1 + 4294967296 * p2) / 4294967296 < 4294967296 := by omega
  obtain ⟨top, htop⟩ : ∃ t, t = p1 + 4294967296 * p2 := ⟨_, rfl⟩
  rw [← htop] at ht HST HSEC HKEP hth
  clear htop etop
  obtain ⟨q0, hq0⟩ : ∃ q, q = top / hi := ⟨_, rfl⟩
  obtain ⟨r0, hr0⟩ : ∃ r, r = top % hi := ⟨_, rfl⟩
  obtain ⟨f1, f2⟩ := guess_div hq0.symm hr0.symm
  have g3 : ((hi : Int) == 0) = false := by simp; omega
  have lq : q0 / 4294967296 < 4294967296 := by rw [hq0]; exact Nat.lt_of_le_of_lt (Nat.div_le_div_right (Nat.div_le_self _ _)) hth
  have lr : r0 < 4294967296 := by rw [hr0]; exact Nat.lt_trans (Nat.mod_lt _ (by omega)) k1
  rw [← hq0, ← hr0] at HST
  have HST := Lib.hid HST
  clear hq0 hr0
  go_enter Tryz.func103, Tryz.ntmps103
  go_wp2
  go_quiet (fail)
  go_wp2
  go_quiet (fail)
  go_wp2
  go_loopw [8, 9] (fun qv rv wr => GuessR w hi top S B qv rv wr) (fun _ rv _ => (8589934592 - intOf rv).toNat)
  case atStart => exact ⟨q0, r0, by first | rfl | rw [f1], by first | rfl | rw [f2], lq, by omega, HST.out, dn2 _ _ _⟩
  case round =>
    obtain ⟨q, r, rfl, rfl, bq, br, hg, nn, rfl⟩ := hrel
    have HG := Lib.hid hg
    clear hg lq lr HST f1 f2 g3 ht
    by_cases hr : r < 4294967296
    · have b1r := lss32 r hr
      by_cases hq : 4294967296 ≤ q
      · have b2r := geq32 q hq
        have hd := guess_down HG.out (HBIG.out q hq)
        have hq1 := hd.1
        have HN := Lib.hid hd.2
        clear hd hq
        go_wp2
        go_quiet (fail)
        go_wp2
        go_roundw
        case rel => exact ⟨q - 1, r + hi, by go_num, by go_num, by omega, by omega, HN.out, _, rfl⟩
        case measure => simp [intOf]; omega
      · have hj := or_join r p0 hr l0
        have b2r := geq32' q hq
        have hm1 : q * b1 / 4294967296 < 4294967296 := by
          have := Nat.mul_le_mul (show q ≤ 4294967295 by omega) (show b1 ≤ 4294967295 by omega)
          omega
        have wm : IntKind.u64.wrap ((q : Int) * (b1 : Int)) = ((q * b1 : Nat) : Int) := by rw [IntKind.wrap_u64]; push_cast; omega
        obtain ⟨X, hX⟩ : ∃ X, X = q * b1 := ⟨_, rfl⟩
        obtain ⟨Y, hY⟩ : ∃ Y, Y = p0 + 4294967296 * r := ⟨_, rfl⟩
        rw [← hX] at wm hm1
        rw [← hY] at hj
        by_cases hx : Y < X
        · have hd := guess_down HG.out (HSEC.out q r HG.out (by omega))
          have hq1 := hd.1
          have HN := Lib.hid hd.2
          clear hd hX hY
          go_wp2
          go_quiet (fail)
          go_wp2
          go_roundw
          case rel => exact ⟨q - 1, r + hi, by go_num, by go_num, by omega, by omega, HN.out, _, rfl⟩
          case measure => simp [intOf]; omega
        · have HK := Lib.hid (HKEP.out q r HG.out (.inr ⟨by omega, by omega⟩))
          have lq := HK.out.1
          clear hX hY
          go_wp2
          go_quiet (fail)
          go_wp2
          go_ret
          exact ⟨q, by go_num, HK.out, _, rfl⟩
    · have b1r := lss32' r hr
      have HK := Lib.hid (HKEP.out q r HG.out (.inl (by omega)))
      have lq := HK.out.1
      go_wp2
      go_quiet (fail)
      go_wp2
      go_ret
      exact ⟨q, by go_num, HK.out, _, rfl⟩

end Go.Proofs.YtdgmjmckeeeljaaGreatDoor

namespace Go.Proofs.YtdgmjmckeeeljaaGreatDoor
open Go.RowKit

/-- Nothing but block g has changed. -/
structure Only (g : Nat) (w w' : World) : Prop where
  bel : Below g w w'
  size : w'.heap.size = w.heap.size
  oth : ∀ b, b ≠ g → w'.heap[b]? = w.heap[b]?

theorem Only.refl (g : Nat) (w : World) : Only g w w := ⟨Below.refl _ _, rfl, fun _ _ => rfl⟩
theorem Only.trans {g : Nat} {a b c : World} (h : Only g a b) (k : Only g b c) : Only g a c := ⟨h.bel.trans k.bel, k.size.trans h.size, fun x hx => (k.oth x hx).trans (h.oth x hx)⟩
theorem Only.set (g : Nat) (w : World) (o : Nat) (u : Value) : Only g w (w.setCell ⟨g, o, none⟩ u) :=
  ⟨(Below.refl g w).setCell (p := ⟨g, o, none⟩) (Nat.le_refl g) u, by simp, fun b hb => heap_setCell_other w ⟨g, o, none⟩ b u (by simpa using hb)⟩
theorem Only.drew (g : Nat) (w : World) (n : Nat) : Only g w (w.drewN n) := ⟨⟨rfl, rfl, rfl, Nat.le_refl _, fun _ _ => rfl⟩, rfl, fun _ _ => rfl⟩

/-- The slice lies elsewhere. -/
def Off (g : Nat) (v : Value) : Prop := ∀ b off n cap, v = .slice (some ⟨b, off, none⟩) n cap → n ≠ 0 → b ≠ g

theorem cell_of_block {w w' : World} {c : Addr} (h : w'.heap[c.block]? = w.heap[c.block]?) : w'.cell? c = w.cell? c := by
  unfold World.cell?
  rw [h]

theorem Sl.only {g : Nat} {w w' : World} {v : Value} {ds : List Nat} (h : Sl w v ds) (ho : Off g v) (hk : Only g w w') : Sl w' v ds := by
  refine ⟨h.bd, h.len, ?_⟩
  rcases h.is with h1 | ⟨b, off, cap, e, hc, hl⟩
  · exact .inl h1
  · refine .inr ⟨b, off, cap, e, hc, fun j hj => ?_⟩
    rw [← hl j hj]
    exact cell_of_block (hk.oth b (ho _ _ _ _ e (by omega)))

/-- A digit of the part. -/
theorem mid_get {pre zs post : List Nat} {j : Nat} (hj : j < zs.length) : (pre ++ zs ++ post).getD (pre.length + j) 0 = zs.getD j 0 := by
  simp only [List.getD_eq_getElem?_getD]
  rw [List.append_assoc, List.getElem?_append_right (by omega), Nat.add_sub_cancel_left, List.getElem?_append_left hj]

theorem mid_set {pre zs post : List Nat} {j d : Nat} (hj : j < zs.length) : (pre ++ zs ++ post).set (pre.length + j) d = pre ++ zs.set j d ++ post := by
  rw [List.append_assoc, List.append_assoc, List.set_append_right _ _ (by omega), Nat.add_sub_cancel_left, List.set_append_left _ _ hj]

def TakeR (w : World) (g q n : Nat) (pre ms post bs : List Nat) (cv bv kv : Value) (wr : World) : Prop :=
  ∃ (k c bo : Nat) (zs : List Nat), k ≤ n ∧ cv = .int .u64 c ∧ bv = .int .u32 bo ∧ kv = .int .i64 k ∧ Taking q ms bs zs k c bo ∧ Row wr g (pre ++ zs ++ post) ∧ Only g w wr

def TakeE (w : World) (g q n : Nat) (pre ms post bs : List Nat) (e : Ending) (w' : World) : Prop :=
  ∃ (bo : Nat) (zs : List Nat), e = .returned (.bool (decide (bo = 1))) ∧ zs.length = n ∧ Bd zs ∧ bo ≤ 1 ∧ val zs + q * val bs = val ms + 4294967296 ^ n * bo ∧ Row w' g (pre ++ zs ++ post) ∧ Only g w w'

theorem u64_div (t c' : Nat) (h : t / 4294967296 = c') : ((t : Int) / 4294967296) = (c' : Int) := by subst h; rfl

set_option maxRecDepth 10000 in
set_option maxHeartbeats 2000000 in
theorem takeAway_any {w : World} {g q n cap p : Nat} {vb : Value} {pre ms post bs : List Nat} (hr : Row w g (pre ++ ms ++ post)) (hm : ms.length = n + 1) (hn : n ≤ 1000000) (hp : pre.length = p) (hbm : Bd ms) (hb : Sl w vb bs) (hbl : bs.length ≤ n) (ho : Off g vb) (hq : q < 4294967296) :
    Calls Tryz.prog 104 #[.slice (some ⟨g, p, none⟩) (n + 1) cap, vb, .int .u32 q] w (TakeE w g q (n + 1) pre ms post bs) := by
  have HEND := Lib.hid (fun (c bo : Nat) (zs : List Nat) (h : Taking q ms bs zs ms.length c bo) => taking_end h hm hq hbl hb.bd)
  have HD : Hid (∀ W (k : Nat), Only g w W → Calls Tryz.prog 78 #[vb, .int .i64 k] W fun e w' => e = .returned (.int .u32 (bs.getD k 0 : Nat)) ∧ w' = W) := Lib.hid (fun W k h => by
    have := digit_any (hb.only ho h) k
    rwa [show dg bs (k : Nat) = bs.getD k 0 from rfl] at this)
  have HBL : Hid (∀ k, bs.getD k 0 < 4294967296) := Lib.hid (fun k => by rw [val_digit hb.bd]; exact Nat.mod_lt _ (by omega))
  have HR := Lib.hid hr
  have HST := Lib.hid (taking_start q ms bs hbm)
  have HP := Lib.hid hp
  have HM := Lib.hid hm
  have HBM := Lib.hid hbm
  clear hr hb hbl ho hp hm hbm
  go_enter Tryz.func104, Tryz.ntmps104
  go_wp2
  go_loopw [7, 8, 12] (fun cv bv kv wr => TakeR w g q (n + 1) pre ms post bs cv bv kv wr) (fun _ _ kv _ => (n + 1 - intOf kv).toNat)
  case atStart => exact ⟨0, 0, 0, ms, by omega, rfl, rfl, rfl, HST.out, HR.out, Only.refl _ _⟩
  case round =>
    obtain ⟨k, c, bo, zs, hk, rfl, rfl, rfl, hT, hrow, hon⟩ := hrel
    have hc := hT.2.2.2.1
    have hbo := hT.2.2.2.2.1
    have HT := Lib.hid hT
    have HON := Lib.hid hon
    have HROW := Lib.hid hrow
    clear hT hon hrow HST HR
    by_cases hlt : k < n + 1
    · have hzl : k < zs.length := by rw [HT.out.1, HM.out]; exact hlt
      have hx := HROW.out.cell (pre.length + k) (by simp only [List.length_append]; omega)
      rw [mid_get hzl, HP.out, drop_at HT.out.2.2.1] at hx
      have hfree := HROW.out.free (p + k)
      have hxl : ms.getD k 0 < 4294967296 := by rw [val_digit HBM.out]; exact Nat.mod_lt _ (by omega)
      have hd := HD.out wr k HON.out
      have hyl := HBL.out k
      have hstep := fun d low c' bo' h1 h2 h3 h4 h5 h6 => taking_step (q := q) (d := d) (low := low) (c' := c') (bo' := bo') HT.out (by rw [HM.out]; exact hlt) h1 h2 h3 h4 h5 h6
      obtain ⟨x, hxx⟩ : ∃ x, x = ms.getD k 0 := ⟨_, rfl⟩
      obtain ⟨y, hyy⟩ : ∃ y, y = bs.getD k 0 := ⟨_, rfl⟩
      rw [← hxx] at hx hxl hstep
      rw [← hyy] at hd hyl hstep
      clear hxx hyy
      have hqy : q * y ≤ 4294967295 * 4294967295 := Nat.mul_le_mul (by omega) (by omega)
      obtain ⟨t, ht⟩ : ∃ t, t = c + q * y := ⟨_, rfl⟩
      obtain ⟨c', hc'⟩ : ∃ c', c' = t / 4294967296 := ⟨_, rfl⟩
      obtain ⟨low, hlow⟩ : ∃ low, low = t % 4294967296 := ⟨_, rfl⟩
      have hc2 : c' < 4294967296 := by omega
      have hl2 : low < 4294967296 := by omega
      have hqy2 : q * y / 4294967296 < 4294967296 := by omega
      have ht2 : t / 4294967296 < 4294967296 := by omega
      have wm : IntKind.u64.wrap ((q : Int) * (y : Int)) = ((q * y : Nat) : Int) := by rw [IntKind.wrap_u64]; push_cast; omega
      have ws : IntKind.u64.wrap ((c : Int) + ((q * y : Nat) : Int)) = (t : Int) := by rw [IntKind.wrap_u64]; omega
      have ws2 : IntKind.u64.wrap ((c : Int) + (q : Int) * (y : Int)) = (t : Int) := by
        have e : (q : Int) * (y : Int) = ((q * y : Nat) : Int) := by push_cast; rfl
        rw [e]; exact ws
      have fl : (t : Int) % 4294967296 = (low : Int) := by rw [hlow]; rfl
      have fc : (t : Int) / 4294967296 = (c' : Int) := by rw [hc']; rfl
      obtain ⟨s1, s2, s3⟩ := sb_eq hxl hl2 hbo
      have HN := Lib.hid (hstep (sbd x low bo) low c' (sbb x low bo) (by omega) hl2 hc2 (by omega) s2 (by omega))
      clear hstep ht hc' hlow hqy s1
      go_wp2_with (first | (go_at_call 78; (with_reducible refine hd.mono ?_); rintro e w' ⟨rfl, rfl⟩) | (go_at_call 79; (with_reducible refine (sub32_any x low bo _ hxl hl2 hbo).mono ?_); rintro e w' ⟨rfl, rfl⟩))
      go_roundw
      case rel => exact ⟨k + 1, c', sbb x low bo, zs.set k (sbd x low bo), by omega, by first | rfl | go_num, by first | rfl | go_num, by go_num, HN.out, by have := HROW.out.set (p + k) (sbd x low bo); rw [← HP.out, mid_set (by rw [HT.out.1, HM.out]; exact hlt)] at this; rw [← HP.out]; exact this, HON.out.trans (Only.set _ _ _ _)⟩
      case measure => simp [intOf]; omega
    · obtain rfl : k = n + 1 := by omega
      have hE := Lib.hid (HEND.out c bo zs (by rw [HM.out]; exact HT.out))
      rcases (show bo = 0 ∨ bo = 1 by omega) with rfl | rfl
      all_goals
        go_wp2
        go_ret
        exact ⟨_, zs, rfl, HT.out.1.trans HM.out, HT.out.2.1, by omega, hE.out, HROW.out, HON.out⟩

end Go.Proofs.YtdgmjmckeeeljaaGreatDoor

namespace Go.Proofs.YtdgmjmckeeeljaaGreatDoor
open Go Go.RowKit

/-- What an operation's result is known to be. -/
inductive Kd where
  | val (v : Value)
  | nu (z : Int)
  | pair (z : Int)
  | any
  | byte (b : Int)

def Kd.ok : Kd → Value → World → Prop
  | .val v, x, _ => x = v
  | .nu z, x, w => ∃ neg ao n cap, x = .agg #[.bool neg, .slice ao n cap] ∧ Nu w (.agg #[.bool neg, .slice ao n cap]) z
  | .pair z, x, w => ∃ neg ao n cap, x = .tuple #[.agg #[.bool neg, .slice ao n cap], .bool true] ∧ Nu w (.agg #[.bool neg, .slice ao n cap]) z
  | .any, _, _ => True
  | .byte b, x, w => ∃ g, x = .slice (some ⟨g, 0, none⟩) 1 1 ∧ w.heap[g]? = some (.cells #[.int .u8 b] 5 (0, 0))

theorem Kd.ok.below {k : Kd} {v : Value} {w w' : World} (h : k.ok v w) (hb : Below w.heap.size w w') : k.ok v w' := by
  cases k with
  | val u => exact h
  | nu z => obtain ⟨neg, ao, n, cap, e, hn⟩ := h; exact ⟨neg, ao, n, cap, e, hn.below hb⟩
  | pair z => obtain ⟨neg, ao, n, cap, e, hn⟩ := h; exact ⟨neg, ao, n, cap, e, hn.below hb⟩
  | any => exact trivial
  | byte b => obtain ⟨g, e, hg⟩ := h; exact ⟨g, e, (hb.block _ (Array.getElem?_eq_some_iff.1 hg).1).trans hg⟩

theorem Kd.ok.stored {k : Kd} {v : Value} {w : World} (h : k.ok v w) {g m c : Nat} {b : Bool} {so : Option Addr} (hg : w.heap[g]? = some (.cells #[.bool b, .slice so m c] 27 (0, 0))) (nb : Bool) (u : Value) :
    k.ok v ((w.setCell ⟨g, 0, none⟩ (.bool nb)).setCell ⟨g, 1, none⟩ u) := by
  have hr1 : (w.setCell ⟨g, 0, none⟩ (.bool nb)).heap[g]? = some (.cells #[.bool nb, .slice so m c] 27 (0, 0)) := by
    have := heap_setCell_same w g 0 _ 27 (.bool nb) hg
    simpa using this
  cases k with
  | val u => exact h
  | nu z => obtain ⟨neg, ao, n, cap, e, hn⟩ := h; exact ⟨neg, ao, n, cap, e, nu_setBox (nu_setBox hn hg 0 _) hr1 1 _⟩
  | pair z => obtain ⟨neg, ao, n, cap, e, hn⟩ := h; exact ⟨neg, ao, n, cap, e, nu_setBox (nu_setBox hn hg 0 _) hr1 1 _⟩
  | any => exact trivial
  | byte b =>
    obtain ⟨g', e, hg'⟩ := h
    have hne : g' ≠ g := fun e => by
      subst e
      rw [hg] at hg'
      cases hg'
    exact ⟨g', e, by rw [heap_setCell_other _ _ _ _ hne, heap_setCell_other _ _ _ _ hne]; exact hg'⟩

/-- The slot that each operation writes, and what it holds. -/
def tOwn (ds : List (Option Nat)) (vals : Nat → Value) (j : Nat) : Option (Nat × Value) :=
  match ds.findIdx? (fun x => x == some j) with
  | some i => some (i, vals i)
  | none => none

theorem tOwn_some {ds : List (Option Nat)} {vals : Nat → Value} {j i : Nat} (h : ds.findIdx? (fun x => x == some j) = some i) : tOwn ds vals j = some (i, vals i) := by
  unfold tOwn
  rw [h]
theorem tOwn_inv {ds : List (Option Nat)} {vals : Nat → Value} {j : Nat} {p : Nat × Value} (h : tOwn ds vals j = some p) : ds[p.1]? = some (some j) ∧ p.2 = vals p.1 := by
  unfold tOwn at h
  split at h
  · rename_i i hi
    cases h
    rw [List.findIdx?_eq_some_iff_getElem] at hi
    obtain ⟨h1, h2, _⟩ := hi
    exact ⟨by rw [List.getElem?_eq_getElem h1]; rw [beq_iff_eq] at h2; rw [h2], rfl⟩
  · cases h

structure RG (W0 : World) (T : Array Value) (ds : List (Option Nat)) (ks : List Kd) (bx : Option (Nat × Nat × Int)) (vals : Nat → Value) (l : Array Bool) (a : Act) (w : World) : Prop where
  size : l.size = ds.length
  fr : Fr (tOwn ds vals) T l a
  bl : Below W0.heap.size W0 w
  val : ∀ i, i < ds.length → l.getD i true = true → (ks.getD i .any).ok (vals i) w
  dep : ∀ ai si z, bx = some (ai, si, z) → l.getD si true = true → l.getD ai true = true
  box : ∀ ai si z, bx = some (ai, si, z) → l.getD ai true = true → ∃ g, vals ai = .pointer (some ⟨g, 0, none⟩) ∧ W0.heap.size ≤ g ∧ g < w.heap.size ∧
    (l.getD si true = false → w.heap[g]? = some (.cells #[.bool false, .slice none 0 0] 27 (0, 0))) ∧ (l.getD si true = true → ∃ neg ao n cap, Bx w g neg ao n cap z)

section
variable {W0 : World} {T : Array Value} {ds : List (Option Nat)} {ks : List Kd} {bx : Option (Nat × Nat × Int)} {vals : Nat → Value} {l : Array Bool} {a : Act} {w : World}

theorem Fr.stepT (h : Fr (tOwn ds vals) T l a) {i d : Nat} (hd : ds.findIdx? (fun x => x == some d) = some i) (hi : i < l.size) (hl : l.getD i true = false) (v : Value) :
    Fr (tOwn ds (fun u => if u = i then v else vals u)) T (l.setIfInBounds i true) (a.put (some d) v) := by
  have hf : Fr (tOwn ds (fun u => if u = i then v else vals u)) T l a := h.swap
    (fun j p hp hq => by
      obtain ⟨h1, h2⟩ := tOwn_inv hp
      have hne : p.1 ≠ i := fun e => by rw [e, hl] at hq; cases hq
      simp only [hne, if_false] at h2
      unfold tOwn at hp ⊢
      split at hp
      · cases hp; simp only [] at h2 ⊢; rw [h2]
      · cases hp)
    (fun j p hp hq => by
      obtain ⟨h1, h2⟩ := tOwn_inv hp
      have hne : p.1 ≠ i := fun e => by rw [e, hl] at hq; cases hq
      unfold tOwn at hp ⊢
      split at hp
      · cases hp; simp only [hne, if_false]
      · cases hp)
  refine hf.put (by rw [tOwn_some hd, if_pos rfl]) hi (fun j p hp e => ?_)
  obtain ⟨h1, _⟩ := tOwn_inv hp
  rw [List.findIdx?_eq_some_iff_getElem] at hd
  obtain ⟨h2, h3, _⟩ := hd
  rw [beq_iff_eq] at h3
  rw [e, List.getElem?_eq_getElem h2, h3] at h1
  cases h1
  rfl

/-- An operation that writes a slot. -/
theorem RG.op (h : RG W0 T ds ks bx vals l a w) (i d : Nat) (hd : ds.findIdx? (fun x => x == some d) = some i) (hi : i < ds.length) (hl : l.getD i true = false) {v : Value} {w' : World} (hb : Below w.heap.size w w') (hv : (ks.getD i .any).ok v w')
    (hnb : ∀ ai si z, bx = some (ai, si, z) → i ≠ ai ∧ i ≠ si) :
    RG W0 T ds ks bx (fun u => if u = i then v else vals u) (l.setIfInBounds i true) (a.put (some d) v) w' := by
  refine ⟨by rw [Array.size_setIfInBounds]; exact h.size, h.fr.stepT hd (by rw [h.size]; exact hi) hl v, h.bl.trans (hb.mono h.bl.size), fun k hk h1 => ?_, fun ai si z e h1 => ?_, fun ai si z e h1 => ?_⟩
  · by_cases e : k = i
    · subst e
      simp only [if_true]
      exact hv
    · simp only [e, if_false]
      rcases gset_true h1 with e2 | h1
      · exact absurd e2 e
      · exact (h.val k hk h1).below hb
  · obtain ⟨n1, n2⟩ := hnb _ _ _ e
    rcases gset_true h1 with e2 | h1
    · exact absurd e2.symm n2
    · exact gset_old (h.dep _ _ _ e h1)
  · obtain ⟨n1, n2⟩ := hnb _ _ _ e
    rcases gset_true h1 with e2 | h1
    · exact absurd e2.symm n1
    · obtain ⟨g, q1, q2, q3, q4, q5⟩ := h.box _ _ _ e h1
      refine ⟨g, ?_, q2, Nat.lt_of_lt_of_le q3 hb.size, fun h2 => ?_, fun h2 => ?_⟩
      · simp only [Ne.symm n1, if_false]; exact q1
      · exact (hb.block _ q3).trans (q4 (gset_false h2).2)
      · rcases gset_true h2 with e2 | h2
        · exact absurd e2.symm n2
        · obtain ⟨neg, ao, n, cap, hx⟩ := q5 h2
          exact ⟨neg, ao, n, cap, hx.below hb⟩

/-- The box made. -/
theorem RG.alloc {ai si : Nat} {z : Int} (h : RG W0 T ds ks (some (ai, si, z)) vals l a w) {d : Nat} (hd : ds.findIdx? (fun x => x == some d) = some ai) (hi : ai < ds.length) (hl : l.getD ai true = false) (hk : ks.getD ai .any = .any) (hne : ai ≠ si) :
    RG W0 T ds ks (some (ai, si, z)) (fun u => if u = ai then .pointer (some ⟨w.heap.size, 0, none⟩) else vals u) (l.setIfInBounds ai true) (a.put (some d) (.pointer (some ⟨w.heap.size, 0, none⟩))) (w.alloc (.cells #[.bool false, .slice none 0 0] 27)) := by
  have hb := alloc_b w (.cells #[.bool false, .slice none 0 0] 27)
  have hsf : l.getD si true = false := by
    cases hs : l.getD si true with
    | false => rfl
    | true => rw [h.dep _ _ _ rfl hs] at hl; cases hl
  refine ⟨by rw [Array.size_setIfInBounds]; exact h.size, h.fr.stepT hd (by rw [h.size]; exact hi) hl _, h.bl.trans (hb.mono h.bl.size), fun k hk2 h1 => ?_, fun ai' si' z' e h1 => ?_, fun ai' si' z' e h1 => ?_⟩
  · by_cases e : k = ai
    · subst e
      rw [hk]
      exact trivial
    · simp only [e, if_false]
      rcases gset_true h1 with e2 | h1
      · exact absurd e2 e
      · exact (h.val k hk2 h1).below hb
  · cases e
    rcases gset_true h1 with e2 | h1
    · exact absurd e2.symm hne
    · rw [hsf] at h1; cases h1
  · cases e
    refine ⟨w.heap.size, by simp only [if_true], h.bl.size, by simp, fun _ => heap_alloc_new _ _, fun h2 => ?_⟩
    rcases gset_true h2 with e2 | h2
    · exact absurd e2.symm hne
    · rw [hsf] at h2; cases h2

/-- The store. -/
theorem RG.store {ai si : Nat} {z : Int} (h : RG W0 T ds ks (some (ai, si, z)) vals l a w) (hds : ds[si]? = some none) (hl : l.getD si true = false) (h1 : l.getD ai true = true) (hk : ks.getD si .any = .any) {g : Nat} (hg : vals ai = .pointer (some ⟨g, 0, none⟩)) {neg : Bool} {ao : Option Addr} {n cap : Nat} (hn : Nu w (.agg #[.bool neg, .slice ao n cap]) z) (u : Value) :
    RG W0 T ds ks (some (ai, si, z)) vals (l.setIfInBounds si true) (a.put none u) ((w.setCell ⟨g, 0, none⟩ (.bool neg)).setCell ⟨g, 1, none⟩ (.slice ao n cap)) := by
  obtain ⟨g', q1, q2, q3, q4, q5⟩ := h.box _ _ _ rfl h1
  rw [hg] at q1
  cases q1
  have hz := q4 hl
  have hr1 : (w.setCell ⟨g, 0, none⟩ (.bool neg)).heap[g]? = some (.cells #[.bool neg, .slice none 0 0] 27 (0, 0)) := by
    have := heap_setCell_same w g 0 _ 27 (.bool neg) hz
    simpa using this
  have hr2 : ((w.setCell ⟨g, 0, none⟩ (.bool neg)).setCell ⟨g, 1, none⟩ (.slice ao n cap)).heap[g]? = some (.cells #[.bool neg, .slice ao n cap] 27 (0, 0)) := by
    have := heap_setCell_same _ g 1 _ 27 (.slice ao n cap) hr1
    simpa using this
  have hb : Below W0.heap.size W0 ((w.setCell ⟨g, 0, none⟩ (.bool neg)).setCell ⟨g, 1, none⟩ (.slice ao n cap)) := (h.bl.setCell q2 _).setCell q2 _
  refine ⟨by rw [Array.size_setIfInBounds]; exact h.size, h.fr.bare u (fun j p hp e => ?_), hb, fun k hk2 h3 => ?_, fun ai' si' z' e h3 => ?_, fun ai' si' z' e h3 => ?_⟩
  · obtain ⟨e1, _⟩ := tOwn_inv hp
    rw [e, hds] at e1
    cases e1
  · by_cases e : k = si
    · subst e
      rw [hk]
      exact trivial
    · rcases gset_true h3 with e2 | h3
      · exact absurd e2 e
      · exact (h.val k hk2 h3).stored hz _ _
  · cases e
    exact gset_old h1
  · cases e
    exact ⟨g, hg, q2, by simpa using q3, fun h4 => absurd rfl (gset_false h4).1, fun _ => ⟨neg, ao, n, cap, hr2, nu_setBox (nu_setBox hn hz 0 _) hr1 1 _⟩⟩

/-- What the store needs. -/
theorem RG.ready {ai si : Nat} {z : Int} (h : RG W0 T ds ks (some (ai, si, z)) vals l a w) (hl : l.getD si true = false) (h1 : l.getD ai true = true) :
    ∃ g, vals ai = .pointer (some ⟨g, 0, none⟩) ∧ w.cell? ⟨g, 0, none⟩ = some (.bool false) ∧ w.cell? ⟨g, 1, none⟩ = some (.slice none 0 0) ∧ w.frozen? ⟨g, 0, none⟩ = false ∧ w.frozen? ⟨g, 1, none⟩ = false ∧ g < w.heap.size := by
  obtain ⟨g, q1, q2, q3, q4, q5⟩ := h.box _ _ _ rfl h1
  have hz := q4 hl
  refine ⟨g, q1, ?_, ?_, frozen_of_row _ _ _ _ _ hz, frozen_of_row _ _ _ _ _ hz, q3⟩
  · rw [cell_of_row _ _ _ _ _ _ hz]; rfl
  · rw [cell_of_row _ _ _ _ _ _ hz]; rfl

/-- The beginning. -/
theorem RG.start (hT : l = Array.replicate ds.length false) (hb : Below W0.heap.size W0 w) (hbx : ∀ ai si z, bx = some (ai, si, z) → ai < ds.length ∧ si < ds.length) : RG W0 T ds ks bx vals l ⟨T, []⟩ w := by
  have hf : ∀ j, j < ds.length → l.getD j true = false := fun j hj => by rw [hT]; simp [Array.getD, hj]
  refine ⟨by rw [hT]; simp, Fr.start _ _ _ (fun j i v h => hf i ?_), hb, fun i hi h => ?_, fun ai si z e h => ?_, fun ai si z e h => ?_⟩
  · obtain ⟨h1, _⟩ := tOwn_inv h
    exact (List.getElem?_eq_some_iff.1 h1).1
  · rw [hf _ hi] at h; cases h
  · rw [hf _ (hbx _ _ _ e).2] at h; cases h
  · rw [hf _ (hbx _ _ _ e).1] at h; cases h

/-- The end. -/
theorem RG.all (h : RG W0 T ds ks bx vals l a w) (hl : ∀ i, i < ds.length → l.getD i true = true) {T' : Array Value} (hs : T'.size = T.size)
    (ht : ∀ j, j < T.size → T'.getD j undef = match tOwn ds vals j with | some (_, v) => v | none => T.getD j undef) : a = ⟨T', []⟩ :=
  h.fr.all (fun j i v hj => hl i (List.getElem?_eq_some_iff.1 (tOwn_inv hj).1).1) hs ht
theorem RG.boxed {ai si : Nat} {z : Int} (h : RG W0 T ds ks (some (ai, si, z)) vals l a w) (h1 : l.getD ai true = true) (h2 : l.getD si true = true) : ∃ g neg ao n cap, vals ai = .pointer (some ⟨g, 0, none⟩) ∧ Bx w g neg ao n cap z := by
  obtain ⟨g, q1, _, _, _, q5⟩ := h.box _ _ _ rfl h1
  obtain ⟨neg, ao, n, cap, hx⟩ := q5 h2
  exact ⟨g, neg, ao, n, cap, q1, hx⟩
end

theorem nu_parts {w : World} {x : Value} {z : Int} (h : Nu w x z) : ∃ neg ao n cap, x = .agg #[.bool neg, .slice ao n cap] ∧ Nu w (.agg #[.bool neg, .slice ao n cap]) z := by
  obtain ⟨s, rfl, hs, hl⟩ := h
  obtain ⟨ao, cap, rfl⟩ := hs.mk'
  exact ⟨_, ao, _, cap, rfl, _, rfl, hs, hl⟩
theorem nu_abs {w : World} {neg : Bool} {s : Value} {z : Int} {u : Nat} (h : Nu w (.agg #[.bool neg, s]) z) (hu : u = z.natAbs) : Nu w (.agg #[.bool false, s]) (u : Int) := by
  obtain ⟨s', e, hs, hl⟩ := h
  injection e with e
  simp only [Array.mk.injEq, List.cons.injEq, and_true] at e
  obtain ⟨_, rfl⟩ := e
  subst hu
  refine ⟨s, ?_, hs, hl⟩
  rw [show decide (((z.natAbs : Nat) : Int) < 0) = false from decide_eq_false (by omega)]

end Go.Proofs.YtdgmjmckeeeljaaGreatDoor

namespace Go.Proofs.YtdgmjmckeeeljaaGreatDoor
open Go Go.RowKit

structure RV (W : World) (c : Addr) (u : Value) (si : Nat) (ch : List (Nat × Nat)) (T : Array Value) (ds : List (Option Nat)) (vals : Nat → Value) (l : Array Bool) (a : Act) (w : World) : Prop where
  size : l.size = ds.length
  fr : Fr (tOwn ds vals) T l a
  wld : w = if l.getD si true = true then W.setCell c u else W
  dep : ∀ i j, (i, j) ∈ ch → l.getD i true = true → l.getD j true = true

section
variable {W : World} {c : Addr} {u : Value} {si : Nat} {ch : List (Nat × Nat)} {T : Array Value} {ds : List (Option Nat)} {vals : Nat → Value} {l : Array Bool} {a : Act} {w : World}

theorem dep_set {i : Nat} (h : ∀ i j, (i, j) ∈ ch → l.getD i true = true → l.getD j true = true) (hc : ∀ j, (i, j) ∈ ch → l.getD j true = true) : ∀ k j, (k, j) ∈ ch → (l.setIfInBounds i true).getD k true = true → (l.setIfInBounds i true).getD j true = true := by
  intro k j hm hk
  rcases gset_true hk with e | hk
  · subst e; exact gset_old (hc j hm)
  · exact gset_old (h k j hm hk)

/-- An operation that writes a slot. -/
theorem RV.op (h : RV W c u si ch T ds vals l a w) (i d : Nat) {v : Value} (hv : vals i = v) (hd : ds.findIdx? (fun x => x == some d) = some i) (hi : i < ds.length) (hl : l.getD i true = false) (hne : i ≠ si) (hc : ∀ j, (i, j) ∈ ch → l.getD j true = true) :
    RV W c u si ch T ds vals (l.setIfInBounds i true) (a.put (some d) v) w := by
  subst hv
  refine ⟨by rw [Array.size_setIfInBounds]; exact h.size, ?_, ?_, dep_set h.dep hc⟩
  · have := h.fr.stepT hd (by rw [h.size]; exact hi) hl (vals i)
    rwa [show (fun t => if t = i then vals i else vals t) = vals from funext fun t => by by_cases e : t = i <;> simp [e]] at this
  · rw [h.wld, getD_set_ne true (by omega)]

/-- The store. -/
theorem RV.store (h : RV W c u si ch T ds vals l a w) (hds : ds[si]? = some none) (hl : l.getD si true = false) (hc : ∀ j, (si, j) ∈ ch → l.getD j true = true) (v : Value) :
    RV W c u si ch T ds vals (l.setIfInBounds si true) (a.put none v) (w.setCell c u) := by
  have hs : si < l.size := by
    by_cases hi : si < l.size
    · exact hi
    · simp [Array.getD, hi] at hl
  refine ⟨by rw [Array.size_setIfInBounds]; exact h.size, h.fr.bare v (fun j p hp e => ?_), ?_, dep_set h.dep hc⟩
  · obtain ⟨e1, _⟩ := tOwn_inv hp
    rw [e, hds] at e1
    cases e1
  · have e := h.wld
    rw [if_neg (by rw [hl]; exact Bool.false_ne_true)] at e
    rw [if_pos (by simp [Array.getD, hs]), e]

/-- Before the store the world is as it was. -/
theorem RV.before (h : RV W c u si ch T ds vals l a w) {i : Nat} (hl : l.getD i true = false) (hr : l.getD si true = true → l.getD i true = true) : w = W := by
  rw [h.wld, if_neg]
  intro hs
  rw [hr hs] at hl
  cases hl

theorem RV.start (hT : l = Array.replicate ds.length false) (hch : ∀ i j, (i, j) ∈ ch → i < ds.length) (hs : si < ds.length) : RV W c u si ch T ds vals l ⟨T, []⟩ W := by
  have hf : ∀ j, j < ds.length → l.getD j true = false := fun j hj => by rw [hT]; simp [Array.getD, hj]
  refine ⟨by rw [hT]; simp, Fr.start _ _ _ (fun j i v h => hf i ?_), ?_, fun i j hm h => ?_⟩
  · obtain ⟨h1, _⟩ := tOwn_inv h
    exact (List.getElem?_eq_some_iff.1 h1).1
  · rw [if_neg (by rw [hf si hs]; exact Bool.false_ne_true)]
  · rw [hf _ (hch _ _ hm)] at h
    cases h

theorem RV.all (h : RV W c u si ch T ds vals l a w) (hl : ∀ i, i < ds.length → l.getD i true = true) (hs : si < ds.length) {T' : Array Value} (hT : T'.size = T.size)
    (ht : ∀ j, j < T.size → T'.getD j undef = match tOwn ds vals j with | some (_, v) => v | none => T.getD j undef) : a = ⟨T', []⟩ ∧ w = W.setCell c u := by
  refine ⟨h.fr.all (fun j i v hj => hl i (List.getElem?_eq_some_iff.1 (tOwn_inv hj).1).1) hT ht, ?_⟩
  rw [h.wld, if_pos (hl si hs)]
end

theorem rv_sets (T : Array Value) (i j : Nat) (v : Value) : (T.setIfInBounds i v).getD j undef = if i = j ∧ i < T.size then v else T.getD j undef := by
  by_cases h : i = j
  · subst h
    by_cases h2 : i < T.size
    · simp [Array.getD, h2]
    · simp [Array.getD, h2]
  · rw [if_neg (fun e => h e.1)]
    simp only [Array.getD_eq_getD_getElem?]
    rw [Array.getElem?_setIfInBounds_ne h]

/-- What a slot holds whose operation is not done. -/
theorem Fr.undone {own : Nat → Option (Nat × Value)} {T : Array Value} {l : Array Bool} {a : Act} (h : Fr own T l a) {i j : Nat} {v : Value} (hd : own j = some (i, v)) (hl : l.getD i true = false) (hj : j < T.size) : a.tmps.getD j undef = T.getD j undef := by
  rw [h.slot j hj, hd]
  simp only []
  rw [if_neg (by rw [hl]; exact Bool.false_ne_true)]

theorem false_of {l : Array Bool} {i k : Nat} (hl : l.getD i true = false) (h : l.getD k true = true → l.getD i true = true) : l.getD k true = false := by
  cases hk : l.getD k true with
  | false => rfl
  | true => rw [h hk] at hl; cases hl

theorem frame_named {P : Program} {c : Code} {Q : Exit → Act → World → Prop} {T0 : Array Value} {w : World} (h : ∀ T, T = T0 → c.wp P Q ⟨T, []⟩ w) : c.wp P Q ⟨T0, []⟩ w := h T0 rfl
theorem frame_namedIn {F : Fence} {n : Nat} {P : Program} {c : Code} {Q : Exit → Act → World → Prop} {T0 : Array Value} {w : World} (h : ∀ T, T = T0 → c.wpIn F n P Q ⟨T, []⟩ w) : c.wpIn F n P Q ⟨T0, []⟩ w := h T0 rfl

end Go.Proofs.YtdgmjmckeeeljaaGreatDoor

namespace Go.Proofs.YtdgmjmckeeeljaaGreatDoor
open Go.RowKit

def gbCh : List (Nat × Nat) := [(16, 13), (13, 11), (11, 10), (10, 9), (10, 8), (10, 5), (15, 12), (12, 11)]

set_option maxHeartbeats 400000 in
theorem add32_any (x y c : Nat) (w : World) (hx : x < 4294967296) (hy : y < 4294967296) (hc : c ≤ 1) :
    Calls Tryz.prog 122 #[.int .u32 x, .int .u32 y, .int .u32 c] w fun e w' => e = .returned (.tuple #[.int .u32 ((x + y + c) % 4294967296 : Nat), .int .u32 ((x + y + c) / 4294967296 : Nat)]) ∧ w' = w := by
  go_enter Tryz.func122, Tryz.ntmps122
  go_wp2
  go_ret2
  refine ⟨?_, rfl⟩
  first | rfl | (congr 3 <;> omega) | (push_cast; rfl)

def GiveR (w : World) (g n : Nat) (pre ms post bs : List Nat) (cv kv : Value) (wr : World) : Prop :=
  ∃ (k c : Nat) (zs : List Nat), k ≤ n ∧ cv = .int .u32 c ∧ kv = .int .i64 k ∧ Giving ms bs zs k c ∧ Row wr g (pre ++ zs ++ post) ∧ Only g w wr

def GiveE (w : World) (g n : Nat) (pre ms post bs : List Nat) (e : Ending) (w' : World) : Prop :=
  ∃ (c : Nat) (zs : List Nat), e = .returned (.tuple #[]) ∧ zs.length = n ∧ Bd zs ∧ c ≤ 1 ∧ val zs + 4294967296 ^ n * c = val ms + val bs ∧ Row w' g (pre ++ zs ++ post) ∧ Only g w w'

set_option maxRecDepth 10000 in
set_option maxHeartbeats 4000000 in
theorem giveBack_any {w : World} {g n cap p : Nat} {vb : Value} {pre ms post bs : List Nat} (hr : Row w g (pre ++ ms ++ post)) (hm : ms.length = n + 1) (hn : n ≤ 1000000) (hp : pre.length = p) (hbm : Bd ms) (hb : Sl w vb bs) (hbl : bs.length ≤ n) (ho : Off g vb) :
    Calls Tryz.prog 105 #[.slice (some ⟨g, p, none⟩) (n + 1) cap, vb] w (GiveE w g (n + 1) pre ms post bs) := by
  have HEND := Lib.hid (fun (c : Nat) (zs : List Nat) (h : Giving ms bs zs ms.length c) => giving_end h hm hbl)
  have HD : Hid (∀ W (k : Nat), Only g w W → Calls Tryz.prog 78 #[vb, .int .i64 k] W fun e w' => e = .returned (.int .u32 (bs.getD k 0 : Nat)) ∧ w' = W) := Lib.hid (fun W k h => by
    have := digit_any (hb.only ho h) k
    rwa [show dg bs (k : Nat) = bs.getD k 0 from rfl] at this)
  have HBL : Hid (∀ k, bs.getD k 0 < 4294967296) := Lib.hid (fun k => by rw [val_digit hb.bd]; exact Nat.mod_lt _ (by omega))
  have HR := Lib.hid hr
  have HST := Lib.hid (giving_start ms bs hbm)
  have HP := Lib.hid hp
  have HM := Lib.hid hm
  have HBM := Lib.hid hbm
  clear hr hb hbl ho hp hm hbm
  go_enter Tryz.func105, Tryz.ntmps105
  go_wp2
  go_loopw [4, 8] (fun cv kv wr => GiveR w g (n + 1) pre ms post bs cv kv wr) (fun _ kv _ => (n + 1 - intOf kv).toNat)
  case atStart => exact ⟨0, 0, ms, by omega, rfl, rfl, HST.out, HR.out, Only.refl _ _⟩
  case round =>
    obtain ⟨k, c, zs, hk, rfl, rfl, hT, hrow, hon⟩ := hrel
    have hc := hT.2.2.2.1
    have HT := Lib.hid hT
    have HON := Lib.hid hon
    have HROW := Lib.hid hrow
    clear hT hon hrow HST HR
    by_cases hlt : k < n + 1
    · have hzl : k < zs.length := by rw [HT.out.1, HM.out]; exact hlt
      have HON2 : Hid (Only g w wr.drew) := Lib.hid (HON.out.trans (Only.drew g wr 1))
      have hx : wr.drew.cell? ⟨g, p + k, none⟩ = some (.int .u32 ((ms.getD k 0 : Nat) : Int)) := by
        have hx := HROW.out.cell (pre.length + k) (by simp only [List.length_append]; omega)
        rw [mid_get hzl, HP.out, drop_at HT.out.2.2.1] at hx
        exact hx
      have hfree : wr.drew.frozen? ⟨g, p + k, none⟩ = false := HROW.out.free (p + k)
      have hxl : ms.getD k 0 < 4294967296 := by rw [val_digit HBM.out]; exact Nat.mod_lt _ (by omega)
      have hd := HD.out wr.drew k HON2.out
      have hyl := HBL.out k
      have hstep := fun d c' h1 h2 h3 => giving_step (d := d) (c' := c') HT.out (by rw [HM.out]; exact hlt) h1 h2 h3
      obtain ⟨x, hxx⟩ : ∃ x, x = ms.getD k 0 := ⟨_, rfl⟩
      obtain ⟨y, hyy⟩ : ∃ y, y = bs.getD k 0 := ⟨_, rfl⟩
      rw [← hxx] at hx hxl hstep
      rw [← hyy] at hd hyl hstep
      have h122 := fun W => add32_any x y c W hxl hyl hc
      obtain ⟨d, hdd⟩ : ∃ d, d = (x + y + c) % 4294967296 := ⟨_, rfl⟩
      obtain ⟨c2, hcc⟩ : ∃ c2, c2 = (x + y + c) / 4294967296 := ⟨_, rfl⟩
      rw [← hdd, ← hcc] at h122
      have HN := Lib.hid (hstep d c2 (by omega) (by omega) (by omega))
      clear hxx hyy hdd hcc hstep
      have hlI : (k : Int) < (n : Int) + 1 := by omega
      go_wp2
      refine frame_named ?_
      intro T hT
      obtain ⟨vals, hvals⟩ : ∃ vals : Nat → Value, vals = (fun i => if i = 0 then .slice (some ⟨g, p, none⟩) (n + 1) cap else if i = 1 then .int .i64 (k : Nat) else if i = 2 then .slice (some ⟨g, p, none⟩) (n + 1) cap else if i = 3 then .int .i64 (k : Nat) else if i = 4 then .pointer (some ⟨g, p + k, none⟩) else if i = 5 then .int .u32 (x : Nat) else if i = 6 then vb else if i = 7 then .int .i64 (k : Nat) else if i = 8 then .int .u32 (y : Nat) else if i = 9 then .int .u32 (c : Nat) else if i = 10 then .tuple #[.int .u32 (d : Nat), .int .u32 (c2 : Nat)] else if i = 11 then .tuple #[.int .u32 (d : Nat), .int .u32 (c2 : Nat)] else if i = 12 then .int .u32 (d : Nat) else if i = 13 then .int .u32 (c2 : Nat) else if i = 14 then .pointer (some ⟨g, p + k, none⟩) else if i = 16 then .int .u32 (c2 : Nat) else undef) := ⟨_, rfl⟩
      have v0 : vals 0 = .slice (some ⟨g, p, none⟩) (n + 1) cap := by rw [hvals]; rfl
      have v1 : vals 1 = .int .i64 (k : Nat) := by rw [hvals]; rfl
      have v2 : vals 2 = .slice (some ⟨g, p, none⟩) (n + 1) cap := by rw [hvals]; rfl
      have v3 : vals 3 = .int .i64 (k : Nat) := by rw [hvals]; rfl
      have v4 : vals 4 = .pointer (some ⟨g, p + k, none⟩) := by rw [hvals]; rfl
      have v5 : vals 5 = .int .u32 (x : Nat) := by rw [hvals]; rfl
      have v6 : vals 6 = vb := by rw [hvals]; rfl
      have v7 : vals 7 = .int .i64 (k : Nat) := by rw [hvals]; rfl
      have v8 : vals 8 = .int .u32 (y : Nat) := by rw [hvals]; rfl
      have v9 : vals 9 = .int .u32 (c : Nat) := by rw [hvals]; rfl
      have v10 : vals 10 = .tuple #[.int .u32 (d : Nat), .int .u32 (c2 : Nat)] := by rw [hvals]; rfl
      have v11 : vals 11 = .tuple #[.int .u32 (d : Nat), .int .u32 (c2 : Nat)] := by rw [hvals]; rfl
      have v12 : vals 12 = .int .u32 (d : Nat) := by rw [hvals]; rfl
      have v13 : vals 13 = .int .u32 (c2 : Nat) := by rw [hvals]; rfl
      have v14 : vals 14 = .pointer (some ⟨g, p + k, none⟩) := by rw [hvals]; rfl
      have v16 : vals 16 = .int .u32 (c2 : Nat) := by rw [hvals]; rfl
      clear hvals
      refine regionP_inv (by kernel_rfl) (fun l a w' => RV wr.drew ⟨g, p + k, none⟩ (.int .u32 (d : Nat)) 15 gbCh T [some 12, some 13, some 14, some 15, some 16, some 17, some 18, some 19, some 20, some 21, some 22, some 11, some 23, some 24, some 25, none, some 4] vals l a w') ?h0 ?step ?fin
      case h0 => exact RV.start rfl (fun i j h => by simp [gbCh] at h; simp only [List.length_cons, List.length_nil]; omega) (by decide)
      case step =>
          rintro l a w' i' hR hi'
          obtain ⟨hl0, o, ho, hdep⟩ := mem_ready.1 hi'
          have h15 : i' < 17 := by
            have := (Array.getElem?_eq_some_iff.1 ho).1
            simpa using this
          rcases (show i' = 0 ∨ i' = 1 ∨ i' = 2 ∨ i' = 3 ∨ i' = 4 ∨ i' = 5 ∨ i' = 6 ∨ i' = 7 ∨ i' = 8 ∨ i' = 9 ∨ i' = 10 ∨ i' = 11 ∨ i' = 12 ∨ i' = 13 ∨ i' = 14 ∨ i' = 15 ∨ i' = 16 by omega) with rfl | rfl | rfl | rfl | rfl | rfl | rfl | rfl | rfl | rfl | rfl | rfl | rfl | rfl | rfl | rfl | rfl
          · simp at ho
            subst ho
            simp [Region.binds] at hdep
            have k0 : a.tmps.getD 0 undef = _ := (hR.fr.kept rfl (by simp [hT])).trans (by rw [hT]; try rfl)
            have hc : ∀ j, (0, j) ∈ gbCh → l.getD j true = true := by intro j hj; simp [gbCh] at hj
            clear hi' hdep
            unfold wpOp
            simp [Region.wanted]
            refine .inl ?_
            unfold Oper.wp
            simp [execOp, go_sem, Act.eval, k0]
            exact hR.op 0 12 v0 rfl (by decide) hl0 (by decide) hc
          · simp at ho
            subst ho
            simp [Region.binds] at hdep
            have k0 : a.tmps.getD 5 undef = _ := (hR.fr.kept rfl (by simp [hT])).trans (by rw [hT]; try rfl)
            have hc : ∀ j, (1, j) ∈ gbCh → l.getD j true = true := by intro j hj; simp [gbCh] at hj
            clear hi' hdep
            unfold wpOp
            simp [Region.wanted]
            refine .inl ?_
            unfold Oper.wp
            simp [execOp, go_sem, Act.eval, k0]
            exact hR.op 1 13 v1 rfl (by decide) hl0 (by decide) hc
          · simp at ho
            subst ho
            simp [Region.binds] at hdep
            have k0 : a.tmps.getD 0 undef = _ := (hR.fr.kept rfl (by simp [hT])).trans (by rw [hT]; try rfl)
            have hc : ∀ j, (2, j) ∈ gbCh → l.getD j true = true := by intro j hj; simp [gbCh] at hj
            clear hi' hdep
            unfold wpOp
            simp [Region.wanted]
            refine .inl ?_
            unfold Oper.wp
            simp [execOp, go_sem, Act.eval, k0]
            exact hR.op 2 14 v2 rfl (by decide) hl0 (by decide) hc
          · simp at ho
            subst ho
            simp [Region.binds] at hdep
            have k0 : a.tmps.getD 5 undef = _ := (hR.fr.kept rfl (by simp [hT])).trans (by rw [hT]; try rfl)
            have hc : ∀ j, (3, j) ∈ gbCh → l.getD j true = true := by intro j hj; simp [gbCh] at hj
            clear hi' hdep
            unfold wpOp
            simp [Region.wanted]
            refine .inl ?_
            unfold Oper.wp
            simp [execOp, go_sem, Act.eval, k0]
            exact hR.op 3 15 v3 rfl (by decide) hl0 (by decide) hc
          · simp at ho
            subst ho
            simp [Region.binds] at hdep
            have k0 : a.tmps.getD 14 undef = _ := (hR.fr.done (i := 2) rfl (by simp_all) (by simp [hT])).trans v2
            have k1 : a.tmps.getD 15 undef = _ := (hR.fr.done (i := 3) rfl (by simp_all) (by simp [hT])).trans v3
            have hc : ∀ j, (4, j) ∈ gbCh → l.getD j true = true := by intro j hj; simp [gbCh] at hj
            clear hi' hdep
            unfold wpOp
            simp [Region.wanted]
            refine .inl ?_
            unfold Oper.wp
            simp [execOp, go_sem, Act.eval, k0, k1, hlI]
            exact hR.op 4 16 v4 rfl (by decide) hl0 (by decide) hc
          · simp at ho
            subst ho
            simp [Region.binds] at hdep
            have k0 : a.tmps.getD 16 undef = _ := (hR.fr.done (i := 4) rfl (by simp_all) (by simp [hT])).trans v4
            have hc : ∀ j, (5, j) ∈ gbCh → l.getD j true = true := by intro j hj; simp [gbCh] at hj
            have hw' := hR.before hl0 (fun hs => (hR.dep 10 5 (by decide) (hR.dep 11 10 (by decide) (hR.dep 12 11 (by decide) (hR.dep 15 12 (by decide) hs)))))
            subst hw'
            clear hi' hdep
            unfold wpOp
            simp [Region.wanted]
            refine .inl ?_
            unfold Oper.wp
            simp [execOp, go_sem, Act.eval, k0, hx]
            exact hR.op 5 17 v5 rfl (by decide) hl0 (by decide) hc
          · simp at ho
            subst ho
            simp [Region.binds] at hdep
            have k0 : a.tmps.getD 1 undef = _ := (hR.fr.kept rfl (by simp [hT])).trans (by rw [hT]; try rfl)
            have hc : ∀ j, (6, j) ∈ gbCh → l.getD j true = true := by intro j hj; simp [gbCh] at hj
            clear hi' hdep
            unfold wpOp
            simp [Region.wanted]
            refine .inl ?_
            unfold Oper.wp
            simp [execOp, go_sem, Act.eval, k0]
            exact hR.op 6 18 v6 rfl (by decide) hl0 (by decide) hc
          · simp at ho
            subst ho
            simp [Region.binds] at hdep
            have k0 : a.tmps.getD 5 undef = _ := (hR.fr.kept rfl (by simp [hT])).trans (by rw [hT]; try rfl)
            have hc : ∀ j, (7, j) ∈ gbCh → l.getD j true = true := by intro j hj; simp [gbCh] at hj
            clear hi' hdep
            unfold wpOp
            simp [Region.wanted]
            refine .inl ?_
            unfold Oper.wp
            simp [execOp, go_sem, Act.eval, k0]
            exact hR.op 7 19 v7 rfl (by decide) hl0 (by decide) hc
          · simp at ho
            subst ho
            simp [Region.binds] at hdep
            have k0 : a.tmps.getD 18 undef = _ := (hR.fr.done (i := 6) rfl (by simp_all) (by simp [hT])).trans v6
            have k1 : a.tmps.getD 19 undef = _ := (hR.fr.done (i := 7) rfl (by simp_all) (by simp [hT])).trans v7
            have hc : ∀ j, (8, j) ∈ gbCh → l.getD j true = true := by intro j hj; simp [gbCh] at hj
            have hw' := hR.before hl0 (fun hs => (hR.dep 10 8 (by decide) (hR.dep 11 10 (by decide) (hR.dep 12 11 (by decide) (hR.dep 15 12 (by decide) hs)))))
            subst hw'
            clear hi' hdep
            unfold wpOp
            simp [Region.wanted]
            refine .inl ?_
            unfold Oper.wp
            simp [execOp, go_sem, Act.eval, k0, k1]
            refine hd.mono ?_
            rintro e w'' ⟨rfl, rfl⟩
            exact hR.op 8 20 v8 rfl (by decide) hl0 (by decide) hc
          · simp at ho
            subst ho
            simp [Region.binds] at hdep
            have k0 : a.tmps.getD 4 undef = _ := (hR.fr.undone (i := 16) rfl (false_of hl0 (fun hs => (hR.dep 10 9 (by decide) (hR.dep 11 10 (by decide) (hR.dep 13 11 (by decide) (hR.dep 16 13 (by decide) hs)))))) (by simp [hT])).trans (by rw [hT]; try rfl)
            have hc : ∀ j, (9, j) ∈ gbCh → l.getD j true = true := by intro j hj; simp [gbCh] at hj
            clear hi' hdep
            unfold wpOp
            simp [Region.wanted]
            refine .inl ?_
            unfold Oper.wp
            simp [execOp, go_sem, Act.eval, k0]
            exact hR.op 9 21 v9 rfl (by decide) hl0 (by decide) hc
          · simp at ho
            subst ho
            simp [Region.binds] at hdep
            have k0 : a.tmps.getD 17 undef = _ := (hR.fr.done (i := 5) rfl (by simp_all) (by simp [hT])).trans v5
            have k1 : a.tmps.getD 20 undef = _ := (hR.fr.done (i := 8) rfl (by simp_all) (by simp [hT])).trans v8
            have k2 : a.tmps.getD 21 undef = _ := (hR.fr.done (i := 9) rfl (by simp_all) (by simp [hT])).trans v9
            have hc : ∀ j, (10, j) ∈ gbCh → l.getD j true = true := by intro j hj; simp [gbCh] at hj; rcases hj with rfl | rfl | rfl <;> exact getD_true (by simp_all)
            clear hi' hdep
            unfold wpOp
            simp [Region.wanted]
            refine .inl ?_
            unfold Oper.wp
            simp [execOp, go_sem, Act.eval, k0, k1, k2]
            refine (h122 _).mono ?_
            rintro e w'' ⟨rfl, rfl⟩
            exact hR.op 10 22 v10 rfl (by decide) hl0 (by decide) hc
          · simp at ho
            subst ho
            simp [Region.binds] at hdep
            have k0 : a.tmps.getD 22 undef = _ := (hR.fr.done (i := 10) rfl (by simp_all) (by simp [hT])).trans v10
            have hc : ∀ j, (11, j) ∈ gbCh → l.getD j true = true := by intro j hj; simp [gbCh] at hj; rcases hj with rfl <;> exact getD_true (by simp_all)
            clear hi' hdep
            unfold wpOp
            simp [Region.wanted]
            refine .inl ?_
            unfold Oper.wp
            simp [execOp, go_sem, Act.eval, k0]
            exact hR.op 11 11 v11 rfl (by decide) hl0 (by decide) hc
          · simp at ho
            subst ho
            simp [Region.binds] at hdep
            have k0 : a.tmps.getD 11 undef = _ := (hR.fr.done (i := 11) rfl (by simp_all) (by simp [hT])).trans v11
            have hc : ∀ j, (12, j) ∈ gbCh → l.getD j true = true := by intro j hj; simp [gbCh] at hj; rcases hj with rfl <;> exact getD_true (by simp_all)
            clear hi' hdep
            unfold wpOp
            simp [Region.wanted]
            refine .inl ?_
            unfold Oper.wp
            simp [execOp, go_sem, Act.eval, k0]
            exact hR.op 12 23 v12 rfl (by decide) hl0 (by decide) hc
          · simp at ho
            subst ho
            simp [Region.binds] at hdep
            have k0 : a.tmps.getD 11 undef = _ := (hR.fr.done (i := 11) rfl (by simp_all) (by simp [hT])).trans v11
            have hc : ∀ j, (13, j) ∈ gbCh → l.getD j true = true := by intro j hj; simp [gbCh] at hj; rcases hj with rfl <;> exact getD_true (by simp_all)
            clear hi' hdep
            unfold wpOp
            simp [Region.wanted]
            refine .inl ?_
            unfold Oper.wp
            simp [execOp, go_sem, Act.eval, k0]
            exact hR.op 13 24 v13 rfl (by decide) hl0 (by decide) hc
          · simp at ho
            subst ho
            simp [Region.binds] at hdep
            have k0 : a.tmps.getD 12 undef = _ := (hR.fr.done (i := 0) rfl (by simp_all) (by simp [hT])).trans v0
            have k1 : a.tmps.getD 13 undef = _ := (hR.fr.done (i := 1) rfl (by simp_all) (by simp [hT])).trans v1
            have hc : ∀ j, (14, j) ∈ gbCh → l.getD j true = true := by intro j hj; simp [gbCh] at hj
            clear hi' hdep
            unfold wpOp
            simp [Region.wanted]
            refine .inl ?_
            unfold Oper.wp
            simp [execOp, go_sem, Act.eval, k0, k1, hlI]
            exact hR.op 14 25 v14 rfl (by decide) hl0 (by decide) hc
          · simp at ho
            subst ho
            simp [Region.binds] at hdep
            have k0 : a.tmps.getD 25 undef = _ := (hR.fr.done (i := 14) rfl (by simp_all) (by simp [hT])).trans v14
            have k1 : a.tmps.getD 23 undef = _ := (hR.fr.done (i := 12) rfl (by simp_all) (by simp [hT])).trans v12
            have hc : ∀ j, (15, j) ∈ gbCh → l.getD j true = true := by intro j hj; simp [gbCh] at hj; rcases hj with rfl <;> exact getD_true (by simp_all)
            have hw' := hR.before hl0 (fun hs => hs)
            subst hw'
            clear hi' hdep
            unfold wpOp
            simp [Region.wanted]
            refine .inl ?_
            unfold Oper.wp
            simp [execOp, go_sem, Act.eval, k0, k1, hx, hfree]
            exact hR.store rfl hl0 hc undef
          · simp at ho
            subst ho
            simp [Region.binds] at hdep
            have k0 : a.tmps.getD 24 undef = _ := (hR.fr.done (i := 13) rfl (by simp_all) (by simp [hT])).trans v13
            have hc : ∀ j, (16, j) ∈ gbCh → l.getD j true = true := by intro j hj; simp [gbCh] at hj; rcases hj with rfl <;> exact getD_true (by simp_all)
            clear hi' hdep
            unfold wpOp
            simp [Region.wanted]
            refine .inl ?_
            unfold Oper.wp
            simp [execOp, go_sem, Act.eval, k0]
            exact hR.op 16 4 v16 rfl (by decide) hl0 (by decide) hc
      case' fin =>
          rintro l a w' hR hz
          have hnot := List.eq_nil_iff_forall_not_mem.1 hz
          have hk : ∀ k, k < 17 → (l.getD k true = false → False) → l.getD k false = true := fun k h12 h => by
            have hs := hR.size
            cases h' : l.getD k true with
            | false => exact (h h').elim
            | true => simp at hs; simp [Array.getD, hs, h12] at h' ⊢; exact h'
          have st0 := hk 0 (by omega) (fun h => hnot 0 (mem_ready.2 ⟨h, _, rfl, by simp [Region.binds]⟩))
          have st1 := hk 1 (by omega) (fun h => hnot 1 (mem_ready.2 ⟨h, _, rfl, by simp [Region.binds]⟩))
          have st2 := hk 2 (by omega) (fun h => hnot 2 (mem_ready.2 ⟨h, _, rfl, by simp [Region.binds]⟩))
          have st3 := hk 3 (by omega) (fun h => hnot 3 (mem_ready.2 ⟨h, _, rfl, by simp [Region.binds]⟩))
          have st4 := hk 4 (by omega) (fun h => hnot 4 (mem_ready.2 ⟨h, _, rfl, by simp [Region.binds] <;> simp_all⟩))
          have st5 := hk 5 (by omega) (fun h => hnot 5 (mem_ready.2 ⟨h, _, rfl, by simp [Region.binds] <;> simp_all⟩))
          have st6 := hk 6 (by omega) (fun h => hnot 6 (mem_ready.2 ⟨h, _, rfl, by simp [Region.binds]⟩))
          have st7 := hk 7 (by omega) (fun h => hnot 7 (mem_ready.2 ⟨h, _, rfl, by simp [Region.binds]⟩))
          have st8 := hk 8 (by omega) (fun h => hnot 8 (mem_ready.2 ⟨h, _, rfl, by simp [Region.binds] <;> simp_all⟩))
          have st9 := hk 9 (by omega) (fun h => hnot 9 (mem_ready.2 ⟨h, _, rfl, by simp [Region.binds] <;> simp_all⟩))
          have st10 := hk 10 (by omega) (fun h => hnot 10 (mem_ready.2 ⟨h, _, rfl, by simp [Region.binds] <;> simp_all⟩))
          have st11 := hk 11 (by omega) (fun h => hnot 11 (mem_ready.2 ⟨h, _, rfl, by simp [Region.binds] <;> simp_all⟩))
          have st12 := hk 12 (by omega) (fun h => hnot 12 (mem_ready.2 ⟨h, _, rfl, by simp [Region.binds] <;> simp_all⟩))
          have st13 := hk 13 (by omega) (fun h => hnot 13 (mem_ready.2 ⟨h, _, rfl, by simp [Region.binds] <;> simp_all⟩))
          have st14 := hk 14 (by omega) (fun h => hnot 14 (mem_ready.2 ⟨h, _, rfl, by simp [Region.binds] <;> simp_all⟩))
          have st15 := hk 15 (by omega) (fun h => hnot 15 (mem_ready.2 ⟨h, _, rfl, by simp [Region.binds] <;> simp_all⟩))
          have st16 := hk 16 (by omega) (fun h => hnot 16 (mem_ready.2 ⟨h, _, rfl, by simp [Region.binds] <;> simp_all⟩))
          have hall : ∀ i, i < 17 → l.getD i true = true := fun i hi => by
            rcases (show i = 0 ∨ i = 1 ∨ i = 2 ∨ i = 3 ∨ i = 4 ∨ i = 5 ∨ i = 6 ∨ i = 7 ∨ i = 8 ∨ i = 9 ∨ i = 10 ∨ i = 11 ∨ i = 12 ∨ i = 13 ∨ i = 14 ∨ i = 15 ∨ i = 16 by omega) with rfl | rfl | rfl | rfl | rfl | rfl | rfl | rfl | rfl | rfl | rfl | rfl | rfl | rfl | rfl | rfl | rfl
            · exact getD_true st0
            · exact getD_true st1
            · exact getD_true st2
            · exact getD_true st3
            · exact getD_true st4
            · exact getD_true st5
            · exact getD_true st6
            · exact getD_true st7
            · exact getD_true st8
            · exact getD_true st9
            · exact getD_true st10
            · exact getD_true st11
            · exact getD_true st12
            · exact getD_true st13
            · exact getD_true st14
            · exact getD_true st15
            · exact getD_true st16
          clear st0 st1 st2 st3 st4 st5 st6 st7 st8 st9 st10 st11 st12 st13 st14 st15 st16 hk hnot hz
          have hTs : T.size = 27 := by rw [hT]; rfl
          obtain ⟨ha, hw'⟩ := hR.all (T' := ((((((((((((((((T.setIfInBounds 12 (vals 0)).setIfInBounds 13 (vals 1)).setIfInBounds 14 (vals 2)).setIfInBounds 15 (vals 3)).setIfInBounds 16 (vals 4)).setIfInBounds 17 (vals 5)).setIfInBounds 18 (vals 6)).setIfInBounds 19 (vals 7)).setIfInBounds 20 (vals 8)).setIfInBounds 21 (vals 9)).setIfInBounds 22 (vals 10)).setIfInBounds 11 (vals 11)).setIfInBounds 23 (vals 12)).setIfInBounds 24 (vals 13)).setIfInBounds 25 (vals 14)).setIfInBounds 4 (vals 16))) (fun i hi => hall i (by simpa using hi)) (by decide) (by simp) (fun j hj => by
            by_cases h1 : j = 12 ∨ j = 13 ∨ j = 14 ∨ j = 15 ∨ j = 16 ∨ j = 17 ∨ j = 18 ∨ j = 19 ∨ j = 20 ∨ j = 21 ∨ j = 22 ∨ j = 11 ∨ j = 23 ∨ j = 24 ∨ j = 25 ∨ j = 4
            · rcases h1 with rfl | rfl | rfl | rfl | rfl | rfl | rfl | rfl | rfl | rfl | rfl | rfl | rfl | rfl | rfl | rfl <;> simp [rv_sets, tOwn, List.findIdx?, List.findIdx?.go, hTs]
            · simp only [not_or] at h1
              obtain ⟨m12, m13, m14, m15, m16, m17, m18, m19, m20, m21, m22, m11, m23, m24, m25, m4⟩ := h1
              have e : tOwn [some 12, some 13, some 14, some 15, some 16, some 17, some 18, some 19, some 20, some 21, some 22, some 11, some 23, some 24, some 25, none, some 4] vals j = none := by
                unfold tOwn
                simp [List.findIdx?, List.findIdx?.go, Ne.symm m12, Ne.symm m13, Ne.symm m14, Ne.symm m15, Ne.symm m16, Ne.symm m17, Ne.symm m18, Ne.symm m19, Ne.symm m20, Ne.symm m21, Ne.symm m22, Ne.symm m11, Ne.symm m23, Ne.symm m24, Ne.symm m25, Ne.symm m4]
              rw [e]
              simp only [rv_sets]
              repeat rw [if_neg (by omega)])
          subst ha hw'
          clear hR hall hTs
          rw [v0, v1, v2, v3, v4, v5, v6, v7, v8, v9, v10, v11, v12, v13, v14, v16, hT]
          simp only [List.setIfInBounds_toArray, List.set_cons_succ, List.set_cons_zero]
          clear v0 v1 v2 v3 v4 v5 v6 v7 v8 v9 v10 v11 v12 v13 v14 v16 vals hT T
      go_wp2
      go_roundw
      case rel => exact ⟨k + 1, c2, zs.set k d, by omega, rfl, by go_num, HN.out, by have := (show Row wr.drew g _ from HROW.out).set (p + k) d; rw [← HP.out, mid_set (by rw [HT.out.1, HM.out]; exact hlt)] at this; rw [← HP.out]; exact this, HON2.out.trans (Only.set _ _ _ _)⟩
      case measure => simp [intOf]; omega
    · obtain rfl : k = n + 1 := by omega
      have hE := Lib.hid (HEND.out c zs (by rw [HM.out]; exact HT.out))
      go_wp2
      go_end0
      exact ⟨c, zs, rfl, HT.out.1.trans HM.out, HT.out.2.1, by omega, hE.out, HROW.out, HON.out⟩

end Go.Proofs.YtdgmjmckeeeljaaGreatDoor

namespace Go.Proofs.YtdgmjmckeeeljaaGreatDoor
open Go.RowKit

theorem shr_u32 (n k : Nat) (hk : k ≤ 32) : binOp BinOp.shr 59 (.int .u32 (n : Int)) (.int .i64 (k : Int)) = (pure (.int .u32 ((n / 2 ^ k : Nat) : Int)) : Sem Value) := by
  have e : binOp BinOp.shr 59 (.int .u32 (n : Int)) (.int .i64 (k : Int)) = Op.shift .shr .u32 (n : Int) .i64 (k : Int) := rfl
  have h0 : ¬ ((k : Int) < 0) := by omega
  have hm : min ((k : Int)).toNat (IntKind.bits .u32) = k := by
    rw [show IntKind.bits .u32 = 32 from rfl, Int.toNat_natCast]; omega
  rw [e]
  unfold Op.shift
  rw [if_neg h0]
  simp only [hm]
  congr 2
  rw [Int.fdiv_eq_ediv_of_nonneg _ (by exact Int.pow_nonneg (by omega))]
  simp

theorem shl_u32 (n k : Nat) (hk : k ≤ 32) : binOp BinOp.shl 59 (.int .u32 (n : Int)) (.int .i64 (k : Int)) = (pure (.int .u32 ((n * 2 ^ k % 4294967296 : Nat) : Int)) : Sem Value) := by
  have e : binOp BinOp.shl 59 (.int .u32 (n : Int)) (.int .i64 (k : Int)) = Op.shift .shl .u32 (n : Int) .i64 (k : Int) := rfl
  have h0 : ¬ ((k : Int) < 0) := by omega
  have hm : min ((k : Int)).toNat (IntKind.bits .u32) = k := by
    rw [show IntKind.bits .u32 = 32 from rfl, Int.toNat_natCast]; omega
  rw [e]
  unfold Op.shift
  rw [if_neg h0]
  simp only [hm]
  congr 2

theorem or_u32 (a b : Nat) (ha : a < 4294967296) (hb : b < 4294967296) : binOp BinOp.or 59 (.int .u32 (a : Int)) (.int .u32 (b : Int)) = (pure (.int .u32 ((a ||| b : Nat) : Int)) : Sem Value) := by
  have e : binOp BinOp.or 59 (.int .u32 (a : Int)) (.int .u32 (b : Int)) = (pure (.int .u32 (bits .or .u32 (a : Int) (b : Int))) : Sem Value) := rfl
  rw [e, u32_or_nat a b ha hb]

theorem pow_parts {s t : Nat} (h : s + t = 32) : 2 ^ s * 2 ^ t = 4294967296 := by rw [← Nat.pow_add, h]

/-- The remainder of a multiple and of something small beside it. -/
theorem beside {T c e Y : Nat} (hc : 0 < c) (he : e < T) : (e + T * Y) % (T * c) = e + (T * Y) % (T * c) ∧ (T * Y) % (T * c) % T = 0 := by
  have hm : (T * Y) % (T * c) = T * (Y % c) := Nat.mul_mod_mul_left _ _ _
  refine ⟨?_, by rw [hm]; exact Nat.mul_mod_right _ _⟩
  rw [hm, Nat.add_mod, hm, Nat.mod_eq_of_lt (a := e)]
  · have h1 : T * (Y % c) + T ≤ T * c := by
      have := Nat.mul_le_mul_left T (show Y % c + 1 ≤ c by have := Nat.mod_lt Y hc; omega)
      rwa [Nat.mul_succ] at this
    rw [Nat.mod_eq_of_lt (by omega)]
  · have := Nat.mul_le_mul_left T (show 1 ≤ c by omega)
    omega

/-- A digit of a number moved down. -/
theorem low_digit {V s t k : Nat} (h : s + t = 32) : ((V / 4294967296 ^ k % 4294967296) / 2 ^ s) ||| ((V / 4294967296 ^ (k + 1) % 4294967296) * 2 ^ t % 4294967296) = V / 2 ^ s / 4294967296 ^ k % 4294967296 := by
  have hB := pow_parts h
  have hS : 0 < 2 ^ s := Nat.pow_pos (by omega)
  have hT : 0 < 2 ^ t := Nat.pow_pos (by omega)
  rw [Nat.pow_succ, ← Nat.div_div_eq_div_mul, Nat.div_div_eq_div_mul V (2 ^ s), Nat.mul_comm (2 ^ s), ← Nat.div_div_eq_div_mul]
  obtain ⟨X, hX⟩ : ∃ X, X = V / 4294967296 ^ k := ⟨_, rfl⟩
  rw [← hX]
  obtain ⟨S, hSe⟩ : ∃ S, S = 2 ^ s := ⟨_, rfl⟩
  obtain ⟨T, hTe⟩ : ∃ T, T = 2 ^ t := ⟨_, rfl⟩
  rw [← hSe, ← hTe] at hB
  rw [← hSe] at hS
  rw [← hTe] at hT
  rw [← hSe, ← hTe]
  have hd : X % 4294967296 / S < T := Nat.div_lt_of_lt_mul (by rw [hB]; exact Nat.mod_lt _ (by omega))
  have e1 : X / S = X % 4294967296 / S + T * (X / 4294967296) := by
    have e2 : X = X % 4294967296 + S * (T * (X / 4294967296)) := by rw [← Nat.mul_assoc, hB]; omega
    rw [show X / S = (X % 4294967296 + S * (T * (X / 4294967296))) / S by rw [← e2], Nat.add_mul_div_left _ _ hS]
  have hb := beside (T := T) (c := S) (Y := X / 4294967296) hS hd
  rw [Nat.mul_comm T S, hB] at hb
  have e3 : X / 4294967296 % 4294967296 * T % 4294967296 = T * (X / 4294967296) % 4294967296 := by
    rw [Nat.mul_comm, Nat.mul_mod, Nat.mod_mod, ← Nat.mul_mod]
  rw [e3, e1, hb.1, Nat.or_comm]
  rw [nat_join t _ _ (by rw [← hTe]; exact hb.2) (by rw [← hTe]; exact hd)]
  omega

/-- A digit of a number moved up; the digit below it is 0 below the lowest one. -/
theorem up_digit {V s t k : Nat} (h : s + t = 32) : ((V / 4294967296 ^ (k + 1) % 4294967296) * 2 ^ s % 4294967296) ||| ((V / 4294967296 ^ k % 4294967296) / 2 ^ t) = V * 2 ^ s / 4294967296 ^ (k + 1) % 4294967296 := by
  have hB := pow_parts h
  have hS : 0 < 2 ^ s := Nat.pow_pos (by omega)
  have hT : 0 < 2 ^ t := Nat.pow_pos (by omega)
  have hP : 0 < 4294967296 ^ k := Nat.pow_pos (by omega)
  rw [Nat.pow_succ]
  obtain ⟨P, hPe⟩ : ∃ P, P = 4294967296 ^ k := ⟨_, rfl⟩
  rw [← hPe] at hP ⊢
  obtain ⟨S, hSe⟩ : ∃ S, S = 2 ^ s := ⟨_, rfl⟩
  obtain ⟨T, hTe⟩ : ∃ T, T = 2 ^ t := ⟨_, rfl⟩
  rw [← hSe, ← hTe] at hB
  rw [← hSe] at hS
  rw [← hTe] at hT
  rw [← hSe, ← hTe]
  -- V S / (P 2^32) = V / P / T
  have e0 : V * S / (P * 4294967296) = V / P / T := by
    rw [← hB, Nat.div_div_eq_div_mul, show P * (S * T) = (P * T) * S by grind, Nat.mul_div_mul_right _ _ hS]
  have e00 : V / (P * 4294967296) = V / P / 4294967296 := by rw [Nat.div_div_eq_div_mul]
  rw [e0, e00]
  obtain ⟨X, hX⟩ : ∃ X, X = V / P := ⟨_, rfl⟩
  rw [← hX]
  have hd : X % 4294967296 / T < S := Nat.div_lt_of_lt_mul (by rw [Nat.mul_comm, hB]; exact Nat.mod_lt _ (by omega))
  have e1 : X / T = X % 4294967296 / T + S * (X / 4294967296) := by
    have e2 : X = X % 4294967296 + T * (S * (X / 4294967296)) := by rw [← Nat.mul_assoc, Nat.mul_comm T S, hB]; omega
    rw [show X / T = (X % 4294967296 + T * (S * (X / 4294967296))) / T by rw [← e2], Nat.add_mul_div_left _ _ hT]
  have hb := beside (T := S) (c := T) (Y := X / 4294967296) hT hd
  rw [hB] at hb
  have e3 : X / 4294967296 % 4294967296 * S % 4294967296 = S * (X / 4294967296) % 4294967296 := by
    rw [Nat.mul_comm, Nat.mul_mod, Nat.mod_mod, ← Nat.mul_mod]
  rw [e3, e1, hb.1]
  rw [nat_join s _ _ (by rw [← hSe]; exact hb.2) (by rw [← hSe]; exact hd)]
  omega
theorem up_first {V s : Nat} : ((V / 4294967296 ^ 0 % 4294967296) * 2 ^ s % 4294967296) ||| 0 = V * 2 ^ s / 4294967296 ^ 0 % 4294967296 := by
  rw [Nat.pow_zero, Nat.div_one, Nat.div_one, Nat.or_zero, Nat.mul_mod, Nat.mod_mod, ← Nat.mul_mod]

/-- k digits are moved down. -/
def Lowering (ds zs : List Nat) (s k : Nat) : Prop := zs.length = ds.length ∧ Bd zs ∧ zs.drop k = ds.drop k ∧ val (zs.take k) = val ds / 2 ^ s % 4294967296 ^ k
theorem lowering_start (ds : List Nat) (s : Nat) (h : Bd ds) : Lowering ds ds s 0 := ⟨rfl, h, rfl, by simp [val]; omega⟩
theorem lowering_step {ds zs : List Nat} {s t k d : Nat} (h : Lowering ds zs s k) (hb : Bd ds) (hst : s + t = 32) (hk : k < ds.length) (hd : d = (ds.getD k 0 / 2 ^ s) ||| (ds.getD (k + 1) 0 * 2 ^ t % 4294967296)) : Lowering ds (zs.set k d) s (k + 1) := by
  obtain ⟨h1, h2, h3, h4⟩ := h
  have e : d = val ds / 2 ^ s / 4294967296 ^ k % 4294967296 := by rw [hd, val_digit hb, val_digit hb, low_digit hst]
  have hdl : d < 4294967296 := by rw [e]; exact Nat.mod_lt _ (by omega)
  refine ⟨by rw [List.length_set]; exact h1, h2.set _ hdl, drop_set h3, ?_⟩
  rw [take_set (by omega), h4, e, Nat.mod_pow_succ]
theorem lowering_end {ds zs : List Nat} {s : Nat} (h : Lowering ds zs s ds.length) (hb : Bd ds) : val zs = val ds / 2 ^ s := by
  obtain ⟨h1, h2, h3, h4⟩ := h
  rw [List.take_of_length_le (by omega)] at h4
  rw [h4, Nat.mod_eq_of_lt]
  exact Nat.lt_of_le_of_lt (Nat.div_le_self _ _) (val_lt hb)

/-- Digits from k on are moved up. -/
def Raising (ds zs : List Nat) (s k : Nat) : Prop := zs.length = ds.length ∧ Bd zs ∧ zs.take k = ds.take k ∧ val (zs.drop k) = val ds * 2 ^ s / 4294967296 ^ k
theorem raising_start {ds : List Nat} {s : Nat} (h : Bd ds) (hlt : val ds * 2 ^ s < 4294967296 ^ ds.length) : Raising ds ds s ds.length :=
  ⟨rfl, h, rfl, by rw [List.drop_of_length_le (Nat.le_refl _), Nat.div_eq_of_lt hlt]; rfl⟩
theorem raising_step {ds zs : List Nat} {s t k d : Nat} (h : Raising ds zs s (k + 1)) (hb : Bd ds) (hst : s + t = 32) (hk : k < ds.length) (hd : d = (ds.getD k 0 * 2 ^ s % 4294967296) ||| (dg ds ((k : Int) - 1) / 2 ^ t)) : Raising ds (zs.set k d) s k := by
  obtain ⟨h1, h2, h3, h4⟩ := h
  have e : d = val ds * 2 ^ s / 4294967296 ^ k % 4294967296 := by
    rw [hd]
    cases k with
    | zero =>
      rw [show dg ds (((0 : Nat) : Int) - 1) = 0 from rfl, Nat.zero_div, val_digit hb]
      exact up_first
    | succ k =>
      rw [show (((k + 1 : Nat) : Int) - 1) = (k : Nat) by omega, dg_nat hb, val_digit hb]
      exact up_digit hst
  have hdl : d < 4294967296 := by rw [e]; exact Nat.mod_lt _ (by omega)
  refine ⟨by rw [List.length_set]; exact h1, h2.set _ hdl, ?_, ?_⟩
  · rw [List.take_set_of_le (Nat.le_refl _)]
    have := congrArg (List.take k) h3
    rwa [List.take_take, List.take_take, Nat.min_eq_left (by omega)] at this
  · rw [drop_val (by rw [List.length_set]; omega), List.drop_set_of_lt (by omega), h4, Nat.pow_succ, ← Nat.div_div_eq_div_mul]
    have eg : (zs.set k d).getD k 0 = d := by simp [List.getD, show k < zs.length by omega]
    rw [eg, e]
    omega
theorem raising_end {ds zs : List Nat} {s : Nat} (h : Raising ds zs s 0) : val zs = val ds * 2 ^ s := by
  obtain ⟨h1, h2, h3, h4⟩ := h
  simpa using h4

end Go.Proofs.YtdgmjmckeeeljaaGreatDoor
