/- The given statement NumRing: whatever the input, the law returns true and leaves its arguments as they were. Condition: the listed variables hold what the program's text lays in them (the given tie). Guessing a digit of a quotient, and taking a multiple away: arithmetic alone. No condition. One digit of a long quotient, and what is taken away for it: arithmetic alone. No condition. Contracts of the reference: at, plus. Condition: at most 1000 digits. Contracts of the reference: minus. Condition: at most 1000 digits. Contracts of the reference: compare. Condition: at most 1000 digits. Contracts of the reference: Right, digits. Contracts of the reference: Cmp of right numbers. Contracts of the reference: Add of right numbers. Contracts of the reference: negated, Sub of right numbers. Contracts of the reference: times. Contracts of the reference: Mul of right numbers. Contracts of the reference: length. Condition: at most 1000 digits. Contracts of the reference: Bits. Contracts of the reference: twice. Condition: at most 1000 digits. -/
import Derived.Test.YtdgmjmckeeeljaaGreatDoorCards
import Derived.Test.YtdgmjmckeeeljaaGreatDoorTie
import Derived.Test.YtdgmjmckeeeljaaGreatDoorGi4
import Derived.Test.YtdgmjmckeeeljaaGreatDoorGi5
import Derived.ChangeSlices
import Derived.ProofKit
import Derived.OpenShut
import Derived.ChangeVars
import Derived.SevenTiedAt
import Derived.Test.YtdgmjmckeeeljaaGreatDoorGi1
import Derived.Test.YtdgmjmckeeeljaaGreatDoorGi2
import Derived.Test.YtdgmjmckeeeljaaGreatDoorGi3
namespace Go.Proofs.YtdgmjmckeeeljaaGreatDoor
open Go.ChangeShapes Go.WideShapes Go.ChangeAt Go.RowKit

theorem ownR : ownKnob Tryz.prog.godebug = none := by kernel_rfl

theorem u8_wfR {a : Int} (h : (Lit.int .u8 a).wf = true) : ∃ b : UInt8, a = b.toNat := by
  have h2 : 0 ≤ a ∧ a ≤ 255 := by
    simp only [Lit.wf, IntKind.min, IntKind.max, IntKind.signed, IntKind.bits, Bool.and_eq_true, decide_eq_true_eq] at h
    simpa using h
  refine ⟨UInt8.ofNat a.toNat, ?_⟩
  simp
  omega

theorem cells52 : Tryz.prog.cellsOf 52 = 3 := by kernel_rfl
theorem cells53 : Tryz.prog.cellsOf 53 = 2 := by kernel_rfl
theorem cells22 : Tryz.prog.cellsOf 22 = 1 := by kernel_rfl
theorem cells3 : Tryz.prog.cellsOf 3 = 1 := by kernel_rfl
theorem cells5 : Tryz.prog.cellsOf 5 = 1 := by kernel_rfl
theorem laidOut : laidOutB Tryz.prog = true := by kernel_rfl

theorem trod_arr2 {H : Type} {enc : TypeId × Value → H} {P : Program} {w : World} {base : Nat} {spare : Nat → Bool} {held : Bool} {t e : TypeId} {fuel : Nat} {c0 c1 : Value} {x : DataW H × List MemPlace} (ht : P.underlying t = some (.array 2 e)) (hce : P.cellsOf e = 1)
    (h : DataW.trod enc P w base spare held fuel t [c0, c1] = some x) :
    ∃ y0 y1 n, DataW.trod enc P w base spare held n e [c0] = some y0 ∧ DataW.trod enc P w base spare held n e [c1] = some y1 := by
  cases fuel with
  | zero => simp [DataW.trod] at h
  | succ n =>
    unfold DataW.trod at h
    rw [ht] at h
    have r2 : List.range 2 = [0, 1] := rfl
    simp [r2, hce] at h
    obtain ⟨_, h⟩ := h
    cases h0 : DataW.trod enc P w base spare held n e [c0] with
    | none => simp [h0] at h
    | some y0 =>
      cases h1 : DataW.trod enc P w base spare held n e [c1] with
      | none => simp [h0, h1] at h
      | some y1 => exact ⟨y0, y1, n, h0, h1⟩

theorem trod_arr3 {H : Type} {enc : TypeId × Value → H} {P : Program} {w : World} {base : Nat} {spare : Nat → Bool} {held : Bool} {t e : TypeId} {fuel : Nat} {c0 c1 c2 : Value} {x : DataW H × List MemPlace} (ht : P.underlying t = some (.array 3 e)) (hce : P.cellsOf e = 1)
    (h : DataW.trod enc P w base spare held fuel t [c0, c1, c2] = some x) :
    ∃ y0 y1 y2 n, DataW.trod enc P w base spare held n e [c0] = some y0 ∧ DataW.trod enc P w base spare held n e [c1] = some y1 ∧ DataW.trod enc P w base spare held n e [c2] = some y2 := by
  cases fuel with
  | zero => simp [DataW.trod] at h
  | succ n =>
    unfold DataW.trod at h
    rw [ht] at h
    have r2 : List.range 3 = [0, 1, 2] := rfl
    simp [r2, hce] at h
    obtain ⟨_, h⟩ := h
    cases h0 : DataW.trod enc P w base spare held n e [c0] with
    | none => simp [h0] at h
    | some y0 =>
      cases h1 : DataW.trod enc P w base spare held n e [c1] with
      | none => simp [h0, h1] at h
      | some y1 =>
        cases h2 : DataW.trod enc P w base spare held n e [c2] with
        | none => simp [h0, h1, h2] at h
        | some y2 => exact ⟨y0, y1, y2, n, h0, h1, h2⟩

theorem okWide_arr {P : Program} {W : World} {r : Reach} {b0 : Nat} {t e : TypeId} {n : Nat} {v : Value} (ht : P.underlying t = some (.array n e)) (h : Value.okWide P W r b0 t v) : ∃ cs, v = .agg cs ∧ cs.size = P.cellsOf t := by
  simp only [Value.okWide, ht] at h
  cases v <;> simp_all [Cell.okWide, Cell.ok]

theorem array_two {cs : Array Value} (h : cs.size = 2) : ∃ a b, cs = #[a, b] := by
  obtain ⟨l⟩ := cs
  match l, h with
  | [a, b], _ => exact ⟨a, b, rfl⟩
theorem array_three {cs : Array Value} (h : cs.size = 3) : ∃ a b c, cs = #[a, b, c] := by
  obtain ⟨l⟩ := cs
  match l, h with
  | [a, b, c], _ => exact ⟨a, b, c, rfl⟩

theorem spotless {W : World} {a : Addr} {v : Value} (h : W.cell? a = some v) : a.spot = none := by
  unfold World.cell? at h
  cases hb : W.heap[a.block]? with
  | none => rw [hb] at h; cases h
  | some o =>
    rw [hb] at h
    cases o <;> simp at h
    exact h.1

/-- A slice of ints that came in. -/
theorem open_li {H : Type} {enc : TypeId × Value → H} {W : World} {fuel : Nat} {c : Value} {y : DataW H × List MemPlace} (h : DataW.trod enc Tryz.prog W 0 (fun _ => true) true fuel 22 [c] = some y) : ∃ ao n cap zs, c = .slice ao n cap ∧ Li W (.slice ao n cap) zs := by
  rcases open_ints Tryz.underlying22 Tryz.underlying3 cells3 h with ⟨hcs, _⟩ | ⟨a, len, cap, zs, hcs, _, hl, hm, hz, _, hcell, _⟩
  · simp only [List.cons.injEq, and_true] at hcs
    subst hcs
    exact ⟨none, 0, 0, [], rfl, none, 0, rfl, Nat.le_refl _, Nat.zero_le _, fun h => absurd rfl h⟩
  · simp only [List.cons.injEq, and_true] at hcs
    subst hcs
    simp only [if_true] at hz
    have hlen : (zs.take len).length = len := by rw [List.length_take]; omega
    refine ⟨some a, len, cap, zs.take len, rfl, some a, cap, by rw [hlen], by rw [hlen]; exact hl, by rw [hlen]; omega, fun h0 => ?_⟩
    rw [hlen] at h0
    have hs0 := spotless (hcell 0 (by omega))
    obtain ⟨b, off, spot⟩ := a
    have hs1 : spot = none := hs0
    subst hs1
    refine ⟨b, off, rfl, fun j hj => ?_⟩
    rw [hlen] at hj
    have hc := hcell j (by omega)
    have e : (Addr.mk b off none).add j = ⟨b, off + j, none⟩ := by
      unfold Addr.add
      by_cases hj0 : j = 0
      · subst hj0; rfl
      · rw [if_neg hj0]
    rw [e] at hc
    rw [hc]
    simp [List.getD, List.getElem?_take, hj]

set_option maxRecDepth 100000 in
theorem ring_lifted (os : Os) (started : os.Started) (H : Type) (enc : TypeId × Value → H) :
    ReturnsInHanded {} Tryz.checked os 7 .any (fun w args => (Rows.numRingSpec.pre enc Tryz.prog Tryz.f7 [] false w args ∧ laidMetH Tryz.prog laidL w) ∧ sizedMet enc Tryz.prog Tryz.f7 (OpenSpec.ofChange Rows.numRingSpec) false w args)
      (Rows.numRingSpec.post enc Tryz.prog Tryz.f7 false true false false) := by
  refine returnsInHanded_of_change_and (C := Tryz.checked) (X := fun w _ => laidMetH Tryz.prog laidL w) (fun _ _ _ hh h => h.of_heap hh) ownR started (by kernel_rfl) Tryz.func7
    (ChangeSpec.witness_at (enc := enc) (C := Tryz.checked) (os := os) (X := fun w _ => laidMetH Tryz.prog laidL w) false (laidWorld os) #[.agg #[.slice none 0 0, .slice none 0 0, .slice none 0 0], .agg #[.int .u8 0, .int .u8 0]] 8 rfl (by kernel_rfl) (by kernel_rfl) (by kernel_rfl) (by kernel_rfl) (by kernel_rfl) (laidWorld_met os _)) ?_
  intro W base args ds gs before hval0 hW _ _ hL _
  have hval : ∀ (j : Nat) t v, Tryz.f7.params[j]? = some t → args[j]? = some v → Value.okWide Tryz.prog W .any base t v := hval0
  have hW' := hW
  obtain ⟨p, q, hA0, hV, rfl, hfz, hnd⟩ := hW
  have hA : DataW.TrodAll enc Tryz.prog W 0 (fun _ => true) true Tryz.f7.params.toList args.toList ds p := hA0
  rw [Tryz.params7] at hA hval
  obtain ⟨v0, vs0, d0, ds0, p0, q0, hargs, rfl, rfl, h0, r0⟩ := trodAll_cons hA
  obtain ⟨v1, vs1, d1, ds1, p1, q1, rfl, rfl, rfl, h1, r1⟩ := trodAll_cons r0
  obtain ⟨rfl, rfl, rfl⟩ := trodAll_nil r1
  obtain rfl : args = #[v0, v1] := by cases args; simp_all
  obtain ⟨rfl, rfl⟩ := trodVars_none hV
  have k0 := h0
  have k1 := h1
  have lt0 : ∀ x ∈ p0, x.block < W.heap.size := by obtain ⟨m, hm⟩ := k0; exact DataW.trod_lt m _ _ _ hm
  have lt1 : ∀ x ∈ p1, x.block < W.heap.size := by obtain ⟨m, hm⟩ := k1; exact DataW.trod_lt m _ _ _ hm
  obtain ⟨cs0, rfl, hs0⟩ := okWide_arr Tryz.underlying52 (hval 0 52 v0 rfl rfl)
  obtain ⟨u0, u1, u2, rfl⟩ := array_three (hs0.trans cells52)
  obtain ⟨cs1, rfl, hs1⟩ := okWide_arr Tryz.underlying53 (hval 1 53 v1 rfl rfl)
  obtain ⟨e0, e1, rfl⟩ := array_two (hs1.trans cells53)
  obtain ⟨f0, hf0⟩ := h0
  obtain ⟨y0, y1, y2, n, t0, t1, t2⟩ := trod_arr3 Tryz.underlying52 cells22 hf0
  obtain ⟨ao0, n0, c0, z0, rfl, L0⟩ := open_li t0
  obtain ⟨ao1, n1, c1, z1, rfl, L1⟩ := open_li t1
  obtain ⟨ao2, n2, c2, z2, rfl, L2⟩ := open_li t2
  obtain ⟨f1, hf1⟩ := h1
  obtain ⟨x0, x1, n', b0, b1⟩ := trod_arr2 Tryz.underlying53 cells5 hf1
  obtain ⟨a0, q0, _, w0⟩ := DataW.trod_int Tryz.underlying5 b0
  obtain ⟨a1, q1, _, w1⟩ := DataW.trod_int Tryz.underlying5 b1
  simp only [List.cons.injEq, and_true] at q0 q1
  subst q0 q1
  obtain ⟨E0, rfl⟩ := u8_wfR w0
  obtain ⟨E1, rfl⟩ := u8_wfR w1
  clear hA0 hval0
  simp only [List.append_nil] at hW'
  have htab := tab_of_laid hL
  refine (ring_any L0 L1 L2 E0 E1 (fun W' hb => tab_below htab hb)).mono fun e W' ⟨he, bel⟩ => ?_
  subst he
  exact ⟨_, rfl, _, _, _, [], _, [], hW', trodAll_mk1 (shut_bool Tryz.underlying4 _), (trodAll_cons_mk (Below.trod laidOut (by kernel_rfl) (of_decide_eq_true (by kernel_rfl)) k0 bel lt0) (trodAll_cons_mk (Below.trod laidOut (by kernel_rfl) (of_decide_eq_true (by kernel_rfl)) k1 bel lt1) trodAll_mk0)), rfl, bel.frame _, fun h => by cases h⟩

theorem ring_over : Rows.NumRingSaid :=
  OpenClaim.holds_of_wide 7 Tryz.f7 rfl rfl rfl rfl rfl rfl rfl ⟨rfl, rfl, rfl, rfl, rfl⟩ rfl rfl rfl rfl rfl (by kernel_rfl) Tryz.func7 (by kernel_rfl)
    (of_decide_eq_true (by kernel_rfl)) (by unfold Func.isWrapper; first | (rw [if_pos (by decide +kernel)]; kernel_rfl) | (rw [if_neg (by decide +kernel)]; exact ⟨rfl, rfl⟩))
    (fun os started H enc _ => ring_lifted os started H enc)

/-- The statement. -/
theorem numRing_holds : Rows.NumRingCardSaid :=
  Claim7.holds_tied_plain_at .later [] [.data, .data, .data, .sentinel, .sentinel] true (true, "958520932160259f8438aa7be4506227f44fa7fbd0be64069e22fe8a588b6fcf") true
    ring_over (fun _ h => by cases h) (by kernel_rfl) (fun _ h => by cases h) numRing_row_tie rfl ⟨rfl, rfl⟩ (by kernel_rfl) rfl
    (fun f fn hf hfn => by
      obtain rfl : f = 7 := Option.some.inj ((show Tryz.prog.funcNamed "equipoise/equipoiselaw01.NumRing" = some 7 by kernel_rfl).symm.trans hf) |>.symm
      obtain rfl : fn = Tryz.f7 := (Option.some.inj (Tryz.func7.symm.trans hfn)).symm
      exact ⟨by kernel_rfl, fun j t ht => by
        rw [Tryz.params7] at ht
        have h3 : t = 52 ∨ t = 53 := by
          rcases j with _ | _ | j
          · exact .inl (by simpa using ht.symm)
          · exact .inr (by simpa using ht.symm)
          · simp at ht
        rcases h3 with rfl | rfl
        · exact (show Tryz.prog.wantsStandIn 52 = false by kernel_rfl)
        · exact (show Tryz.prog.wantsStandIn 53 = false by kernel_rfl)⟩)
    (by kernel_rfl)

end Go.Proofs.YtdgmjmckeeeljaaGreatDoor

namespace Go.Proofs.YtdgmjmckeeeljaaGreatDoor

theorem pull_top (top p1 T : Nat) : (top * 4294967296 + p1 + 1) * T = (top * 4294967296 + p1) * T + T := by grind

theorem pull_low (q hi b1 T bl : Nat) : q * ((hi * 4294967296 + b1) * T + bl) = q * (hi * 4294967296 + b1) * T + q * bl := by grind

/-- If the second digit says that the guess is too great, it is. -/
theorem guess_less {q hi b1 top p1 rest T bl rl : Nat} (hq : q * hi + rest = top) (h : rest * 4294967296 + p1 < q * b1) (hrl : rl < T) :
    (top * 4294967296 + p1) * T + rl < q * ((hi * 4294967296 + b1) * T + bl) := by
  have e : q * (hi * 4294967296 + b1) = q * hi * 4294967296 + q * b1 := by grind
  have h1 : top * 4294967296 + p1 + 1 ≤ q * (hi * 4294967296 + b1) := by
    rw [e, ← hq]
    omega
  have h2 := Nat.mul_le_mul_right T h1
  rw [pull_top] at h2
  rw [pull_low]
  omega


set_option maxRecDepth 10000 in
theorem guess_most {q hi b1 top p1 rest T bl rl : Nat} (hq : q * hi + rest = top) (hx : 4294967296 ≤ rest ∨ q * b1 ≤ rest * 4294967296 + p1) (hqb : q < 4294967296) (hb1 : b1 < 4294967296) (hhi : 1 ≤ hi) (hbl : bl < T) :
    q * ((hi * 4294967296 + b1) * T + bl) ≤ (top * 4294967296 + p1) * T + rl + ((hi * 4294967296 + b1) * T + bl) := by
  have e : q * (hi * 4294967296 + b1) = q * hi * 4294967296 + q * b1 := by grind
  have h0 : q * b1 ≤ rest * 4294967296 + p1 := by
    rcases hx with h | h
    · have h1 : q * b1 ≤ 4294967296 * 4294967296 := Nat.mul_le_mul (by omega) (by omega)
      have h2 : 4294967296 * 4294967296 ≤ rest * 4294967296 := Nat.mul_le_mul_right _ h
      omega
    · exact h
  have h1 : q * (hi * 4294967296 + b1) ≤ top * 4294967296 + p1 := by
    rw [e, ← hq]
    omega
  have h2 := Nat.mul_le_mul_right T h1
  have h3 : q * bl ≤ 4294967296 * T := Nat.mul_le_mul (by omega) (by omega)
  have h4 : 4294967296 * T ≤ (hi * 4294967296 + b1) * T := Nat.mul_le_mul_right T (by omega)
  rw [pull_low]
  omega

theorem drop_val {ds : List Nat} {i : Nat} (h : i < ds.length) : val (ds.drop i) = ds.getD i 0 + 4294967296 * val (ds.drop (i + 1)) := by
  rw [List.drop_eq_getElem_cons h]
  simp [val, List.getD, h]

theorem val_take_drop (ds : List Nat) {m : Nat} (h : m ≤ ds.length) : val ds = val (ds.take m) + 4294967296 ^ m * val (ds.drop m) := by
  have := val_append (ds.take m) (ds.drop m)
  rw [List.take_append_drop, List.length_take, Nat.min_eq_left h] at this
  exact this

theorem val_top2 {ds : List Nat} {m : Nat} (h : ds.length = m + 2) : val ds = (ds.getD (m + 1) 0 * 4294967296 + ds.getD m 0) * 4294967296 ^ m + val (ds.take m) := by
  rw [val_take_drop ds (m := m) (by omega), drop_val (by omega), drop_val (by omega), List.drop_eq_nil_of_le (by omega)]
  simp only [val]
  grind

theorem val_top3 {ds : List Nat} {m : Nat} (h : ds.length = m + 3) : val ds = ((ds.getD (m + 2) 0 * 4294967296 + ds.getD (m + 1) 0) * 4294967296 + ds.getD m 0) * 4294967296 ^ m + val (ds.take m) := by
  rw [val_take_drop ds (m := m) (by omega), drop_val (by omega), drop_val (by omega), drop_val (by omega), List.drop_eq_nil_of_le (by omega)]
  simp only [val]
  grind

theorem take_lt {ds : List Nat} (hb : Bd ds) {m : Nat} (h : m ≤ ds.length) : val (ds.take m) < 4294967296 ^ m := by
  have := val_lt (ds := ds.take m) (fun x hx => hb x (List.mem_of_mem_take hx))
  rwa [List.length_take, Nat.min_eq_left h] at this


set_option maxRecDepth 10000 in
theorem top_le {ps bs : List Nat} {m : Nat} (hp : ps.length = m + 3) (hb : bs.length = m + 2) (hbd : Bd bs) (hlt : val ps < 4294967296 * val bs) : ps.getD (m + 2) 0 ≤ bs.getD (m + 1) 0 := by
  have e1 := val_top3 hp
  have e2 := val_take_drop bs (m := m + 1) (by omega)
  rw [drop_val (by omega), List.drop_eq_nil_of_le (by omega)] at e2
  have h3 := take_lt hbd (m := m + 1) (by omega)
  simp only [val, Nat.mul_zero, Nat.add_zero] at e2
  have hT := pow_pos' m
  rw [Nat.pow_succ] at e2 h3
  obtain ⟨x, hx⟩ : ∃ x, x = ps.getD (m + 2) 0 := ⟨_, rfl⟩
  obtain ⟨x1, hx1⟩ : ∃ x1, x1 = ps.getD (m + 1) 0 := ⟨_, rfl⟩
  obtain ⟨x0, hx0⟩ : ∃ x0, x0 = ps.getD m 0 := ⟨_, rfl⟩
  obtain ⟨y, hy⟩ : ∃ y, y = bs.getD (m + 1) 0 := ⟨_, rfl⟩
  obtain ⟨T, hTe⟩ : ∃ T, T = 4294967296 ^ m := ⟨_, rfl⟩
  obtain ⟨P, hP⟩ : ∃ P, P = val (ps.take m) := ⟨_, rfl⟩
  obtain ⟨Q, hQ⟩ : ∃ Q, Q = val (bs.take (m + 1)) := ⟨_, rfl⟩
  rw [← hx, ← hx1, ← hx0, ← hTe, ← hP] at e1
  rw [← hy, ← hTe, ← hQ] at e2
  rw [← hTe, ← hQ] at h3
  rw [← hTe] at hT
  rw [← hx, ← hy]
  clear hx hx1 hx0 hy hTe hP hQ hp hb hbd
  by_cases h : x ≤ y
  · exact h
  · have h5 : (y + 1) * 4294967296 * 4294967296 * T ≤ x * 4294967296 * 4294967296 * T := Nat.mul_le_mul_right _ (Nat.mul_le_mul_right _ (Nat.mul_le_mul_right _ (by omega)))
    have e6 : val ps = x * 4294967296 * 4294967296 * T + (x1 * 4294967296 + x0) * T + P := by rw [e1]; grind
    have e7 : 4294967296 * val bs = 4294967296 * Q + y * 4294967296 * 4294967296 * T := by rw [e2]; grind
    have e8 : (y + 1) * 4294967296 * 4294967296 * T = y * 4294967296 * 4294967296 * T + 4294967296 * (T * 4294967296) := by grind
    omega

end Go.Proofs.YtdgmjmckeeeljaaGreatDoor

namespace Go.Proofs.YtdgmjmckeeeljaaGreatDoor

/-- A guessed digit: the quotient's, or one more. -/
def Guess (S B q : Nat) : Prop := q < 4294967296 ∧ S < (q + 1) * B ∧ q * B ≤ S + B

theorem guess_first {q hi b1 top p1 rest T bl rl : Nat} (hq : q * hi + rest = top) (hr : rest < hi) (hrl : rl < T) :
    (top * 4294967296 + p1) * T + rl < (q + 1) * ((hi * 4294967296 + b1) * T + bl) ∨ 4294967296 ≤ p1 := by
  by_cases hp : 4294967296 ≤ p1
  · exact .inr hp
  · left
    have e1 : (q + 1) * ((hi * 4294967296 + b1) * T + bl) = (q * hi + hi) * 4294967296 * T + (q + 1) * b1 * T + (q + 1) * bl := by grind
    have h1 : (top * 4294967296 + p1 + 1) * T ≤ (q * hi + hi) * 4294967296 * T := Nat.mul_le_mul_right T (by rw [← hq]; omega)
    rw [pull_top] at h1
    rw [e1]
    omega

/-- What is known while a digit is guessed. -/
def Guessing (hi top S B q rest : Nat) : Prop := q * hi + rest = top ∧ S < (q + 1) * B

theorem guess_down {hi top S B q rest : Nat} (h : Guessing hi top S B q rest) (hlt : S < q * B) : 1 ≤ q ∧ Guessing hi top S B (q - 1) (rest + hi) := by
  obtain ⟨h1, h2⟩ := h
  have hq : 1 ≤ q := by
    rcases Nat.eq_zero_or_pos q with e | e
    · subst e; omega
    · exact e
  obtain ⟨r, rfl⟩ : ∃ r, q = r + 1 := ⟨q - 1, by omega⟩
  refine ⟨hq, ?_, ?_⟩
  · rw [Nat.add_sub_cancel, ← h1]; grind
  · rw [Nat.add_sub_cancel]; exact hlt

section
variable {ps bs : List Nat} {m : Nat}

theorem parts_S (hp : ps.length = m + 3) : val ps = ((ps.getD (m + 2) 0 * 4294967296 + ps.getD (m + 1) 0) * 4294967296 + ps.getD m 0) * 4294967296 ^ m + val (ps.take m) := val_top3 hp

theorem guessing_start (hp : ps.length = m + 3) (hb : bs.length = m + 2) (hbp : Bd ps) (h0 : bs.getD (m + 1) 0 ≠ 0) :
    Guessing (bs.getD (m + 1) 0) (ps.getD (m + 2) 0 * 4294967296 + ps.getD (m + 1) 0) (val ps) (val bs)
      ((ps.getD (m + 2) 0 * 4294967296 + ps.getD (m + 1) 0) / bs.getD (m + 1) 0) ((ps.getD (m + 2) 0 * 4294967296 + ps.getD (m + 1) 0) % bs.getD (m + 1) 0) := by
  have e := Nat.div_add_mod (ps.getD (m + 2) 0 * 4294967296 + ps.getD (m + 1) 0) (bs.getD (m + 1) 0)
  rw [Nat.mul_comm] at e
  refine ⟨e, ?_⟩
  have hd : ps.getD m 0 < 4294967296 := by rw [val_digit hbp]; exact Nat.mod_lt _ (by omega)
  rw [val_top3 hp, val_top2 hb]
  rcases guess_first e (Nat.mod_lt _ (by omega)) (take_lt hbp (m := m) (by omega)) with h | h
  · exact h
  · omega

/-- The guess is too great: it is past a digit. -/
theorem guess_big {q : Nat} (hlt : val ps < 4294967296 * val bs) (hq : 4294967296 ≤ q) : val ps < q * val bs :=
  Nat.lt_of_lt_of_le hlt (Nat.mul_le_mul_right _ hq)

/-- The guess is too great: the second digit says so. -/
theorem guess_second {q rest : Nat} (hp : ps.length = m + 3) (hb : bs.length = m + 2) (hbp : Bd ps)
    (h : Guessing (bs.getD (m + 1) 0) (ps.getD (m + 2) 0 * 4294967296 + ps.getD (m + 1) 0) (val ps) (val bs) q rest) (hx : rest * 4294967296 + ps.getD m 0 < q * bs.getD m 0) : val ps < q * val bs := by
  rw [val_top3 hp, val_top2 hb]
  exact guess_less h.1 hx (take_lt hbp (by omega))

/-- A guess that is kept. -/
theorem guess_kept {q rest : Nat} (hp : ps.length = m + 3) (hb : bs.length = m + 2) (hbp : Bd ps) (hbb : Bd bs) (h0 : bs.getD (m + 1) 0 ≠ 0) (hlt : val ps < 4294967296 * val bs)
    (h : Guessing (bs.getD (m + 1) 0) (ps.getD (m + 2) 0 * 4294967296 + ps.getD (m + 1) 0) (val ps) (val bs) q rest)
    (hx : 4294967296 ≤ rest ∨ (q < 4294967296 ∧ q * bs.getD m 0 ≤ rest * 4294967296 + ps.getD m 0)) : Guess (val ps) (val bs) q := by
  have htop := top_le hp hb hbb hlt
  have hd1 : ps.getD (m + 1) 0 < 4294967296 := by rw [val_digit hbp]; exact Nat.mod_lt _ (by omega)
  have hb1 : bs.getD m 0 < 4294967296 := by rw [val_digit hbb]; exact Nat.mod_lt _ (by omega)
  have hq : q < 4294967296 := by
    rcases hx with hx | hx
    · by_cases hq : q < 4294967296
      · exact hq
      · have h1 := h.1
        have h2 : 4294967296 * bs.getD (m + 1) 0 ≤ q * bs.getD (m + 1) 0 := Nat.mul_le_mul_right _ (by omega)
        omega
    · exact hx.1
  refine ⟨hq, h.2, ?_⟩
  rw [val_top3 hp, val_top2 hb]
  refine guess_most h.1 ?_ hq hb1 (by omega) (take_lt hbb (by omega))
  rcases hx with hx | hx
  · exact .inl hx
  · exact .inr hx.2
end

theorem take_next (ds : List Nat) (k : Nat) : val (ds.take (k + 1)) = val (ds.take k) + 4294967296 ^ k * ds.getD k 0 := by
  by_cases h : k < ds.length
  · rw [List.take_add_one, List.getElem?_eq_getElem h, val_append, List.length_take, Nat.min_eq_left (by omega)]
    simp [val, List.getD, h]
  · rw [List.take_of_length_le (by omega), List.take_of_length_le (by omega)]
    simp [List.getD, h]

theorem take_set {zs : List Nat} {k d : Nat} (h : k < zs.length) : val ((zs.set k d).take (k + 1)) = val (zs.take k) + 4294967296 ^ k * d := by
  rw [take_next, List.take_set_of_le (Nat.le_refl _)]
  simp [List.getD, h]

theorem drop_set {zs ms : List Nat} {k d : Nat} (h : zs.drop k = ms.drop k) : (zs.set k d).drop (k + 1) = ms.drop (k + 1) := by
  rw [List.drop_set_of_lt (by omega), ← List.drop_drop, ← List.drop_drop, h]

theorem drop_at {zs ms : List Nat} {k : Nat} (h : zs.drop k = ms.drop k) : zs.getD k 0 = ms.getD k 0 := by
  have e1 : zs.getD k 0 = (zs.drop k).getD 0 0 := by simp [List.getD]
  have e2 : ms.getD k 0 = (ms.drop k).getD 0 0 := by simp [List.getD]
  rw [e1, e2, h]

/-- What is known while a multiple is taken away: k digits are done. -/
def Taking (q : Nat) (ms bs zs : List Nat) (k c bo : Nat) : Prop :=
  zs.length = ms.length ∧ Bd zs ∧ zs.drop k = ms.drop k ∧ c < 4294967296 ∧ bo ≤ 1 ∧ ∃ M, M < 4294967296 ^ k ∧ q * val (bs.take k) = M + 4294967296 ^ k * c ∧ val (zs.take k) + M = val (ms.take k) + 4294967296 ^ k * bo

theorem taking_start (q : Nat) (ms bs : List Nat) (h : Bd ms) : Taking q ms bs ms 0 0 0 :=
  ⟨rfl, h, rfl, by omega, by omega, 0, by simp, by simp [val], by simp [val]⟩

theorem taking_step {q : Nat} {ms bs zs : List Nat} {k c bo d low c' bo' : Nat} (h : Taking q ms bs zs k c bo) (hk : k < ms.length) (hc : c + q * bs.getD k 0 = low + 4294967296 * c') (hl : low < 4294967296) (hc' : c' < 4294967296)
    (hd : d + low + bo = ms.getD k 0 + 4294967296 * bo') (hdl : d < 4294967296) (hbo : bo' ≤ 1) : Taking q ms bs (zs.set k d) (k + 1) c' bo' := by
  obtain ⟨h1, h2, h3, h4, h5, M, h6, h7, h8⟩ := h
  refine ⟨by rw [List.length_set]; exact h1, h2.set _ hdl, drop_set h3, hc', hbo, M + 4294967296 ^ k * low, ?_, ?_, ?_⟩
  · rw [Nat.pow_succ]
    have := Nat.mul_le_mul_left (4294967296 ^ k) (show low + 1 ≤ 4294967296 by omega)
    rw [Nat.mul_succ] at this
    omega
  · rw [take_next, Nat.mul_add, h7, Nat.pow_succ]
    have e : q * (4294967296 ^ k * bs.getD k 0) = 4294967296 ^ k * (q * bs.getD k 0) := by grind
    have e2 : 4294967296 ^ k * c + 4294967296 ^ k * (q * bs.getD k 0) = 4294967296 ^ k * (low + 4294967296 * c') := by rw [← Nat.mul_add, hc]
    rw [e, Nat.add_assoc, e2, Nat.mul_add, Nat.mul_assoc, Nat.add_assoc]
  · rw [take_set (by omega), take_next, Nat.pow_succ]
    have e2 : 4294967296 ^ k * (d + low + bo) = 4294967296 ^ k * (ms.getD k 0 + 4294967296 * bo') := by rw [hd]
    rw [Nat.mul_add, Nat.mul_add, Nat.mul_add] at e2
    rw [Nat.mul_assoc]
    omega

/-- What is left when a multiple has been taken away. -/
theorem taking_end {q : Nat} {ms bs zs : List Nat} {c bo n : Nat} (h : Taking q ms bs zs ms.length c bo) (hn : ms.length = n + 1) (hq : q < 4294967296) (hb : bs.length ≤ n) (hbb : Bd bs) :
    val zs + q * val bs = val ms + 4294967296 ^ (n + 1) * bo := by
  obtain ⟨h1, h2, h3, h4, h5, M, h6, h7, h8⟩ := h
  rw [hn] at h6 h7 h8
  rw [List.take_of_length_le (by omega)] at h7 h8
  rw [List.take_of_length_le (by omega)] at h8
  have hv : val bs < 4294967296 ^ n := Nat.lt_of_lt_of_le (val_lt hbb) (Nat.pow_le_pow_right (by omega) hb)
  have hp : q * val bs < 4294967296 ^ (n + 1) := by
    rw [Nat.pow_succ, Nat.mul_comm (4294967296 ^ n)]
    exact Nat.mul_lt_mul'' hq hv
  have hc : c = 0 := by
    rcases Nat.eq_zero_or_pos c with e | e
    · exact e
    · have := Nat.mul_le_mul_left (4294967296 ^ (n + 1)) e
      omega
  subst hc
  omega

/-- What is known while a number is given back: k digits are done. -/
def Giving (ms bs zs : List Nat) (k c : Nat) : Prop :=
  zs.length = ms.length ∧ Bd zs ∧ zs.drop k = ms.drop k ∧ c ≤ 1 ∧ val (zs.take k) + 4294967296 ^ k * c = val (ms.take k) + val (bs.take k)

theorem giving_start (ms bs : List Nat) (h : Bd ms) : Giving ms bs ms 0 0 := ⟨rfl, h, rfl, by omega, by simp [val]⟩

theorem giving_step {ms bs zs : List Nat} {k c d c' : Nat} (h : Giving ms bs zs k c) (hk : k < ms.length) (hd : d + 4294967296 * c' = ms.getD k 0 + bs.getD k 0 + c) (hdl : d < 4294967296) (hc : c' ≤ 1) : Giving ms bs (zs.set k d) (k + 1) c' := by
  obtain ⟨h1, h2, h3, h4, h5⟩ := h
  refine ⟨by rw [List.length_set]; exact h1, h2.set _ hdl, drop_set h3, hc, ?_⟩
  rw [take_set (by omega), take_next, take_next, Nat.pow_succ]
  have e2 : 4294967296 ^ k * (d + 4294967296 * c') = 4294967296 ^ k * (ms.getD k 0 + bs.getD k 0 + c) := by rw [hd]
  rw [Nat.mul_add, Nat.mul_add, Nat.mul_add] at e2
  rw [Nat.mul_assoc]
  omega

theorem giving_end {ms bs zs : List Nat} {c n : Nat} (h : Giving ms bs zs ms.length c) (hn : ms.length = n + 1) (hb : bs.length ≤ n) : val zs + 4294967296 ^ (n + 1) * c = val ms + val bs := by
  obtain ⟨h1, h2, h3, h4, h5⟩ := h
  rw [hn] at h5
  rw [List.take_of_length_le (by omega), List.take_of_length_le (by omega), List.take_of_length_le (by omega)] at h5
  exact h5

/-- The digit of the quotient and what is left: the guess was right. -/
theorem digit_right {S B q Z P bo : Nat} (hg : Guess S B q) (hz : Z + q * B = S + P * bo) (hZ : Z < P) (hBP : B ≤ P) (hbo : bo = 0) : Z + q * B = S ∧ Z < B := by
  obtain ⟨g1, g2, g3⟩ := hg
  subst hbo
  rw [Nat.add_mul, Nat.one_mul] at g2
  omega

/-- The digit of the quotient and what is left: the guess was one more. -/
theorem digit_less {S B q Z P Y c : Nat} (hg : Guess S B q) (hz : Z + q * B = S + P * 1) (hZ : Z < P) (hy : Y + P * c = Z + B) (hY : Y < P) (hc : c ≤ 1) (hBP : B ≤ P) (hS : S < P) : 1 ≤ q ∧ Y + (q - 1) * B = S ∧ Y < B := by
  obtain ⟨g1, g2, g3⟩ := hg
  have hq : 1 ≤ q := by
    rcases Nat.eq_zero_or_pos q with e | e
    · subst e; omega
    · exact e
  obtain ⟨r, rfl⟩ : ∃ r, q = r + 1 := ⟨q - 1, by omega⟩
  rw [Nat.add_sub_cancel]
  rw [Nat.add_mul, Nat.one_mul] at hz g3
  refine ⟨hq, ?_⟩
  rcases (show c = 0 ∨ c = 1 by omega) with rfl | rfl
  · omega
  · omega

/-- The division, digit by digit: k digits of the quotient are still to come. -/
def Dividing (A B : Nat) (n : Nat) (qs rs : List Nat) (k : Nat) : Prop :=
  Bd qs ∧ Bd rs ∧ rs.length = qs.length + n ∧ k ≤ qs.length ∧ A = B * (4294967296 ^ k * val (qs.drop k)) + val rs ∧ val (rs.drop k) < B

theorem dividing_part {A B n : Nat} {qs rs : List Nat} {k : Nat} (h : Dividing A B n qs rs (k + 1)) (hB : B < 4294967296 ^ n) (hn : 1 ≤ n) :
    val ((rs.drop k).take (n + 1)) < 4294967296 * B ∧ val (rs.drop (k + (n + 1))) = 0 ∧ ((rs.drop k).take (n + 1)).length = n + 1 := by
  obtain ⟨h1, h2, h3, h4, h5, h6⟩ := h
  have e1 := drop_val (ds := rs) (i := k) (by omega)
  have hd : rs.getD k 0 < 4294967296 := by rw [val_digit h2]; exact Nat.mod_lt _ (by omega)
  have e2 := val_take_drop (rs.drop k) (m := n + 1) (by rw [List.length_drop]; omega)
  rw [List.drop_drop] at e2
  have hlt : val (rs.drop k) < 4294967296 * B := by omega
  refine ⟨by omega, ?_, by rw [List.length_take, List.length_drop]; omega⟩
  rcases Nat.eq_zero_or_pos (val (rs.drop (k + (n + 1)))) with e | e
  · exact e
  · have := Nat.mul_le_mul_left (4294967296 ^ (n + 1)) e
    rw [Nat.pow_succ] at this e2
    omega

theorem dividing_step {A B n : Nat} {qs rs zs : List Nat} {k q : Nat} (h : Dividing A B n qs rs (k + 1)) (hB : B < 4294967296 ^ n) (hn : 1 ≤ n) (hq : q < 4294967296) (hz : zs.length = n + 1) (hbz : Bd zs)
    (hv : val zs + q * B = val ((rs.drop k).take (n + 1))) (hlt : val zs < B) : Dividing A B n (qs.set k q) (rs.take k ++ zs ++ rs.drop (k + (n + 1))) k := by
  obtain ⟨p1, p2, p3⟩ := dividing_part h hB hn
  obtain ⟨h1, h2, h3, h4, h5, h6⟩ := h
  have hlk : (rs.take k).length = k := by rw [List.length_take]; omega
  have ev : val rs = val (rs.take k) + 4294967296 ^ k * val ((rs.drop k).take (n + 1)) := by
    have e1 := val_take_drop rs (m := k) (by omega)
    have e2 := val_take_drop (rs.drop k) (m := n + 1) (by rw [List.length_drop]; omega)
    rw [List.drop_drop, p2, Nat.mul_zero, Nat.add_zero] at e2
    rw [e1, e2]
  have ez : val (zs ++ rs.drop (k + (n + 1))) = val zs := by rw [val_append, p2]; omega
  refine ⟨h1.set _ hq, ?_, ?_, by rw [List.length_set]; omega, ?_, ?_⟩
  · intro x hx
    rcases List.mem_append.1 hx with hx | hx
    · rcases List.mem_append.1 hx with hx | hx
      · exact h2 x (List.mem_of_mem_take hx)
      · exact hbz x hx
    · exact h2 x (List.mem_of_mem_drop hx)
  · simp only [List.length_append, List.length_take, List.length_drop, List.length_set]
    omega
  · have eq2 : val ((qs.set k q).drop k) = q + 4294967296 * val (qs.drop (k + 1)) := by
      rw [drop_val (by rw [List.length_set]; omega), List.drop_set_of_lt (by omega)]
      simp [List.getD, show k < qs.length by omega]
    rw [eq2, List.append_assoc, val_append, ez, hlk, h5, ev, Nat.pow_succ]
    have e3 : 4294967296 ^ k * (val zs + q * B) = 4294967296 ^ k * val ((rs.drop k).take (n + 1)) := by rw [hv]
    rw [← e3]
    grind
  · rw [List.append_assoc, List.drop_append_of_le_length (by omega), List.drop_of_length_le (by omega), List.nil_append, ez]
    exact hlt

theorem dividing_start {A B n : Nat} {qs rs : List Nat} (hq : qs = List.replicate qs.length 0) (hr : Bd rs) (hl : rs.length = qs.length + n) (hA : val rs = A) (hlt : A < B * 4294967296 ^ qs.length) : Dividing A B n qs rs qs.length := by
  refine ⟨?_, hr, hl, Nat.le_refl _, ?_, ?_⟩
  · intro x hx
    rw [hq] at hx
    have := List.eq_of_mem_replicate hx
    omega
  · rw [List.drop_of_length_le (Nat.le_refl _)]
    simp [val, hA]
  · have e := val_take_drop rs (m := qs.length) (by omega)
    rw [hA] at e
    have h2 : val (rs.drop qs.length) * 4294967296 ^ qs.length < B * 4294967296 ^ qs.length := by
      rw [Nat.mul_comm]; omega
    exact Nat.lt_of_mul_lt_mul_right h2

theorem dividing_end {A B n : Nat} {qs rs : List Nat} (h : Dividing A B n qs rs 0) (hB : B < 4294967296 ^ n) : A = B * val qs + val rs ∧ val rs < B ∧ val (rs.take n) = val rs := by
  obtain ⟨h1, h2, h3, h4, h5, h6⟩ := h
  rw [List.drop_zero] at h5 h6
  refine ⟨by rw [h5]; simp, h6, ?_⟩
  have e := val_take_drop rs (m := n) (by omega)
  rcases Nat.eq_zero_or_pos (val (rs.drop n)) with e0 | e0
  · rw [e0] at e; omega
  · have := Nat.mul_le_mul_left (4294967296 ^ n) e0
    omega

/-- What the division of the numbers moved up says of the numbers themselves. -/
theorem shift_back {a b s Q R : Nat} (h : a * 2 ^ s = b * 2 ^ s * Q + R) (hR : R < b * 2 ^ s) : Q = a / b ∧ R / 2 ^ s = a % b := by
  have hp : 0 < 2 ^ s := Nat.pow_pos (by omega)
  have hd : R = (a - b * Q) * 2 ^ s := by
    rw [Nat.sub_mul, h]
    have : b * 2 ^ s * Q = b * Q * 2 ^ s := by grind
    omega
  have hb : a - b * Q < b := by
    rw [hd] at hR
    exact Nat.lt_of_mul_lt_mul_right hR
  have hle : b * Q ≤ a := by
    have h1 : b * Q * 2 ^ s ≤ a * 2 ^ s := by
      have : b * 2 ^ s * Q = b * Q * 2 ^ s := by grind
      omega
    exact Nat.le_of_mul_le_mul_right h1 hp
  have e : a = b * Q + (a - b * Q) := by omega
  have hb0 : 0 < b := by omega
  refine ⟨?_, ?_⟩
  · rw [e, Nat.mul_add_div hb0, Nat.div_eq_of_lt (by omega)]
    have : b * Q + (a - b * Q) - b * Q = a - b * Q := by omega
    omega
  · rw [hd, Nat.mul_div_cancel _ hp]
    rw [e, Nat.mul_add_mod, Nat.mod_eq_of_lt (by omega)]
    omega

/-- The highest digits of a number moved up. -/
theorem raised_lt {a b s la lb n m : Nat} (ha : a < 4294967296 ^ la) (hb : 4294967296 ^ (lb - 1) ≤ b) (hlb : 1 ≤ lb) (hn : n ≤ lb) (hm : m + n = la + 1) (hlt : b * 2 ^ s < 4294967296 ^ n) : a * 2 ^ s < b * 2 ^ s * 4294967296 ^ m := by
  have hn1 : lb ≤ n := by
    by_cases h : lb ≤ n
    · exact h
    · have h1 : 4294967296 ^ n ≤ 4294967296 ^ (lb - 1) := Nat.pow_le_pow_right (by omega) (by omega)
      have h2 : b * 1 ≤ b * 2 ^ s := Nat.mul_le_mul_left b (Nat.pow_pos (by omega))
      omega
  have e : n = lb := by omega
  subst e
  have h3 : 4294967296 ^ la ≤ b * 4294967296 ^ m := by
    have : 4294967296 ^ (n - 1) * 4294967296 ^ m ≤ b * 4294967296 ^ m := Nat.mul_le_mul_right _ hb
    rw [← Nat.pow_add, show n - 1 + m = la by omega] at this
    exact this
  have e2 : b * 2 ^ s * 4294967296 ^ m = b * 4294967296 ^ m * 2 ^ s := by grind
  rw [e2]
  exact Nat.mul_lt_mul_of_pos_right (by omega) (Nat.pow_pos (by omega))

end Go.Proofs.YtdgmjmckeeeljaaGreatDoor

namespace Go.Proofs.YtdgmjmckeeeljaaGreatDoor
open Go.RowKit

set_option maxHeartbeats 400000 in
theorem at_any {w : World} {v : Value} {ds : List Nat} (h : Sl w v ds) (k : Nat) (hk : k ≤ 1000000) :
    Calls Tryz.prog 84 #[v, .int .i64 k] w fun e w' => e = .returned (.int .u64 (ds.getD k 0 : Nat)) ∧ w' = w := by
  obtain ⟨ao, cap, rfl⟩ := h.mk'
  by_cases hlt : k < ds.length
  · obtain ⟨b, off, rfl, hcap, hb, hcl⟩ := h.at (by omega)
    have hc := hcl k hlt
    have hx : ds.getD k 0 < 4294967296 := by rw [val_digit h.bd]; exact Nat.mod_lt _ (by omega)
    obtain ⟨x, hxx⟩ : ∃ x, x = ds.getD k 0 := ⟨_, rfl⟩
    rw [← hxx] at hc hx ⊢
    have hl := h.len
    unfold maxLen at hl
    obtain ⟨n, hn⟩ : ∃ n, n = ds.length := ⟨_, rfl⟩
    rw [← hn] at hlt hl ⊢
    clear hcl hxx hn h
    go_enter Tryz.func84, Tryz.ntmps84
    go_wp2
    go_ret
    exact ⟨rfl, rfl⟩
  · have e0 : ds.getD k 0 = 0 := getD_big ds k (by omega)
    rw [e0]
    have hl := h.len
    unfold maxLen at hl
    obtain ⟨n, hn⟩ : ∃ n, n = ds.length := ⟨_, rfl⟩
    rw [← hn] at hlt hl ⊢
    clear e0 hn h
    go_enter Tryz.func84, Tryz.ntmps84
    go_wp2
    go_ret
    exact ⟨rfl, rfl⟩

/-- A slice that grows by append, in memory of the call's own. -/
structure OwD (w W : World) (v : Value) (ds : List Nat) : Prop where
  bd : Bd ds
  own : W.ownsRow w.heap.size 59 1 v ds.length (ds.map u32v)
  bl : Below w.heap.size w W

theorem owD_start (w : World) : OwD w w (.slice none 0 0) [] := ⟨bd_nil, World.ownsRow_nil _ _ _ _, Below.refl _ _⟩

/-- What an append of one digit leaves. -/
theorem owD_push {w W W3 : World} {ao : Option Addr} {j cap : Nat} {ds : List Nat} {r : Nat} {v' : Value} {o : Obj} (h : OwD w W (.slice ao j cap) ds) (hj : ds.length = j) (hr : r < 4294967296)
    (hown : W3.ownsRow w.heap.size 59 1 v' (j + 1) (ds.map u32v ++ [.int .u32 (r : Int)])) (hgrow : (W.alloc o).grownBy W3 (Value.slice ao j cap).ownBlock) : OwD w W3 v' (ds ++ [r]) ∧ ∃ ao2 c2, v' = .slice ao2 (j + 1) c2 := by
  have hown2 : W3.ownsRow w.heap.size 59 1 v' (ds ++ [r]).length ((ds ++ [r]).map u32v) := by
    rw [List.map_append, List.length_append, hj]
    exact hown
  have hlv : ∀ b, (Value.slice ao j cap).ownBlock = some b → w.heap.size ≤ b := fun b e => (h.own.lt b e).1
  refine ⟨⟨Bd.append1 h.bd hr, hown2, (h.bl.alloc h.bl.size _).grown hgrow (by have := h.bl.size; simp; omega) (fun r e => hlv r e)⟩, ?_⟩
  rcases hown.2 with ⟨_, e⟩ | ⟨g, cc, _, e, _⟩
  · omega
  · exact ⟨_, _, e⟩

def PlusA (w : World) (xs ys : List Nat) (n : Nat) (ov cv kv : Value) (wr : World) : Prop :=
  ∃ (k c : Nat) (ds : List Nat) (ao : Option Addr) (cap : Nat), ov = .slice ao k cap ∧ cv = .int .u64 c ∧ kv = .int .i64 k ∧ k ≤ n ∧ c ≤ 1 ∧ ds.length = k ∧ val ds + 4294967296 ^ k * c = val (xs.take k) + val (ys.take k) ∧ OwD w wr (.slice ao k cap) ds

theorem plusA_step {xs ys ds : List Nat} {k c x y d c' : Nat} (h : val ds + 4294967296 ^ k * c = val (xs.take k) + val (ys.take k)) (hl : ds.length = k) (hx : x = xs.getD k 0) (hy : y = ys.getD k 0) (hd : d + 4294967296 * c' = c + x + y) :
    val (ds ++ [d]) + 4294967296 ^ (k + 1) * c' = val (xs.take (k + 1)) + val (ys.take (k + 1)) := by
  rw [val_append, hl, take_next, take_next, ← hx, ← hy, Nat.pow_succ]
  have e : 4294967296 ^ k * (d + 4294967296 * c') = 4294967296 ^ k * (c + x + y) := by rw [hd]
  rw [Nat.mul_add, Nat.mul_add, Nat.mul_add] at e
  simp only [val, Nat.mul_zero, Nat.add_zero]
  rw [Nat.mul_assoc]
  omega

set_option maxRecDepth 10000 in
set_option maxHeartbeats 4000000 in
theorem plus49_any {w : World} {va vb : Value} {xs ys : List Nat} (ha : Sl w va xs) (hb : Sl w vb ys) (hla : xs.length ≤ 1000) (hlb : ys.length ≤ 1000) : Calls Tryz.prog 49 #[va, vb] w (NewDigs w (val xs + val ys)) := by
  obtain ⟨aa, ca, rfl⟩ := ha.mk'
  obtain ⟨ab, cb, rfl⟩ := hb.mk'
  obtain ⟨la, hla'⟩ : ∃ n, n = xs.length := ⟨_, rfl⟩
  obtain ⟨lb, hlb'⟩ : ∃ n, n = ys.length := ⟨_, rfl⟩
  have HA := Lib.hid ha
  have HB := Lib.hid hb
  have HLA := Lib.hid hla'
  have HLB := Lib.hid hlb'
  rw [← hla'] at hla HA ⊢
  rw [← hlb'] at hlb HB ⊢
  obtain ⟨i0, hi, hz0, hz1, hz2⟩ := info_parts Tryz.info59
  clear ha hb hla' hlb'
  go_enter Tryz.func49, Tryz.ntmps49
  go_wp2
  go_loopw [5, 6, 7] (fun ov cv kv wr => PlusA w xs ys (max la lb) ov cv kv wr) (fun _ _ kv _ => (max la lb - intOf kv).toNat)
  case atStart => exact ⟨0, 0, [], none, 0, rfl, rfl, rfl, by omega, by omega, rfl, by simp [val], owD_start w⟩
  case round =>
    obtain ⟨k, c, ds, ao, cap, rfl, rfl, rfl, hk, hc, hl, hv, hO⟩ := hrel
    have hatA := at_any (HA.out.below hO.bl) k (by omega)
    have hatB := at_any (HB.out.below hO.bl) k (by omega)
    have hxl : xs.getD k 0 < 4294967296 := by rw [val_digit HA.out.bd]; exact Nat.mod_lt _ (by omega)
    have hyl : ys.getD k 0 < 4294967296 := by rw [val_digit HB.out.bd]; exact Nat.mod_lt _ (by omega)
    have HO := Lib.hid hO
    have HL := Lib.hid hl
    have HBS := Lib.hid hO.bl.size
    have HOO : Hid (wr.ownsRow w.heap.size 59 1 (.slice ao k cap) k (ds.map u32v)) := Lib.hid (by have := hO.own; rw [hl] at this; exact this)
    by_cases hlt : k < la ∨ k < lb
    · have hst := fun d c' h => plusA_step (d := d) (c' := c') hv hl rfl rfl h
      obtain ⟨x, hx⟩ : ∃ x, x = xs.getD k 0 := ⟨_, rfl⟩
      obtain ⟨y, hy⟩ : ∃ y, y = ys.getD k 0 := ⟨_, rfl⟩
      rw [← hx] at hatA hxl hst
      rw [← hy] at hatB hyl hst
      obtain ⟨t, ht⟩ : ∃ t, t = c + x + y := ⟨_, rfl⟩
      obtain ⟨d, hd⟩ : ∃ d, d = t % 4294967296 := ⟨_, rfl⟩
      obtain ⟨c', hc'⟩ : ∃ c', c' = t / 4294967296 := ⟨_, rfl⟩
      have hd4 : d < 4294967296 := by omega
      have hc1 : c' ≤ 1 := by omega
      have HS := Lib.hid (hst d c' (by omega))
      have wt1 : IntKind.u64.wrap ((c : Int) + (x : Int)) = (c : Int) + (x : Int) := by rw [IntKind.wrap_u64]; omega
      have wt2 : IntKind.u64.wrap ((c : Int) + (x : Int) + (y : Int)) = (t : Int) := by rw [IntKind.wrap_u64]; omega
      have ws : (c : Int) + (x : Int) + (y : Int) = (t : Int) := by omega
      have fd : (t : Int) % 4294967296 = (d : Int) := by rw [hd]; rfl
      have fc : (t : Int) / 4294967296 = (c' : Int) := by rw [hc']; rfl
      clear hv hO hst hx hy ht hd hc' hl
      rcases Nat.lt_or_ge k la with h1 | h1
      all_goals
        (try have h2 : k < lb := by omega)
        go_wp2_with (first | (go_at_call_of 84 (Value.slice aa la ca); (with_reducible refine hatA.mono ?_); rintro e w' ⟨rfl, hw'⟩; subst w') | (go_at_call_of 84 (Value.slice ab lb cb); (with_reducible refine hatB.mono ?_); rintro e w' ⟨rfl, hw'⟩; subst w') | (at_builtin; go_must (refine wpList_append_own _ rfl _ _ 25 rfl w.heap.size 59 i0 (.int .u32 0) 1 4 Tryz.underlying25 hi hz0 hz1 hz2 rfl (by decide) (.slice ao k cap) k (ds.map u32v) rfl (HOO.out.alloc _) ⟨wr.heap.size, 0, none⟩ 1 1 [.int .u32 (d : Int)] rfl rfl (cell_one_new _ _ _) (fun x hx => by simp at hx; subst hx; rfl) (by unfold maxLen; omega) (by omega) (by have := HBS.out; simp; omega) ?_; intro v' w3 hown' hgrow3 hnil3)))
        obtain ⟨HP, ao2, c2, rfl⟩ := owD_push HO.out HL.out hd4 hown' hgrow3
        have HPP := Lib.hid HP
        have hln : (ds ++ [d]).length = k + 1 := by rw [List.length_append, HL.out]; rfl
        clear hown' hgrow3 hnil3
        go_roundw
        case rel => exact ⟨k + 1, c', ds ++ [d], ao2, c2, rfl, by go_num, by go_num, by omega, hc1, hln, HS.out, HPP.out⟩
        case measure => simp [intOf]; omega
    · have hend : val (ds ++ [c]) = val xs + val ys := by
        rw [val_append, hl]
        simp only [val, Nat.mul_zero, Nat.add_zero]
        rw [hv, List.take_of_length_le (by rw [← HLA.out]; omega), List.take_of_length_le (by rw [← HLB.out]; omega)]
      have HE := Lib.hid hend
      have wc : IntKind.u32.wrap (c : Int) = (c : Int) := by rw [IntKind.wrap_u32]; omega
      have hk1 : k ≤ 1000 := by omega
      have hkn : (k : Int).toNat = k := by omega
      clear hv hO hend hl
      have HLN : Hid ((ds ++ [c]).length = k + 1) := Lib.hid (by rw [List.length_append, HL.out]; rfl)
      have HBD : Hid (Bd (ds ++ [c])) := Lib.hid (Bd.append1 HO.out.bd (by omega))
      go_wp2_with (first | (at_builtin; go_must (refine wpList_append_own _ rfl _ _ 25 rfl w.heap.size 59 i0 (.int .u32 0) 1 4 Tryz.underlying25 hi hz0 hz1 hz2 rfl (by decide) (.slice ao k cap) k (ds.map u32v) rfl (HOO.out.alloc _) ⟨wr.heap.size, 0, none⟩ 1 1 [.int .u32 (c : Int)] rfl rfl (cell_one_new _ _ _) (fun x hx => by simp at hx; subst hx; rfl) (by unfold maxLen; omega) (by omega) (by have := HBS.out; simp; omega) ?_; intro v' w3 hown' hgrow3 hnil3; obtain ⟨HP, ao2, c2, rfl⟩ := owD_push HO.out HL.out (by omega : c < 4294967296) hown' hgrow3; obtain ⟨ao3, c3, e3, e4⟩ := sw_of_owns HP.bd HP.own; rw [HLN.out] at e3; cases e3; have ht := rtrim_any _ _ _ e4.sl; have hu := e4.trim; rw [HE.out] at ht hu; have HU := Lib.hid hu; have HBL := Lib.hid HP.bl; clear hu HP e4 hown' hgrow3 hnil3)) | (go_at_call 55; (with_reducible refine ht.mono ?_); rintro e w' ⟨rfl, hw'⟩; subst w'))
      go_ret
      exact ⟨_, rfl, HU.out, HBL.out⟩

end Go.Proofs.YtdgmjmckeeeljaaGreatDoor

namespace Go.Proofs.YtdgmjmckeeeljaaGreatDoor
open Go.RowKit

def MinusA (w : World) (xs ys : List Nat) (n : Nat) (ov cv kv : Value) (wr : World) : Prop :=
  ∃ (k c : Nat) (ds : List Nat) (ao : Option Addr) (cap : Nat), ov = .slice ao k cap ∧ cv = .int .u64 c ∧ kv = .int .i64 k ∧ k ≤ n ∧ c ≤ 1 ∧ ds.length = k ∧ val ds + val (ys.take k) = val (xs.take k) + 4294967296 ^ k * c ∧ OwD w wr (.slice ao k cap) ds

theorem minusA_step {xs ys ds : List Nat} {k c x y d c' : Nat} (h : val ds + val (ys.take k) = val (xs.take k) + 4294967296 ^ k * c) (hl : ds.length = k) (hx : x = xs.getD k 0) (hy : y = ys.getD k 0) (hd : d + y + c = x + 4294967296 * c') :
    val (ds ++ [d]) + val (ys.take (k + 1)) = val (xs.take (k + 1)) + 4294967296 ^ (k + 1) * c' := by
  rw [val_append, hl, take_next, take_next, ← hx, ← hy, Nat.pow_succ]
  have e : 4294967296 ^ k * (d + y + c) = 4294967296 ^ k * (x + 4294967296 * c') := by rw [hd]
  rw [Nat.mul_add, Nat.mul_add, Nat.mul_add] at e
  simp only [val, Nat.mul_zero, Nat.add_zero]
  rw [Nat.mul_assoc]
  omega

theorem minusA_end {xs ys ds : List Nat} {k c : Nat} (h : val ds + val (ys.take k) = val (xs.take k) + 4294967296 ^ k * c) (hl : ds.length = k) (hk : k = xs.length) (hbd : Bd ds) (hbx : Bd xs) (hle : val ys ≤ val xs) (hc : c ≤ 1) : val ds = val xs - val ys := by
  have h1 := val_lt hbd
  have h2 := val_lt hbx
  rw [hl] at h1
  rw [← hk] at h2
  rw [List.take_of_length_le (by omega : xs.length ≤ k)] at h
  have e := val_append (ys.take k) (ys.drop k)
  rw [List.take_append_drop] at e
  have h3 : val (ys.drop k) = 0 ∨ (ys.take k).length = k := by
    by_cases hy : k ≤ ys.length
    · exact .inr (by rw [List.length_take]; omega)
    · exact .inl (by rw [List.drop_eq_nil_of_le (by omega)]; rfl)
  have h4 : val ys = val (ys.take k) := by
    rcases h3 with h3 | h3
    · rw [h3, Nat.mul_zero] at e; omega
    · rw [h3] at e
      rcases Nat.eq_zero_or_pos (val (ys.drop k)) with h5 | h5
      · rw [h5, Nat.mul_zero] at e; omega
      · have := Nat.mul_le_mul_left (4294967296 ^ k) h5
        omega
  rw [← h4] at h
  rcases (by omega : c = 0 ∨ c = 1) with rfl | rfl
  · rw [Nat.mul_zero] at h; omega
  · rw [Nat.mul_one] at h; omega

set_option maxRecDepth 10000 in
set_option maxHeartbeats 4000000 in
theorem minus50_any {w : World} {va vb : Value} {xs ys : List Nat} (ha : Sl w va xs) (hb : Sl w vb ys) (hla : xs.length ≤ 1000) (hlb : ys.length ≤ 1000) (hle : val ys ≤ val xs) : Calls Tryz.prog 50 #[va, vb] w (NewDigs w (val xs - val ys)) := by
  obtain ⟨aa, ca, rfl⟩ := ha.mk'
  obtain ⟨ab, cb, rfl⟩ := hb.mk'
  obtain ⟨la, hla'⟩ : ∃ n, n = xs.length := ⟨_, rfl⟩
  obtain ⟨lb, hlb'⟩ : ∃ n, n = ys.length := ⟨_, rfl⟩
  have HA := Lib.hid ha
  have HB := Lib.hid hb
  have HLA := Lib.hid hla'
  have HLB := Lib.hid hlb'
  rw [← hla'] at hla HA ⊢
  rw [← hlb'] at hlb HB ⊢
  obtain ⟨i0, hi, hz0, hz1, hz2⟩ := info_parts Tryz.info59
  have hbx := Lib.hid ha.bd
  have HLE := Lib.hid hle
  clear ha hb hla' hlb' hle
  go_enter Tryz.func50, Tryz.ntmps50
  go_wp2
  go_loopw [5, 6, 7] (fun ov cv kv wr => MinusA w xs ys (la) ov cv kv wr) (fun _ _ kv _ => (la - intOf kv).toNat)
  case atStart => exact ⟨0, 0, [], none, 0, rfl, rfl, rfl, by omega, by omega, rfl, by simp [val], owD_start w⟩
  case round =>
    obtain ⟨k, c, ds, ao, cap, rfl, rfl, rfl, hk, hc, hl, hv, hO⟩ := hrel
    have hatA := at_any (HA.out.below hO.bl) k (by omega)
    have hatB := at_any (HB.out.below hO.bl) k (by omega)
    have hxl : xs.getD k 0 < 4294967296 := by rw [val_digit HA.out.bd]; exact Nat.mod_lt _ (by omega)
    have hyl : ys.getD k 0 < 4294967296 := by rw [val_digit HB.out.bd]; exact Nat.mod_lt _ (by omega)
    have HO := Lib.hid hO
    have HL := Lib.hid hl
    have HBS := Lib.hid hO.bl.size
    have HOO : Hid (wr.ownsRow w.heap.size 59 1 (.slice ao k cap) k (ds.map u32v)) := Lib.hid (by have := hO.own; rw [hl] at this; exact this)
    by_cases hlt : k < la
    · have hst := fun d c' h => minusA_step (d := d) (c' := c') hv hl rfl rfl h
      obtain ⟨x, hx⟩ : ∃ x, x = xs.getD k 0 := ⟨_, rfl⟩
      obtain ⟨y, hy⟩ : ∃ y, y = ys.getD k 0 := ⟨_, rfl⟩
      rw [← hx] at hatA hxl hst
      rw [← hy] at hatB hyl hst
      obtain ⟨t, ht⟩ : ∃ t, t + y + c = 4294967296 + x := ⟨4294967296 + x - y - c, by omega⟩
      obtain ⟨d, hd⟩ : ∃ d, d = t % 4294967296 := ⟨_, rfl⟩
      obtain ⟨q, hq⟩ : ∃ q, q = t / 4294967296 := ⟨_, rfl⟩
      obtain ⟨c', hc'⟩ : ∃ c', c' = 1 - q := ⟨_, rfl⟩
      have hd4 : d < 4294967296 := by omega
      have hc1 : c' ≤ 1 := by omega
      have HS := Lib.hid (hst d c' (by omega))
      have wt1 : IntKind.u64.wrap (4294967296 + (x : Int)) = 4294967296 + (x : Int) := by rw [IntKind.wrap_u64]; omega
      have wt2 : IntKind.u64.wrap (4294967296 + (x : Int) - (y : Int)) = 4294967296 + (x : Int) - (y : Int) := by rw [IntKind.wrap_u64]; omega
      have wt3 : IntKind.u64.wrap (4294967296 + (x : Int) - (y : Int) - (c : Int)) = (t : Int) := by rw [IntKind.wrap_u64]; omega
      have fd : (t : Int) % 4294967296 = (d : Int) := by rw [hd]; rfl
      have fc : (t : Int) / 4294967296 = (q : Int) := by rw [hq]; rfl
      have wq : IntKind.u64.wrap (1 - (q : Int)) = (c' : Int) := by rw [IntKind.wrap_u64]; omega
      clear hv hO hst hx hy ht hd hc' hq hl
      go_wp2_with (first | (go_at_call_of 84 (Value.slice aa la ca); (with_reducible refine hatA.mono ?_); rintro e w' ⟨rfl, hw'⟩; subst w') | (go_at_call_of 84 (Value.slice ab lb cb); (with_reducible refine hatB.mono ?_); rintro e w' ⟨rfl, hw'⟩; subst w') | (at_builtin; go_must (refine wpList_append_own _ rfl _ _ 25 rfl w.heap.size 59 i0 (.int .u32 0) 1 4 Tryz.underlying25 hi hz0 hz1 hz2 rfl (by decide) (.slice ao k cap) k (ds.map u32v) rfl (HOO.out.alloc _) ⟨wr.heap.size, 0, none⟩ 1 1 [.int .u32 (d : Int)] rfl rfl (cell_one_new _ _ _) (fun x hx => by simp at hx; subst hx; rfl) (by unfold maxLen; omega) (by omega) (by have := HBS.out; simp; omega) ?_; intro v' w3 hown' hgrow3 hnil3)))
      obtain ⟨HP, ao2, c2, rfl⟩ := owD_push HO.out HL.out hd4 hown' hgrow3
      have HPP := Lib.hid HP
      have hln : (ds ++ [d]).length = k + 1 := by rw [List.length_append, HL.out]; rfl
      clear hown' hgrow3 hnil3
      go_roundw
      case rel => exact ⟨k + 1, c', ds ++ [d], ao2, c2, rfl, by go_num, by go_num, by omega, hc1, hln, HS.out, HPP.out⟩
      case measure => simp [intOf]; omega
    · have hend := minusA_end hv hl (by rw [← HLA.out]; omega) hO.bd hbx.out HLE.out hc
      obtain ⟨ao3, c3, e3, e4⟩ := sw_of_owns hO.bd hO.own
      rw [hl] at e3
      cases e3
      have ht := rtrim_any _ _ _ e4.sl
      have hu := e4.trim
      rw [hend] at ht hu
      have HU := Lib.hid hu
      clear hv hO hend hl hu e4
      go_wp2_with (go_at_call 55; (with_reducible refine ht.mono ?_); rintro e w' ⟨rfl, hw'⟩; subst w')
      go_ret
      exact ⟨_, rfl, HU.out, HO.out.bl⟩

end Go.Proofs.YtdgmjmckeeeljaaGreatDoor

namespace Go.Proofs.YtdgmjmckeeeljaaGreatDoor
open Go.RowKit

set_option maxRecDepth 10000 in
set_option maxHeartbeats 4000000 in
theorem compare71_any {w : World} {va vb : Value} {x y : Nat} (ha : Sl w va (digs x)) (hb : Sl w vb (digs y)) (hla : (digs x).length ≤ 1000) (hlb : (digs y).length ≤ 1000) :
    Calls Tryz.prog 71 #[va, vb] w fun e w' => e = .returned (.int .i64 (cmpN x y)) ∧ Below w.heap.size w w' := by
  obtain ⟨aa, ca, rfl⟩ := ha.mk'
  obtain ⟨ab, cb, rfl⟩ := hb.mk'
  have hone := fun h => cmp_digits (bd_digs x) (bd_digs y) h
  rw [val_digs, val_digs] at hone
  have hlt : (digs x).length < (digs y).length → cmpN x y = -1 := fun h => by
    rw [cmpN_lt]
    have h1 := (digs_length_le (n := x) (k := (digs x).length)).1 (Nat.le_refl _)
    exact Nat.lt_of_lt_of_le h1 (Nat.le_of_not_lt fun h2 => by have := digs_length_le.2 h2; omega)
  have hgt : (digs y).length < (digs x).length → cmpN x y = 1 := fun h => by
    rw [cmpN_gt]
    have h1 := (digs_length_le (n := y) (k := (digs y).length)).1 (Nat.le_refl _)
    exact Nat.lt_of_lt_of_le h1 (Nat.le_of_not_lt fun h2 => by have := digs_length_le.2 h2; omega)
  have hxd : ∀ k, (digs x).getD k 0 < 4294967296 := fun k => by rw [val_digit (bd_digs x)]; exact Nat.mod_lt _ (by omega)
  have hyd : ∀ k, (digs y).getD k 0 < 4294967296 := fun k => by rw [val_digit (bd_digs y)]; exact Nat.mod_lt _ (by omega)
  have hfx := fun h => ha.at h
  have hfy := fun h => hb.at h
  generalize hxs : digs x = xs at *
  generalize hys : digs y = ys at *
  obtain ⟨la, hla'⟩ : ∃ n, n = xs.length := ⟨_, rfl⟩
  obtain ⟨lb, hlb'⟩ : ∃ n, n = ys.length := ⟨_, rfl⟩
  rw [← hla'] at hla hlt hgt hone hfx ⊢
  rw [← hlb'] at hlb hlt hgt hone hfy ⊢
  have HLA := Lib.hid hla'
  have HLB := Lib.hid hlb'
  obtain ⟨c, hc⟩ : ∃ c, c = cmpN x y := ⟨_, rfl⟩
  rw [← hc] at hlt hgt ⊢
  rcases Nat.lt_trichotomy la lb with h1 | h1 | h1
  · have e := hlt h1
    subst e
    clear hone hlt hgt hc hfx hfy hxd hyd ha hb hla' hlb' hxs hys
    go_enter Tryz.func71, Tryz.ntmps71
    go_wp2
    go_ret
    exact ⟨rfl, by go_grown⟩
  · subst h1
    obtain ⟨c1, c2⟩ := hone rfl
    have H1 := Lib.hid c1
    have H2 := Lib.hid c2
    have HC := Lib.hid hc
    have HFX := Lib.hid hfx
    have HFY := Lib.hid hfy
    have HXD := Lib.hid hxd
    have HYD := Lib.hid hyd
    clear hone hlt hgt hc hfx hfy hxd hyd ha hb hla' hlb' hxs hys c1 c2
    go_enter Tryz.func71, Tryz.ntmps71
    go_wp2
    go_loopw [5] (fun kv wr => ∃ m : Nat, m ≤ la ∧ kv = .int .i64 ((m : Int) - 1) ∧ Hid (∀ j, m ≤ j → j < la → xs.getD j 0 = ys.getD j 0) ∧ Hid (Below w.heap.size w wr)) (fun kv _ => (intOf kv + 1).toNat)
    case atStart => exact ⟨la, Nat.le_refl _, by go_num, Lib.hid (fun j h1 h2 => by omega), Lib.hid (Below.refl _ _)⟩
    case round =>
      obtain ⟨m, hm, rfl, HJ, HBW⟩ := hrel
      have hbw := HBW.out
      rcases Nat.eq_zero_or_pos m with rfl | hpos
      · have hc0 : c = 0 := by rw [HC.out, H1.out (fun j hj => HJ.out j (by omega) hj), cmpN_eq]
        subst hc0
        go_wp2
        go_ret
        exact ⟨rfl, by go_grown⟩
      · obtain ⟨k, rfl⟩ : ∃ k, m = k + 1 := ⟨m - 1, by omega⟩
        obtain ⟨b, off, rfl, hcap, hb, hcl⟩ := HFX.out (by omega)
        obtain ⟨b2, off2, rfl, hcap2, hb2, hcl2⟩ := HFY.out (by omega)
        have hc1 := cell_later HBW.out (hcl k (by rw [← HLA.out]; omega))
        have hc2 := cell_later HBW.out (hcl2 k (by rw [← HLB.out]; omega))
        have hx4 := HXD.out k
        have hy4 := HYD.out k
        obtain ⟨d1, d2⟩ := H2.out k (by omega) (fun j hj hj' => HJ.out j (by omega) hj')
        have D1 := Lib.hid d1
        have D2 := Lib.hid d2
        obtain ⟨p, hp⟩ : ∃ p, p = xs.getD k 0 := ⟨_, rfl⟩
        obtain ⟨q, hq⟩ : ∃ q, q = ys.getD k 0 := ⟨_, rfl⟩
        rw [← hp] at hc1 hx4
        rw [← hq] at hc2 hy4
        have HP := Lib.hid hp
        have HQ := Lib.hid hq
        have ek : ((k + 1 : Nat) : Int) - 1 = (k : Int) := by omega
        rw [ek]
        clear hcl hcl2 hp hq d1 d2 ek
        rcases Nat.lt_trichotomy p q with h | h | h
        · have hc0 : c = -1 := by rw [HC.out]; exact cmpN_lt (D1.out (by rw [← HP.out, ← HQ.out]; exact h))
          subst hc0
          go_wp2
          go_region
          go_wp2
          go_ret
          exact ⟨rfl, by go_grown⟩
        · subst h
          go_wp2
          go_region
          go_wp2
          go_region
          go_wp2
          go_roundw
          case rel => exact ⟨k, by omega, by go_num, Lib.hid (fun j h1 h2 => by
            rcases Nat.eq_or_lt_of_le h1 with rfl | h3
            · rw [← HP.out, ← HQ.out]
            · exact HJ.out j (by omega) h2), Lib.hid (by go_grown)⟩
          case measure => simp [intOf]
        · have hc0 : c = 1 := by rw [HC.out]; exact cmpN_gt (D2.out (by rw [← HP.out, ← HQ.out]; exact h))
          subst hc0
          go_wp2
          go_region
          go_wp2
          go_region
          go_wp2
          go_ret
          exact ⟨rfl, by go_grown⟩
  · have e := hgt h1
    subst e
    clear hone hlt hgt hc hfx hfy hxd hyd ha hb hla' hlb' hxs hys
    go_enter Tryz.func71, Tryz.ntmps71
    go_wp2
    go_ret
    exact ⟨rfl, by go_grown⟩

end Go.Proofs.YtdgmjmckeeeljaaGreatDoor

namespace Go.Proofs.YtdgmjmckeeeljaaGreatDoor
open Go.RowKit

set_option maxRecDepth 10000 in
set_option maxHeartbeats 400000 in
theorem right41_any {w : World} {s : Value} {ds : List Nat} (neg : Bool) (h : Sl w s ds) (hreach : ds.length ≤ 140737488351232) :
    Calls Tryz.prog 41 #[.agg #[.bool neg, s]] w fun e w' => e = .returned (.bool (rightB neg ds)) ∧ w' = w.alloc (.cells #[.bool neg, s] 27) := by
  obtain ⟨ao, cap, rfl⟩ := h.mk'
  obtain ⟨n, hn⟩ : ∃ n, n = ds.length := ⟨_, rfl⟩
  cases n with
  | zero =>
    obtain rfl : ds = [] := List.eq_nil_of_length_eq_zero hn.symm
    have e0 : rightB neg [] = !neg := rfl
    rw [e0]
    clear e0 hn
    go_enter Tryz.func41, Tryz.ntmps41
    go_wp2
    go_ret
    exact ⟨rfl, rfl⟩
  | succ n =>
    rw [← hn] at h hreach ⊢
    obtain ⟨b, off, rfl, hcap, hbs, hcl⟩ := h.at (by omega)
    have hc := hcl n (by omega)
    obtain ⟨x, hx⟩ : ∃ x, x = ds.getD n 0 := ⟨_, rfl⟩
    rw [← hx] at hc
    have e0 : rightB neg ds = (decide (n + 1 ≤ 256) && decide (x ≠ 0)) := by
      unfold rightB
      rw [if_neg (by intro h0; rw [h0] at hn; simp at hn), ← hn, hx]
      rfl
    rw [e0]
    clear e0 hcl hx hn h
    have h4 : ((n : Int) + 1 == 0) = false := by simp; omega
    by_cases h1 : n + 1 ≤ 256
    · by_cases h2 : x = 0
      · subst h2
        go_enter Tryz.func41, Tryz.ntmps41
        go_wp2
        go_ret
        exact ⟨by simp, rfl⟩
      · have h3 : ((x : Int) != 0) = true := by simp; omega
        go_enter Tryz.func41, Tryz.ntmps41
        go_wp2
        go_ret
        exact ⟨by simp [h1, h2], rfl⟩
    · go_enter Tryz.func41, Tryz.ntmps41
      go_wp2
      go_ret
      exact ⟨by simp [h1], rfl⟩

set_option maxHeartbeats 400000 in
theorem digits80_any (x : Nat) (w : World) (hx : x / 4294967296 < 4294967296) :
    Calls Tryz.prog 80 #[.int .u64 x] w (NewDigs w x) := by
  have hs := sl_two w (x % 4294967296) (x / 4294967296) (by omega) hx
  have ht := rtrim_any _ _ _ hs.sl
  have hu := hs.trim
  have ev : val [x % 4294967296, x / 4294967296] = x := by simp [val]; omega
  rw [ev] at ht hu
  have HU := Lib.hid hu
  clear hs ev hu
  go_enter Tryz.func80, Tryz.ntmps80
  go_wp2_with (go_at_call 55; refine ht.mono ?_; rintro e w' ⟨rfl, rfl⟩)
  go_ret
  exact ⟨_, rfl, HU.out, (Below.refl _ _).alloc (Nat.le_refl _) _⟩

end Go.Proofs.YtdgmjmckeeeljaaGreatDoor

namespace Go.Proofs.YtdgmjmckeeeljaaGreatDoor
open Go.RowKit

set_option maxRecDepth 10000 in
set_option maxHeartbeats 1000000 in
theorem cmp43_pp {w : World} {x y : Value} {a b : Int} (hx : Nu w x a) (hy : Nu w y b) (h1 : 0 ≤ a) (h2 : 0 ≤ b) :
    Calls Tryz.prog 43 #[x, y] w fun e w' => e = .returned (.int .i64 (cmpZ a b)) ∧ Below w.heap.size w w' := by
  have hz : cmpZ a b = cmpN a.natAbs b.natAbs := by
    unfold cmpZ
    try unfold cmpN
    repeat' split
    all_goals omega
  rw [hz]
  have ea : decide (a < 0) = false := by simp; omega
  have eb : decide (b < 0) = false := by simp; omega
  clear hz
  obtain ⟨sa, rfl, ha, la⟩ := hx
  obtain ⟨sb, rfl, hb, lb⟩ := hy
  have ra := rightB_digs a la
  have rb := rightB_digs b lb
  obtain ⟨na, hna⟩ : ∃ na, na = decide (a < 0) := ⟨_, rfl⟩
  obtain ⟨nb, hnb⟩ : ∃ nb, nb = decide (b < 0) := ⟨_, rfl⟩
  rw [← hna] at ra ⊢
  rw [← hnb] at rb ⊢
  have HNA := Lib.hid hna
  have HNB := Lib.hid hnb
  clear hna hnb
  have R1 : ∀ W, Sl W sa (digs a.natAbs) → Calls Tryz.prog 41 #[.agg #[.bool na, sa]] W fun e w' => e = .returned (.bool true) ∧ w' = W.alloc (.cells #[.bool na, sa] 27) := fun W h => by have := right41_any na h (by omega); rwa [ra] at this
  have R2 : ∀ W, Sl W sb (digs b.natAbs) → Calls Tryz.prog 41 #[.agg #[.bool nb, sb]] W fun e w' => e = .returned (.bool true) ∧ w' = W.alloc (.cells #[.bool nb, sb] 27) := fun W h => by have := right41_any nb h (by omega); rwa [rb] at this
  have HR1 := Lib.hid R1
  have HR2 := Lib.hid R2
  clear R1 R2 ra rb
  obtain rfl : na = false := by rw [HNA.out, ea]
  obtain rfl : nb = false := by rw [HNB.out, eb]
  clear ea eb
  go_enter Tryz.func43, Tryz.ntmps43
  go_wp2_with (first | (go_at_call_of 41 (Value.agg #[.bool false, sa]); refine (HR1.out _ (ha.below (by go_grown))).mono ?_; rintro e w' ⟨rfl, rfl⟩) | (go_at_call_of 41 (Value.agg #[.bool false, sb]); refine (HR2.out _ (hb.below (by go_grown))).mono ?_; rintro e w' ⟨rfl, rfl⟩) | (go_at_call 71; refine (compare71_any (ha.below (by go_grown)) (hb.below (by go_grown)) (by omega) (by omega)).mono ?_; rintro e W5 ⟨rfl, hbW⟩; have hbW' : Below w.heap.size w W5 := Below.trans (by go_grown) (hbW.mono (by simp; omega))))
  go_returns
  exact ⟨rfl, by go_grown⟩

set_option maxRecDepth 10000 in
set_option maxHeartbeats 1000000 in
theorem cmp43_nn {w : World} {x y : Value} {a b : Int} (hx : Nu w x a) (hy : Nu w y b) (h1 : a < 0) (h2 : b < 0) :
    Calls Tryz.prog 43 #[x, y] w fun e w' => e = .returned (.int .i64 (cmpZ a b)) ∧ Below w.heap.size w w' := by
  have hz : cmpZ a b = cmpN b.natAbs a.natAbs := by
    unfold cmpZ
    try unfold cmpN
    repeat' split
    all_goals omega
  rw [hz]
  have ea : decide (a < 0) = true := by simp; omega
  have eb : decide (b < 0) = true := by simp; omega
  clear hz
  obtain ⟨sa, rfl, ha, la⟩ := hx
  obtain ⟨sb, rfl, hb, lb⟩ := hy
  have ra := rightB_digs a la
  have rb := rightB_digs b lb
  obtain ⟨na, hna⟩ : ∃ na, na = decide (a < 0) := ⟨_, rfl⟩
  obtain ⟨nb, hnb⟩ : ∃ nb, nb = decide (b < 0) := ⟨_, rfl⟩
  rw [← hna] at ra ⊢
  rw [← hnb] at rb ⊢
  have HNA := Lib.hid hna
  have HNB := Lib.hid hnb
  clear hna hnb
  have R1 : ∀ W, Sl W sa (digs a.natAbs) → Calls Tryz.prog 41 #[.agg #[.bool na, sa]] W fun e w' => e = .returned (.bool true) ∧ w' = W.alloc (.cells #[.bool na, sa] 27) := fun W h => by have := right41_any na h (by omega); rwa [ra] at this
  have R2 : ∀ W, Sl W sb (digs b.natAbs) → Calls Tryz.prog 41 #[.agg #[.bool nb, sb]] W fun e w' => e = .returned (.bool true) ∧ w' = W.alloc (.cells #[.bool nb, sb] 27) := fun W h => by have := right41_any nb h (by omega); rwa [rb] at this
  have HR1 := Lib.hid R1
  have HR2 := Lib.hid R2
  clear R1 R2 ra rb
  obtain rfl : na = true := by rw [HNA.out, ea]
  obtain rfl : nb = true := by rw [HNB.out, eb]
  clear ea eb
  go_enter Tryz.func43, Tryz.ntmps43
  go_wp2_with (first | (go_at_call_of 41 (Value.agg #[.bool true, sa]); refine (HR1.out _ (ha.below (by go_grown))).mono ?_; rintro e w' ⟨rfl, rfl⟩) | (go_at_call_of 41 (Value.agg #[.bool true, sb]); refine (HR2.out _ (hb.below (by go_grown))).mono ?_; rintro e w' ⟨rfl, rfl⟩) | (go_at_call 71; refine (compare71_any (hb.below (by go_grown)) (ha.below (by go_grown)) (by omega) (by omega)).mono ?_; rintro e W5 ⟨rfl, hbW⟩; have hbW' : Below w.heap.size w W5 := Below.trans (by go_grown) (hbW.mono (by simp; omega))))
  go_returns
  exact ⟨rfl, by go_grown⟩

set_option maxRecDepth 10000 in
set_option maxHeartbeats 1000000 in
theorem cmp43_np {w : World} {x y : Value} {a b : Int} (hx : Nu w x a) (hy : Nu w y b) (h1 : a < 0) (h2 : 0 ≤ b) :
    Calls Tryz.prog 43 #[x, y] w fun e w' => e = .returned (.int .i64 (cmpZ a b)) ∧ Below w.heap.size w w' := by
  have hz : cmpZ a b = -1 := by
    unfold cmpZ
    try unfold cmpN
    repeat' split
    all_goals omega
  rw [hz]
  have ea : decide (a < 0) = true := by simp; omega
  have eb : decide (b < 0) = false := by simp; omega
  clear hz
  obtain ⟨sa, rfl, ha, la⟩ := hx
  obtain ⟨sb, rfl, hb, lb⟩ := hy
  have ra := rightB_digs a la
  have rb := rightB_digs b lb
  obtain ⟨na, hna⟩ : ∃ na, na = decide (a < 0) := ⟨_, rfl⟩
  obtain ⟨nb, hnb⟩ : ∃ nb, nb = decide (b < 0) := ⟨_, rfl⟩
  rw [← hna] at ra ⊢
  rw [← hnb] at rb ⊢
  have HNA := Lib.hid hna
  have HNB := Lib.hid hnb
  clear hna hnb
  have R1 : ∀ W, Sl W sa (digs a.natAbs) → Calls Tryz.prog 41 #[.agg #[.bool na, sa]] W fun e w' => e = .returned (.bool true) ∧ w' = W.alloc (.cells #[.bool na, sa] 27) := fun W h => by have := right41_any na h (by omega); rwa [ra] at this
  have R2 : ∀ W, Sl W sb (digs b.natAbs) → Calls Tryz.prog 41 #[.agg #[.bool nb, sb]] W fun e w' => e = .returned (.bool true) ∧ w' = W.alloc (.cells #[.bool nb, sb] 27) := fun W h => by have := right41_any nb h (by omega); rwa [rb] at this
  have HR1 := Lib.hid R1
  have HR2 := Lib.hid R2
  clear R1 R2 ra rb
  obtain rfl : na = true := by rw [HNA.out, ea]
  obtain rfl : nb = false := by rw [HNB.out, eb]
  clear ea eb
  go_enter Tryz.func43, Tryz.ntmps43
  go_wp2_with (first | (go_at_call_of 41 (Value.agg #[.bool true, sa]); refine (HR1.out _ (ha.below (by go_grown))).mono ?_; rintro e w' ⟨rfl, rfl⟩) | (go_at_call_of 41 (Value.agg #[.bool false, sb]); refine (HR2.out _ (hb.below (by go_grown))).mono ?_; rintro e w' ⟨rfl, rfl⟩))
  go_returns
  exact ⟨rfl, by go_grown⟩

set_option maxRecDepth 10000 in
set_option maxHeartbeats 1000000 in
theorem cmp43_pn {w : World} {x y : Value} {a b : Int} (hx : Nu w x a) (hy : Nu w y b) (h1 : 0 ≤ a) (h2 : b < 0) :
    Calls Tryz.prog 43 #[x, y] w fun e w' => e = .returned (.int .i64 (cmpZ a b)) ∧ Below w.heap.size w w' := by
  have hz : cmpZ a b = 1 := by
    unfold cmpZ
    try unfold cmpN
    repeat' split
    all_goals omega
  rw [hz]
  have ea : decide (a < 0) = false := by simp; omega
  have eb : decide (b < 0) = true := by simp; omega
  clear hz
  obtain ⟨sa, rfl, ha, la⟩ := hx
  obtain ⟨sb, rfl, hb, lb⟩ := hy
  have ra := rightB_digs a la
  have rb := rightB_digs b lb
  obtain ⟨na, hna⟩ : ∃ na, na = decide (a < 0) := ⟨_, rfl⟩
  obtain ⟨nb, hnb⟩ : ∃ nb, nb = decide (b < 0) := ⟨_, rfl⟩
  rw [← hna] at ra ⊢
  rw [← hnb] at rb ⊢
  have HNA := Lib.hid hna
  have HNB := Lib.hid hnb
  clear hna hnb
  have R1 : ∀ W, Sl W sa (digs a.natAbs) → Calls Tryz.prog 41 #[.agg #[.bool na, sa]] W fun e w' => e = .returned (.bool true) ∧ w' = W.alloc (.cells #[.bool na, sa] 27) := fun W h => by have := right41_any na h (by omega); rwa [ra] at this
  have R2 : ∀ W, Sl W sb (digs b.natAbs) → Calls Tryz.prog 41 #[.agg #[.bool nb, sb]] W fun e w' => e = .returned (.bool true) ∧ w' = W.alloc (.cells #[.bool nb, sb] 27) := fun W h => by have := right41_any nb h (by omega); rwa [rb] at this
  have HR1 := Lib.hid R1
  have HR2 := Lib.hid R2
  clear R1 R2 ra rb
  obtain rfl : na = false := by rw [HNA.out, ea]
  obtain rfl : nb = true := by rw [HNB.out, eb]
  clear ea eb
  go_enter Tryz.func43, Tryz.ntmps43
  go_wp2_with (first | (go_at_call_of 41 (Value.agg #[.bool false, sa]); refine (HR1.out _ (ha.below (by go_grown))).mono ?_; rintro e w' ⟨rfl, rfl⟩) | (go_at_call_of 41 (Value.agg #[.bool true, sb]); refine (HR2.out _ (hb.below (by go_grown))).mono ?_; rintro e w' ⟨rfl, rfl⟩))
  go_returns
  exact ⟨rfl, by go_grown⟩

/-- The reference's Cmp of right numbers. -/
theorem cmp43_any {w : World} {x y : Value} {a b : Int} (hx : Nu w x a) (hy : Nu w y b) : Calls Tryz.prog 43 #[x, y] w fun e w' => e = .returned (.int .i64 (cmpZ a b)) ∧ Below w.heap.size w w' := by
  by_cases h1 : 0 ≤ a <;> by_cases h2 : 0 ≤ b
  · exact cmp43_pp hx hy h1 h2
  · exact cmp43_pn hx hy h1 (by omega)
  · exact cmp43_np hx hy (by omega) h2
  · exact cmp43_nn hx hy (by omega) (by omega)

end Go.Proofs.YtdgmjmckeeeljaaGreatDoor

namespace Go.Proofs.YtdgmjmckeeeljaaGreatDoor
open Go.RowKit

theorem plus49_at {w : World} {va vb : Value} {x y n : Nat} (ha : Sl w va (digs x)) (hb : Sl w vb (digs y)) (hla : (digs x).length ≤ 256) (hlb : (digs y).length ≤ 256) (hn : (digs (x + y)).length = n) :
    Calls Tryz.prog 49 #[va, vb] w fun e w' => ∃ ao cap, e = .returned (.slice ao n cap) ∧ Sw w.heap.size w' (.slice ao n cap) (digs (x + y)) ∧ Below w.heap.size w w' := by
  have h := plus49_any ha hb (by omega) (by omega)
  rw [val_digs, val_digs] at h
  refine h.mono ?_
  rintro e w' ⟨v, rfl, hs, hbl⟩
  obtain ⟨ao, cap, rfl⟩ := hs.sl.mk'
  subst hn
  exact ⟨ao, cap, rfl, hs, hbl⟩

theorem minus50_at {w : World} {va vb : Value} {x y n : Nat} (ha : Sl w va (digs x)) (hb : Sl w vb (digs y)) (hla : (digs x).length ≤ 256) (hlb : (digs y).length ≤ 256) (hle : y ≤ x) (hn : (digs (x - y)).length = n) :
    Calls Tryz.prog 50 #[va, vb] w fun e w' => ∃ ao cap, e = .returned (.slice ao n cap) ∧ Sw w.heap.size w' (.slice ao n cap) (digs (x - y)) ∧ Below w.heap.size w w' := by
  have h := minus50_any ha hb (by omega) (by omega) (by rw [val_digs, val_digs]; exact hle)
  rw [val_digs, val_digs] at h
  refine h.mono ?_
  rintro e w' ⟨v, rfl, hs, hbl⟩
  obtain ⟨ao, cap, rfl⟩ := hs.sl.mk'
  subst hn
  exact ⟨ao, cap, rfl, hs, hbl⟩

theorem signed36_at {w : World} {v : Value} {x : Nat} {z : Int} (neg : Bool) (h : Sl w v (digs x)) (hz : z = if neg = true then -(x : Int) else (x : Int)) : Calls Tryz.prog 36 #[.bool neg, v] w (NumRes w z) := by
  have := rsigned_any neg h
  rw [val_digs] at this
  rw [hz]
  exact this

set_option maxRecDepth 10000 in
set_option maxHeartbeats 1000000 in
theorem add37_same {w : World} {x y : Value} {a b : Int} (hx : Nu w x a) (hy : Nu w y b) (hs : decide (a < 0) = decide (b < 0)) :
    Calls Tryz.prog 37 #[x, y] w (NumRes w (a + b)) := by
  obtain ⟨sa, rfl, ha, la⟩ := hx
  obtain ⟨sb, rfl, hb, lb⟩ := hy
  have ra := rightB_digs a la
  have rb := rightB_digs b lb
  obtain ⟨na, hna⟩ : ∃ na, na = decide (a < 0) := ⟨_, rfl⟩
  obtain ⟨nb, hnb⟩ : ∃ nb, nb = decide (b < 0) := ⟨_, rfl⟩
  rw [← hna] at ra ⊢
  rw [← hnb] at rb ⊢
  have HNA := Lib.hid hna
  have HNB := Lib.hid hnb
  clear hna hnb
  have R1 : ∀ W, Sl W sa (digs a.natAbs) → Calls Tryz.prog 41 #[.agg #[.bool na, sa]] W fun e w' => e = .returned (.bool true) ∧ w' = W.alloc (.cells #[.bool na, sa] 27) := fun W h => by have := right41_any na h (by omega); rwa [ra] at this
  have R2 : ∀ W, Sl W sb (digs b.natAbs) → Calls Tryz.prog 41 #[.agg #[.bool nb, sb]] W fun e w' => e = .returned (.bool true) ∧ w' = W.alloc (.cells #[.bool nb, sb] 27) := fun W h => by have := right41_any nb h (by omega); rwa [rb] at this
  have HR1 := Lib.hid R1
  have HR2 := Lib.hid R2
  clear R1 R2 ra rb
  have hab : (a + b).natAbs = a.natAbs + b.natAbs := by
    by_cases h : a < 0 <;> by_cases h2 : b < 0 <;> simp [h, h2] at hs <;> omega
  have hsg : a + b ≠ 0 → decide (a < 0) = decide (a + b < 0) := by
    by_cases h : a < 0 <;> by_cases h2 : b < 0 <;> simp [h, h2] at hs ⊢ <;> omega
  have hzz : a + b = if na = true then -((a.natAbs + b.natAbs : Nat) : Int) else ((a.natAbs + b.natAbs : Nat) : Int) := by
    rw [HNA.out]
    by_cases h : a < 0 <;> by_cases h2 : b < 0 <;> simp [h, h2] at hs ⊢ <;> omega
  have HAB := Lib.hid hab
  have HSG := Lib.hid hsg
  obtain rfl : nb = na := by rw [HNA.out, HNB.out, hs]
  have HZZ := Lib.hid hzz
  clear hs hab hsg hzz
  go_enter Tryz.func37, Tryz.ntmps37
  go_wp2_with (first | (go_at_call_of 41 (Value.agg #[.bool nb, sa]); refine (HR1.out _ (ha.below (by go_grown))).mono ?_; rintro e w' ⟨rfl, rfl⟩) | (go_at_call_of 41 (Value.agg #[.bool nb, sb]); refine (HR2.out _ (hb.below (by go_grown))).mono ?_; rintro e w' ⟨rfl, rfl⟩))
  have HB : Box3 ((((w.alloc (.cells #[.bool nb, sa] 27)).alloc (.cells #[.bool nb, sb] 27)).alloc (.cells #[.bool false, .slice none 0 0] 27)).alloc (.cells #[.bool nb, sa] 27) |>.alloc (.cells #[.bool nb, sb] 27)) w.heap.size nb nb sa sb a.natAbs b.natAbs :=
    box3_new ha hb (by go_grown)
  have HBL : Below w.heap.size w ((((w.alloc (.cells #[.bool nb, sa] 27)).alloc (.cells #[.bool nb, sb] 27)).alloc (.cells #[.bool false, .slice none 0 0] 27)).alloc (.cells #[.bool nb, sa] 27) |>.alloc (.cells #[.bool nb, sb] 27)) := by go_grown
  revert HB HBL
  generalize ((((w.alloc (.cells #[.bool nb, sa] 27)).alloc (.cells #[.bool nb, sb] 27)).alloc (.cells #[.bool false, .slice none 0 0] 27)).alloc (.cells #[.bool nb, sa] 27) |>.alloc (.cells #[.bool nb, sb] 27)) = W
  intro HB HBL
  have a0 := HB.a0
  have a1 := HB.a1
  have b0 := HB.b0
  have b1 := HB.b1
  obtain ⟨n, hn⟩ : ∃ n, n = (digs (a.natAbs + b.natAbs)).length := ⟨_, rfl⟩
  have HN := Lib.hid hn
  clear hn
  go_region_held3 (fun w' => w'.cell? ⟨w.heap.size, 0, none⟩ = some (.bool nb) ∧ w'.cell? ⟨w.heap.size, 1, none⟩ = some sa ∧ w'.cell? ⟨w.heap.size + 1, 0, none⟩ = some (.bool nb) ∧ w'.cell? ⟨w.heap.size + 1, 1, none⟩ = some sb)
      (first | (exact HB.keep (by go_grown)) | (exact HB.keep (hbw.alloc hbw0 _)) | (exact HB.keep ((hbw.alloc hbw0 _).setCell (by simp) _)) | (exact HB.keep hbw2) | (exact HB.keep (hbw2.setCell (by simp) _)))
      ((first | (go_at_call 49; refine (plus49_at (HB.below (by go_grown)).sa (HB.below (by go_grown)).sb la lb HN.out.symm).mono ?_; rintro e w1 ⟨ao, cap, rfl, hs1, hb1⟩; have hb1' : Below W.heap.size W w1 := Below.trans (by go_grown) hb1; have HB1 := HB.below hb1'; obtain ⟨r0, r1, f0, f1⟩ := HB1.cells; have hz := HB1.lt; have hbw := hb1'.mono (Nat.le_of_lt HB.lt); have hbw0 := Nat.le_of_lt hz) | (go_at_call 36; refine (signed36_at _ hs1.sl HZZ.out).mono ?_; rintro e w2 ⟨neg2, ao2, n2, cap2, rfl, hb2, hyes, hno⟩; have hb2' : Below W.heap.size W w2 := Below.trans hb1' (hb2.mono (by have := hb1'.size; omega)); have HB2 := HB.below hb2'; obtain ⟨r2, r3, f2, f3⟩ := HB2.cells; have hz2 := HB2.lt; have hbw2 := hb2'.mono (Nat.le_of_lt HB.lt); have hbw20 := Nat.le_of_lt hz2)))
  have hfin : Below w.heap.size w ((w2.setCell ⟨w.heap.size + 1 + 1, 0, none⟩ (.bool neg2)).setCell ⟨w.heap.size + 1 + 1, 1, none⟩ (.slice ao2 n2 cap2)) :=
    ((HBL.trans (hb2'.mono (by have := HB.lt; omega))).setCell (by simp; omega) _).setCell (by simp; omega) _
  obtain ⟨q0, q1⟩ := (show ResBox w2 (w.heap.size + 1 + 1) from HB2.r).stored (.bool neg2) (.slice ao2 n2 cap2)
  have hsw := fun hf => ((hyes hf).2.after2 (g := w.heap.size + 1 + 1) hz (.bool neg2) (.slice ao2 n2 cap2)).mono (B' := w.heap.size) (by omega)
  have HSW := Lib.hid hsw
  have HY := Lib.hid hyes
  have HNO := Lib.hid hno
  clear hsw hyes hno
  go_wp2
  refine bodyPost_ret (v := .tuple #[.agg #[.bool neg2, .slice ao2 n2 cap2], .bool (fitsB (a + b).natAbs)]) (by simp [results, Tryz.results37, go_sem, q0, q1]) rfl ?_
  exact ⟨_, _, _, _, rfl, hfin, fun hf => ⟨(HY.out hf).1, HSW.out hf⟩, HNO.out⟩

set_option maxRecDepth 10000 in
set_option maxHeartbeats 1000000 in
theorem add37_lt {w : World} {x y : Value} {a b : Int} (hx : Nu w x a) (hy : Nu w y b) (hs : decide (a < 0) ≠ decide (b < 0)) (hc : a.natAbs < b.natAbs) :
    Calls Tryz.prog 37 #[x, y] w (NumRes w (a + b)) := by
  obtain ⟨sa, rfl, ha, la⟩ := hx
  obtain ⟨sb, rfl, hb, lb⟩ := hy
  have ra := rightB_digs a la
  have rb := rightB_digs b lb
  obtain ⟨na, hna⟩ : ∃ na, na = decide (a < 0) := ⟨_, rfl⟩
  obtain ⟨nb, hnb⟩ : ∃ nb, nb = decide (b < 0) := ⟨_, rfl⟩
  rw [← hna] at ra ⊢
  rw [← hnb] at rb ⊢
  have HNA := Lib.hid hna
  have HNB := Lib.hid hnb
  clear hna hnb
  have R1 : ∀ W, Sl W sa (digs a.natAbs) → Calls Tryz.prog 41 #[.agg #[.bool na, sa]] W fun e w' => e = .returned (.bool true) ∧ w' = W.alloc (.cells #[.bool na, sa] 27) := fun W h => by have := right41_any na h (by omega); rwa [ra] at this
  have R2 : ∀ W, Sl W sb (digs b.natAbs) → Calls Tryz.prog 41 #[.agg #[.bool nb, sb]] W fun e w' => e = .returned (.bool true) ∧ w' = W.alloc (.cells #[.bool nb, sb] 27) := fun W h => by have := right41_any nb h (by omega); rwa [rb] at this
  have HR1 := Lib.hid R1
  have HR2 := Lib.hid R2
  clear R1 R2 ra rb
  have hab : (a + b).natAbs = b.natAbs - a.natAbs := by
    by_cases h : a < 0 <;> by_cases h2 : b < 0 <;> simp [h, h2] at hs <;> omega
  have hsg : a + b ≠ 0 → decide (b < 0) = decide (a + b < 0) := by
    by_cases h : a < 0 <;> by_cases h2 : b < 0 <;> simp [h, h2] at hs ⊢ <;> omega
  have hzz : a + b = if nb = true then -((b.natAbs - a.natAbs : Nat) : Int) else ((b.natAbs - a.natAbs : Nat) : Int) := by
    rw [HNB.out]
    by_cases h : a < 0 <;> by_cases h2 : b < 0 <;> simp [h, h2] at hs ⊢ <;> omega
  have HZZ := Lib.hid hzz
  clear hzz
  have HAB := Lib.hid hab
  have HSG := Lib.hid hsg
  have hne : (na == nb) = false := by rw [HNA.out, HNB.out]; simpa using hs
  have hcm : cmpN a.natAbs b.natAbs < 0 := by rw [cmpN_lt hc]; decide
  clear hs hab hsg
  go_enter Tryz.func37, Tryz.ntmps37
  go_wp2_with (first | (go_at_call_of 41 (Value.agg #[.bool na, sa]); refine (HR1.out _ (ha.below (by go_grown))).mono ?_; rintro e w' ⟨rfl, rfl⟩) | (go_at_call_of 41 (Value.agg #[.bool nb, sb]); refine (HR2.out _ (hb.below (by go_grown))).mono ?_; rintro e w' ⟨rfl, rfl⟩))
  have HB : Box3 ((((w.alloc (.cells #[.bool na, sa] 27)).alloc (.cells #[.bool nb, sb] 27)).alloc (.cells #[.bool false, .slice none 0 0] 27)).alloc (.cells #[.bool na, sa] 27) |>.alloc (.cells #[.bool nb, sb] 27)) w.heap.size na nb sa sb a.natAbs b.natAbs :=
    box3_new ha hb (by go_grown)
  have HBL : Below w.heap.size w ((((w.alloc (.cells #[.bool na, sa] 27)).alloc (.cells #[.bool nb, sb] 27)).alloc (.cells #[.bool false, .slice none 0 0] 27)).alloc (.cells #[.bool na, sa] 27) |>.alloc (.cells #[.bool nb, sb] 27)) := by go_grown
  revert HB HBL
  generalize ((((w.alloc (.cells #[.bool na, sa] 27)).alloc (.cells #[.bool nb, sb] 27)).alloc (.cells #[.bool false, .slice none 0 0] 27)).alloc (.cells #[.bool na, sa] 27) |>.alloc (.cells #[.bool nb, sb] 27)) = W
  intro HB HBL
  go_wp2_with (go_at_call 71; refine (compare71_any HB.sa HB.sb (by omega) (by omega)).mono ?_; rintro e W5 ⟨rfl, hbW⟩)
  replace HBL := HBL.trans (hbW.mono HBL.size)
  replace HB := HB.below hbW
  clear hbW
  obtain ⟨W, rfl⟩ : ∃ W, W = W5 := ⟨_, rfl⟩
  have a0 := HB.a0
  have a1 := HB.a1
  have b0 := HB.b0
  have b1 := HB.b1
  obtain ⟨n, hn⟩ : ∃ n, n = (digs (b.natAbs - a.natAbs)).length := ⟨_, rfl⟩
  have HN := Lib.hid hn
  clear hn
  go_region_held3 (fun w' => w'.cell? ⟨w.heap.size, 0, none⟩ = some (.bool na) ∧ w'.cell? ⟨w.heap.size, 1, none⟩ = some sa ∧ w'.cell? ⟨w.heap.size + 1, 0, none⟩ = some (.bool nb) ∧ w'.cell? ⟨w.heap.size + 1, 1, none⟩ = some sb)
      (first | (exact HB.keep (by go_grown)) | (exact HB.keep (hbw.alloc hbw0 _)) | (exact HB.keep ((hbw.alloc hbw0 _).setCell (by simp) _)) | (exact HB.keep hbw2) | (exact HB.keep (hbw2.setCell (by simp) _)))
      ((first | (go_at_call 50; refine (minus50_at (HB.below (by go_grown)).sb (HB.below (by go_grown)).sa lb la (by omega) HN.out.symm).mono ?_; rintro e w1 ⟨ao, cap, rfl, hs1, hb1⟩; have hb1' : Below W.heap.size W w1 := Below.trans (by go_grown) hb1; have HB1 := HB.below hb1'; obtain ⟨r0, r1, f0, f1⟩ := HB1.cells; have hz := HB1.lt; have hbw := hb1'.mono (Nat.le_of_lt HB.lt); have hbw0 := Nat.le_of_lt hz) | (go_at_call 36; refine (signed36_at _ hs1.sl HZZ.out).mono ?_; rintro e w2 ⟨neg2, ao2, n2, cap2, rfl, hb2, hyes, hno⟩; have hb2' : Below W.heap.size W w2 := Below.trans hb1' (hb2.mono (by have := hb1'.size; omega)); have HB2 := HB.below hb2'; obtain ⟨r2, r3, f2, f3⟩ := HB2.cells; have hz2 := HB2.lt; have hbw2 := hb2'.mono (Nat.le_of_lt HB.lt); have hbw20 := Nat.le_of_lt hz2)))
  have hfin : Below w.heap.size w ((w2.setCell ⟨w.heap.size + 1 + 1, 0, none⟩ (.bool neg2)).setCell ⟨w.heap.size + 1 + 1, 1, none⟩ (.slice ao2 n2 cap2)) :=
    ((HBL.trans (hb2'.mono (by have := HB.lt; omega))).setCell (by simp; omega) _).setCell (by simp; omega) _
  obtain ⟨q0, q1⟩ := (show ResBox w2 (w.heap.size + 1 + 1) from HB2.r).stored (.bool neg2) (.slice ao2 n2 cap2)
  have hsw := fun hf => ((hyes hf).2.after2 (g := w.heap.size + 1 + 1) hz (.bool neg2) (.slice ao2 n2 cap2)).mono (B' := w.heap.size) (by omega)
  have HSW := Lib.hid hsw
  have HY := Lib.hid hyes
  have HNO := Lib.hid hno
  clear hsw hyes hno
  go_wp2
  refine bodyPost_ret (v := .tuple #[.agg #[.bool neg2, .slice ao2 n2 cap2], .bool (fitsB (a + b).natAbs)]) (by simp [results, Tryz.results37, go_sem, q0, q1]) rfl ?_
  exact ⟨_, _, _, _, rfl, hfin, fun hf => ⟨(HY.out hf).1, HSW.out hf⟩, HNO.out⟩

set_option maxRecDepth 10000 in
set_option maxHeartbeats 1000000 in
theorem add37_ge {w : World} {x y : Value} {a b : Int} (hx : Nu w x a) (hy : Nu w y b) (hs : decide (a < 0) ≠ decide (b < 0)) (hc : b.natAbs ≤ a.natAbs) :
    Calls Tryz.prog 37 #[x, y] w (NumRes w (a + b)) := by
  obtain ⟨sa, rfl, ha, la⟩ := hx
  obtain ⟨sb, rfl, hb, lb⟩ := hy
  have ra := rightB_digs a la
  have rb := rightB_digs b lb
  obtain ⟨na, hna⟩ : ∃ na, na = decide (a < 0) := ⟨_, rfl⟩
  obtain ⟨nb, hnb⟩ : ∃ nb, nb = decide (b < 0) := ⟨_, rfl⟩
  rw [← hna] at ra ⊢
  rw [← hnb] at rb ⊢
  have HNA := Lib.hid hna
  have HNB := Lib.hid hnb
  clear hna hnb
  have R1 : ∀ W, Sl W sa (digs a.natAbs) → Calls Tryz.prog 41 #[.agg #[.bool na, sa]] W fun e w' => e = .returned (.bool true) ∧ w' = W.alloc (.cells #[.bool na, sa] 27) := fun W h => by have := right41_any na h (by omega); rwa [ra] at this
  have R2 : ∀ W, Sl W sb (digs b.natAbs) → Calls Tryz.prog 41 #[.agg #[.bool nb, sb]] W fun e w' => e = .returned (.bool true) ∧ w' = W.alloc (.cells #[.bool nb, sb] 27) := fun W h => by have := right41_any nb h (by omega); rwa [rb] at this
  have HR1 := Lib.hid R1
  have HR2 := Lib.hid R2
  clear R1 R2 ra rb
  have hab : (a + b).natAbs = a.natAbs - b.natAbs := by
    by_cases h : a < 0 <;> by_cases h2 : b < 0 <;> simp [h, h2] at hs <;> omega
  have hsg : a + b ≠ 0 → decide (a < 0) = decide (a + b < 0) := by
    by_cases h : a < 0 <;> by_cases h2 : b < 0 <;> simp [h, h2] at hs ⊢ <;> omega
  have hzz : a + b = if na = true then -((a.natAbs - b.natAbs : Nat) : Int) else ((a.natAbs - b.natAbs : Nat) : Int) := by
    rw [HNA.out]
    by_cases h : a < 0 <;> by_cases h2 : b < 0 <;> simp [h, h2] at hs ⊢ <;> omega
  have HZZ := Lib.hid hzz
  clear hzz
  have HAB := Lib.hid hab
  have HSG := Lib.hid hsg
  have hne : (na == nb) = false := by rw [HNA.out, HNB.out]; simpa using hs
  have hcm : 0 ≤ cmpN a.natAbs b.natAbs := by unfold cmpN; rw [if_neg (by omega)]; split <;> decide
  clear hs hab hsg
  go_enter Tryz.func37, Tryz.ntmps37
  go_wp2_with (first | (go_at_call_of 41 (Value.agg #[.bool na, sa]); refine (HR1.out _ (ha.below (by go_grown))).mono ?_; rintro e w' ⟨rfl, rfl⟩) | (go_at_call_of 41 (Value.agg #[.bool nb, sb]); refine (HR2.out _ (hb.below (by go_grown))).mono ?_; rintro e w' ⟨rfl, rfl⟩))
  have HB : Box3 ((((w.alloc (.cells #[.bool na, sa] 27)).alloc (.cells #[.bool nb, sb] 27)).alloc (.cells #[.bool false, .slice none 0 0] 27)).alloc (.cells #[.bool na, sa] 27) |>.alloc (.cells #[.bool nb, sb] 27)) w.heap.size na nb sa sb a.natAbs b.natAbs :=
    box3_new ha hb (by go_grown)
  have HBL : Below w.heap.size w ((((w.alloc (.cells #[.bool na, sa] 27)).alloc (.cells #[.bool nb, sb] 27)).alloc (.cells #[.bool false, .slice none 0 0] 27)).alloc (.cells #[.bool na, sa] 27) |>.alloc (.cells #[.bool nb, sb] 27)) := by go_grown
  revert HB HBL
  generalize ((((w.alloc (.cells #[.bool na, sa] 27)).alloc (.cells #[.bool nb, sb] 27)).alloc (.cells #[.bool false, .slice none 0 0] 27)).alloc (.cells #[.bool na, sa] 27) |>.alloc (.cells #[.bool nb, sb] 27)) = W
  intro HB HBL
  go_wp2_with (go_at_call 71; refine (compare71_any HB.sa HB.sb (by omega) (by omega)).mono ?_; rintro e W5 ⟨rfl, hbW⟩)
  replace HBL := HBL.trans (hbW.mono HBL.size)
  replace HB := HB.below hbW
  clear hbW
  obtain ⟨W, rfl⟩ : ∃ W, W = W5 := ⟨_, rfl⟩
  have a0 := HB.a0
  have a1 := HB.a1
  have b0 := HB.b0
  have b1 := HB.b1
  obtain ⟨n, hn⟩ : ∃ n, n = (digs (a.natAbs - b.natAbs)).length := ⟨_, rfl⟩
  have HN := Lib.hid hn
  clear hn
  go_region_held3 (fun w' => w'.cell? ⟨w.heap.size, 0, none⟩ = some (.bool na) ∧ w'.cell? ⟨w.heap.size, 1, none⟩ = some sa ∧ w'.cell? ⟨w.heap.size + 1, 0, none⟩ = some (.bool nb) ∧ w'.cell? ⟨w.heap.size + 1, 1, none⟩ = some sb)
      (first | (exact HB.keep (by go_grown)) | (exact HB.keep (hbw.alloc hbw0 _)) | (exact HB.keep ((hbw.alloc hbw0 _).setCell (by simp) _)) | (exact HB.keep hbw2) | (exact HB.keep (hbw2.setCell (by simp) _)))
      ((first | (go_at_call 50; refine (minus50_at (HB.below (by go_grown)).sa (HB.below (by go_grown)).sb la lb (by omega) HN.out.symm).mono ?_; rintro e w1 ⟨ao, cap, rfl, hs1, hb1⟩; have hb1' : Below W.heap.size W w1 := Below.trans (by go_grown) hb1; have HB1 := HB.below hb1'; obtain ⟨r0, r1, f0, f1⟩ := HB1.cells; have hz := HB1.lt; have hbw := hb1'.mono (Nat.le_of_lt HB.lt); have hbw0 := Nat.le_of_lt hz) | (go_at_call 36; refine (signed36_at _ hs1.sl HZZ.out).mono ?_; rintro e w2 ⟨neg2, ao2, n2, cap2, rfl, hb2, hyes, hno⟩; have hb2' : Below W.heap.size W w2 := Below.trans hb1' (hb2.mono (by have := hb1'.size; omega)); have HB2 := HB.below hb2'; obtain ⟨r2, r3, f2, f3⟩ := HB2.cells; have hz2 := HB2.lt; have hbw2 := hb2'.mono (Nat.le_of_lt HB.lt); have hbw20 := Nat.le_of_lt hz2)))
  have hfin : Below w.heap.size w ((w2.setCell ⟨w.heap.size + 1 + 1, 0, none⟩ (.bool neg2)).setCell ⟨w.heap.size + 1 + 1, 1, none⟩ (.slice ao2 n2 cap2)) :=
    ((HBL.trans (hb2'.mono (by have := HB.lt; omega))).setCell (by simp; omega) _).setCell (by simp; omega) _
  obtain ⟨q0, q1⟩ := (show ResBox w2 (w.heap.size + 1 + 1) from HB2.r).stored (.bool neg2) (.slice ao2 n2 cap2)
  have hsw := fun hf => ((hyes hf).2.after2 (g := w.heap.size + 1 + 1) hz (.bool neg2) (.slice ao2 n2 cap2)).mono (B' := w.heap.size) (by omega)
  have HSW := Lib.hid hsw
  have HY := Lib.hid hyes
  have HNO := Lib.hid hno
  clear hsw hyes hno
  go_wp2
  refine bodyPost_ret (v := .tuple #[.agg #[.bool neg2, .slice ao2 n2 cap2], .bool (fitsB (a + b).natAbs)]) (by simp [results, Tryz.results37, go_sem, q0, q1]) rfl ?_
  exact ⟨_, _, _, _, rfl, hfin, fun hf => ⟨(HY.out hf).1, HSW.out hf⟩, HNO.out⟩

/-- The reference's Add of right numbers. -/
theorem add37_any {w : World} {x y : Value} {a b : Int} (hx : Nu w x a) (hy : Nu w y b) : Calls Tryz.prog 37 #[x, y] w (NumRes w (a + b)) := by
  by_cases hs : decide (a < 0) = decide (b < 0)
  · exact add37_same hx hy hs
  · rcases Nat.lt_or_ge a.natAbs b.natAbs with h | h
    · exact add37_lt hx hy hs h
    · exact add37_ge hx hy hs h

end Go.Proofs.YtdgmjmckeeeljaaGreatDoor

namespace Go.Proofs.YtdgmjmckeeeljaaGreatDoor
open Go.RowKit

set_option maxRecDepth 10000 in
set_option maxHeartbeats 1000000 in
theorem negated72_any (w : World) (nb : Bool) (ab : Option Addr) (m cb : Nat) (hm : m ≤ 256) :
    Calls Tryz.prog 72 #[.agg #[.bool nb, .slice ab m cb]] w fun e w' => e = .returned (.agg #[.bool (!nb && decide (0 < m)), .slice ab m cb]) ∧ Below w.heap.size w w' := by
  cases nb
  · rcases Nat.eq_zero_or_pos m with rfl | h
    · go_enter Tryz.func72, Tryz.ntmps72
      go_wp2
      go_returns
      exact ⟨by simp, by go_grown⟩
    · have e : (0 : Int) < m := by omega
      go_enter Tryz.func72, Tryz.ntmps72
      go_wp2
      go_returns
      exact ⟨by simp [h], by go_grown⟩
  · go_enter Tryz.func72, Tryz.ntmps72
    go_wp2
    go_returns
    exact ⟨by simp, by go_grown⟩

set_option maxRecDepth 10000 in
set_option maxHeartbeats 1000000 in
theorem sub38_any {w : World} {x y : Value} {a b : Int} (hx : Nu w x a) (hy : Nu w y b) : Calls Tryz.prog 38 #[x, y] w (NumRes w (a - b)) := by
  have hx' := hx
  obtain ⟨sa, rfl, ha, la⟩ := hx
  obtain ⟨sb, rfl, hb, lb⟩ := hy
  obtain ⟨ab, cb, rfl⟩ := hb.mk'
  have rb := rightB_digs b lb
  have hnn : Nu w (.agg #[.bool (!(decide (b < 0)) && decide (0 < (digs b.natAbs).length)), .slice ab (digs b.natAbs).length cb]) (-b) := by
    by_cases h0 : b = 0
    · subst h0
      have e : digs (Int.natAbs 0) = [] := digs_zero
      rw [e] at hb ⊢
      exact ⟨_, rfl, by rw [show Int.natAbs (-0) = 0 from rfl, digs_zero]; exact hb, by rw [show Int.natAbs (-0) = 0 from rfl, digs_zero]; simp⟩
    · have hp : 0 < (digs b.natAbs).length := by
        rcases Nat.eq_zero_or_pos (digs b.natAbs).length with h | h
        · have : digs b.natAbs = [] := List.eq_nil_of_length_eq_zero h
          have : b.natAbs = 0 := digs_inj (by rw [this, digs_zero])
          omega
        · exact h
      have := Nu.neg hb lb h0
      rwa [show (!(decide (b < 0)) && decide (0 < (digs b.natAbs).length)) = !(decide (b < 0)) by simp [hp]]
  obtain ⟨na, hna⟩ : ∃ na, na = decide (a < 0) := ⟨_, rfl⟩
  obtain ⟨nb, hnb⟩ : ∃ nb, nb = decide (b < 0) := ⟨_, rfl⟩
  obtain ⟨m, hm⟩ : ∃ m, m = (digs b.natAbs).length := ⟨_, rfl⟩
  rw [← hna] at hx'
  rw [← hnb] at rb
  rw [← hnb, ← hm] at hnn
  rw [← hna, ← hnb, ← hm]
  have R2 : ∀ W, Sl W (.slice ab m cb) (digs b.natAbs) → Calls Tryz.prog 41 #[.agg #[.bool nb, .slice ab m cb]] W fun e w' => e = .returned (.bool true) ∧ w' = W.alloc (.cells #[.bool nb, .slice ab m cb] 27) := fun W h => by have := right41_any nb h (by omega); rwa [rb] at this
  have HR2 := Lib.hid R2
  rw [← hm] at hb lb
  have HNG : Hid (∀ W, Calls Tryz.prog 72 #[.agg #[.bool nb, .slice ab m cb]] W fun e w' => e = .returned (.agg #[.bool (!nb && decide (0 < m)), .slice ab m cb]) ∧ Below W.heap.size W w') := Lib.hid fun W => negated72_any W nb ab m cb lb
  obtain ⟨nn, hn2⟩ : ∃ nn, nn = (!nb && decide (0 < m)) := ⟨_, rfl⟩
  rw [← hn2] at hnn HNG
  have e1 : a + -b = a - b := by omega
  have HAD : Hid (∀ W, Below w.heap.size w W → Calls Tryz.prog 37 #[.agg #[.bool na, sa], .agg #[.bool nn, .slice ab m cb]] W (NumRes W (a - b))) := Lib.hid fun W h => by have := add37_any (hx'.below h) (hnn.below h); rwa [e1] at this
  have HB := Lib.hid hb
  have HA := Lib.hid ha
  clear R2 rb hnn hx' hna hnb hm hn2 e1 ha hb la
  go_enter Tryz.func38, Tryz.ntmps38
  go_wp2_with (go_at_call 41; refine (HR2.out _ (HB.out.below (by go_grown))).mono ?_; rintro e w' ⟨rfl, rfl⟩)
  have HB3 : Box3 ((((w.alloc (.cells #[.bool na, sa] 27)).alloc (.cells #[.bool nb, .slice ab m cb] 27)).alloc (.cells #[.bool false, .slice none 0 0] 27)).alloc (.cells #[.bool nb, .slice ab m cb] 27)) w.heap.size na nb sa (.slice ab m cb) a.natAbs b.natAbs :=
    box3_new HA.out HB.out (by go_grown)
  have HBL : Below w.heap.size w ((((w.alloc (.cells #[.bool na, sa] 27)).alloc (.cells #[.bool nb, .slice ab m cb] 27)).alloc (.cells #[.bool false, .slice none 0 0] 27)).alloc (.cells #[.bool nb, .slice ab m cb] 27)) := by go_grown
  revert HB3 HBL
  generalize ((((w.alloc (.cells #[.bool na, sa] 27)).alloc (.cells #[.bool nb, .slice ab m cb] 27)).alloc (.cells #[.bool false, .slice none 0 0] 27)).alloc (.cells #[.bool nb, .slice ab m cb] 27)) = W
  intro HB3 HBL
  have a0 := HB3.a0
  have a1 := HB3.a1
  have b0 := HB3.b0
  have b1 := HB3.b1
  go_region_held3 (fun w' => w'.cell? ⟨w.heap.size, 0, none⟩ = some (.bool na) ∧ w'.cell? ⟨w.heap.size, 1, none⟩ = some sa ∧ w'.cell? ⟨w.heap.size + 1, 0, none⟩ = some (.bool nb) ∧ w'.cell? ⟨w.heap.size + 1, 1, none⟩ = some (.slice ab m cb))
      (first | (exact HB3.keep (by go_grown)) | (exact HB3.keep hbw) | (exact HB3.keep hbw2) | (exact HB3.keep (hbw2.setCell (by simp) _)))
      ((first | (go_at_call 72; refine (HNG.out _).mono ?_; rintro e w1 ⟨rfl, hb1⟩; have hb1' : Below W.heap.size W w1 := Below.trans (by go_grown) hb1; have hbw := hb1'.mono (Nat.le_of_lt HB3.lt)) | (go_at_call 37; refine (HAD.out _ (HBL.trans (hb1'.mono HBL.size))).mono ?_; rintro e w2 ⟨neg2, ao2, n2, cap2, rfl, hb2, hyes, hno⟩; have hb2' : Below W.heap.size W w2 := Below.trans hb1' (hb2.mono (by have := hb1'.size; omega)); have HB2 := HB3.below hb2'; obtain ⟨r2, r3, f2, f3⟩ := HB2.cells; have hz2 := HB2.lt; have hbw2 := hb2'.mono (Nat.le_of_lt HB3.lt); have hbw20 := Nat.le_of_lt hz2)))
  have hfin : Below w.heap.size w ((w2.setCell ⟨w.heap.size + 1 + 1, 0, none⟩ (.bool neg2)).setCell ⟨w.heap.size + 1 + 1, 1, none⟩ (.slice ao2 n2 cap2)) :=
    ((HBL.trans (hb2'.mono (by have := HB3.lt; omega))).setCell (by simp; omega) _).setCell (by simp; omega) _
  obtain ⟨q0, q1⟩ := (show ResBox w2 (w.heap.size + 1 + 1) from HB2.r).stored (.bool neg2) (.slice ao2 n2 cap2)
  have hz := (HB3.below hb1').lt
  have hsw := fun hf => ((hyes hf).2.after2 (g := w.heap.size + 1 + 1) hz (.bool neg2) (.slice ao2 n2 cap2)).mono (B' := w.heap.size) (by omega)
  have HSW := Lib.hid hsw
  have HY := Lib.hid hyes
  have HNO := Lib.hid hno
  clear hsw hyes hno
  go_wp2
  refine bodyPost_ret (v := .tuple #[.agg #[.bool neg2, .slice ao2 n2 cap2], .bool (fitsB (a - b).natAbs)]) (by simp [results, Tryz.results38, go_sem, q0, q1]) rfl ?_
  exact ⟨_, _, _, _, rfl, hfin, fun hf => ⟨(HY.out hf).1, HSW.out hf⟩, HNO.out⟩


end Go.Proofs.YtdgmjmckeeeljaaGreatDoor

namespace Go.Proofs.YtdgmjmckeeeljaaGreatDoor
open Go.RowKit

theorem InnerRel.drew {U x T i n m g : Nat} {w : World} {c jv : Value} {wr : World} (h : InnerRel U x T i n m g w c jv wr) : InnerRel U x T i n m g w c jv wr.drew := by
  obtain ⟨j, cv, zs, h1, h2, h3, h4, h5, hr, hb, h6, h7, h8⟩ := h
  exact ⟨j, cv, zs, h1, h2, h3, h4, h5, hr, hb.drew, h6, h7, h8⟩

set_option maxHeartbeats 1000000 in
theorem times54_any {w : World} {va vb : Value} {xs ys : List Nat} (ha : Sl w va xs) (hb : Sl w vb ys) (hla : 4 * xs.length ≤ 140737488351232) (hlb : 4 * ys.length ≤ 140737488351232) :
    Calls Tryz.prog 54 #[va, vb] w (NewDigs w (val xs * val ys)) := by
  obtain ⟨aa, ca, rfl⟩ := ha.mk'
  obtain ⟨ab, cb, rfl⟩ := hb.mk'
  have hV := val_lt ha.bd
  have hU := val_lt hb.bd
  obtain ⟨n, hn⟩ : ∃ n : Nat, n = xs.length := ⟨_, rfl⟩
  obtain ⟨m, hm⟩ : ∃ m : Nat, m = ys.length := ⟨_, rfl⟩
  rw [← hn] at hla hV ha ⊢
  rw [← hm] at hlb hU hb ⊢
  have HV := Lib.hid hV
  have HU := Lib.hid hU
  have HN := Lib.hid hn
  have HM := Lib.hid hm
  clear hV hU hn hm
  go_enter Tryz.func54, Tryz.ntmps54
  go_wp2_with (at_make; go_must (refine wpList_make_row _ rfl _ _ rfl _ _ _ _ (n + m) rfl rfl (by omega) (by omega) (by omega) ?_; intro w1 hrow hbel))
  go_loopw [6] (fun i wr => TimesRel (val xs) (val ys) n m w.heap.size w i wr) (fun i _ => n - (intOf i).toNat)
  case atStart => exact times_start _ _ _ _ _ _ hrow hbel
  case round =>
    obtain ⟨k, zs, hk, rfl, hz, hr, hbl, hd, hv⟩ := hrel
    have HVV := Lib.hid hv
    have HZ := Lib.hid hz
    clear hv hz
    by_cases hlt : k < n
    · obtain ⟨b, off, rfl, hcap, hbs, hcl⟩ := ha.at (by omega)
      have hca := hcl.at hbl hbs k (by rw [← HN.out]; exact hlt)
      have HAT : Hid (∀ W, Below w.heap.size w W → W.cell? ⟨b, off + k, none⟩ = some (.int .u32 (xs.getD k 0 : Nat))) := Lib.hid fun W h => hcl.at h hbs k (by rw [← HN.out]; exact hlt)
      have ex := val_digit ha.bd k
      obtain ⟨x, hx⟩ : ∃ x, x = xs.getD k 0 := ⟨_, rfl⟩
      rw [← hx] at hca ex HAT
      have lx : x < 4294967296 := by rw [ex]; exact Nat.mod_lt _ (by omega)
      have EX := Lib.hid ex
      have HCL := Lib.hid hcl
      clear hx ex hcl
      go_wp2
      obtain ⟨wo, rfl⟩ : ∃ wo : World, wo = wr := ⟨_, rfl⟩
      go_loopw [7, 8] (fun c j wr => InnerRel (val ys) x (val xs % 4294967296 ^ k * val ys) k n m w.heap.size w c j wr) (fun _ j _ => m - (intOf j).toNat)
      case atStart => exact inner_start hlt HU.out HZ.out hr hbl hd HVV.out
      case round =>
        obtain ⟨j, cv, zs', hj, rfl, rfl, hcv, hz', hr', hbl', hd', h0', hv'⟩ := hrel
        have HVV' := Lib.hid hv'
        have HZ' := Lib.hid hz'
        have H0' := Lib.hid h0'
        clear hv' h0'
        by_cases hlj : j < m
        · obtain ⟨b', off', rfl, hcap', hbs', hcl'⟩ := hb.at (by omega)
          have hcb := hcl'.at hbl' hbs' j (by rw [← HM.out]; exact hlj)
          have ey := val_digit hb.bd j
          obtain ⟨y, hy⟩ : ∃ y, y = ys.getD j 0 := ⟨_, rfl⟩
          rw [← hy] at hcb ey
          have ly : y < 4294967296 := by rw [ey]; exact Nat.mod_lt _ (by omega)
          have hc := hr'.cell (k + j) (by omega)
          have hf := hr'.free (k + j)
          obtain ⟨z, hzz⟩ : ∃ z, z = zs'.getD (k + j) 0 := ⟨_, rfl⟩
          rw [← hzz] at hc
          have lz : z < 4294967296 := by rw [hzz, val_digit hd']; exact Nat.mod_lt _ (by omega)
          have EY := Lib.hid ey
          have HCL := Lib.hid hcl'
          have HZZ := Lib.hid hzz
          obtain ⟨e1, e2, e3⟩ := prod_wrap lx ly cv z hcv lz
          clear hy ey hcl' hzz hz'
          obtain ⟨p, hp⟩ : ∃ p, p = x * y := ⟨_, rfl⟩
          rw [← hp] at e1 e2 e3
          have HP := Lib.hid hp
          clear hp
          have hca2 := HAT.out wr hbl'
          have E4 : Hid (IntKind.u64.wrap ((cv : Int) + (z : Int) + (p : Int)) = (cv : Int) + ((p : Int) + (z : Int))) := Lib.hid (by rw [show (cv : Int) + (z : Int) + (p : Int) = (cv : Int) + ((p : Int) + (z : Int)) by omega]; exact e3)
          clear e2 e3
          go_wp2
          go_region
          go_wp2
          rw [E4.out]
          go_roundw
          case rel =>
            have h := inner_step hlt hlj hcv lx HZ'.out hr' hbl' hd' H0'.out HVV'.out EY.out HZZ.out
            rw [← HP.out] at h
            exact h.drew
          case measure => simp [intOf]; omega
        · obtain rfl : j = m := by omega
          have hc := hr'.cell (k + j) (by omega)
          have hf := hr'.free (k + j)
          have h0 := H0'.out
          rw [h0] at hc
          clear h0 hz'
          go_wp2
          go_roundw
          case rel => exact outer_step hlt HU.out EX.out hcv HZ'.out hr' hbl' hd' H0'.out HVV'.out
          case measure => simp [intOf]; omega
    · obtain rfl : k = n := by omega
      have hend : val zs = val xs * val ys := by rw [HVV.out, Nat.mod_eq_of_lt HV.out]
      have hsw := hr.sw' (Nat.le_refl _) hd HZ.out (by unfold maxLen; omega)
      have ht := rtrim_any _ _ _ hsw.sl
      have hu := hsw.trim
      rw [hend] at ht hu
      have HE := Lib.hid hu
      clear hend hsw hu
      go_wp2_with (go_at_call 55; refine ht.mono ?_; rintro e w' ⟨rfl, rfl⟩)
      go_ret
      exact ⟨_, rfl, HE.out, hbl⟩

end Go.Proofs.YtdgmjmckeeeljaaGreatDoor

namespace Go.Proofs.YtdgmjmckeeeljaaGreatDoor
open Go.RowKit

theorem times54_at {w : World} {va vb : Value} {x y n : Nat} (ha : Sl w va (digs x)) (hb : Sl w vb (digs y)) (hla : (digs x).length ≤ 256) (hlb : (digs y).length ≤ 256) (hn : (digs (x * y)).length = n) :
    Calls Tryz.prog 54 #[va, vb] w fun e w' => ∃ ao cap, e = .returned (.slice ao n cap) ∧ Sw w.heap.size w' (.slice ao n cap) (digs (x * y)) ∧ Below w.heap.size w w' := by
  have h := times54_any ha hb (by omega) (by omega)
  rw [val_digs, val_digs] at h
  refine h.mono ?_
  rintro e w' ⟨v, rfl, hs, hbl⟩
  obtain ⟨ao, cap, rfl⟩ := hs.sl.mk'
  subst hn
  exact ⟨ao, cap, rfl, hs, hbl⟩

theorem mul_signed (a b : Int) : a * b = if (!(decide (a < 0) == decide (b < 0))) = true then -((a.natAbs * b.natAbs : Nat) : Int) else ((a.natAbs * b.natAbs : Nat) : Int) := by
  rw [Int.natCast_mul]
  by_cases h : a < 0 <;> by_cases h2 : b < 0
  · rw [show (a.natAbs : Int) = -a by omega, show (b.natAbs : Int) = -b by omega]
    simp [h, h2]
    grind
  · rw [show (a.natAbs : Int) = -a by omega, show (b.natAbs : Int) = b by omega]
    simp [h, h2]
    grind
  · rw [show (a.natAbs : Int) = a by omega, show (b.natAbs : Int) = -b by omega]
    simp [h, h2]
    grind
  · rw [show (a.natAbs : Int) = a by omega, show (b.natAbs : Int) = b by omega]
    simp [h, h2]

set_option maxRecDepth 10000 in
set_option maxHeartbeats 1000000 in
theorem mul39_any {w : World} {x y : Value} {a b : Int} (hx : Nu w x a) (hy : Nu w y b) :
    Calls Tryz.prog 39 #[x, y] w (NumRes w (a * b)) := by
  obtain ⟨sa, rfl, ha, la⟩ := hx
  obtain ⟨sb, rfl, hb, lb⟩ := hy
  have ra := rightB_digs a la
  have rb := rightB_digs b lb
  obtain ⟨na, hna⟩ : ∃ na, na = decide (a < 0) := ⟨_, rfl⟩
  obtain ⟨nb, hnb⟩ : ∃ nb, nb = decide (b < 0) := ⟨_, rfl⟩
  rw [← hna] at ra ⊢
  rw [← hnb] at rb ⊢
  have HNA := Lib.hid hna
  have HNB := Lib.hid hnb
  clear hna hnb
  have R1 : ∀ W, Sl W sa (digs a.natAbs) → Calls Tryz.prog 41 #[.agg #[.bool na, sa]] W fun e w' => e = .returned (.bool true) ∧ w' = W.alloc (.cells #[.bool na, sa] 27) := fun W h => by have := right41_any na h (by omega); rwa [ra] at this
  have R2 : ∀ W, Sl W sb (digs b.natAbs) → Calls Tryz.prog 41 #[.agg #[.bool nb, sb]] W fun e w' => e = .returned (.bool true) ∧ w' = W.alloc (.cells #[.bool nb, sb] 27) := fun W h => by have := right41_any nb h (by omega); rwa [rb] at this
  have HR1 := Lib.hid R1
  have HR2 := Lib.hid R2
  have HZZ : Hid (a * b = if (!(na == nb)) = true then -((a.natAbs * b.natAbs : Nat) : Int) else ((a.natAbs * b.natAbs : Nat) : Int)) := Lib.hid (by rw [HNA.out, HNB.out]; exact mul_signed a b)
  clear R1 R2 ra rb
  go_enter Tryz.func39, Tryz.ntmps39
  go_wp2_with (first | (go_at_call_of 41 (Value.agg #[.bool na, sa]); refine (HR1.out _ (ha.below (by go_grown))).mono ?_; rintro e w' ⟨rfl, rfl⟩) | (go_at_call_of 41 (Value.agg #[.bool nb, sb]); refine (HR2.out _ (hb.below (by go_grown))).mono ?_; rintro e w' ⟨rfl, rfl⟩))
  have HB : Box3 ((((w.alloc (.cells #[.bool na, sa] 27)).alloc (.cells #[.bool nb, sb] 27)).alloc (.cells #[.bool false, .slice none 0 0] 27)).alloc (.cells #[.bool na, sa] 27) |>.alloc (.cells #[.bool nb, sb] 27)) w.heap.size na nb sa sb a.natAbs b.natAbs :=
    box3_new ha hb (by go_grown)
  have HBL : Below w.heap.size w ((((w.alloc (.cells #[.bool na, sa] 27)).alloc (.cells #[.bool nb, sb] 27)).alloc (.cells #[.bool false, .slice none 0 0] 27)).alloc (.cells #[.bool na, sa] 27) |>.alloc (.cells #[.bool nb, sb] 27)) := by go_grown
  revert HB HBL
  generalize ((((w.alloc (.cells #[.bool na, sa] 27)).alloc (.cells #[.bool nb, sb] 27)).alloc (.cells #[.bool false, .slice none 0 0] 27)).alloc (.cells #[.bool na, sa] 27) |>.alloc (.cells #[.bool nb, sb] 27)) = W
  intro HB HBL
  obtain ⟨n, hn⟩ : ∃ n, n = (digs (a.natAbs * b.natAbs)).length := ⟨_, rfl⟩
  have HN := Lib.hid hn
  clear hn
  have a0 := HB.a0
  have a1 := HB.a1
  have b0 := HB.b0
  have b1 := HB.b1
  go_region_held3 (fun w' => w'.cell? ⟨w.heap.size, 0, none⟩ = some (.bool na) ∧ w'.cell? ⟨w.heap.size, 1, none⟩ = some sa ∧ w'.cell? ⟨w.heap.size + 1, 0, none⟩ = some (.bool nb) ∧ w'.cell? ⟨w.heap.size + 1, 1, none⟩ = some sb)
      (first | (exact HB.keep (by go_grown)) | (exact HB.keep (hbw.alloc hbw0 _)) | (exact HB.keep ((hbw.alloc hbw0 _).setCell (by simp) _)) | (exact HB.keep hbw2) | (exact HB.keep (hbw2.setCell (by simp) _)))
      ((first | (go_at_call 54; refine (times54_at (HB.below (by go_grown)).sa (HB.below (by go_grown)).sb la lb HN.out.symm).mono ?_; rintro e w1 ⟨ao, cap, rfl, hs1, hb1⟩; have hb1' : Below W.heap.size W w1 := Below.trans (by go_grown) hb1; have HB1 := HB.below hb1'; obtain ⟨r0, r1, f0, f1⟩ := HB1.cells; have hz := HB1.lt; have hbw := hb1'.mono (Nat.le_of_lt HB.lt); have hbw0 := Nat.le_of_lt hz) | (go_at_call 36; refine (signed36_at _ hs1.sl HZZ.out).mono ?_; rintro e w2 ⟨neg2, ao2, n2, cap2, rfl, hb2, hyes, hno⟩; have hb2' : Below W.heap.size W w2 := Below.trans hb1' (hb2.mono (by have := hb1'.size; omega)); have HB2 := HB.below hb2'; obtain ⟨r2, r3, f2, f3⟩ := HB2.cells; have hz2 := HB2.lt; have hbw2 := hb2'.mono (Nat.le_of_lt HB.lt); have hbw20 := Nat.le_of_lt hz2)))
  have hfin : Below w.heap.size w ((w2.setCell ⟨w.heap.size + 1 + 1, 0, none⟩ (.bool neg2)).setCell ⟨w.heap.size + 1 + 1, 1, none⟩ (.slice ao2 n2 cap2)) :=
    ((HBL.trans (hb2'.mono (by have := HB.lt; omega))).setCell (by simp; omega) _).setCell (by simp; omega) _
  obtain ⟨q0, q1⟩ := (show ResBox w2 (w.heap.size + 1 + 1) from HB2.r).stored (.bool neg2) (.slice ao2 n2 cap2)
  have hsw := fun hf => ((hyes hf).2.after2 (g := w.heap.size + 1 + 1) hz (.bool neg2) (.slice ao2 n2 cap2)).mono (B' := w.heap.size) (by omega)
  have HSW := Lib.hid hsw
  have HY := Lib.hid hyes
  have HNO := Lib.hid hno
  clear hsw hyes hno
  go_wp2
  refine bodyPost_ret (v := .tuple #[.agg #[.bool neg2, .slice ao2 n2 cap2], .bool (fitsB (a * b).natAbs)]) (by simp [results, Tryz.results39, go_sem, q0, q1]) rfl ?_
  exact ⟨_, _, _, _, rfl, hfin, fun hf => ⟨(HY.out hf).1, HSW.out hf⟩, HNO.out⟩

end Go.Proofs.YtdgmjmckeeeljaaGreatDoor

namespace Go.Proofs.YtdgmjmckeeeljaaGreatDoor
open Go.RowKit

/-- The number of binary digits of digits. -/
def lenB (ds : List Nat) : Nat := if ds = [] then 0 else 32 * (ds.length - 1) + Lib.bitLen (ds.getD (ds.length - 1) 0)

set_option maxRecDepth 10000 in
set_option maxHeartbeats 1000000 in
theorem length53_any {w : World} {v : Value} {ds : List Nat} (h : Sl w v ds) (hl : ds.length ≤ 1000) :
    Calls Tryz.prog 53 #[v] w fun e w' => e = .returned (.int .i64 (lenB ds : Nat)) ∧ w' = w := by
  obtain ⟨ao, cap, rfl⟩ := h.mk'
  rcases Nat.eq_zero_or_pos ds.length with h0 | h0
  · obtain rfl : ds = [] := List.eq_nil_of_length_eq_zero h0
    have e0 : lenB [] = 0 := rfl
    rw [e0]
    simp only [List.length_nil]
    clear e0 h0 h hl
    go_enter Tryz.func53, Tryz.ntmps53
    go_wp2
    go_ret
    exact ⟨rfl, rfl⟩
  · obtain ⟨n, hn⟩ : ∃ n, ds.length = n + 1 := ⟨ds.length - 1, by omega⟩
    obtain ⟨b, off, rfl, hcap, hbs, hcl⟩ := h.at (by omega)
    have hc := hcl n (by omega)
    have hx4 : ds.getD n 0 < 4294967296 := by rw [val_digit h.bd]; exact Nat.mod_lt _ (by omega)
    have e0 : lenB ds = 32 * n + Lib.bitLen (ds.getD n 0) := by
      unfold lenB
      rw [if_neg (by intro h; rw [h] at hn; simp at hn), hn]
      rfl
    obtain ⟨x, hx⟩ : ∃ x, x = ds.getD n 0 := ⟨_, rfl⟩
    rw [← hx] at hc hx4 e0
    have hle : Lib.bitLen x ≤ 32 := Lib.bitLen_le x 32 (by omega) (by omega)
    obtain ⟨T, hT⟩ : ∃ T, T = lenB ds := ⟨_, rfl⟩
    rw [← hT] at e0 ⊢
    have HT := Lib.hid e0
    have hTl : T ≤ 40000 := by omega
    have HLE := Lib.hid hle
    rw [hn] at hcap ⊢
    clear hx hT e0 hle hcl h
    go_enter Tryz.func53, Tryz.ntmps53
    go_wp2
    go_loop [3, 4] (fun nv xv => ∃ N y : Nat, nv = .int .i64 N ∧ xv = .int .u32 y ∧ y < 4294967296 ∧ N ≤ T ∧ Hid (T = N + Lib.bitLen y)) (fun _ xv => (intOf xv).toNat)
    case atStart => exact ⟨32 * n, x, by go_num, rfl, hx4, by have := HT.out; omega, HT⟩
    case round =>
      obtain ⟨N, y, rfl, rfl, hy, hN, hv⟩ := hrel
      rcases Nat.eq_zero_or_pos y with rfl | hy0
      · have e : N = T := by have := hv.out; rw [show Lib.bitLen 0 = 0 from Lib.bitLenAux_zero 64] at this; omega
        subst e
        go_wp2
        go_ret
        exact ⟨rfl, rfl⟩
      · have hb := Lib.bitLen_half y (by omega) (by omega)
        have HV : Hid (T = N + 1 + Lib.bitLen (y / 2)) := Lib.hid (by have := hv.out; omega)
        have hN1 : N + 1 ≤ T := by have := HV.out; omega
        have hy1 : (0 : Int) < y := by omega
        have hq : (y : Int) / 2 = ((y / 2 : Nat) : Int) := by omega
        obtain ⟨z, hz⟩ : ∃ z, z = y / 2 := ⟨_, rfl⟩
        have hz1 : z < y := by omega
        rw [← hz] at hq HV
        clear hz hb hv
        go_wp2
        go_round
        case rel => exact ⟨N + 1, z, by go_num, by go_num, by omega, hN1, HV⟩
        case measure => simp [intOf]; omega

end Go.Proofs.YtdgmjmckeeeljaaGreatDoor

namespace Go.Proofs.YtdgmjmckeeeljaaGreatDoor
open Go.RowKit

theorem lenB_bits (neg : Bool) (ds : List Nat) : bitsB neg ds = if rightB neg ds = true then lenB ds else 0 := by
  unfold bitsB lenB
  by_cases h : ds = []
  · rw [if_pos h, if_pos h]; split <;> rfl
  · rw [if_neg h, if_neg h]

set_option maxRecDepth 10000 in
set_option maxHeartbeats 1000000 in
theorem bits42_any {w : World} {s : Value} {ds : List Nat} (neg : Bool) (h : Sl w s ds) (hl : ds.length ≤ 1000) :
    Calls Tryz.prog 42 #[.agg #[.bool neg, s]] w fun e w' => e = .returned (.int .i64 (bitsB neg ds : Nat)) ∧ Below w.heap.size w w' := by
  have HR := Lib.hid (fun W (h : Sl W s ds) => right41_any neg h (by omega))
  have HL := Lib.hid (fun W (h : Sl W s ds) => length53_any h hl)
  rw [lenB_bits]
  obtain ⟨rb, hrb⟩ : ∃ rb, rb = rightB neg ds := ⟨_, rfl⟩
  obtain ⟨L, hL⟩ : ∃ L, L = lenB ds := ⟨_, rfl⟩
  rw [← hrb] at HR ⊢
  rw [← hL] at HL ⊢
  have H := Lib.hid h
  clear hrb hL h
  cases rb
  · go_enter Tryz.func42, Tryz.ntmps42
    go_wp2_with (go_at_call 41; refine (HR.out _ (H.out.below (by go_grown))).mono ?_; rintro e w' ⟨rfl, rfl⟩)
    go_returns
    exact ⟨rfl, by go_grown⟩
  · go_enter Tryz.func42, Tryz.ntmps42
    go_wp2_with (first | (go_at_call 41; refine (HR.out _ (H.out.below (by go_grown))).mono ?_; rintro e w' ⟨rfl, rfl⟩) | (go_at_call 53; refine (HL.out _ (H.out.below (by go_grown))).mono ?_; rintro e w' ⟨rfl, rfl⟩))
    go_returns
    exact ⟨rfl, by go_grown⟩

end Go.Proofs.YtdgmjmckeeeljaaGreatDoor

namespace Go.Proofs.YtdgmjmckeeeljaaGreatDoor
open Go.RowKit

def TwiceA (w : World) (xs : List Nat) (B n : Nat) (cv ov kv : Value) (wr : World) : Prop :=
  ∃ (k c : Nat) (ds : List Nat) (ao : Option Addr) (cap : Nat), ov = .slice ao k cap ∧ cv = .int .u32 c ∧ kv = .int .i64 k ∧ k ≤ n ∧ c ≤ 1 ∧ ds.length = k ∧ val ds + 4294967296 ^ k * c = 2 * val (xs.take k) + B ∧ OwD w wr (.slice ao k cap) ds

theorem twiceA_step {xs ds : List Nat} {k c x d c' B : Nat} (h : val ds + 4294967296 ^ k * c = 2 * val (xs.take k) + B) (hl : ds.length = k) (hx : x = xs.getD k 0) (hd : d + 4294967296 * c' = 2 * x + c) :
    val (ds ++ [d]) + 4294967296 ^ (k + 1) * c' = 2 * val (xs.take (k + 1)) + B := by
  rw [val_append, hl, take_next, ← hx, Nat.pow_succ]
  have e : 4294967296 ^ k * (d + 4294967296 * c') = 4294967296 ^ k * (2 * x + c) := by rw [hd]
  rw [Nat.mul_add, Nat.mul_add] at e
  simp only [val, Nat.mul_zero, Nat.add_zero]
  rw [Nat.mul_assoc]
  have e2 : 4294967296 ^ k * (2 * x) = 2 * (4294967296 ^ k * x) := by grind
  omega

theorem or_two (x c : Nat) (hc : c ≤ 1) : bits .or .u32 ((x : Int) * 2 % 4294967296) (c : Int) = ((x * 2 % 4294967296 + c : Nat) : Int) := by
  have e : (x : Int) * 2 % 4294967296 = ((x * 2 % 4294967296 : Nat) : Int) := by omega
  rw [e, u32_or_nat _ _ (by omega) (by omega), nat_join 1 _ _ (by rw [show (2 : Nat) ^ 1 = 2 from rfl]; omega) (by rw [show (2 : Nat) ^ 1 = 2 from rfl]; omega)]

set_option maxRecDepth 10000 in
set_option maxHeartbeats 4000000 in
theorem twice82_any {w : World} {va : Value} {xs : List Nat} (ha : Sl w va xs) (hla : xs.length ≤ 1000) (B : Nat) (hB : B ≤ 1) : Calls Tryz.prog 82 #[va, .int .u32 B] w (NewDigs w (2 * val xs + B)) := by
  obtain ⟨aa, ca, rfl⟩ := ha.mk'
  obtain ⟨la, hla'⟩ : ∃ n, n = xs.length := ⟨_, rfl⟩
  have HA := Lib.hid ha
  have HLA := Lib.hid hla'
  have HXD : Hid (∀ k, xs.getD k 0 < 4294967296) := Lib.hid fun k => by rw [val_digit ha.bd]; exact Nat.mod_lt _ (by omega)
  have HAT := Lib.hid (fun h => ha.at h)
  rw [← hla'] at hla HA HAT ⊢
  obtain ⟨i0, hi, hz0, hz1, hz2⟩ := info_parts Tryz.info59
  clear ha hla'
  go_enter Tryz.func82, Tryz.ntmps82
  go_wp2
  go_loopw [1, 5, 6] (fun cv ov kv wr => TwiceA w xs B la cv ov kv wr) (fun _ _ kv _ => (la - intOf kv).toNat)
  case atStart => exact ⟨0, B, [], none, 0, rfl, rfl, rfl, by omega, hB, rfl, by simp [val], owD_start w⟩
  case round =>
    obtain ⟨k, c, ds, ao, cap, rfl, rfl, rfl, hk, hc, hl, hv, hO⟩ := hrel
    have HO := Lib.hid hO
    have HL := Lib.hid hl
    have HBS := Lib.hid hO.bl.size
    have HOO : Hid (wr.ownsRow w.heap.size 59 1 (.slice ao k cap) k (ds.map u32v)) := Lib.hid (by have := hO.own; rw [hl] at this; exact this)
    by_cases hlt : k < la
    · obtain ⟨b, off, rfl, hcap, hb, hcl⟩ := HAT.out (by omega)
      have hx4 := HXD.out k
      have HCL : Hid (∀ k, k < la → w.cell? ⟨b, off + k, none⟩ = some (.int .u32 (xs.getD k 0 : Nat))) := Lib.hid fun k hk => hcl k (by rw [← HLA.out]; exact hk)
      have hcell := cell_later hO.bl (HCL.out k hlt)
      have hst := fun d c' h => twiceA_step (d := d) (c' := c') hv hl rfl h
      obtain ⟨x, hx⟩ : ∃ x, x = xs.getD k 0 := ⟨_, rfl⟩
      have HCX := Lib.hid (HCL.out k hlt)
      rw [← hx] at hcell hx4 hst HCX
      obtain ⟨d, hd⟩ : ∃ d, d = x * 2 % 4294967296 + c := ⟨_, rfl⟩
      obtain ⟨c', hc'⟩ : ∃ c', c' = x / 2147483648 := ⟨_, rfl⟩
      have hd4 : d < 4294967296 := by omega
      have hc1 : c' ≤ 1 := by omega
      have HS := Lib.hid (hst d c' (by omega))
      have fd := or_two x c hc
      rw [← hd] at fd
      have fc : (x : Int) / 2147483648 = (c' : Int) := by rw [hc']; rfl
      clear hst hx hcl hv hO hl hd hc'
      go_wp2_with (at_builtin; go_must (refine wpList_append_own _ rfl _ _ 25 rfl w.heap.size 59 i0 (.int .u32 0) 1 4 Tryz.underlying25 hi hz0 hz1 hz2 rfl (by decide) (.slice ao k cap) k (ds.map u32v) rfl (HOO.out.alloc _) ⟨wr.heap.size, 0, none⟩ 1 1 [.int .u32 (d : Int)] rfl rfl (cell_one_new _ _ _) (fun x hx => by simp at hx; subst hx; rfl) (by unfold maxLen; omega) (by omega) (by have := HBS.out; simp; omega) ?_; intro v' w3 hown' hgrow3 hnil3; obtain ⟨HP, ao2, c2, rfl⟩ := owD_push HO.out HL.out hd4 hown' hgrow3; have HPP := Lib.hid HP; have hca2 := cell_later HP.bl HCX.out; clear hown' hgrow3 hnil3 HP))
      have hln : (ds ++ [d]).length = k + 1 := by rw [List.length_append, HL.out]; rfl
      go_roundw
      case rel => exact ⟨k + 1, c', ds ++ [d], ao2, c2, by go_num, rfl, by go_num, by omega, hc1, hln, HS.out, HPP.out⟩
      case measure => simp [intOf]; omega
    · have hend : val (ds ++ [c]) = 2 * val xs + B := by
        rw [val_append, hl]
        simp only [val, Nat.mul_zero, Nat.add_zero]
        rw [hv, List.take_of_length_le (by rw [← HLA.out]; omega)]
      have HE := Lib.hid hend
      have wc : IntKind.u32.wrap (c : Int) = (c : Int) := by rw [IntKind.wrap_u32]; omega
      have hk1 : k ≤ 1000 := by omega
      have hkn : (k : Int).toNat = k := by omega
      clear hv hO hend hl
      have HLN : Hid ((ds ++ [c]).length = k + 1) := Lib.hid (by rw [List.length_append, HL.out]; rfl)
      have HBD : Hid (Bd (ds ++ [c])) := Lib.hid (Bd.append1 HO.out.bd (by omega))
      go_wp2_with (first | (at_builtin; go_must (refine wpList_append_own _ rfl _ _ 25 rfl w.heap.size 59 i0 (.int .u32 0) 1 4 Tryz.underlying25 hi hz0 hz1 hz2 rfl (by decide) (.slice ao k cap) k (ds.map u32v) rfl (HOO.out.alloc _) ⟨wr.heap.size, 0, none⟩ 1 1 [.int .u32 (c : Int)] rfl rfl (cell_one_new _ _ _) (fun x hx => by simp at hx; subst hx; rfl) (by unfold maxLen; omega) (by omega) (by have := HBS.out; simp; omega) ?_; intro v' w3 hown' hgrow3 hnil3; obtain ⟨HP, ao2, c2, rfl⟩ := owD_push HO.out HL.out (by omega : c < 4294967296) hown' hgrow3; obtain ⟨ao3, c3, e3, e4⟩ := sw_of_owns HP.bd HP.own; rw [HLN.out] at e3; cases e3; have ht := rtrim_any _ _ _ e4.sl; have hu := e4.trim; rw [HE.out] at ht hu; have HU := Lib.hid hu; have HBL := Lib.hid HP.bl; clear hu HP e4 hown' hgrow3 hnil3)) | (go_at_call 55; (with_reducible refine ht.mono ?_); rintro e w' ⟨rfl, hw'⟩; subst w'))
      go_ret
      exact ⟨_, rfl, HU.out, HBL.out⟩

end Go.Proofs.YtdgmjmckeeeljaaGreatDoor
