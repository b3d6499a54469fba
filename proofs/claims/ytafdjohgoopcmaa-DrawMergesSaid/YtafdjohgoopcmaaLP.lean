/- The law DrawPicks, walked. Condition: the arguments fit their types. -/
import Derived.Deep.QuietTactic
import Derived.BigQuiet
import Derived.BigRegion
import Derived.Deep.RegionHeld3
import Derived.Deep.RegionLaw
import Derived.Deep.CutRange
import Derived.Test.YtafdjohgoopcmaaLN
namespace Go.Proofs.Ytafdjohgoopcmaa
open Go.RowKit

attribute [local go_sem ↓] appC_rw

/-- The choices with small weights. -/
def smallL (l : List Ch) (k : Nat) : List Ch := (List.range k).map fun i => (1 + (l.getD i (0, 0, 0)).1 % 30, 0, (l.getD i (0, 0, 0)).2.2)
theorem smallL_succ (l : List Ch) (k : Nat) : smallL l (k + 1) = smallL l k ++ [(1 + (l.getD k (0, 0, 0)).1 % 30, 0, (l.getD k (0, 0, 0)).2.2)] := by
  simp [smallL, List.range_succ]
theorem smallL_fit (l : List Ch) (k : Nat) : ∀ i, I64 ((smallL l k).getD i (0, 0, 0)).1 := fit_ch fun c hc => by
  simp only [smallL, List.mem_map] at hc
  obtain ⟨i, _, rfl⟩ := hc
  constructor <;> (simp only; omega)

/-- An append whose run is known, as one step of a region that draws. -/
theorem step_run {P : Program} {ops : Array Oper} {o : Oper} {a : Act} {w : World} {K : Act → World → Prop} {Q : Exit → Act → World → Prop} {E : Prop}
    (hg : o.guard = none) (s x : Operand) (t : TypeId) (hop : o.op = Op.call { callee := Callee.builtin Builtin.append, args := #[s, x], argTypes := #[t, t] })
    (vs vx v : Value) (w' : World) (hs : a.eval s = vs) (hx : a.eval x = vx) (hrun : (Builtin.append_ #[t, t] o.type #[vs, vx]).run P w = .ok v w') (hK : K (a.put o.dst v) w') :
    if Region.wanted o (yielded ops a.tmps) = true then Oper.wp P o a w K Q else E := by
  have hw : Region.wanted o (yielded ops a.tmps) = true := by simp [Region.wanted, hg]
  rw [if_pos hw]
  unfold Oper.wp
  simp [execOp, hop, resolve, invoke, builtin, hs, hx, hrun, Result.andThen]
  exact hK

/-- Two slices of choices, in a row. -/
structure TwoC (W : World) (B : Nat) (vs : Nat → Value) (ls : Nat → List Ch) : Prop where
  at_ : ∀ i, i < 2 → W.cell? ⟨B, i, none⟩ = some (vs i) ∧ Cx W (vs i) (ls i)
theorem TwoC.below {W W' : World} {B : Nat} {vs : Nat → Value} {ls : Nat → List Ch} (h : TwoC W B vs ls) (hb : Below W.heap.size W W') : TwoC W' B vs ls := ⟨fun i hi => ⟨cell_later hb (h.at_ i hi).1, (h.at_ i hi).2.below hb⟩⟩
theorem two_new {W : World} {v1 v2 : Value} {l1 l2 : List Ch} (h1 : Cx W v1 l1) (h2 : Cx W v2 l2) : TwoC (W.alloc (.cells #[v1, v2] 29)) W.heap.size (fun i => if i = 0 then v1 else v2) (fun i => if i = 0 then l1 else l2) := by
  have hb : Below W.heap.size W (W.alloc (.cells #[v1, v2] 29)) := (Below.refl _ _).alloc (Nat.le_refl _) _
  refine ⟨fun i hi => ?_⟩
  rw [cell_of_row _ _ _ _ _ _ (heap_alloc_new _ _)]
  match i, hi with
  | 0, _ => exact ⟨rfl, h1.below hb⟩
  | 1, _ => exact ⟨rfl, h2.below hb⟩

/-- Two ints, in a row. -/
structure TwoI (W : World) (B : Nat) (ks : Nat → Int) : Prop where
  at_ : ∀ i, i < 2 → W.cell? ⟨B, i, none⟩ = some (.int .i64 (ks i))
  fit : ∀ i, I64 (ks i)
theorem TwoI.below {W W' : World} {B : Nat} {ks : Nat → Int} (h : TwoI W B ks) (hb : Below W.heap.size W W') : TwoI W' B ks := ⟨fun i hi => cell_later hb (h.at_ i hi), h.fit⟩
theorem twoI_new (W : World) (a b : Int) (ha : I64 a) (hb : I64 b) : TwoI (W.alloc (.cells #[.int .i64 a, .int .i64 b] 3)) W.heap.size (fun i => if i = 0 then a else b) := by
  refine ⟨fun i hi => ?_, fun i => by show I64 (if i = 0 then a else b); split <;> assumption⟩
  rw [cell_of_row _ _ _ _ _ _ (heap_alloc_new _ _)]
  match i, hi with
  | 0, _ => rfl
  | 1, _ => rfl

set_option maxRecDepth 100000 in
set_option maxHeartbeats 4000000 in
theorem drawPicks_any {w : World} {v : Value} {l0 : List Ch} (hX : Cx w v l0) (s : ByteArray) (hs : s.size ≤ 9223372036854775807) (k : Int) (hk : I64 k) :
    Calls Try.prog 4 #[.string s, .int .i64 k, v] w fun e w' => e = .returned (.bool true) ∧ Below w.heap.size w w' := by
  have HS := Lib.hid (fun W => sanity_any W)
  have M30 := Lib.hid mod30
  have M50 := Lib.hid mod50
  have hcut := cutS_eq s
  have hz : (cutS s 70).size ≤ 70 := by rw [cutS_size]; omega
  obtain ⟨s2, hs2⟩ : ∃ s2, s2 = cutS s 70 := ⟨_, rfl⟩
  rw [← hs2] at hcut hz
  have HPK : Hid (∀ {W : World} {v : Value} {l : List Ch} (n : Int), Cx W v l → I64 n → Calls Try.prog 14 #[.string s2, .int .i64 n, v] W fun e w' => e = .returned (.tuple #[.int .i64 (pickV s2 n l : Nat), .bool (okN s2 n (total l))]) ∧ Below W.heap.size W w') := Lib.hid fun n h hn => pick_any h s2 (by omega) n hn
  have HRK : Hid (∀ {W : World} {v : Value} {l : List Ch} (n : Int), Cx W v l → I64 n → Calls Try.prog 15 #[.string s2, .int .i64 n, v] W fun e w' => e = .returned (.tuple #[.int .i64 (pickV s2 n l : Nat), .bool (okN s2 n (total l))]) ∧ Below W.heap.size W w') := Lib.hid fun n h hn => rPick_any h s2 (by omega) n hn
  have HX := Lib.hid hX
  obtain ⟨ao0, cap0, rfl⟩ := hX.mk'
  obtain ⟨n0, hn0⟩ : ∃ n0, n0 = l0.length := ⟨_, rfl⟩
  have hn63 := hX.len
  unfold maxLen at hn63
  rw [← hn0] at HX hn63 ⊢
  have HC := Lib.hid (fun W (hb : Below w.heap.size w W) => cut_any (HX.out.below hb))
  have hL : (l0.take 20).length = min n0 20 := by rw [List.length_take, hn0]; omega
  obtain ⟨l, hl⟩ : ∃ l, l = l0.take 20 := ⟨_, rfl⟩
  obtain ⟨m, hm⟩ : ∃ m, m = min n0 20 := ⟨_, rfl⟩
  have hm20 : m ≤ 20 := by omega
  rw [← hn0, ← hl, ← hm] at HC
  rw [← hl, ← hm] at hL
  have HL := Lib.hid hL
  clear hs2 hL hl hm hn0 hX
  go_enter Try.func4, Try.ntmps4
  go_wp2_with (first | (go_at_call 9; refine (HS.out _).mono ?_; rintro e w1 ⟨rfl, hb1⟩; have HB1 := Lib.hid hb1; clear hb1) | (go_at_call 13; refine (HC.out _ HB1.out).mono ?_; rintro e w2 ⟨ao1, cap1, rfl, hcx, hw⟩; subst w2; have HCX := Lib.hid hcx; clear hcx))
  go_loopw [8, 9, 28] (fun sv _ kv wr => ∃ (j : Nat) (ao2 : Option Addr) (cap2 : Nat), j ≤ m ∧ kv = .int .i64 (j : Nat) ∧ sv = .slice ao2 j cap2 ∧ Hid (OwC wr w1.heap.size (.slice ao2 j cap2) j (smallL l j)) ∧ Hid (Below w1.heap.size w1 wr)) (fun _ _ kv _ => m - (intOf kv).toNat)
  case atStart => exact ⟨0, none, 0, by omega, rfl, rfl, Lib.hid (World.ownsRow_nil _ _ _ _), Lib.hid (Below.refl _ _)⟩
  case round =>
    obtain ⟨j, ao2, cap2, hj, rfl, rfl, hO, hB⟩ := hrel
    by_cases hjm : j = m
    · subst hjm
      have hcs := Cx.below HCX.out hB.out
      have hco := OwC.cx hO.out (by omega) (smallL_fit l j)
      have HCS := Lib.hid hcs
      have HCO := Lib.hid hco
      clear hcs hco
      have hT := two_new HCS.out HCO.out
      have hBT : Below w1.heap.size w1 (wr.alloc (.cells #[.slice ao1 j cap1, .slice ao2 j cap2] 29)) := hB.out.alloc hB.out.size _
      obtain ⟨vs, hvs⟩ : ∃ vs : Nat → Value, vs = fun i => if i = 0 then .slice ao1 j cap1 else .slice ao2 j cap2 := ⟨_, rfl⟩
      obtain ⟨ls, hls⟩ : ∃ ls : Nat → List Ch, ls = fun i => if i = 0 then l else smallL l j := ⟨_, rfl⟩
      rw [← hvs, ← hls] at hT
      have HT := Lib.hid hT
      have HBT := Lib.hid hBT
      obtain ⟨B1, hB1⟩ : ∃ B1, B1 = wr.heap.size := ⟨_, rfl⟩
      rw [← hB1] at HT
      clear hT hBT hvs hls HCS HCO
      go_wp2
      rw [← hB1]
      clear hB1
      go_loopw [52] (fun iv wr => ∃ i : Nat, i ≤ 2 ∧ iv = .int .i64 (i : Nat) ∧ Hid (TwoC wr B1 vs ls) ∧ Hid (Below w1.heap.size w1 wr)) (fun iv _ => 2 - (intOf iv).toNat)
      case atStart => exact ⟨0, by omega, rfl, HT, HBT⟩
      case round =>
        obtain ⟨i, hi, rfl, hT, hB⟩ := hrel
        by_cases hi2 : i = 2
        · subst hi2
          go_wp2
          go_ret
          exact ⟨rfl, HB1.out.trans (hB.out.mono HB1.out.size)⟩
        · have hil : i < 2 := by omega
          obtain ⟨hc, hcx⟩ := hT.out.at_ i hil
          obtain ⟨ao4, cap4, hv⟩ := hcx.mk'
          have hc2 : wr.cell? ⟨B1, i, none⟩ = some (.slice ao4 (ls i).length cap4) := by rw [hc, hv]
          obtain ⟨n4, hn4⟩ : ∃ n4, n4 = (ls i).length := ⟨_, rfl⟩
          rw [← hn4] at hc2 hv
          have HV := Lib.hid hv
          clear hc hcx hv hn4
          go_wp2_with (go_at_call 10; (with_reducible refine (M50.out _ _ hk).mono ?_); rintro e w' ⟨rfl, hw'⟩; subst w')
          have hT2 := hT.out.below ((Below.refl _ wr).alloc (Nat.le_refl _) (.cells #[.int .i64 k, .int .i64 (k % 50)] 3))
          have hI := twoI_new wr k (k % 50) hk ⟨by omega, by omega⟩
          have hB2 : Below w1.heap.size w1 (wr.alloc (.cells #[.int .i64 k, .int .i64 (k % 50)] 3)) := hB.out.alloc hB.out.size _
          obtain ⟨ks, hks⟩ : ∃ ks : Nat → Int, ks = fun i => if i = 0 then k else k % 50 := ⟨_, rfl⟩
          rw [← hks] at hI
          have HT2 := Lib.hid hT2
          have HI := Lib.hid hI
          have HB2 := Lib.hid hB2
          have HBW := Lib.hid hB.out.size
          obtain ⟨B2, hB2e⟩ : ∃ B2, B2 = wr.heap.size := ⟨_, rfl⟩
          rw [← hB2e] at HI
          rw [← hB2e]
          clear hT2 hI hB2 hks hB2e hT hB
          go_loopw [61] (fun iv wr => ∃ i2 : Nat, i2 ≤ 2 ∧ iv = .int .i64 (i2 : Nat) ∧ Hid (TwoC wr B1 vs ls) ∧ Hid (TwoI wr B2 ks) ∧ Hid (Below w1.heap.size w1 wr)) (fun iv _ => 2 - (intOf iv).toNat)
          case atStart => exact ⟨0, by omega, rfl, HT2, HI, HB2⟩
          case round =>
            obtain ⟨i2, hi2, rfl, hT, hI, hB⟩ := hrel
            by_cases hi22 : i2 = 2
            · subst hi22
              go_wp2
              go_roundw
              case rel => exact ⟨i + 1, by omega, by go_num, hT, hB⟩
              case measure => simp [intOf]; omega
            · have hi2l : i2 < 2 := by omega
              have ci := hI.out.at_ i2 hi2l
              have hfi := hI.out.fit i2
              have hcx := (hT.out.at_ i hil).2
              rw [HV.out] at hcx
              obtain ⟨q, hq⟩ : ∃ q, q = ks i2 := ⟨_, rfl⟩
              rw [← hq] at ci hfi
              have HP := Lib.hid (fun (W : World) (hb : Below wr.heap.size wr W) => HPK.out q (hcx.below hb) hfi)
              have HR := Lib.hid (fun (W : World) (hb : Below wr.heap.size wr W) => HRK.out q (hcx.below hb) hfi)
              obtain ⟨N, hN⟩ : ∃ N, N = pickV s2 q (ls i) := ⟨_, rfl⟩
              obtain ⟨O, hO2⟩ : ∃ O, O = okN s2 q (total (ls i)) := ⟨_, rfl⟩
              rw [← hN, ← hO2] at HP HR
              clear hq hcx hN hO2 hfi
              go_wp2_with (first | (go_at_call 14; refine (HP.out _ (Below.refl _ _)).mono ?_; rintro e w4 ⟨rfl, hb4⟩; have HB4 := Lib.hid hb4; clear hb4) | (go_at_call 15; refine (HR.out _ HB4.out).mono ?_; rintro e w5 ⟨rfl, hb5⟩; have HB5 := Lib.hid (HB4.out.trans (hb5.mono HB4.out.size)); clear hb5))
              have HT5 := Lib.hid (hT.out.below HB5.out)
              have HI5 := Lib.hid (hI.out.below HB5.out)
              have HBB5 := Lib.hid (hB.out.trans (HB5.out.mono hB.out.size))
              go_roundw
              case rel => exact ⟨i2 + 1, by omega, by go_num, HT5, HI5, HBB5⟩
              case measure => simp [intOf]; omega
    · have hlt : j < m := by omega
      obtain ⟨b, off, rfl, hcap, hbl, hcl⟩ := HCX.out.at (by omega)
      obtain ⟨c0, c1, c2⟩ := hcl j hlt
      have hfit := HCX.out.fit j
      obtain ⟨wd, hwd⟩ : ∃ wd, wd = wr.drew := ⟨_, rfl⟩
      have hBd : Below w1.heap.size w1 wd := by rw [hwd]; exact hB.out.drew
      have c0 := cell_later hB.out c0
      have c2 := cell_later hB.out c2
      have hOd : OwC wd w1.heap.size (.slice ao2 j cap2) j (smallL l j) := by rw [hwd]; exact hO.out.drew
      obtain ⟨ao3, cap3, w3, hrun, hown, hb3⟩ := push_choice hOd (by omega) hBd.size (1 + (l.getD j (0, 0, 0)).1 % 30) 0 (l.getD j (0, 0, 0)).2.2
      rw [← smallL_succ] at hown
      revert c0 c2 hfit hrun
      generalize l.getD j (0, 0, 0) = q
      obtain ⟨x, y, z⟩ := q
      intro hfit c0 c2 hrun
      simp only at c0 c2 hfit hrun
      have hfx0 : I64 x := hfit
      have HO3 := Lib.hid hown
      have HB3 : Hid (Below w1.heap.size w1 w3) := Lib.hid (hBd.trans hb3)
      have HWD := Lib.hid hwd
      clear hcl c1 hOd hBd hown hb3 hbl
      rw [hwd] at hrun
      have hfx := Lib.hid hfx0
      clear hfit hfx0 hwd
      have hrun2 : Sem.run Try.prog (appC 29 #[.slice ao2 j cap2, .slice (some ⟨wr.heap.size, 0, none⟩) 1 1]) ((wr.alloc (.cells #[.int .i64 (1 + x % 30), .int .i64 0, .int .i64 z] 32)).drew) = .ok (.slice ao3 (j + 1) cap3) w3 := hrun
      have hwr : IntKind.i64.wrap (1 + x % 30) = 1 + x % 30 := by rw [IntKind.wrap_i64]; omega
      clear hrun
      go_wp2
      go_region_law (go_simp; go_at_call 10; (with_reducible refine (M30.out _ _ hfx.out).mono ?_); rintro e w' ⟨rfl, hw'⟩; subst w')
      all_goals
        go_wp2
        go_roundw
        case rel => exact ⟨j + 1, ao3, cap3, by omega, by go_num, rfl, HO3, HB3⟩
        case measure => simp [intOf]; omega

end Go.Proofs.Ytafdjohgoopcmaa
