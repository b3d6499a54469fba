/- Contracts of the reference: trim, signed. -/
import Derived.OwnWalk
import Derived.Laws.OwnMore
import Derived.Test.YtdgmjmckeeeljaaGreatDoorII
namespace Go.Proofs.YtdgmjmckeeeljaaGreatDoor
open Go.RowKit

set_option maxHeartbeats 400000 in
theorem rtrim_any {w : World} {ds : List Nat} (ao : Option Addr) (n cap : Nat) (h : Sl w (.slice ao n cap) ds) :
    Calls Tryz.prog 55 #[.slice ao n cap] w fun e w' => e = .returned (.slice ao (digs (val ds)).length cap) ∧ w' = w := by
  obtain ⟨hb, hl, h⟩ := h
  unfold maxLen at hl
  rcases h with ⟨rfl, ao', cap', hv⟩ | ⟨b, off, cap', hv, hc, hcl⟩
  · cases hv
    simp only [val, digs_zero, List.length_nil]
    go_enter Tryz.func55, Tryz.ntmps55
    go_wp2
    go_rounds 1
    go_ret
    exact ⟨rfl, rfl⟩
  · cases hv
    have hst := trim_stop hb
    have htk := @trim_step ds
    obtain ⟨m, hm⟩ : ∃ m, m = (digs (val ds)).length := ⟨_, rfl⟩
    rw [← hm] at hst ⊢
    have hml : m ≤ ds.length := by rw [hm]; exact (take_trim hb).2
    clear hb hm
    have HST := Lib.hid hst
    clear hst
    have HTK := Lib.hid htk
    clear htk
    have HCL := Lib.hid hcl
    clear hcl
    go_enter Tryz.func55, Tryz.ntmps55
    go_wp2
    go_loop [3] (fun n => ∃ k : Nat, k ≤ ds.length ∧ n = .int .i64 k ∧ Hid (val (ds.take k) = val ds)) (fun n => (intOf n).toNat)
    case atStart => exact ⟨ds.length, Nat.le_refl _, rfl, by simp [Hid]⟩
    case round =>
      obtain ⟨k, hk, rfl, hv⟩ := hrel
      cases k with
      | zero =>
        have e0 := HST.out 0 (by omega) hv.out (.inl rfl)
        subst e0
        go_wp2
        go_ret
        exact ⟨rfl, rfl⟩
      | succ k =>
        have hcc := HCL.out k (by omega)
        obtain ⟨x, hx⟩ : ∃ x, x = ds.getD k 0 := ⟨_, rfl⟩
        rw [← hx] at hcc
        by_cases h0 : x = 0
        · have hv' := HTK.out k hk hv.out (by omega)
          have HV' := Lib.hid hv'
          clear hv' hv hx
          subst h0
          go_wp2
          go_round
          case rel => exact ⟨k, by omega, by go_num, HV'⟩
          case measure => simp [intOf]
        · have e0 := HST.out (k + 1) hk hv.out (.inr (by rw [Nat.add_sub_cancel, ← hx]; exact h0))
          clear hx
          subst e0
          go_wp2
          go_ret
          exact ⟨rfl, rfl⟩


set_option maxRecDepth 10000 in
set_option maxHeartbeats 1000000 in
theorem rsigned_big {w : World} {v : Value} {ds : List Nat} (neg : Bool) (h : Sl w v ds) (hn : 256 < (digs (val ds)).length) : Calls Tryz.prog 36 #[.bool neg, v] w (NumRes w (if neg = true then -((val ds : Nat) : Int) else ((val ds : Nat) : Int))) := by
  obtain ⟨z, hz⟩ : ∃ z : Int, z = if neg = true then -((val ds : Nat) : Int) else ((val ds : Nat) : Int) := ⟨_, rfl⟩
  have hza : z.natAbs = val ds := by rw [hz]; split <;> omega
  rw [← hz]
  obtain ⟨ao, cap, rfl⟩ := h.mk'
  have HTR : Hid (∀ W, Sl W (.slice ao ds.length cap) ds → Calls Tryz.prog 55 #[.slice ao ds.length cap] W fun e w' => e = .returned (.slice ao (digs (val ds)).length cap) ∧ w' = W) := fun W h => rtrim_any _ _ _ h
  obtain ⟨n, hnn⟩ : ∃ n, n = (digs (val ds)).length := ⟨_, rfl⟩
  obtain ⟨m, hm⟩ : ∃ m, m = ds.length := ⟨_, rfl⟩
  have hf : fitsB z.natAbs = false := by rw [hza]; unfold fitsB; simp; omega
  rw [← hnn] at HTR hn
  rw [← hm] at HTR h ⊢
  have hr := resbox_new w
  obtain ⟨r0, r1, f0, f1⟩ := hr.cells
  obtain ⟨q0, q1⟩ := hr.stored (.bool false) (.slice none 0 0)
  clear hnn hm hz hza
  go_enter Tryz.func36, Tryz.ntmps36
  go_wp2_with (go_at_call 55; refine (HTR.out _ (h.below (by go_grown))).mono ?_; rintro e w' ⟨rfl, rfl⟩)
  refine bodyPost_ret (v := .tuple #[.agg #[.bool false, .slice none 0 0], .bool false]) (by simp [results, Tryz.results36, go_sem, q0, q1]) rfl ?_
  exact numRes_no hf (by go_grown)

set_option maxRecDepth 10000 in
set_option maxHeartbeats 1000000 in
theorem rsigned_zero {w : World} {v : Value} {ds : List Nat} (neg : Bool) (h : Sl w v ds) (hn : val ds = 0) : Calls Tryz.prog 36 #[.bool neg, v] w (NumRes w 0) := by
  obtain ⟨ao, cap, rfl⟩ := h.mk'
  have HTR : Hid (∀ W, Sl W (.slice ao ds.length cap) ds → Calls Tryz.prog 55 #[.slice ao ds.length cap] W fun e w' => e = .returned (.slice ao 0 cap) ∧ w' = W) := fun W h => by
    have := rtrim_any _ _ _ h
    rwa [hn, digs_zero] at this
  obtain ⟨m, hm⟩ : ∃ m, m = ds.length := ⟨_, rfl⟩
  rw [← hm] at HTR h ⊢
  have hr := resbox_new w
  obtain ⟨r0, r1, f0, f1⟩ := hr.cells
  obtain ⟨q0, q1⟩ := hr.stored (.bool false) (.slice none 0 0)
  clear hm hn
  go_enter Tryz.func36, Tryz.ntmps36
  go_wp2_with (go_at_call 55; refine (HTR.out _ (h.below (by go_grown))).mono ?_; rintro e w' ⟨rfl, rfl⟩)
  refine bodyPost_ret (v := .tuple #[.agg #[.bool false, .slice none 0 0], .bool true]) (by simp [results, Tryz.results36, go_sem, q0, q1]) rfl ?_
  have hf : fitsB (Int.natAbs 0) = true := by show decide ((digs 0).length ≤ 256) = true; rw [digs_zero]; rfl
  exact numRes_yes hf (by go_grown) rfl (by rw [show digs (Int.natAbs 0) = [] from digs_zero]; exact Sw.nil _ _ _ _)

set_option maxRecDepth 10000 in
set_option maxHeartbeats 1000000 in
theorem rsigned_ok {w : World} {v : Value} {ds : List Nat} (neg : Bool) (h : Sl w v ds) (hn : (digs (val ds)).length ≤ 256) (h0 : val ds ≠ 0) : Calls Tryz.prog 36 #[.bool neg, v] w (NumRes w (if neg = true then -((val ds : Nat) : Int) else ((val ds : Nat) : Int))) := by
  obtain ⟨z, hz⟩ : ∃ z : Int, z = if neg = true then -((val ds : Nat) : Int) else ((val ds : Nat) : Int) := ⟨_, rfl⟩
  have hza : z.natAbs = val ds := by rw [hz]; split <;> omega
  have hsg : neg = decide (z < 0) := by
    rw [hz]
    cases neg with
    | true => rw [if_pos rfl]; symm; rw [decide_eq_true_eq]; omega
    | false => rw [if_neg (by simp)]; symm; rw [decide_eq_false_iff_not]; omega
  rw [← hz]
  obtain ⟨ao, cap, rfl⟩ := h.mk'
  have HTR : Hid (∀ W, Sl W (.slice ao ds.length cap) ds → Calls Tryz.prog 55 #[.slice ao ds.length cap] W fun e w' => e = .returned (.slice ao (digs (val ds)).length cap) ∧ w' = W) := fun W h => rtrim_any _ _ _ h
  have hst := h.trim
  obtain ⟨xs, hxs⟩ : ∃ xs, xs = digs (val ds) := ⟨_, rfl⟩
  have hxn : xs.length ≠ 0 := fun e => h0 (digs_inj (by rw [digs_zero, ← hxs]; exact List.eq_nil_of_length_eq_zero e))
  rw [← hxs] at HTR hn hst
  obtain ⟨n, hnn⟩ : ∃ n, n = xs.length := ⟨_, rfl⟩
  obtain ⟨m, hm⟩ : ∃ m, m = ds.length := ⟨_, rfl⟩
  have hf : fitsB z.natAbs = true := by rw [hza]; unfold fitsB; rw [← hxs]; simpa using hn
  rw [← hnn] at HTR hn hst hxn
  rw [← hm] at HTR h ⊢
  obtain ⟨b, off, rfl, hcap, hlt, hcl⟩ := hst.at hxn
  have HXS := Lib.hid hxs
  have HNN := Lib.hid hnn
  have HZA := Lib.hid hza
  have HCL := Lib.hid hcl
  have HBD := Lib.hid hst.bd
  have HR := Lib.hid (resbox_new w)
  have HOW : Hid (((w.alloc (.cells #[.bool false, .slice none 0 0] 27)).alloc (.cells #[] 59)).ownsRow (w.heap.size + 1) 59 1 (.slice (some ⟨w.heap.size + 1, 0, none⟩) 0 0) 0 []) := by
    have := World.ownsRow_lit (base := w.heap.size + 1) (size := 1) (e := 59) (w.alloc (.cells #[.bool false, .slice none 0 0] 27)) #[] 0 (by simp) (by decide) rfl
    refine Lib.hid ?_
    simpa using this
  have HNW : Hid (∀ j u, (xs.map u32v)[j]? = some u → ((w.alloc (.cells #[.bool false, .slice none 0 0] 27)).alloc (.cells #[] 59)).cell? ((⟨b, off, none⟩ : Addr).add j) = some u) := Lib.hid fun j u hj => by
    rw [List.getElem?_map] at hj
    have hjl : j < xs.length := by
      rcases Nat.lt_or_ge j xs.length with h | h
      · exact h
      · rw [List.getElem?_eq_none h] at hj; cases hj
    have hcj := HCL.out j hjl
    rw [List.getElem?_eq_getElem hjl] at hj
    simp only [Option.map_some, Option.some.injEq] at hj
    have hb : Below w.heap.size w ((w.alloc (.cells #[.bool false, .slice none 0 0] 27)).alloc (.cells #[] 59)) := by go_grown
    have := cell_later hb hcj
    rw [← hj]
    have ea : ((⟨b, off, none⟩ : Addr).add j) = ⟨b, off + j, none⟩ := by simp [Addr.add]
    rw [ea]
    refine Eq.trans this ?_
    simp [List.getD, List.getElem?_eq_getElem hjl, u32v]
  obtain ⟨i0, hi, hz0, hz1, hz2⟩ := info_parts Tryz.info59
  have hpos : ((n : Int) == 0) = false := by simp; omega
  clear hnn hm hz hza hxs hcl h0
  go_enter Tryz.func36, Tryz.ntmps36
  go_wp2_with (first | (go_at_call 55; refine (HTR.out _ (h.below (by go_grown))).mono ?_; rintro e w' ⟨rfl, rfl⟩) | (at_builtin; go_must (refine wpList_append_own _ rfl _ _ 25 rfl (w.heap.size + 1) 59 i0 (.int .u32 0) 1 4 Tryz.underlying25 hi hz0 hz1 hz2 rfl (by decide) (.slice (some ⟨w.heap.size + 1, 0, none⟩) 0 0) 0 [] rfl HOW.out ⟨b, off, none⟩ n cap (xs.map u32v) rfl (by simp; exact HNN.out.symm) HNW.out (fun x hx => by obtain ⟨d, _, rfl⟩ := List.mem_map.1 hx; rfl) (by unfold maxLen; omega) (by omega) (by simp) ?_; intro v' w3 hown' hgrow3 hnil3; have hr3 : ResBox w3 w.heap.size := (hgrow3.block _ (by simp; omega) (by simp [Value.ownBlock])).trans (((Below.refl _ _).alloc (Nat.le_refl _) _ : Below (w.alloc (.cells #[.bool false, .slice none 0 0] 27)).heap.size _ _).block _ (by simp) |>.trans HR.out); obtain ⟨r0, r1, f0, f1⟩ := hr3.cells; obtain ⟨ao', cap', rfl, hs3⟩ := sw_of_owns HBD.out (show w3.ownsRow (w.heap.size + 1) 59 1 v' xs.length (xs.map u32v) by rw [← HNN.out]; simpa using hown'))))
  obtain ⟨q0, q1⟩ := hr3.stored (.bool (decide (z < 0))) (.slice ao' xs.length cap')
  have hb3 : Below w.heap.size w w3 := by
    have h1 : Below w.heap.size w ((w.alloc (.cells #[.bool false, .slice none 0 0] 27)).alloc (.cells #[] 59)) := by go_grown
    exact h1.grown hgrow3 (by simp; omega) (fun r e => by simp [Value.ownBlock] at e; omega)
  have hsw := (hs3.after2 (g := w.heap.size) (by omega) (.bool (decide (z < 0))) (.slice ao' xs.length cap')).mono (B' := w.heap.size) (by omega)
  refine bodyPost_ret (v := .tuple #[.agg #[.bool (decide (z < 0)), .slice ao' xs.length cap'], .bool true]) (by simp [results, Tryz.results36, go_sem, q0, q1]) rfl ?_
  exact numRes_yes hf ((hb3.setCell (by simp) _).setCell (by simp) _) rfl (by rw [HZA.out, ← HXS.out]; exact hsw)

/-- signed of the reference. -/
theorem rsigned_any {w : World} {v : Value} {ds : List Nat} (neg : Bool) (h : Sl w v ds) : Calls Tryz.prog 36 #[.bool neg, v] w (NumRes w (if neg = true then -((val ds : Nat) : Int) else ((val ds : Nat) : Int))) := by
  by_cases h0 : val ds = 0
  · have e : (if neg = true then -((val ds : Nat) : Int) else ((val ds : Nat) : Int)) = 0 := by rw [h0]; split <;> rfl
    rw [e]
    exact rsigned_zero neg h h0
  · by_cases hn : (digs (val ds)).length ≤ 256
    · exact rsigned_ok neg h hn h0
    · exact rsigned_big neg h (by omega)

end Go.Proofs.YtdgmjmckeeeljaaGreatDoor
