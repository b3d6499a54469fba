/- Contracts: collect, Choices. Condition: the slices read as ints, at most eight each. Contracts: slices.Index and Contains of choices; Clone and before; ints of one's own that are written. Contract: before. Condition: a permitted ratio, or a row that is not empty. -/
import Derived.Test.YtjlneggfkpjnpaaMb1
import Derived.Laws.StructEq
import Derived.Laws.Rows
import Derived.IntWalk
set_option linter.unusedSimpArgs false
set_option linter.unusedVariables false
namespace Go.Proofs.Ytjlneggfkpjnpaa
open Go.RowKit

attribute [local go_sem ↓] appC_rw

set_option maxRecDepth 10000 in
set_option maxHeartbeats 2000000 in
theorem collect_any {W0 W : World} {ao : Option Addr} {n cap : Nat} {l0 : List Ch} (hO : OwC W W0.heap.size (.slice ao n cap) n l0) (hn : n ≤ 100) (hb0 : Below W0.heap.size W0 W) {vw : Value} {wl : List Int} (hw : Ix W0 vw wl) (hwl : wl.length ≤ 8) (size : Int) :
    Calls Try.prog 32 #[.slice ao n cap, .int .i64 size, vw] W fun e w' => ∃ ao2 m cap2, e = .returned (.slice ao2 m cap2) ∧ OwC w' W0.heap.size (.slice ao2 m cap2) m (l0 ++ coll size wl wl.length) ∧ Below W0.heap.size W0 w' := by
  obtain ⟨aw, cw, rfl⟩ := hw.mk'
  obtain ⟨nw, hnw⟩ : ∃ nw, nw = wl.length := ⟨_, rfl⟩
  have HN := Lib.hid hnw
  have HX := Lib.hid hw
  have HO := Lib.hid hO
  have HB := Lib.hid hb0
  rw [← hnw] at hwl HX ⊢
  clear hnw hw hO hb0
  go_enter Try.func32, Try.ntmps32
  go_wp2
  go_loopw [0, 7, 10] (fun lv _ kv wr => ∃ (k : Nat) (ao2 : Option Addr) (m cap2 : Nat), k ≤ nw ∧ m ≤ 100 + k ∧ kv = .int .i64 (k : Nat) ∧ lv = .slice ao2 m cap2 ∧ Hid (OwC wr W0.heap.size (.slice ao2 m cap2) m (l0 ++ coll size wl k)) ∧ Hid (Below W0.heap.size W0 wr)) (fun _ _ kv _ => nw - (intOf kv).toNat)
  case atStart => exact ⟨0, ao, n, cap, by omega, by omega, rfl, rfl, Lib.hid (by rw [coll, List.append_nil]; exact HO.out), HB⟩
  case round =>
    obtain ⟨k, ao2, m, cap2, hk, hm, rfl, rfl, hO, hB⟩ := hrel
    by_cases hkn : k = nw
    · subst hkn
      go_wp2
      go_ret
      exact ⟨_, _, _, rfl, hO.out, hB.out⟩
    · have hlt : k < nw := by omega
      obtain ⟨b, off, rfl, hq, hcap, hbl, hcl⟩ := HX.out.at (by omega)
      have hc := cell_later hB.out (hcl k hlt)
      obtain ⟨x, hx⟩ : ∃ x, x = wl.getD k 0 := ⟨_, rfl⟩
      by_cases h0 : 0 < x
      · obtain ⟨g, cap3, w3, hrun, hown, hb, -, -, -⟩ := push_choice hO.out (by omega) hB.out.size x size (k : Int)
        have e : l0 ++ coll size wl k ++ [(x, size, (k : Int))] = l0 ++ coll size wl (k + 1) := by
          rw [coll, ← hx, if_pos h0, List.append_assoc]
        rw [e] at hown
        rw [← hx] at hc
        have HO2 := Lib.hid hown
        have HB2 := Lib.hid (hB.out.trans hb)
        clear hx hcl hq hown hb hO e
        go_wp2
        go_roundw
        case rel => exact ⟨k + 1, some ⟨g, 0, none⟩, m + 1, cap3, by omega, by omega, by go_num, rfl, HO2, HB2⟩
        case measure => simp [intOf]; omega
      · have e : coll size wl (k + 1) = coll size wl k := by
          rw [coll, ← hx, if_neg h0, List.append_nil]
        have HO2 := Lib.hid hO.out
        rw [← e] at HO2
        rw [← hx] at hc
        clear hx hcl hq hO e
        go_wp2
        go_roundw
        case rel => exact ⟨k + 1, ao2, m, cap2, by omega, by omega, by go_num, rfl, HO2, hB⟩
        case measure => simp [intOf]; omega

theorem coll_le8 (size : Int) {w : List Int} (h : w.length ≤ 8) : (coll size w w.length).length ≤ 8 := Nat.le_trans (coll_len _ _ _) h

theorem chV_no1 {r s row : List Int} (h : hasB r s = false) : chV r s row = [] := by unfold chV; rw [h]; rfl
theorem chV_no2 {r s row : List Int} (h : fitB r row = false) : chV r s row = [] := by unfold chV; rw [h, Bool.and_false]; rfl
theorem chV_row {r s row : List Int} (h1 : hasB r s = true) (h2 : fitB r row = true) (h3 : 0 < leftV row) : chV r s row = coll 0 row row.length := by unfold chV; rw [h1, h2, if_pos h3]; rfl
theorem chV_new {r s row : List Int} (h1 : hasB r s = true) (h2 : fitB r row = true) (h3 : ¬ 0 < leftV row) : chV r s row = blks r s s.length := by unfold chV; rw [h1, h2, if_neg h3]; rfl

set_option maxRecDepth 10000 in
set_option maxHeartbeats 4000000 in
theorem choices_any {W : World} {ar az aw : Option Addr} {nr cr ns cs nw cw : Nat} {r s row : List Int} (hr : Ix W (.slice ar nr cr) r) (hs : Ix W (.slice az ns cs) s) (hw : Ix W (.slice aw nw cw) row) (lr : r.length ≤ 8) (ls : s.length ≤ 8) (lw : row.length ≤ 8) :
    Calls Try.prog 14 #[.agg #[.int .i64 0, .slice ar nr cr, .slice az ns cs, .int .i64 0, .int .i64 0, .int .i64 0], .slice aw nw cw] W fun e w' => ∃ ao n cap, e = .returned (.slice ao n cap) ∧ OwC w' W.heap.size (.slice ao n cap) n (chV r s row) ∧ Below W.heap.size W w' := by
  have hnr := hr.size
  have hns := hs.size
  have hnw := hw.size
  have HB0 := Lib.hid (dbox_below W (.slice ar nr cr) (.slice az ns cs))
  have HD0 := Lib.hid (dbox_is W (.slice ar nr cr) (.slice az ns cs))
  have HH := Lib.hid (hasBlocks_any (hr.below HB0.out) (hs.below HB0.out))
  have HF := Lib.hid (fun W' (hb : Below W.heap.size W W') => fits_any (ar := ar) (az := az) (cr := cr) (ns := ns) (cs := cs) hnr (hw.below hb))
  have HL := Lib.hid (fun W' (hb : Below W.heap.size W W') => left_any (hw.below hb) (by omega))
  by_cases hH : hasB r s = true
  · rw [hH] at HH
    by_cases hF : fitB r row = true
    · rw [hF] at HF
      by_cases hl : 0 < leftV row
      · rw [chV_row hH hF hl]
        obtain ⟨S, hS⟩ : ∃ S, S = leftV row := ⟨_, rfl⟩
        rw [← hS] at HL hl
        have HC := Lib.hid (fun W' (hb : Below W.heap.size W W') => collect_any (W0 := W) (W := W') (ao := none) (n := 0) (cap := 0) (l0 := []) (World.ownsRow_nil _ _ _ _) (by omega) hb hw lw 0)
        simp only [List.nil_append] at HC
        clear hr hs hw hnr hns hnw hH hF hS lr ls lw
        go_enter Try.func14, Try.ntmps14
        go_wp2_with (first
          | (go_at_call 30; (with_reducible refine HH.out.mono ?_); rintro e w1 ⟨rfl, hb1⟩; have HB := Lib.hid hb1; have HD := Lib.hid (DBox.below HD0.out hb1); obtain ⟨c0, c1, c2, c3, c4, c5⟩ := HD.out.cells; clear hb1)
          | (go_at_call 31; (with_reducible refine (HF.out _ (dbox_up HB.out)).mono ?_); rintro e w2 ⟨rfl, hb1⟩; have HB := Lib.hid (HB.out.trans (hb1.mono HB.out.size)); clear c0 c1 c2 c3 c4 c5; have HD := Lib.hid (DBox.below HD.out hb1); obtain ⟨c0, c1, c2, c3, c4, c5⟩ := HD.out.cells; clear hb1)
          | (go_at_call 15; (with_reducible refine (HL.out _ (dbox_up HB.out)).mono ?_); rintro e w3 ⟨rfl, hb1⟩; have HB := Lib.hid (HB.out.trans (hb1.mono HB.out.size)); clear c0 c1 c2 c3 c4 c5; have HD := Lib.hid (DBox.below HD.out hb1); obtain ⟨c0, c1, c2, c3, c4, c5⟩ := HD.out.cells; clear hb1)
          | (go_at_call 32; (with_reducible refine (HC.out _ (dbox_up HB.out)).mono ?_); rintro e w4 ⟨ao2, m2, cap2, rfl, ho2, hb2⟩; have HO2 := Lib.hid ho2; have HB2 := Lib.hid hb2; clear ho2 hb2))
        all_goals (go_ret; exact ⟨_, _, _, rfl, HO2.out, HB2.out⟩)
      · rw [chV_new hH hF hl]
        obtain ⟨S, hS⟩ : ∃ S, S = leftV row := ⟨_, rfl⟩
        rw [← hS] at HL hl
        have HC2 := Lib.hid (fun W' ao n cap l0 size (hO : OwC W' (dbox W (.slice ar nr cr) (.slice az ns cs)).heap.size (.slice ao n cap) n l0) (hn : n ≤ 100) (hb : Below (dbox W (.slice ar nr cr) (.slice az ns cs)).heap.size (dbox W (.slice ar nr cr) (.slice az ns cs)) W') => collect_any (W0 := dbox W (.slice ar nr cr) (.slice az ns cs)) (W := W') hO hn hb (hr.below HB0.out) lr size)
        have HLEN : Hid (∀ k, k ≤ 8 → (blks r s k).length ≤ 64) := Lib.hid (fun k hk => Nat.le_trans (blks_len r s k) (Nat.le_trans (Nat.mul_le_mul hk lr) (by decide)))
        have HSX := Lib.hid hs
        have HR8 := Lib.hid ls
        rw [← hns] at ls ⊢
        have HC := HB0
        clear hr hs hw hnr hns hnw hH hF hS lr HR8
        go_enter Try.func14, Try.ntmps14
        go_wp2_with (first
          | (go_at_call 30; (with_reducible refine HH.out.mono ?_); rintro e w1 ⟨rfl, hb1⟩; have HB := Lib.hid hb1; have HD := Lib.hid (DBox.below HD0.out hb1); obtain ⟨c0, c1, c2, c3, c4, c5⟩ := HD.out.cells; clear hb1)
          | (go_at_call 31; (with_reducible refine (HF.out _ (dbox_up HB.out)).mono ?_); rintro e w2 ⟨rfl, hb1⟩; have HB := Lib.hid (HB.out.trans (hb1.mono HB.out.size)); clear c0 c1 c2 c3 c4 c5; have HD := Lib.hid (DBox.below HD.out hb1); obtain ⟨c0, c1, c2, c3, c4, c5⟩ := HD.out.cells; clear hb1)
          | (go_at_call 15; (with_reducible refine (HL.out _ (dbox_up HB.out)).mono ?_); rintro e w3 ⟨rfl, hb1⟩; have HB := Lib.hid (HB.out.trans (hb1.mono HB.out.size)); clear c0 c1 c2 c3 c4 c5; have HD := Lib.hid (DBox.below HD.out hb1); obtain ⟨c0, c1, c2, c3, c4, c5⟩ := HD.out.cells; clear hb1)
          | (go_at_call 32; (with_reducible refine (HC.out _ (dbox_up HB.out)).mono ?_); rintro e w4 ⟨ao2, m2, cap2, rfl, ho2, hb2⟩; have HO2 := Lib.hid ho2; have HB2 := Lib.hid hb2; clear ho2 hb2))
        clear c0 c1 c2 c3 c4 c5
        go_loopw [5, 7, 25] (fun lv _ kv wr => ∃ (k : Nat) (ao2 : Option Addr) (m cap2 : Nat), k ≤ ns ∧ kv = .int .i64 (k : Nat) ∧ lv = .slice ao2 m cap2 ∧ Hid (OwC wr (dbox W (.slice ar nr cr) (.slice az ns cs)).heap.size (.slice ao2 m cap2) m (blks r s k)) ∧ Hid (Below (dbox W (.slice ar nr cr) (.slice az ns cs)).heap.size (dbox W (.slice ar nr cr) (.slice az ns cs)) wr)) (fun _ _ kv _ => ns - (intOf kv).toNat)
        case atStart => exact ⟨0, none, 0, 0, by omega, rfl, rfl, Lib.hid (World.ownsRow_nil _ _ _ _), HB⟩
        case round =>
          obtain ⟨k, ao2, m, cap2, hk, rfl, rfl, hO, hB⟩ := hrel
          by_cases hkn : k = ns
          · subst hkn
            go_wp2
            go_ret
            exact ⟨_, _, _, rfl, owns_mono hO.out (by simp), dbox_up hB.out⟩
          · have hlt : k < ns := by omega
            obtain ⟨b, off, rfl, hq, hcap, hbl, hcl⟩ := HSX.out.at (by omega)
            have hc := cell_later (dbox_up hB.out) (hcl k hlt)
            have hD := DBox.below HD0.out hB.out
            obtain ⟨c0, c1, c2, c3, c4, c5⟩ := DBox.cells hD
            have hm : m ≤ 64 := by
              have := owC_len hO.out
              have := HLEN.out k (by omega)
              omega
            have HCC := Lib.hid (HC2.out wr ao2 m cap2 (blks r s k) (s.getD k 0) hO.out (by omega) hB.out)
            have e : blks r s k ++ coll (s.getD k 0) r r.length = blks r s (k + 1) := rfl
            rw [e] at HCC
            obtain ⟨x, hx⟩ : ∃ x, x = s.getD k 0 := ⟨_, rfl⟩
            rw [← hx] at hc HCC
            clear hx hcl hq hD e hm
            go_wp2_with (go_at_call 32; (with_reducible refine HCC.out.mono ?_); rintro e w4 ⟨ao3, m3, cap3, rfl, ho2, hb2⟩; have HO2 := Lib.hid ho2; have HB2 := Lib.hid hb2; clear ho2 hb2)
            go_roundw
            case rel => exact ⟨k + 1, ao3, m3, cap3, by omega, by go_num, rfl, HO2, HB2⟩
            case measure => simp [intOf]; omega
    · have hF : fitB r row = false := by simpa using hF
      rw [chV_no2 hF]
      rw [hF] at HF
      have HC := HB0
      clear hr hs hw hnr hns hnw hH hF lr ls lw
      go_enter Try.func14, Try.ntmps14
      go_wp2_with (first
          | (go_at_call 30; (with_reducible refine HH.out.mono ?_); rintro e w1 ⟨rfl, hb1⟩; have HB := Lib.hid hb1; have HD := Lib.hid (DBox.below HD0.out hb1); obtain ⟨c0, c1, c2, c3, c4, c5⟩ := HD.out.cells; clear hb1)
          | (go_at_call 31; (with_reducible refine (HF.out _ (dbox_up HB.out)).mono ?_); rintro e w2 ⟨rfl, hb1⟩; have HB := Lib.hid (HB.out.trans (hb1.mono HB.out.size)); clear c0 c1 c2 c3 c4 c5; have HD := Lib.hid (DBox.below HD.out hb1); obtain ⟨c0, c1, c2, c3, c4, c5⟩ := HD.out.cells; clear hb1)
          | (go_at_call 15; (with_reducible refine (HL.out _ (dbox_up HB.out)).mono ?_); rintro e w3 ⟨rfl, hb1⟩; have HB := Lib.hid (HB.out.trans (hb1.mono HB.out.size)); clear c0 c1 c2 c3 c4 c5; have HD := Lib.hid (DBox.below HD.out hb1); obtain ⟨c0, c1, c2, c3, c4, c5⟩ := HD.out.cells; clear hb1)
          | (go_at_call 32; (with_reducible refine (HC.out _ (dbox_up HB.out)).mono ?_); rintro e w4 ⟨ao2, m2, cap2, rfl, ho2, hb2⟩; have HO2 := Lib.hid ho2; have HB2 := Lib.hid hb2; clear ho2 hb2))
      all_goals (go_ret; exact ⟨_, _, _, rfl, World.ownsRow_nil _ _ _ _, dbox_up HB.out⟩)
  · have hH : hasB r s = false := by simpa using hH
    rw [chV_no1 hH]
    rw [hH] at HH
    have HC := HB0
    clear hr hs hw hnr hns hnw hH lr ls lw
    go_enter Try.func14, Try.ntmps14
    go_wp2_with (first
          | (go_at_call 30; (with_reducible refine HH.out.mono ?_); rintro e w1 ⟨rfl, hb1⟩; have HB := Lib.hid hb1; have HD := Lib.hid (DBox.below HD0.out hb1); obtain ⟨c0, c1, c2, c3, c4, c5⟩ := HD.out.cells; clear hb1)
          | (go_at_call 31; (with_reducible refine (HF.out _ (dbox_up HB.out)).mono ?_); rintro e w2 ⟨rfl, hb1⟩; have HB := Lib.hid (HB.out.trans (hb1.mono HB.out.size)); clear c0 c1 c2 c3 c4 c5; have HD := Lib.hid (DBox.below HD.out hb1); obtain ⟨c0, c1, c2, c3, c4, c5⟩ := HD.out.cells; clear hb1)
          | (go_at_call 15; (with_reducible refine (HL.out _ (dbox_up HB.out)).mono ?_); rintro e w3 ⟨rfl, hb1⟩; have HB := Lib.hid (HB.out.trans (hb1.mono HB.out.size)); clear c0 c1 c2 c3 c4 c5; have HD := Lib.hid (DBox.below HD.out hb1); obtain ⟨c0, c1, c2, c3, c4, c5⟩ := HD.out.cells; clear hb1)
          | (go_at_call 32; (with_reducible refine (HC.out _ (dbox_up HB.out)).mono ?_); rintro e w4 ⟨ao2, m2, cap2, rfl, ho2, hb2⟩; have HO2 := Lib.hid ho2; have HB2 := Lib.hid hb2; clear ho2 hb2))
    all_goals (go_ret; exact ⟨_, _, _, rfl, World.ownsRow_nil _ _ _ _, dbox_up HB.out⟩)

end Go.Proofs.Ytjlneggfkpjnpaa

namespace Go.Proofs.Ytjlneggfkpjnpaa
open Go.RowKit

def eqC (a b c x y z : Int) : Bool := a == x && (b == y && c == z)
theorem eqC_iff (c d : Ch) : eqC c.1 c.2.1 c.2.2 d.1 d.2.1 d.2.2 = decide (c = d) := by
  obtain ⟨a, b, c⟩ := c
  obtain ⟨x, y, z⟩ := d
  unfold eqC
  rw [Bool.eq_iff_iff]
  simp

theorem equal28 (a b c x y z : Int) (w : World) :
    (Op.equalIn 10000 28 (.agg #[.int .i64 a, .int .i64 b, .int .i64 c]) (.agg #[.int .i64 x, .int .i64 y, .int .i64 z])).run Try.prog w = .ok (eqC a b c x y z) w := by
  rw [run_equalIn_agg (P := Try.prog) w 9999 28 _ _ (by kernel_rfl) (by kernel_rfl)]
  have e : ∀ p q : Int, ∀ w, (Op.equalIn 9999 3 (.int .i64 p) (.int .i64 q)).run Try.prog w = .ok (p == q) w := fun p q w => run_equalIn_int w 9998 3 .i64 .i64 p q Try.underlying3
  have hp : ∀ (xs : Array Value) (i : Nat) (v : Int) (w : World), xs[i]? = some (.int .i64 v) → (part 3 xs i).run Try.prog w = .ok (.int .i64 v) w := fun xs i v w h => by
    simp [part, isAgg, run_underlying Try.underlying3, h]
  have hf : (Try.prog.fieldsOf 28).toList.map (fun f => (f.name ≠ "_", f.type, f.offset)) = [(True, 3, 0), (True, 3, 1), (True, 3, 2)] := by
    have : (Try.prog.fieldsOf 28).toList.map (fun f => (f.name, f.type, f.offset)) = [("Weight", 3, 0), ("Size", 3, 1), ("Arm", 3, 2)] := by kernel_rfl
    have h2 := congrArg (List.map fun (q : String × Nat × Nat) => (q.1 ≠ "_", q.2.1, q.2.2)) this
    simpa [List.map_map, Function.comp_def] using h2
  have h3 : (Try.prog.fieldsOf 28).toList.length = 3 := by
    have := congrArg List.length hf
    simpa using this
  revert hf h3
  generalize (Try.prog.fieldsOf 28).toList = fs
  intro hf h3
  match fs, h3, hf with
  | [f0, f1, f2], _, hf =>
    simp only [List.map_cons, List.map_nil, List.cons.injEq, Prod.mk.injEq, and_true, eq_iff_iff, iff_true] at hf
    obtain ⟨⟨n0, t0, o0⟩, ⟨n1, t1, o1⟩, ⟨n2, t2, o2⟩⟩ := hf
    have a0 := fun w => hp #[.int .i64 a, .int .i64 b, .int .i64 c] 0 a w rfl
    have a1 := fun w => hp #[.int .i64 a, .int .i64 b, .int .i64 c] 1 b w rfl
    have a2 := fun w => hp #[.int .i64 a, .int .i64 b, .int .i64 c] 2 c w rfl
    have x0 := fun w => hp #[.int .i64 x, .int .i64 y, .int .i64 z] 0 x w rfl
    have x1 := fun w => hp #[.int .i64 x, .int .i64 y, .int .i64 z] 1 y w rfl
    have x2 := fun w => hp #[.int .i64 x, .int .i64 y, .int .i64 z] 2 z w rfl
    unfold eqC
    simp only [Op.eqFields, n0, n1, n2, t0, t1, t2, o0, o1, o2, if_true, Sem.run_bind, a0, x0, a1, x1, a2, x2, e, Result.andThen_ok, Sem.run_ite, Sem.run_pure, ne_eq, not_false_eq_true]
    cases (a == x) <;> cases (b == y) <;> cases (c == z) <;> simp

theorem getD_mem {l : List Ch} {k : Nat} (h : k < l.length) : l.getD k (0, 0, 0) ∈ l := by
  have : l.getD k (0, 0, 0) = l[k] := by simp [List.getD, h]
  rw [this]; exact List.getElem_mem h
theorem mem_getD {l : List Ch} {c : Ch} (h : c ∈ l) : ∃ k, k < l.length ∧ l.getD k (0, 0, 0) = c := by
  obtain ⟨k, hk, rfl⟩ := List.getElem_of_mem h
  exact ⟨k, hk, by simp [List.getD, hk]⟩

abbrev cbox (W : World) (c : Ch) : World := W.alloc (.cells #[.int .i64 c.1, .int .i64 c.2.1, .int .i64 c.2.2] 28)
theorem cbox_is (W : World) (c : Ch) : CBox (cbox W c) W.heap.size c := heap_alloc_new _ _
theorem cbox_below (W : World) (c : Ch) : Below W.heap.size W (cbox W c) := (Below.refl _ _).alloc (Nat.le_refl _) _

attribute [local go_sem ↓] equal28

set_option maxRecDepth 10000 in
set_option maxHeartbeats 2000000 in
theorem index_any {W : World} {v : Value} {l : List Ch} (hX : Cx W v l) (x y z : Int) :
    Calls Try.prog 45 #[v, .agg #[.int .i64 x, .int .i64 y, .int .i64 z]] W fun e w' => ∃ i : Int, e = .returned (.int .i64 i) ∧ decide (0 ≤ i) = decide ((x, y, z) ∈ l) ∧ Below W.heap.size W w' := by
  obtain ⟨ao, cap, rfl⟩ := hX.mk'
  have hlen := hX.len
  unfold maxLen at hlen
  have HB0 := Lib.hid (cbox_below W (x, y, z))
  have HC0 := Lib.hid (cbox_is W (x, y, z))
  obtain ⟨n, hn⟩ : ∃ n, n = l.length := ⟨_, rfl⟩
  have HN := Lib.hid hn
  have HX := Lib.hid hX
  rw [← hn] at hlen HX ⊢
  clear hX hn
  go_enter Try.func45, Try.ntmps45
  go_wp2
  go_loopw [5, 8] (fun _ kv wr => ∃ k : Nat, k ≤ n ∧ kv = .int .i64 (k : Nat) ∧ Hid (∀ j, j < k → l.getD j (0, 0, 0) ≠ (x, y, z)) ∧ Hid (Below (cbox W (x, y, z)).heap.size (cbox W (x, y, z)) wr)) (fun _ kv _ => n - (intOf kv).toNat)
  case atStart => exact ⟨0, by omega, rfl, Lib.hid (fun j h => by omega), Lib.hid (Below.refl _ _)⟩
  case round =>
    obtain ⟨k, hk, rfl, hJ, hB⟩ := hrel
    have HBW : Hid (Below W.heap.size W wr) := Lib.hid (HB0.out.trans (hB.out.mono (by simp)))
    by_cases hkn : k = n
    · have E : Hid (decide ((0 : Int) ≤ -1) = decide ((x, y, z) ∈ l)) := Lib.hid (by
        rw [decide_eq_decide]
        constructor
        · intro h; omega
        · intro h
          obtain ⟨j, h1, h2⟩ := mem_getD h
          exact absurd h2 (hJ.out j (by rw [hkn, HN.out]; exact h1)))
      subst hkn
      clear hJ
      go_wp2
      go_ret
      exact ⟨_, rfl, E.out, HBW.out⟩
    · have hlt : k < n := by omega
      obtain ⟨b, off, rfl, hcap, hbl, hcl⟩ := HX.out.at (by omega)
      obtain ⟨c0, c1, c2⟩ := hcl k hlt
      have c0 := cell_later HBW.out c0
      have c1 := cell_later HBW.out c1
      have c2 := cell_later HBW.out c2
      obtain ⟨d0, d1, d2⟩ := (HC0.out.below hB.out).cells
      have hq := eqC_iff (x, y, z) (l.getD k (0, 0, 0))
      have hmem := getD_mem (l := l) (k := k) (by rw [← HN.out]; exact hlt)
      have HBD := Lib.hid hB.out.drew
      by_cases he : l.getD k (0, 0, 0) = (x, y, z)
      · rw [he] at c0 c1 c2 hq hmem
        simp only [decide_true] at hq
        have E : Hid (decide ((0 : Int) ≤ (k : Int)) = decide ((x, y, z) ∈ l)) := Lib.hid (by
          rw [decide_eq_decide]; exact ⟨fun _ => hmem, fun _ => by omega⟩)
        have HBD2 := Lib.hid HBW.out.drew
        clear hcl hJ hmem he
        go_wp2
        go_region
        go_wp2
        go_ret
        exact ⟨_, rfl, E.out, HBD2.out⟩
      · have HJ2 : Hid (∀ j, j < k + 1 → l.getD j (0, 0, 0) ≠ (x, y, z)) := Lib.hid fun j hj => by
          rcases Nat.lt_or_ge j k with h | h
          · exact hJ.out j h
          · rw [show j = k by omega]; exact he
        rw [decide_eq_false (fun h => he h.symm)] at hq
        revert c0 c1 c2 hq
        generalize l.getD k (0, 0, 0) = q
        obtain ⟨p0, p1, p2⟩ := q
        intro c0 c1 c2 hq
        simp only at c0 c1 c2 hq
        clear hcl hJ hmem he
        go_wp2
        go_region
        go_wp2
        go_roundw
        case rel => exact ⟨k + 1, by omega, by go_num, HJ2, HBD⟩
        case measure => simp [intOf]; omega

set_option maxRecDepth 10000 in
set_option maxHeartbeats 1000000 in
theorem contains_any {W : World} {v : Value} {l : List Ch} (hX : Cx W v l) (x y z : Int) :
    Calls Try.prog 34 #[v, .agg #[.int .i64 x, .int .i64 y, .int .i64 z]] W fun e w' => e = .returned (.bool (decide ((x, y, z) ∈ l))) ∧ Below W.heap.size W w' := by
  have HB0 := Lib.hid (cbox_below W (x, y, z))
  have HI := Lib.hid (index_any (hX.below HB0.out) x y z)
  obtain ⟨R, hR⟩ : ∃ R, R = decide ((x, y, z) ∈ l) := ⟨_, rfl⟩
  rw [← hR] at HI ⊢
  clear hR hX
  go_enter Try.func34, Try.ntmps34
  go_wp2_with (go_at_call 45; refine HI.out.mono ?_; rintro e w1 ⟨i, rfl, he, hb⟩; have HE := Lib.hid he; have HB := Lib.hid (HB0.out.trans (hb.mono HB0.out.size)); clear hb he)
  go_ret
  exact ⟨by rw [← HE.out]; first | rfl | (simp; done), HB.out⟩

/-- What ints of one's own, at least one of them, are. -/
theorem OwI.parts {W : World} {B n : Nat} {v : Value} {l : List Int} (h : OwI W B v n l) (hn : n ≠ 0) : ∃ g cap, v = .slice (some ⟨g, 0, none⟩) n cap ∧ n ≤ cap ∧ B ≤ g ∧ g < W.heap.size ∧ (∀ j, j < n → W.cell? ⟨g, j, none⟩ = some (.int .i64 (l.getD j 0))) ∧ (∀ j, W.frozen? ⟨g, j, none⟩ = false) ∧ (∀ j x, j < n → OwI (W.setCell ⟨g, j, none⟩ (.int .i64 x)) B v n (l.set j x)) := by
  have hl := owI_len h
  have h1 := h.1
  rcases h.2 with ⟨hv, h0⟩ | ⟨g, cap, cur, hv, hB, hg, hc, hm, hs, ht⟩
  · exact absurd h0 hn
  · refine ⟨g, cap, hv, hc, hB, (Array.getElem?_eq_some_iff.1 hg).1, fun j hj => ?_, fun j => frozen_of_row _ _ _ _ _ hg, fun j x hj => ?_⟩
    · have e : (cur.toList.take (n * 1))[j]? = (ints l)[j]? := by rw [ht]
      rw [List.getElem?_take_of_lt (by omega)] at e
      rw [cell_of_row _ _ _ _ _ _ hg, ← Array.getElem?_toList, e]
      have : j < l.length := by omega
      simp [ints, List.getD, this]
    · refine ⟨by simp [ints, hl], .inr ⟨g, cap, cur.setIfInBounds j (.int .i64 x), hv, hB, heap_setCell_same _ _ _ _ _ _ hg, hc, hm, by simp [hs], ?_⟩⟩
      rw [Array.toList_setIfInBounds, List.take_set, ht]
      simp [ints, List.map_set]

theorem clone_run {W : World} {b off n cap : Nat} {l : List Int} (h : Ix W (.slice (some ⟨b, off, none⟩) n cap) l) (hn : n ≠ 0) (hl : n ≤ 1000) :
    ∃ ao cap2 w2, Sem.run Try.prog (appI 25 #[.slice (some ⟨W.heap.size, 0, none⟩) 0 0, .slice (some ⟨b, off, none⟩) n cap]) (W.alloc (.cells #[] 3)) = .ok (.slice ao n cap2) w2 ∧ OwI w2 W.heap.size (.slice ao n cap2) n l ∧ Below W.heap.size W w2 := by
  obtain ⟨i0, hii, hz0, hz1, hz2⟩ := info_parts Try.info3
  have hbA : Below W.heap.size W (W.alloc (.cells #[] 3)) := (Below.refl _ _).alloc (Nat.le_refl _) _
  have hown0 : (W.alloc (.cells #[] 3)).ownsRow W.heap.size 3 1 (.slice (some ⟨W.heap.size, 0, none⟩) 0 0) 0 (ints []) := ⟨rfl, .inr ⟨W.heap.size, 0, #[], rfl, Nat.le_refl _, heap_alloc_new _ _, Nat.le_refl _, Nat.zero_le _, rfl, rfl⟩⟩
  obtain ⟨b', off', e, hq, hcap, hbl, hcl⟩ := h.at hn
  injection e with e; injection e with e1 e2; subst e1 e2
  obtain ⟨v2, w2, hrun, hown2, hgrow2, _⟩ := run_append_own (P := Try.prog) (w := W.alloc (.cells #[] 3)) W.heap.size 25 25 3 i0 (.int .i64 0) 1 8 Try.underlying25 hii hz0 hz1 hz2 rfl (by decide) _ 0 _ hown0 ⟨b, off, none⟩ n cap (ints l) (by simp [ints, hq])
    (fun j u hu => by
      have hj : j < n := by have := (List.getElem?_eq_some_iff.1 hu).1; simpa [ints, hq] using this
      rw [add_none, cell_later hbA (hcl j hj), ← hu]
      have : j < l.length := by omega
      simp [ints, List.getD, this]) (fun u hu => by simp [ints] at hu; obtain ⟨q, _, rfl⟩ := hu; rfl) (by unfold maxLen; omega) (by omega) (by simp)
  rw [appI_rw] at hrun
  rw [Nat.zero_add] at hown2
  obtain ⟨ao2, cap2, rfl⟩ := slice_of_owns hown2
  exact ⟨ao2, cap2, w2, hrun, hown2, hbA.grown hgrow2 (by simp) (fun j hj => (hown0.lt j hj).1)⟩

attribute [local go_sem ↓] appI_rw

set_option maxRecDepth 10000 in
set_option maxHeartbeats 1000000 in
theorem clone_any {W : World} {v : Value} {l : List Int} (hX : Ix W v l) (h0 : l.length ≠ 0) (hl : l.length ≤ 1000) :
    Calls Try.prog 46 #[v] W fun e w' => ∃ ao cap, e = .returned (.slice ao l.length cap) ∧ OwI w' W.heap.size (.slice ao l.length cap) l.length l ∧ Below W.heap.size W w' := by
  obtain ⟨ao, cap, rfl⟩ := hX.mk'
  obtain ⟨b, off, rfl, hq, hcap, hbl, hcl⟩ := hX.at h0
  obtain ⟨ao2, cap2, w2, hrun, ho, hb⟩ := clone_run hX h0 hl
  have hqn := fun (w : World) => Lib.run_eql_slice_nil (P := Try.prog) w 25 3 (some ⟨b, off, none⟩) l.length cap 0 0 Try.underlying25
  obtain ⟨n, hn⟩ : ∃ n, n = l.length := ⟨_, rfl⟩
  rw [← hn] at hl h0 hrun ho hqn ⊢
  have HO := Lib.hid ho
  have HB := Lib.hid hb
  clear hn hX hcl hq hbl ho hb
  go_enter Try.func46, Try.ntmps46
  go_wp2
  go_ret
  exact ⟨_, _, rfl, HO.out, HB.out⟩

end Go.Proofs.Ytjlneggfkpjnpaa

namespace Go.Proofs.Ytjlneggfkpjnpaa
open Go.RowKit

theorem hasB_iff {r s : List Int} : hasB r s = true ↔ (1 ≤ r.length ∧ r.length ≤ 6 ∧ inB 0 8 r = true ∧ r.any (fun x => decide (0 < x)) = true) ∧ 1 ≤ s.length ∧ s.length ≤ 3 ∧ inB 1 4 s = true := by
  unfold hasB hasR hasS
  simp only [Bool.and_eq_true, decide_eq_true_eq, and_assoc]

theorem getD_map {r : List Int} {f : Int → Int} {k : Nat} (h : k < r.length) : (r.map f).getD k 0 = f (r.getD k 0) := by simp [List.getD, h]

theorem in_times {r : List Int} {y : Int} (h : inB 0 8 r = true) (h1 : 1 ≤ y) (h4 : y ≤ 4) : ∀ k, k < r.length → 0 ≤ y * r.getD k 0 ∧ y * r.getD k 0 ≤ 32 := fun k hk => by
  obtain ⟨a, b⟩ := (inB_iff.1 h) k hk
  refine ⟨Int.mul_nonneg (by omega) a, ?_⟩
  have h5 : y * r.getD k 0 ≤ 4 * r.getD k 0 := Int.mul_le_mul_of_nonneg_right h4 a
  omega

/-- What is known of a choice. -/
theorem ch_facts {r s row : List Int} {x y z : Int} (h : (x, y, z) ∈ chV r s row) : hasB r s = true ∧ (y = 0 ∧ row.length = r.length ∨ 1 ≤ y ∧ y ≤ 4) ∧ inB 0 1048576 (blockV r row y) = true ∧ (blockV r row y).length = r.length ∧ ∃ k, k < r.length ∧ z = (k : Int) ∧ 1 ≤ (blockV r row y).getD k 0 ∧ (blockV r row y).getD k 0 ≤ 1048576 := by
  unfold chV at h
  split at h
  · rename_i hb
    rw [Bool.and_eq_true] at hb
    obtain ⟨hB, hF⟩ := hb
    split at h
    · rename_i hl
      obtain ⟨k, hk, h0, he⟩ := mem_coll.1 h
      injection he with e1 e2
      injection e2 with e2 e3
      have hin : inB 0 1048576 row = true := by
        unfold leftV at hl
        split at hl
        · assumption
        · omega
      have hlen : row.length = r.length := by
        unfold fitB at hF
        rw [Bool.or_eq_true, Bool.and_eq_true, decide_eq_true_eq, decide_eq_true_eq] at hF
        rcases hF with hF | hF
        · omega
        · exact hF.1
      have e : blockV r row y = row := by unfold blockV; rw [if_pos e2]
      rw [e]
      exact ⟨hB, .inl ⟨e2, hlen⟩, hin, hlen, k, by omega, e3, by omega, ((inB_iff.1 hin) k hk).2⟩
    · obtain ⟨i, hi, hc⟩ := mem_blks.1 h
      obtain ⟨k, hk, h0, he⟩ := mem_coll.1 hc
      injection he with e1 e2
      injection e2 with e2 e3
      obtain ⟨⟨b1, b2, b3, b4⟩, b5, b6, b7⟩ := hasB_iff.1 hB
      have hy := (inB_iff.1 b7) i hi
      rw [← e2] at hy
      have e : blockV r row y = r.map fun x => y * x := by unfold blockV; rw [if_neg (by omega)]
      have ht := in_times b3 hy.1 hy.2
      have hpos : 1 ≤ y * r.getD k 0 := by
        have : 0 < y * r.getD k 0 := Int.mul_pos (by omega) h0
        omega
      rw [e]
      refine ⟨hB, .inr hy, inB_iff.2 fun j hj => ?_, by simp, k, hk, e3, ?_, ?_⟩
      · rw [List.length_map] at hj
        have := ht j hj
        rw [getD_map hj]; omega
      · rw [getD_map hk]; exact hpos
      · have := ht k hk
        rw [getD_map hk]; omega
  · simp at h

theorem make_run (k : Nat) (hk : k ≤ 1000) (W : World) : (Instr.makeSlice 25 (.int .i64 (k : Int)) (.int .i64 (k : Int))).run Try.prog W = .ok (.slice (some ⟨W.heap.size, 0, none⟩) k k) (W.alloc (.cells (ints (List.replicate k 0)).toArray 3)) := by
  obtain ⟨i0, hii, hz0, hz1, hz2⟩ := info_parts Try.info3
  have h := run_makeSlice (P := Try.prog) W 25 3 i0 (.int .i64 0) Try.underlying25 hii hz0 .i64 .i64 (k : Int) (k : Int) (by omega) (Int.le_refl _) (by rw [hz1]; simp; omega) (by rw [hz2]; omega) (by omega)
  rw [hz1] at h
  simp only [Int.toNat_natCast] at h
  have e : madeCells (Value.int .i64 0).cells (k * 1) = (ints (List.replicate k 0)).toArray := by
    apply Array.ext'
    rw [show (Value.int .i64 0).cells = #[.int .i64 0] from rfl, toList_madeCells_one]
    simp [ints]
  rw [e] at h
  exact h

theorem made_own (k : Nat) (hk : k ≤ 1000) (W : World) : OwI (W.alloc (.cells (ints (List.replicate k 0)).toArray 3)) W.heap.size (.slice (some ⟨W.heap.size, 0, none⟩) k k) k (List.replicate k 0) :=
  ⟨by simp [ints], .inr ⟨W.heap.size, k, _, rfl, Nat.le_refl _, heap_alloc_new _ _, Nat.le_refl _, by unfold maxLen; omega, by simp [ints], by simp [ints]⟩⟩

/-- The first numbers multiplied, the others 0. -/
def mkL (r : List Int) (size : Int) (k : Nat) : List Int := (List.range r.length).map fun j => if j < k then size * r.getD j 0 else 0
theorem mkL_len (r : List Int) (size : Int) (k : Nat) : (mkL r size k).length = r.length := by simp [mkL]
theorem mkL_zero (r : List Int) (size : Int) : mkL r size 0 = List.replicate r.length 0 := by
  apply List.ext_getElem <;> simp [mkL]
theorem mkL_end (r : List Int) (size : Int) : mkL r size r.length = r.map fun x => size * x := by
  apply List.ext_getElem
  · simp [mkL]
  · intro i h1 h2
    have h3 : i < r.length := by simpa [mkL] using h1
    simp [mkL, h3, List.getD]
theorem mkL_set {r : List Int} {size : Int} {k : Nat} (h : k < r.length) : (mkL r size k).set k (size * r.getD k 0) = mkL r size (k + 1) := by
  apply List.ext_getElem
  · simp [mkL]
  · intro i h1 h2
    have h3 : i < r.length := by simpa [mkL] using h2
    rw [List.getElem_set]
    by_cases hik : k = i
    · subst hik
      simp [mkL]
    · simp only [mkL, List.getElem_map, List.getElem_range, if_neg hik]
      by_cases hk2 : i < k
      · rw [if_pos hk2, if_pos (by omega)]
      · rw [if_neg hk2, if_neg (by omega)]

set_option maxRecDepth 10000 in
set_option maxHeartbeats 1000000 in
theorem before_old {W : World} {ar az aw : Option Addr} {nr cr ns cs nw cw : Nat} {row : List Int} (hw : Ix W (.slice aw nw cw) row) (h0 : row.length ≠ 0) (lw : row.length ≤ 8) :
    Calls Try.prog 35 #[.agg #[.int .i64 0, .slice ar nr cr, .slice az ns cs, .int .i64 0, .int .i64 0, .int .i64 0], .slice aw nw cw, .int .i64 0] W fun e w' => ∃ ao cap, e = .returned (.slice ao row.length cap) ∧ OwI w' W.heap.size (.slice ao row.length cap) row.length row ∧ Below W.heap.size W w' := by
  have HC := Lib.hid (clone_any (hw.below (dbox_below W (.slice ar nr cr) (.slice az ns cs))) h0 (by omega))
  clear hw
  go_enter Try.func35, Try.ntmps35
  go_wp2_with (go_at_call 46; refine HC.out.mono ?_; rintro e w1 ⟨ao, cap, rfl, ho, hb⟩; have HO := Lib.hid (owns_mono ho (show W.heap.size ≤ _ by simp)); have HB := Lib.hid (dbox_up hb); clear ho hb)
  go_ret
  exact ⟨_, _, rfl, HO.out, HB.out⟩

set_option maxRecDepth 10000 in
set_option maxHeartbeats 2000000 in
theorem before_new {W : World} {ar az aw : Option Addr} {nr cr ns cs nw cw : Nat} {r : List Int} (hr : Ix W (.slice ar nr cr) r) (h8 : inB 0 8 r = true) (lr : r.length ≤ 8) {y : Int} (y1 : 1 ≤ y) (y4 : y ≤ 4) :
    Calls Try.prog 35 #[.agg #[.int .i64 0, .slice ar nr cr, .slice az ns cs, .int .i64 0, .int .i64 0, .int .i64 0], .slice aw nw cw, .int .i64 y] W fun e w' => ∃ ao cap, e = .returned (.slice ao r.length cap) ∧ OwI w' W.heap.size (.slice ao r.length cap) r.length (r.map fun x => y * x) ∧ Below W.heap.size W w' := by
  have hnr := hr.size
  have ht := in_times h8 y1 y4
  have HD0 := Lib.hid (dbox_is W (.slice ar nr cr) (.slice az ns cs))
  have hmk := make_run nr (by omega) (dbox W (.slice ar nr cr) (.slice az ns cs))
  have hown := made_own nr (by omega) (dbox W (.slice ar nr cr) (.slice az ns cs))
  have hbl : Below (dbox W (.slice ar nr cr) (.slice az ns cs)).heap.size (dbox W (.slice ar nr cr) (.slice az ns cs)) _ := (Below.refl _ _).alloc (Nat.le_refl _) (.cells (ints (List.replicate nr 0)).toArray 3)
  obtain ⟨W1, hW1⟩ : ∃ W1, W1 = (dbox W (.slice ar nr cr) (.slice az ns cs)).alloc (.cells (ints (List.replicate nr 0)).toArray 3) := ⟨_, rfl⟩
  rw [← hW1] at hmk hown hbl
  rw [hnr, ← mkL_zero r y, ← hnr] at hown
  rw [dbox_size] at hown hbl hmk
  rw [← mkL_end r y, ← hnr]
  have HO := Lib.hid hown
  have HB := Lib.hid hbl
  have HX := Lib.hid hr
  have HT := Lib.hid ht
  have HN := Lib.hid hnr
  have hnr8 : nr ≤ 8 := by omega
  have hz : ¬ y = 0 := by omega
  clear hW1 hown hbl hr ht h8 lr hnr y1 y4
  go_enter Try.func35, Try.ntmps35
  go_wp2
  go_loopw [8, 19] (fun _ kv wr => ∃ k : Nat, k ≤ nr ∧ kv = .int .i64 (k : Nat) ∧ Hid (OwI wr (W.heap.size + 1) (.slice (some ⟨W.heap.size + 1, 0, none⟩) nr nr) nr (mkL r y k)) ∧ Hid (Below (W.heap.size + 1) (dbox W (.slice ar nr cr) (.slice az ns cs)) wr)) (fun _ kv _ => nr - (intOf kv).toNat)
  case atStart => exact ⟨0, by omega, rfl, HO, HB⟩
  case round =>
    obtain ⟨k, hk, rfl, hO, hB⟩ := hrel
    by_cases hkn : k = nr
    · subst hkn
      go_wp2
      go_ret
      exact ⟨_, _, rfl, owns_mono hO.out (by omega), dbox_up1 hB.out⟩
    · have hlt : k < nr := by omega
      obtain ⟨c0, c1, c2, c3, c4, c5⟩ := (DBox.below1 hB.out).cells
      obtain ⟨g, cap, e, -, hg, hgl, hgc, hfr, hset⟩ := hO.out.parts (by omega)
      injection e with e
      injection e with e
      injection e with e
      subst e
      have hfz := hfr k
      have hst := hset k (y * r.getD k 0) hlt
      rw [mkL_set (by rw [← HN.out]; exact hlt)] at hst
      obtain ⟨b, off, rfl, hq, hcap, hbl, hcl⟩ := HX.out.at (by omega)
      have hc := cell_later (dbox_up1 hB.out) (hcl k hlt)
      have hcw := hgc k hlt
      have hm := HT.out k (by rw [← HN.out]; exact hlt)
      obtain ⟨x, hx⟩ : ∃ x, x = r.getD k 0 := ⟨_, rfl⟩
      rw [← hx] at hc hm hst
      obtain ⟨q, hqq⟩ : ∃ q, q = (mkL r y k).getD k 0 := ⟨_, rfl⟩
      rw [← hqq] at hcw
      have hw1 : IntKind.i64.wrap (y * x) = y * x := IntWalk.i64_in _ (by omega)
      have hw2 : wrap64 (y * x) = y * x := by simp only [wrap64]; omega
      have HO2 := Lib.hid hst
      have HB2 := Lib.hid (hB.out.setCell (p := ⟨W.heap.size + 1, k, none⟩) (Nat.le_refl _) (.int .i64 (y * x)))
      clear hx hqq hcl hgc hfr hset hst hq hm hO
      go_wp2
      go_roundw
      case rel => exact ⟨k + 1, by omega, by go_num, HO2, HB2⟩
      case measure => simp [intOf]; omega

end Go.Proofs.Ytjlneggfkpjnpaa
